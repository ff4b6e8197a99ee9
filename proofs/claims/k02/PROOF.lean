import PyProof.Rows.All
import Wide.All
import OpenK.AllK
import Wide.FinOn
import Lean
import PyProof.EqAt
import PyProof.EqKinds
import PyProof.TupleCall
import KE.KDictList
import PyProof.P3Eq
import PyProof.NeData
import PyProof.P3In
import PyProof.FactsAll.NoneType
import PyProof.Draws
import PyProof.Rows.SetFrom
import PyProof.SetRoads
import PyProof.DictUpdate
import KE.KDictSum
import KE.KRevIter
import KE.KRevSl
import KE.KEqDict
import KE.KSortTup
import PyProof.Rows.SortRuns
import PyProof.Rows.SortKey
import PyProof.Rows.TupDisplay
import KE.KTryMore
import OpenK.KOwn
import PyProof.NsDelKeeps
import PyProof.RulesAs
import OpenK.KDescr
import PyProof.ExcAttrAll.ValueError
import PyProof.SumAnyB
import PyProof.Rows.CountFlat
import PyProof.Rows.Range3
import PyProof.Rows.ChunkLeaf
import PySem.Challenge.RW_crossbrace_k02_no_floors
set_option Elab.async false
set_option linter.all false
set_option maxRecDepth 100000
set_option maxHeartbeats 4000000
namespace L2
open PySem PySem.Spec PyProof.Rows
noncomputable abbrev Key:=Sum Int Str
noncomputable def keyIs:Key->Value->Bool
 | .inl k,v=>Value.isInt k v
 | .inr x,v=>Value.isStrOf x v
noncomputable def keyH(w:World):Key->Int
 | .inl k=>hashInt k
 | .inr x=>hashStr w x
theorem keyIs_shape:∀ {k:Key} {v:Value},keyIs k v=true->(∃ i t,k=Sum.inl i/\v=Value.int i t)∨(∃ x t,k=Sum.inr x/\v=Value.str x t)
 | .inl i,v,h=>by
  obtain ⟨t,e⟩:=Value.isInt_shape (k:=i) (v:=v) h
  exact .inl ⟨i,t,rfl,e⟩
 | .inr x,v,h=>by
  obtain ⟨t,e⟩:=Value.isStrOf_shape (x:=x) (v:=v) h
  exact .inr ⟨x,t,rfl,e⟩
theorem keyIs_int(i:Int)(t:Tok):keyIs (.inl i) (.int i t)=true:=by simp [keyIs,Value.isInt]
theorem keyIs_str(x:Str)(t:Tok):keyIs (.inr x) (.str x t)=true:=by simp [keyIs,Value.isStrOf]
theorem key_ll(a b:Int):decide ((Sum.inl a:Key)=Sum.inl b)=(a == b):=by
 by_cases e:a=b
 ·subst e;simp
 ·have h:¬ (Sum.inl a:Key)=Sum.inl b:=fun q=>e (Sum.inl.inj q)
  rw [decide_eq_false h]
  exact (beq_eq_false_iff_ne.mpr e).symm
theorem key_rr(a b:Str):decide ((Sum.inr a:Key)=Sum.inr b)=decide (a=b):=by
 by_cases e:a=b
 ·subst e;simp
 ·have h:¬ (Sum.inr a:Key)=Sum.inr b:=fun q=>e (Sum.inr.inj q)
  rw [decide_eq_false h,decide_eq_false e]
theorem key_lr(a:Int)(b:Str):decide ((Sum.inl a:Key)=Sum.inr b)=false:=decide_eq_false (fun q=>nomatch q)
theorem key_rl(a:Str)(b:Int):decide ((Sum.inr a:Key)=Sum.inl b)=false:=decide_eq_false (fun q=>nomatch q)

noncomputable def mixKind(prog:Program)(w:World):PySem.KeyKind prog w Key where
 is:=keyIs
 hash:=keyH w
 inj:=fun v a b ha hb=>by
  rcases keyIs_shape ha with ⟨i,t,rfl,rfl⟩ | ⟨x,t,rfl,rfl⟩
  ·rcases keyIs_shape hb with ⟨j,u,rfl,e⟩ | ⟨y,u,rfl,e⟩
   ·injection e with e1 _;rw [e1]
   ·exact nomatch e
  ·rcases keyIs_shape hb with ⟨j,u,rfl,e⟩ | ⟨y,u,rfl,e⟩
   ·exact nomatch e
   ·injection e with e1 _;rw [e1]
 byValue:=fun k v h=>by
  rcases keyIs_shape h with ⟨i,t,rfl,rfl⟩ | ⟨x,t,rfl,rfl⟩<;>rfl
 pyHash:=fun hv h=>by
  rcases keyIs_shape hv with ⟨i,t,rfl,rfl⟩ | ⟨x,t,rfl,rfl⟩
  ·exact wpAny_pyHash_int h
  ·exact wpAny_pyHash_str h
 eqBool:=fun hu hv h=>by
  rcases keyIs_shape hu with ⟨i,t,rfl,rfl⟩ | ⟨x,t,rfl,rfl⟩
  ·rcases keyIs_shape hv with ⟨j,u,rfl,rfl⟩ | ⟨y,u,rfl,rfl⟩
   ·rw [key_ll] at h;exact wpAny_eqBool_int h
   ·rw [key_lr] at h;exact SeqAt.EqAt.int_str i t y u _ _ _ _ h
  ·rcases keyIs_shape hv with ⟨j,u,rfl,rfl⟩ | ⟨y,u,rfl,rfl⟩
   ·rw [key_rl] at h;exact SeqAt.EqAt.str_int x t j u _ _ _ _ h
   ·rw [key_rr] at h;exact wpAny_eqBool_str h
 «strs»:=fun k x t v h=>by
  rcases keyIs_shape h with ⟨i,u,rfl,e⟩ | ⟨y,u,rfl,e⟩
  ·exact nomatch e
  ·injection e with e1 _
   subst e1
   cases v<;>rfl

theorem mixKind_is(prog:Program)(w:World)(k:Key)(v:Value):(mixKind prog w).is k v=keyIs k v:=rfl
theorem mixKind_int(prog:Program)(w:World)(i:Int)(t:Tok):(mixKind prog w).is (.inl i) (.int i t)=true:=keyIs_int i t
theorem mixKind_str(prog:Program)(w:World)(x:Str)(t:Tok):(mixKind prog w).is (.inr x) (.str x t)=true:=keyIs_str x t
end L2
namespace L2
open PySem PySem.Spec PyProof.Rows
inductive V where
 | non | bl (b:Bool) | int (i:Int) | str (x:Str) | byt (b:Array UInt8) | flt (b:UInt64) | ref (a:Addr) | ty (n:String)
 deriving DecidableEq

noncomputable def RelV:V->Value->Prop
 | .non,u=>u=Value.none
 | .bl b,u=>u=Value.bool b
 | .int i,u=>∃ t,u=Value.int i t
 | .str x,u=>∃ t,u=Value.str x t
 | .byt b,u=>∃ t,u=Value.bytes b t
 | .flt b,u=>∃ t,u=Value.float b t
 | .ref a,u=>u=Value.ref a
 | .ty n,u=>u=Value.type n

noncomputable abbrev Vals:List V->List Value->Prop:=Paired RelV
theorem Vals.length{xs:List V}{us:List Value}(r:Vals xs us):xs.length=us.length:=Paired.length r
theorem Vals.get:∀ {xs:List V} {us:List Value} {i:Nat} {x:V},Vals xs us->xs[i]?=some x->∃ u,us[i]?=some u/\RelV x u
 | _,_,_,_,.nil,e=>by simp at e
 | _,_,0,_,.cons r _,e=>by simp at e;subst e;exact ⟨_,rfl,r⟩
 | _,_,i+1,x,.cons _ t,e=>by
  obtain ⟨u,h1,h2⟩:=Vals.get (i:=i) (x:=x) t (by simpa using e)
  exact ⟨u,by simpa using h1,h2⟩
theorem Vals.set{x:V}{u:Value}(r:RelV x u):∀ {xs:List V} {us:List Value} (i:Nat),Vals xs us->Vals (xs.set i x) (us.set i u)
 | _,_,_,.nil=>.nil
 | _,_,0,.cons _ t=>.cons r t
 | _,_,i+1,.cons q t=>.cons q (Vals.set r i t)
theorem Vals.append:∀ {xs ys:List V} {us ws:List Value},Vals xs us->Vals ys ws->Vals (xs++ys) (us++ws)
 | _,_,_,_,.nil,s=>s
 | _,_,_,_,.cons r t,s=>.cons r (Vals.append t s)
theorem Vals.take:∀ {xs:List V} {us:List Value} (n:Nat),Vals xs us->Vals (xs.take n) (us.take n)
 | _,_,0,_=>.nil
 | _,_,_+1,.nil=>.nil
 | _,_,n+1,.cons r t=>.cons r (Vals.take n t)
theorem Vals.drop:∀ {xs:List V} {us:List Value} (n:Nat),Vals xs us->Vals (xs.drop n) (us.drop n)
 | _,_,0,r=>r
 | _,_,_+1,.nil=>.nil
 | _,_,n+1,.cons _ t=>Vals.drop n t
noncomputable def RelO:Option V->Option Value->Prop
 | some v,some u=>RelV v u
 | none,none=>True
 | _,_=>False
noncomputable def KV{κ:Type}:List (κ × V)->List (κ × Value)->Prop:=Paired fun (p:κ × V) (q:κ × Value)=>p.1=q.1/\RelV p.2 q.2

noncomputable def kV:Key->V
 | .inl i=>.int i
 | .inr x=>.str x

inductive HO where
 | lst (xs:List V)
 | tup (xs:List V)
 | dK (kvs:List (Key × V)) | dT (kvs:List (List Key × V))
 | set (S:Int->Bool) (n:Nat)
 | ins (C dx:Addr) (fs:List (Str × V))
 | own (x:Addr)
 | xd (fs:List (Str × V))
 | met (f x:Addr)
 | rng (lo hi:Int)
 | frz (o:Obj) (u:HO)
 | tbl (ps:Array Value)
 | ext (φ:Heap->Prop)
noncomputable abbrev Hp:=Addr->Option HO
noncomputable def upd(H:Hp)(a:Addr)(o:HO):Hp:=fun b=>if b=a then some o else H b
theorem upd_same:upd H a o a=some o:=by unfold upd;rw [if_pos rfl]
theorem upd_ne{H:Hp}(h:b≠a):upd H a o b=H b:=by unfold upd;rw [if_neg h]
theorem ne_of{H:Hp}(h:H a=some o)(h':H b=some u)(d:o≠u):a≠b:=by
 intro e;subst e;rw [h] at h';exact d (Option.some.inj h')
theorem ne_of_none{H:Hp}(h:H a=some o)(h':H b=none):a≠b:=by
 intro e;subst e;rw [h] at h';cases h'

section
variable (P:Program) (w:World)
noncomputable def ObjOk(H:Hp)(h:Heap)(a:Addr):HO->Prop
 | .lst xs=>xs.length≤sizeLine/\∃ (its:List Value) (n:Nat),Vals xs its/\h.get? a=some { cls:=.type "list",data:=.seq its.toArray n }
 | .tup xs=>xs.length≤sizeLine/\∃ its:List Value,Vals xs its/\IsTup h a its.toArray
 | .dK kvs=>kvs.length≤sizeLine/\(a == sysModules)=false/\∃ vs,KV kvs vs/\h.DictOf (mixKind P w) a vs
 | .dT kvs=>kvs.length≤sizeLine/\(a == sysModules)=false/\∃ xs:List (List Key × Addr × Value),
   Paired (fun (p:List Key × V) (q:List Key × Addr × Value)=>p.1=q.1/\H q.2.1=some (.tup (p.1.map kV))/\RelV p.2 q.2.2) kvs xs/\
   ∃ o es ep,h.get? a=some o/\o.ExactDict/\o.data=.dict es ep/\es.toList=xs.map (entryOfKey (tupleKind (mixKind P w)))/\(xs.map (·.1)).Nodup
 | .set S n=>h.SetOf (intKind P w) a S n
 | .ins C dx fs=>H dx=some (.own a)/\fs.length≤1000/\dx≠a/\h.get? a=some (PySem.W.instObj C dx)/\
   ∃ mA,h.Ns1 dx mA/\(∀ f,RelO (fs.lookup f) (mA f))/\PySem.Within mA (fs.map (·.1))
 | .own _=>∃ o,h.get? a=some o
 | .xd fs=>∃ mA,h.Ns1 a mA/\∀ f,RelO (fs.lookup f) (mA f)
 | .rng lo hi=>∃ t u v,h.get? a=some { cls:=.type "range",data:=.fields #[.int lo t,.int hi u,.int 1 v] }
 | .frz o u=>h.get? a=some o/\ObjOk H h a u
 | .tbl ps=>h.get? a=some { cls:=.none,data:=.fields ps }
 | .met f x=>h.get? a=some (PySem.W.methodObj (.ref f) (.ref x))
 | .ext φ=>φ h/\(∃ o,h.get? a=some o)/\∀ h1 h2:Heap,φ h1->(∀ o,h1.get? a=some o->h2.get? a=some o)->φ h2
noncomputable def HOk(H:Hp)(h:Heap):Prop:=∀ a o,H a=some o->ObjOk P w H h a o
end
section
variable {P:Program} {w:World} {H H':Hp} {h h':Heap} {a:Addr} {o:HO}
theorem ObjOk.lt(x:ObjOk P w H h a o):a<h.objs.size:=by
 cases o with
 | lst xs=>obtain ⟨_,_,_,_,e⟩:=x;exact Heap.lt_size e
 | tup xs=>obtain ⟨_,_,_,p⟩:=x;exact p.lt
 | dK kvs=>obtain ⟨_,_,_,_,o,_,_,e,_⟩:=x;exact Heap.lt_size e
 | dT kvs=>obtain ⟨_,_,_,_,o,_,_,e,_⟩:=x;exact Heap.lt_size e
 | set S n=>obtain ⟨o,_,_,_,e,_⟩:=x;exact Heap.lt_size e
 | ins C dx fs=>obtain ⟨_,_,_,e,_⟩:=x;exact Heap.lt_size e
 | own y=>obtain ⟨_,e⟩:=x;exact Heap.lt_size e
 | xd fs=>obtain ⟨_,⟨_,_,_,e,_⟩,_⟩:=x;exact Heap.lt_size e
 | rng lo hi=>obtain ⟨_,_,_,e⟩:=x;exact Heap.lt_size e
 | frz ob u=>obtain ⟨e,_⟩:=x;exact Heap.lt_size e
 | tbl ps=>exact Heap.lt_size (show h.get? a=some _ from x)
 | met f y=>exact Heap.lt_size (show h.get? a=some _ from x)
 | ext φ=>obtain ⟨_,⟨_,e⟩,_⟩:=x;exact Heap.lt_size e
theorem Paired.mapP{α β:Type}{F G:α->β->Prop}:∀ {l₁:List α} {l₂:List β},Paired F l₁ l₂->(∀ a b,F a b->G a b)->Paired G l₁ l₂
 | _,_,.nil,_=>.nil
 | _,_,.cons r t,f=>.cons (f _ _ r) (Paired.mapP t f)
theorem ObjOk.stay(x:ObjOk P w H h a o)(k:∀ b u,(b=a∨H b=some (.own a))->h.get? b=some u->h'.get? b=some u)
  (ho:∀ b,H b=some (.own a)->H' b=some (.own a))(ht:∀ b xs,H b=some (.tup xs)->H' b=some (.tup xs)):ObjOk P w H' h' a o:=by
 induction o with
 | lst xs=>obtain ⟨z,its,n,r,e⟩:=x;exact ⟨z,its,n,r,k _ _ (.inl rfl) e⟩
 | tup xs=>obtain ⟨z,its,r,ob,e,c⟩:=x;exact ⟨z,its,r,ob,k _ _ (.inl rfl) e,c⟩
 | dK kvs=>obtain ⟨z,y,vs,r,ob,es,ep,e,c⟩:=x;exact ⟨z,y,vs,r,ob,es,ep,k _ _ (.inl rfl) e,c⟩
 | dT kvs=>
  obtain ⟨z,y,xs,r,ob,es,ep,e,c⟩:=x
  exact ⟨z,y,xs,Paired.mapP r fun p q z=>⟨z.1,ht _ _ z.2.1,z.2.2⟩,ob,es,ep,k _ _ (.inl rfl) e,c⟩
 | set S n=>obtain ⟨ob,es,ep,t,e,c⟩:=x;exact ⟨ob,es,ep,t,k _ _ (.inl rfl) e,c⟩
 | ins C dx fs=>
  obtain ⟨d,z,ne,e,mA,⟨od,es,ep,e2,c⟩,r⟩:=x
  exact ⟨ho _ d,z,ne,k _ _ (.inl rfl) e,mA,⟨od,es,ep,k _ _ (.inr d) e2,c⟩,r⟩
 | own y=>obtain ⟨ob,e⟩:=x;exact ⟨ob,k _ _ (.inl rfl) e⟩
 | xd fs=>obtain ⟨mA,⟨od,es,ep,e,c⟩,r⟩:=x;exact ⟨mA,⟨od,es,ep,k _ _ (.inl rfl) e,c⟩,r⟩
 | rng lo hi=>obtain ⟨t,u,v,e⟩:=x;exact ⟨t,u,v,k _ _ (.inl rfl) e⟩
 | frz ob u ih=>obtain ⟨e,q⟩:=x;exact ⟨k _ _ (.inl rfl) e,ih q⟩
 | tbl ps=>
  have e:h.get? a=some { cls:=.none,data:=.fields ps }:=x
  show h'.get? a=some { cls:=.none,data:=.fields ps }
  exact k a _ (.inl rfl) e
 | met f y=>
  have e:h.get? a=some (PySem.W.methodObj (.ref f) (.ref y)):=x
  show h'.get? a=some (PySem.W.methodObj (.ref f) (.ref y))
  exact k a _ (.inl rfl) e
 | ext φ=>obtain ⟨p,⟨o,e⟩,st⟩:=x;exact ⟨st _ _ p fun o q=>k _ _ (.inl rfl) q,⟨o,k _ _ (.inl rfl) e⟩,st⟩
theorem HOk.lt(x:HOk P w H h)(e:H a=some o):a<h.objs.size:=(x a o e).lt
theorem HOk.fresh(x:HOk P w H h)(e:h.objs.size≤a):H a=none:=by
 cases q:H a with
 | none=>rfl
 | some u=>exact absurd (Nat.lt_of_lt_of_le (x.lt q) e) (Nat.lt_irrefl _)
theorem HOk.kept(x:HOk P w H h)(k:∀ b u,h.get? b=some u->h'.get? b=some u):HOk P w H h':=fun a o e=>
 (x a o e).stay (fun b u _ q=>k b u q) (fun _ q=>q) fun _ _ q=>q
theorem HOk.laid(x:HOk P w H h)(k:∀ b u,h.get? b=some u->h'.get? b=some u)(hp:h.objs.size≤a)(new:ObjOk P w (upd H a o) h' a o):HOk P w (upd H a o) h':=fun b u e=>by
 have hn:=x.fresh hp
 by_cases hb:b=a
 ·subst hb;rw [upd_same] at e;cases e;exact new
 ·rw [upd_ne hb] at e
  exact (x b u e).stay (fun c v _ q=>k c v q) (fun c q=>by rw [upd_ne (ne_of_none q hn)];exact q) fun c xs q=>by rw [upd_ne (ne_of_none q hn)];exact q
end
noncomputable def Rd(H:Hp)(a:Addr)(u:HO):Prop:=H a=some u∨∃ o,H a=some (.frz o u)
theorem Rd.of{H:Hp}(h:H a=some u):Rd H a u:=.inl h
theorem Rd.ok(r:Rd H a u)(x:HOk P w H h):ObjOk P w H h a u:=by
 rcases r with r | ⟨o,r⟩
 ·exact x a u r
 ·obtain ⟨_,q⟩:=x a _ r
  exact q
noncomputable def Mut:Option HO->Prop
 | some (.lst _)=>True
 | some (.dK _)=>True
 | some (.dT _)=>True
 | some (.set _ _)=>True
 | some (.ins _ _ _)=>True
 | some (.ext _)=>True
 | _=>False
section
variable {P:Program} {w:World} {H:Hp} {h h':Heap} {x e:Addr} {o':HO}
theorem HOk.write(ok:HOk P w H h)(mu:Mut (H x))(he:e=x∨H e=some (.own x))(k:∀ b u,b≠e->h.get? b=some u->h'.get? b=some u)(heo:∃ u,h'.get? e=some u)
  (new:ObjOk P w (upd H x o') h' x o'):HOk P w (upd H x o') h':=fun b u q=>by
 have nown:∀ c y,H c=some (.own y)->c≠x:=fun c y r z=>by subst z;rw [r] at mu;exact mu
 have ntup:∀ c xs,H c=some (.tup xs)->c≠x:=fun c xs r z=>by subst z;rw [r] at mu;exact mu
 by_cases hb:b=x
 ·subst hb;rw [upd_same] at q;cases q;exact new
 ·rw [upd_ne hb] at q
  by_cases hbe:b=e
  ·have q':H b=some (.own x):=by
    rcases he with z | z
    ·exact absurd (hbe.trans z) hb
    ·rw [hbe];exact z
   rw [q] at q';cases q'
   obtain ⟨v,hv⟩:=heo
   exact ⟨v,by rw [hbe];exact hv⟩
  ·refine (ok b u q).stay (fun c v hc r=>k c v ?_ r) (fun c r=>by rw [upd_ne (nown c b r)];exact r) fun c xs r=>by rw [upd_ne (ntup c xs r)];exact r
   rcases hc with rfl | hc
   ·exact hbe
   ·rintro rfl
    rcases he with z | z
    ·exact nown c b hc z
    ·rw [hc] at z;cases z;exact hb rfl
end
structure Un (fs ex:List Addr) (H H':Hp) (h h':Heap):Prop where
 keep:∀ b o,h.get? b=some o->H b=none->b ∉ fs->b ∉ ex->h'.get? b=some o
 slot:∀ b o,h.get? b=some o->H b=none->b ∈ fs->b ∉ ex->∃ sl,h'.get? b=some { o with slots:=sl }
 free:∀ b o,h.get? b=some o->H b=none->b ∉ ex->H' b=none
 there:∀ b o,h.get? b=some o->b ∉ ex->∃ o',h'.get? b=some o'
 tups:∀ b xs,H b=some (.tup xs)->H' b=some (.tup xs)
 frzs:∀ b o u,H b=some (.frz o u)->H' b=some (.frz o u)
 tbls:∀ b ps,H b=some (.tbl ps)->∃ more,H' b=some (.tbl (ps++more))
section
variable {fs fs' ex ex':List Addr} {H H1 H2:Hp} {h h1 h2 h':Heap} {a x e:Addr} {o:HO}
theorem Un.any(u:Un fs ex H H1 h h1){ob:Obj}(q:h.get? b=some ob)(n:H b=none)(hx:b ∉ ex):∃ sl,h1.get? b=some { ob with slots:=sl }:=by
 by_cases hb:b ∈ fs
 ·exact u.slot b ob q n hb hx
 ·exact ⟨ob.slots,u.keep b ob q n hb hx⟩
theorem Un.trans(a:Un fs ex H H1 h h1)(b:Un fs ex H1 H2 h1 h2):Un fs ex H H2 h h2 where
 keep:=fun c ob q n hc hx=>b.keep c ob (a.keep c ob q n hc hx) (a.free c ob q n hx) hc hx
 slot:=fun c ob q n hc hx=>by
  obtain ⟨sl,e1⟩:=a.slot c ob q n hc hx
  obtain ⟨sl',e2⟩:=b.slot c _ e1 (a.free c ob q n hx) hc hx
  exact ⟨sl',e2⟩
 free:=fun c ob q n hx=>by
  obtain ⟨o',e1⟩:=a.there c ob q hx
  exact b.free c o' e1 (a.free c ob q n hx) hx
 there:=fun c ob q hx=>by
  obtain ⟨o',e1⟩:=a.there c ob q hx
  exact b.there c o' e1 hx
 tups:=fun c xs q=>b.tups c xs (a.tups c xs q)
 frzs:=fun c ob xs q=>b.frzs c ob xs (a.frzs c ob xs q)
 tbls:=fun c ps q=>by
  obtain ⟨m1,e1⟩:=a.tbls c ps q
  obtain ⟨m2,e2⟩:=b.tbls c _ e1
  exact ⟨m1++m2,by rw [e2,Array.append_assoc]⟩
theorem Un.kept(k:∀ b u,h.get? b=some u->h'.get? b=some u):Un fs ex H H h h':=
 ⟨fun b ob q _ _ _=>k b ob q,fun b ob q _ _ _=>⟨ob.slots,k b ob q⟩,fun _ _ _ n _=>n,fun b ob q _=>⟨ob,k b ob q⟩,fun _ _ q=>q,fun _ _ _ q=>q,fun _ ps q=>⟨#[],by rw [q];simp⟩⟩
theorem Un.refl:Un fs ex H H h h:=Un.kept fun _ _ q=>q
theorem Un.laid(k:∀ b u,h.get? b=some u->h'.get? b=some u)(hp:h.objs.size≤a)(hn:H a=none):Un fs ex H (upd H a o) h h' where
 keep:=fun b u q _ _ _=>k b u q
 slot:=fun b u q _ _ _=>⟨u.slots,k b u q⟩
 free:=fun b u q n _=>by rw [upd_ne (Nat.ne_of_lt (Nat.lt_of_lt_of_le (Heap.lt_size q) hp))];exact n
 there:=fun b u q _=>⟨u,k b u q⟩
 tups:=fun b xs q=>by rw [upd_ne (ne_of_none q hn)];exact q
 frzs:=fun b u xs q=>by rw [upd_ne (ne_of_none q hn)];exact q
 tbls:=fun b ps q=>⟨#[],by rw [upd_ne (ne_of_none q hn),q];simp⟩
theorem Un.write(mu:Mut (H x))(he:e=x∨H e=some (.own x))(k:∀ b u,b≠e->h.get? b=some u->h'.get? b=some u)(heo:∃ u,h'.get? e=some u):Un fs ex H (upd H x o) h h':=by
 have hx:∀ b,H b=none->b≠x:=fun b n z=>by subst z;rw [n] at mu;exact mu
 have hb:∀ b,H b=none->b≠e:=fun b n z=>by
  subst z
  rcases he with r | r
  ·exact hx b n r
  ·rw [n] at r;cases r
 have hm:∀ b u,H b=some u->¬ Mut (some u)->b≠x:=fun b u q nm z=>by subst z;rw [q] at mu;exact nm mu
 refine ⟨fun b u q n _ _=>k b u (hb b n) q,fun b u q n _ _=>⟨u.slots,k b u (hb b n) q⟩,fun b u q n _=>by rw [upd_ne (hx b n)];exact n,fun b u q _=>?_,
  fun b xs q=>by rw [upd_ne (hm b _ q fun z=>z)];exact q,fun b u xs q=>by rw [upd_ne (hm b _ q fun z=>z)];exact q,fun b ps q=>⟨#[],by rw [upd_ne (hm b _ q fun z=>z),q];simp⟩⟩
 by_cases hbe:b=e
 ·subst hbe;exact heo
 ·exact ⟨u,k b u hbe q⟩
theorem Un.mono(u:Un fs ex H H1 h h1)(hs:∀ b ∈ fs,b ∈ fs')(hx:∀ b ∈ ex,b ∈ ex'):Un fs' ex' H H1 h h1:=
 ⟨fun b ob q n hb he=>u.keep b ob q n (fun z=>hb (hs b z)) fun z=>he (hx b z),fun _ _ q n _ he=>u.any q n fun z=>he (hx _ z),fun b ob q n he=>u.free b ob q n fun z=>he (hx b z),fun b ob q he=>u.there b ob q fun z=>he (hx b z),u.tups,u.frzs,u.tbls⟩
end
noncomputable def trk(h:Heap)(H:Hp):List Addr:=(List.range h.objs.size).filter fun a=>(H a).isSome
noncomputable def hidT(h:Heap)(H:Hp):Heap:=PySem.W.hideAll h (trk h H)
theorem hidT_size(h:Heap)(H:Hp):(hidT h H).objs.size=h.objs.size:=PySem.W.hideAll_size _ _
theorem hidT_get{h:Heap}{H:Hp}(e:h.get? b=some o)(n:H b=none):(hidT h H).get? b=some o:=
 PySem.W.hideAll_get _ e fun hm=>by
  have q:(H b).isSome=true:=(List.mem_filter.mp hm).2
  rw [n] at q;simp at q
theorem of_hidT{h:Heap}{H:Hp}(e:(hidT h H).get? b=some o):h.get? b=some o/\H b=none:=by
 have e':h.get? b=some o:=PySem.W.of_hideAll (trk h H) e
 refine ⟨e',?_⟩
 cases q:H b with
 | none=>rfl
 | some x=>
  have hm:b ∈ trk h H:=List.mem_filter.mpr ⟨List.mem_range.mpr (Heap.lt_size e'),by simp [q]⟩
  have z:(hidT h H).get? b=none:=PySem.W.hideAll_none (trk h H) hm
  rw [z] at e;cases e

noncomputable def allNews(g h:Heap)(L:Addr):List (Addr × Obj):=(List.range h.objs.size).filterMap fun a=>if a=L∨(g.get? a).isSome=true then none else (h.get? a).map fun o=>(a,o)
noncomputable def rest(g h:Heap)(L d:Addr):List (Addr × Obj):=(allNews g h L).filter fun p=>decide (p.1≠d)
end L2
namespace L2
open PySem PySem.Spec PyProof.Rows
structure Mod (K:PySem.W.Frag) (mg:Str->Option Value) (base:Heap):Prop where
 kin:K.In base
 glob:base.Ns mainGlobals mg
 blt:∃ mb,base.Ns builtinsNs mb/\∀ x:Str,x≠"__name__"->mb x=bootBuiltins x
 nolimit:base.NoLimit

structure Cx where
 prog:Program
 w:World
 K:PySem.W.Frag
 mg:Str->Option Value
 base:Heap
 A:Around
 N:List Str
 s₀:Shared
 H₀:Hp
 env:Env
 outer:List Env
 stack:List Env
 ex:List Addr
 fn:Str->Bool
 calm:Bool
 pn:List (Addr × Obj)
 xe:Value->Shared->Prop
noncomputable def frs(l:List Env):List Addr:=l.filterMap (·.frame)
noncomputable abbrev Cx.fs(X:Cx):List Addr:=frs X.outer

noncomputable def Vis(sc:Scope)(x:Str):Prop:=sc.names.lookup x=some .local∨sc.names.lookup x=some .cell∨sc.names.lookup x=some .free
noncomputable def Loc(sc:Scope)(x:Str):Prop:=sc.names.lookup x=some .local∨sc.names.lookup x=some .cell
noncomputable def Look(env:Env)(h:Heap)(m:Str->Option Value)(x:Str)(u:Value):Prop:=
 (env.kindOf x=some .local/\m x=some u)∨((env.kindOf x=some .cell∨env.kindOf x=some .free)/\∃ c,env.cells.lookup x=some c/\h.IsCell c (some u))

structure Cx.Ok (X:Cx):Prop where
 mod:Mod X.K X.mg X.base
 kind:X.env.scope.kind=.function
 glob:X.env.globals=mainGlobals
 blt:X.env.builtins=builtinsNs
 above:X.s₀.heap.objs.size≤X.env.locals
 inj:∀ x y c,X.env.cells.lookup x=some c->X.env.cells.lookup y=some c->x=y
 has:∀ x,(X.env.kindOf x=some .cell∨X.env.kindOf x=some .free)->∃ c,X.env.cells.lookup x=some c
 cab:∀ x c,X.fn x=true->X.env.cells.lookup x=some c->X.s₀.heap.objs.size≤c
 hd:X.calm=true->X.A.handled=none
 frames:X.A.frames=some X.stack
 stk:X.stack=X.outer∨(X.stack=X.env::X.outer/\X.env.frame=some X.env.locals)
 exf:∀ b ∈ X.ex,b≠X.env.locals/\∀ x c,X.env.cells.lookup x=some c->c≠b
 bs:∀ b o,X.base.get? b=some o->X.s₀.heap.get? b=some o/\X.H₀ b=none
 bsz:X.base.objs.size≤X.s₀.heap.objs.size
 noex:∀ b o,X.base.get? b=some o->b ∉ X.ex
 exfs:∀ b ∈ X.ex,b ∉ X.fs
 funs:X.s₀.heap.FunFrames X.base X.outer
 frf:∀ b ∈ X.fs,X.H₀ b=none

structure Inv (X:Cx) (pins:List (Addr × Obj)) (σ:List (Option V)) (H:Hp) (s:Shared):Prop where
 ok:X.Ok
 os:s.os=X.s₀.os
 bare:AllBare s.gens
 base:Un X.fs X.ex X.H₀ H X.s₀.heap s.heap
 loc:∃ m,s.heap.Ns X.env.locals m/\∀ (i:Nat) (x:Str) (v:V),X.N[i]?=some x->σ[i]?=some (some v)->Vis X.env.scope x->∃ u,RelV v u/\Look X.env s.heap m x u
 cell:∀ x c,X.env.cells.lookup x=some c->∃ v,s.heap.IsCell c v
 free:H X.env.locals=none
 freeC:∀ x c,X.env.cells.lookup x=some c->H c=none
 pin:∀ p ∈ X.pn++pins,s.heap.get? p.1=some p.2/\H p.1=none/\p.1≠X.env.locals/\p.1 ∉ X.fs/\∀ v,p.2.data≠.cell v
 hok:HOk X.prog X.w H s.heap
 len:σ.length=X.N.length

section
variable {X:Cx} {pins:List (Addr × Obj)} {σ:List (Option V)} {H H':Hp} {s:Shared} {h':Heap}
theorem Cx.Ok.nofr(ok:X.Ok)(e:X.base.get? b=some o):b ∉ X.fs:=fun hb=>by
 have:=(ok.funs.mem hb).1
 rw [e] at this;cases this
theorem Inv.bs(I:Inv X pins σ H s):∀ b o,X.base.get? b=some o->s.heap.get? b=some o/\H b=none:=fun b o e=>
 ⟨I.base.keep b o (I.ok.bs b o e).1 (I.ok.bs b o e).2 (I.ok.nofr e) (I.ok.noex b o e),I.base.free b o (I.ok.bs b o e).1 (I.ok.bs b o e).2 (I.ok.noex b o e)⟩
theorem Inv.bk(I:Inv X pins σ H s):∀ b o,X.base.get? b=some o->s.heap.get? b=some o:=fun b o e=>(I.bs b o e).1
theorem Inv.mod(I:Inv X pins σ H s):Mod X.K X.mg X.base:=I.ok.mod
theorem Inv.kIn(I:Inv X pins σ H s):X.K.In s.heap:=I.ok.mod.kin.keeps I.bk
theorem Inv.nolimit(I:Inv X pins σ H s):s.heap.NoLimit:=I.ok.mod.nolimit.keeps I.bk
theorem Inv.fr(I:Inv X pins σ H s):∃ m,Fr X.base X.env.locals s.heap m:=
 let ⟨m,hn,_⟩:=I.loc
 ⟨m,hn,I.bk,Nat.le_trans I.ok.bsz I.ok.above⟩
theorem Inv.lt(I:Inv X pins σ H s):X.env.locals<s.heap.objs.size:=let ⟨_,hn,_⟩:=I.loc;hn.lt
theorem Inv.sz(I:Inv X pins σ H s):X.s₀.heap.objs.size≤s.heap.objs.size:=Nat.le_trans I.ok.above (Nat.le_of_lt I.lt)
theorem Inv.nofs(I:Inv X pins σ H s)(h:s.heap.objs.size≤a):a ∉ X.fs:=fun hb=>by
 obtain ⟨_,o,ho,_⟩:=I.ok.funs.mem hb
 exact absurd (Nat.lt_of_lt_of_le (Heap.lt_size ho) (Nat.le_trans I.sz h)) (Nat.lt_irrefl _)
theorem Inv.cne(I:Inv X pins σ H s):∀ x c,X.env.cells.lookup x=some c->c≠X.env.locals:=fun x c e z=>by
 obtain ⟨v,o,ho,hd⟩:=I.cell x c e
 obtain ⟨m,⟨o',es,ep,ho',hd',_⟩,_⟩:=I.loc
 rw [z,ho'] at ho;cases ho;rw [hd'] at hd;cases hd
theorem Inv.funs(I:Inv X pins σ H s):s.heap.FunFrames X.base X.outer:=by
 have all:∀ (l:List Env),(∀ b ∈ frs l,b ∈ X.fs)->X.s₀.heap.FunFrames X.base l->s.heap.FunFrames X.base l:=by
  intro l
  induction l with
  | nil=>intro _ _;trivial
  | cons env r ih=>
   intro hs hl
   obtain ⟨hk,⟨L,o,hf,hn,ho,hd⟩,hr⟩:=hl
   have hL:L ∈ X.fs:=hs L (by unfold frs;rw [List.filterMap_cons,hf];exact List.mem_cons_self)
   obtain ⟨sl,e⟩:=I.base.slot L o ho (I.ok.frf L hL) hL fun z=>I.ok.exfs L z hL
   exact ⟨hk,⟨L,_,hf,hn,e,hd⟩,ih (fun b hb=>hs b (by unfold frs;rw [List.filterMap_cons,hf];exact List.mem_cons_of_mem _ hb)) hr⟩
 exact all X.outer (fun _ hb=>hb) I.ok.funs

theorem Inv.stack(I:Inv X pins σ H s):s.heap.FunFrames X.base X.stack:=by
 rcases I.ok.stk with e | ⟨e,hf⟩
 ·rw [e];exact I.funs
 ·rw [e]
  obtain ⟨m,hn,_⟩:=I.loc
  refine .cons (by rw [I.ok.kind];decide) hf hn ?_ I.funs
  exact Heap.get?_none_of_le (Nat.le_trans I.ok.bsz I.ok.above)
theorem Inv.stkSub(I:Inv X pins σ H s):∀ b ∈ frs X.stack,b ∈ X.env.locals::X.fs:=fun b hb=>by
 rcases I.ok.stk with e | ⟨e,hf⟩
 ·rw [e] at hb;exact List.mem_cons_of_mem _ hb
 ·rw [e] at hb
  unfold frs at hb
  rw [List.filterMap_cons,hf] at hb
  exact hb
theorem Inv.stkFree(I:Inv X pins σ H s):∀ b ∈ frs X.stack,H b=none:=fun b hb=>by
 rcases List.mem_cons.mp (I.stkSub b hb) with e | hb
 ·rw [e];exact I.free
 ·obtain ⟨_,o,ho,_⟩:=I.ok.funs.mem hb
  exact I.base.free b o ho (I.ok.frf b hb) fun z=>I.ok.exfs b z hb

theorem Inv.step{g':Array GenState}{t':Nat}{d':Drawn}{ch:List Addr}(I:Inv X pins σ H s)
  (hch:∀ b ∈ ch,(b ∈ X.ex∨X.s₀.heap.objs.size≤b)/\b≠X.env.locals/\(∀ x c,X.env.cells.lookup x=some c->c≠b)/\∀ p ∈ X.pn++pins,p.1≠b)
  (keep:∀ b o,b≠X.env.locals->b ∉ X.fs->b ∉ ch->s.heap.get? b=some o->H b=none->h'.get? b=some o)
  (slot:∀ b o,b≠X.env.locals->b ∈ X.fs->b ∉ ch->s.heap.get? b=some o->H b=none->∃ sl,h'.get? b=some { o with slots:=sl })(free:∀ b o,b ∉ ch->s.heap.get? b=some o->H b=none->H' b=none)
  (there:∀ b o,b ∉ ch->s.heap.get? b=some o->∃ o',h'.get? b=some o')
  (tups:∀ b xs,H b=some (.tup xs)->H' b=some (.tup xs))(frzs:∀ b o u,H b=some (.frz o u)->H' b=some (.frz o u))(tbls:∀ b ps,H b=some (.tbl ps)->∃ more,H' b=some (.tbl (ps++more)))
  (ns:∀ m,s.heap.Ns X.env.locals m->h'.Ns X.env.locals m)(hok:HOk X.prog X.w H' h')(hg:AllBare g'):
  Inv X pins σ H' { s with heap:=h',gens:=g',drawn:=d',toks:=t' }:=by
 have neL:∀ b o,X.s₀.heap.get? b=some o->b≠X.env.locals:=fun b o e=>Nat.ne_of_lt (Nat.lt_of_lt_of_le (Heap.lt_size e) I.ok.above)
 have neC:∀ b o,X.s₀.heap.get? b=some o->b ∉ X.ex->b ∉ ch:=fun b o e hx hb=>by
  rcases (hch b hb).1 with z | z
  ·exact hx z
  ·exact absurd (Nat.lt_of_lt_of_le (Heap.lt_size e) z) (Nat.lt_irrefl _)
 have cellK:∀ x c,X.env.cells.lookup x=some c->∀ v,s.heap.IsCell c v->h'.IsCell c v:=fun x c e v ⟨o,ho,hd⟩=>by
  have nch:c ∉ ch:=fun z=>(hch c z).2.2.1 x c e rfl
  by_cases hc:c ∈ X.fs
  ·obtain ⟨sl,q⟩:=slot c o (I.cne x c e) hc nch ho (I.freeC x c e)
   exact ⟨_,q,hd⟩
  ·exact ⟨o,keep c o (I.cne x c e) hc nch ho (I.freeC x c e),hd⟩
 refine ⟨I.ok,I.os,hg,⟨fun b o e n hb hx=>?_,fun b o e n hb hx=>?_,fun b o e n hx=>?_,fun b o e hx=>?_,fun b xs e=>tups b xs (I.base.tups b xs e),fun b o xs e=>frzs b o xs (I.base.frzs b o xs e),fun b ps e=>?_⟩,?_,fun x c e=>?_,?_,fun x c e=>?_,fun p hp=>?_,hok,I.len⟩
 ·exact keep b o (neL b o e) hb (neC b o e hx) (I.base.keep b o e n hb hx) (I.base.free b o e n hx)
 ·obtain ⟨sl,e1⟩:=I.base.slot b o e n hb hx
  obtain ⟨sl',e2⟩:=slot b _ (neL b o e) hb (neC b o e hx) e1 (I.base.free b o e n hx)
  exact ⟨sl',e2⟩
 ·obtain ⟨o',e1⟩:=I.base.there b o e hx
  exact free b o' (neC b o e hx) e1 (I.base.free b o e n hx)
 ·obtain ⟨o',e1⟩:=I.base.there b o e hx
  exact there b o' (neC b o e hx) e1
 ·obtain ⟨m1,e1⟩:=I.base.tbls b ps e
  obtain ⟨m2,e2⟩:=tbls b _ e1
  exact ⟨m1++m2,by rw [e2,Array.append_assoc]⟩
 ·obtain ⟨m,hn,hl⟩:=I.loc
  refine ⟨m,ns m hn,fun i x v e1 e2 e3=>?_⟩
  obtain ⟨u,r,l⟩:=hl i x v e1 e2 e3
  refine ⟨u,r,?_⟩
  rcases l with l | ⟨k,c,e,z⟩
  ·exact .inl l
  ·exact .inr ⟨k,c,e,cellK x c e _ z⟩
 ·obtain ⟨v,z⟩:=I.cell x c e
  exact ⟨v,cellK x c e v z⟩
 ·obtain ⟨m,⟨o,_,_,ho,_⟩,_⟩:=I.loc
  exact free _ o (fun z=>(hch _ z).2.1 rfl) ho I.free
 ·obtain ⟨v,o,ho,hd⟩:=I.cell x c e
  exact free c o (fun z=>(hch c z).2.2.1 x c e rfl) ho (I.freeC x c e)
 ·obtain ⟨e,n,ne,nf,d⟩:=I.pin p hp
  have nch:p.1 ∉ ch:=fun z=>(hch p.1 z).2.2.2 p hp rfl
  exact ⟨keep p.1 p.2 ne nf nch e n,free p.1 p.2 nch e n,ne,nf,d⟩
theorem Inv.un(I:Inv X pins σ H s)(u:Un X.fs [] H H' s.heap h')(hok:HOk X.prog X.w H' h'):Inv X pins σ H' { s with heap:=h',toks:=t' }:=by
 obtain ⟨m,⟨o,es,ep,ho,r⟩,_⟩:=id I.loc
 obtain ⟨sl,hL⟩:=u.any ho I.free (by simp)
 exact I.step (g':=s.gens) (d':=s.drawn) (ch:=[]) (fun _ z=>nomatch z) (fun b o _ hb _ e n=>u.keep b o e n hb (by simp)) (fun b o _ hb _ e n=>u.slot b o e n hb (by simp)) (fun b o _ e n=>u.free b o e n (by simp)) (fun b o _ e=>u.there b o e (by simp)) u.tups u.frzs u.tbls (fun m' hm=>by
  obtain ⟨o',es',ep',ho',r'⟩:=hm
  rw [ho] at ho';cases ho'
  exact ⟨_,es',ep',hL,r'⟩) hok I.bare
theorem Inv.call(I:Inv X pins σ H s)(u:Un (frs X.stack) ch H H' s.heap h')(hok:HOk X.prog X.w H' h')(hg:AllBare g')
  (hch:∀ b ∈ ch,(b ∈ X.ex∨X.s₀.heap.objs.size≤b)/\b≠X.env.locals/\(∀ x c,X.env.cells.lookup x=some c->c≠b)/\∀ p ∈ X.pn++pins,p.1≠b):
  Inv X pins σ H' { s with heap:=h',gens:=g',drawn:=d',toks:=t' }:=by
 obtain ⟨m,⟨o,es,ep,ho,r⟩,_⟩:=id I.loc
 obtain ⟨sl,hL⟩:=u.any ho I.free fun z=>(hch _ z).2.1 rfl
 exact I.step (ch:=ch) hch (fun b o hL hb hc e n=>u.keep b o e n (fun z=>(List.mem_cons.mp (I.stkSub b z)).elim hL hb) hc) (fun b o _ _ hc e n=>u.any e n hc) (fun b o hc e n=>u.free b o e n hc) (fun b o hc e=>u.there b o e hc) u.tups u.frzs u.tbls (fun m' hm=>by
  obtain ⟨o',es',ep',ho',r'⟩:=hm
  rw [ho] at ho';cases ho'
  exact ⟨_,es',ep',hL,r'⟩) hok hg
theorem Inv.turned(I:Inv X pins σ H s)(k:∀ b o,b≠it->s.heap.get? b=some o->h'.get? b=some o)(hn:H it=none)(hL:it≠X.env.locals)
  (h1:it ∈ X.ex∨X.s₀.heap.objs.size≤it)(h2:∀ x c,X.env.cells.lookup x=some c->c≠it)(h3:∀ p ∈ X.pn++pins,p.1≠it):Inv X pins σ H { s with heap:=h',toks:=t' }:=by
 have nit:∀ b u,H b=some u->b≠it:=fun b u e z=>by rw [z,hn] at e;cases e
 refine I.step (g':=s.gens) (d':=s.drawn) (ch:=[it]) (fun b hb=>?_) (fun b o _ _ hc e _=>k b o (fun z=>hc (by simp [z])) e) (fun b o _ _ hc e _=>⟨o.slots,k b o (fun z=>hc (by simp [z])) e⟩) (fun _ _ _ _ n=>n)
  (fun b o hc e=>⟨o,k b o (fun z=>hc (by simp [z])) e⟩) (fun _ _ e=>e) (fun _ _ _ e=>e) (fun b ps e=>⟨#[],by rw [e];simp⟩) (fun m hm=>?_) (fun b u e=>?_) I.bare
 ·have e:b=it:=by simpa using hb
  subst e
  exact ⟨h1,hL,h2,h3⟩
 ·obtain ⟨o,es,ep,ho,r⟩:=hm
  exact ⟨o,es,ep,k _ o (Ne.symm hL) ho,r⟩
 ·refine (I.hok b u e).stay (fun c v hc q=>k c v ?_ q) (fun _ q=>q) fun _ _ q=>q
  rcases hc with z | z
  ·rw [z];exact nit b u e
  ·exact nit c _ z
theorem Inv.tok(I:Inv X pins σ H s)(t:Nat):Inv X pins σ H { s with toks:=t }:=I.un (h':=s.heap) (t':=t) Un.refl I.hok
theorem Inv.kept(I:Inv X pins σ H s)(k:∀ b u,s.heap.get? b=some u->h'.get? b=some u):Inv X pins σ H { s with heap:=h',toks:=t' }:=I.un (Un.kept k) (I.hok.kept k)
theorem Inv.laid(I:Inv X pins σ H s)(k:∀ b u,s.heap.get? b=some u->h'.get? b=some u)(hp:s.heap.objs.size≤a)(new:ObjOk X.prog X.w (upd H a o) h' a o):
  Inv X pins σ (upd H a o) { s with heap:=h',toks:=t' }:=I.un (Un.laid k hp (I.hok.fresh hp)) (I.hok.laid k hp new)
theorem Inv.write(I:Inv X pins σ H s)(mu:Mut (H x))(he:e=x∨H e=some (.own x))(k:∀ b u,b≠e->s.heap.get? b=some u->h'.get? b=some u)(heo:∃ u,h'.get? e=some u)
  (new:ObjOk X.prog X.w (upd H x o) h' x o):Inv X pins σ (upd H x o) { s with heap:=h',toks:=t' }:=I.un (Un.write mu he k heo) (I.hok.write mu he k heo new)
theorem Inv.pins_of(I:Inv X pins σ H s)(h:∀ p ∈ pins',s.heap.get? p.1=some p.2/\H p.1=none/\p.1≠X.env.locals/\p.1 ∉ X.fs/\∀ v,p.2.data≠.cell v):Inv X pins' σ H s:=
 ⟨I.ok,I.os,I.bare,I.base,I.loc,I.cell,I.free,I.freeC,fun p hp=>(List.mem_append.mp hp).elim (fun z=>I.pin p (List.mem_append_left _ z)) (h p),I.hok,I.len⟩

theorem nodup_ix{N:List Str}(hN:N.Nodup){i j:Nat}{x:Str}(a:N[i]?=some x)(b:N[j]?=some x):i=j:=by
 obtain ⟨h1,e1⟩:=List.getElem?_eq_some_iff.mp a
 obtain ⟨h2,e2⟩:=List.getElem?_eq_some_iff.mp b
 exact (List.getElem_inj hN).mp (e1.trans e2.symm)

theorem store_ok2{M:Model}{A:Around}{E:Value->Shared->Prop}{i:Nat}{x:Str}{v:V}{u:Value}{Q:Unit->Shared->Prop}(I:Inv X pins σ H s)(hN:X.N.Nodup)(hi:X.N[i]?=some x)(hx:Loc X.env.scope x)(r:RelV v u)
  (h:∀ s',Inv X pins (σ.set i (some v)) H s'->(∃ a,Heap.SameBut a s.heap s'.heap/\(a=X.env.locals∨X.env.cells.lookup x=some a))->Q () s')(hf:X.fn x=true∨X.env.scope.names.lookup x=some .local:=by first | exact .inl rfl | exact .inr rfl | assumption):wpAny M A (storeName X.env x u) Q E s:=by
 obtain ⟨m,hn,hl⟩:=id I.loc
 have hcls:(X.env.scope.kind == .class || (X.env.scope.kind == .module && X.env.locals != X.env.globals))=false:=by rw [I.ok.kind];rfl
 have hiσ:i<σ.length:=by rw [I.len];exact (List.getElem?_eq_some_iff.mp hi).1
 have cne:=I.cne
 have tracked:∀ {a:Addr} {h':Heap},(∃ o,s.heap.get? a=some o/\H a=none)->Heap.SameBut a s.heap h'->HOk X.prog X.w H h':=fun {a h'} ha hs b ob e=>by
  obtain ⟨_,_,hfree⟩:=ha
  refine (I.hok b ob e).stay (fun c w' hc q=>(hs.2 c ?_).trans q) (fun _ q=>q) fun _ _ q=>q
  rintro rfl
  rcases hc with rfl | hc
  ·rw [hfree] at e;cases e
  ·rw [hfree] at hc;cases hc
 rcases hx with hk | hk
 ·refine wpAny_storeName_local hk hn (fun h' hn' hs=>?_) hcls
  obtain ⟨oL,_,_,hoL,_⟩:=id hn
  refine h _ ⟨I.ok,I.os,I.bare,⟨fun b o e n hb hx=>?_,fun b o e n hb hx=>?_,I.base.free,fun b o e hx=>?_,I.base.tups,I.base.frzs,I.base.tbls⟩,⟨_,hn',fun j y v' e1 e2 e3=>?_⟩,fun y c e=>?_,I.free,I.freeC,fun p hp=>?_,tracked ⟨oL,hoL,I.free⟩ hs,by simpa using I.len⟩ ⟨_,hs,.inl rfl⟩
  ·exact (hs.2 b (Nat.ne_of_lt (Nat.lt_of_lt_of_le (Heap.lt_size e) I.ok.above))).trans (I.base.keep b o e n hb hx)
  ·obtain ⟨sl,e1⟩:=I.base.slot b o e n hb hx
   exact ⟨sl,(hs.2 b (Nat.ne_of_lt (Nat.lt_of_lt_of_le (Heap.lt_size e) I.ok.above))).trans e1⟩
  ·obtain ⟨o',e1⟩:=I.base.there b o e hx
   exact ⟨o',(hs.2 b (Nat.ne_of_lt (Nat.lt_of_lt_of_le (Heap.lt_size e) I.ok.above))).trans e1⟩
  ·by_cases hj:j=i
   ·subst hj
    rw [hi] at e1;cases e1
    rw [List.getElem?_set_self hiσ] at e2
    cases e2
    exact ⟨u,r,.inl ⟨hk,by simp⟩⟩
   ·rw [List.getElem?_set_ne (Ne.symm hj)] at e2
    obtain ⟨u',r',q⟩:=hl j y v' e1 e2 e3
    refine ⟨u',r',?_⟩
    rcases q with ⟨k,e⟩ | ⟨k,c,e,z⟩
    ·refine .inl ⟨k,?_⟩
     have:y≠x:=fun e=>hj (nodup_ix hN e1 (e ▸ hi))
     simp [this,e]
    ·exact .inr ⟨k,c,e,z.sameBut hs (cne y c e)⟩
  ·obtain ⟨w',z⟩:=I.cell y c e
   exact ⟨w',z.sameBut hs (cne y c e)⟩
  ·obtain ⟨e,n,ne,nf,d⟩:=I.pin p hp
   exact ⟨(hs.2 p.1 ne).trans e,n,ne,nf,d⟩
 ·have hfn:X.fn x=true:=by
   rcases hf with z | z
   ·exact z
   ·rw [z] at hk;cases hk
  obtain ⟨c,hc⟩:=I.ok.has x (.inl hk)
  obtain ⟨w',z⟩:=I.cell x c hc
  refine wpAny_storeName_cell I.ok.kind hk hc z (fun h' hc' hs=>?_)
  obtain ⟨oc,hoc,hocd⟩:=id z
  refine h { s with heap:=h' } ⟨I.ok,I.os,I.bare,⟨fun b o e n hb hx=>?_,fun b o e n hb hx=>?_,I.base.free,fun b o e hx=>?_,I.base.tups,I.base.frzs,I.base.tbls⟩,⟨m,hn.sameBut hs (Ne.symm (cne x c hc)),fun j y v' e1 e2 e3=>?_⟩,fun y c' e=>?_,I.free,I.freeC,fun p hp=>?_,tracked ⟨oc,hoc,I.freeC x c hc⟩ hs,by simpa using I.len⟩ ⟨c,hs,.inr hc⟩
  ·exact (hs.2 b (Nat.ne_of_lt (Nat.lt_of_lt_of_le (Heap.lt_size e) (I.ok.cab x c hfn hc)))).trans (I.base.keep b o e n hb hx)
  ·obtain ⟨sl,e1⟩:=I.base.slot b o e n hb hx
   exact ⟨sl,(hs.2 b (Nat.ne_of_lt (Nat.lt_of_lt_of_le (Heap.lt_size e) (I.ok.cab x c hfn hc)))).trans e1⟩
  ·obtain ⟨o',e1⟩:=I.base.there b o e hx
   exact ⟨o',(hs.2 b (Nat.ne_of_lt (Nat.lt_of_lt_of_le (Heap.lt_size e) (I.ok.cab x c hfn hc)))).trans e1⟩
  ·by_cases hj:j=i
   ·subst hj
    rw [hi] at e1;cases e1
    rw [List.getElem?_set_self hiσ] at e2
    cases e2
    exact ⟨u,r,.inr ⟨.inl hk,c,hc,hc'⟩⟩
   ·rw [List.getElem?_set_ne (Ne.symm hj)] at e2
    obtain ⟨u',r',q⟩:=hl j y v' e1 e2 e3
    refine ⟨u',r',?_⟩
    rcases q with q | ⟨k,c',e,z'⟩
    ·exact .inl q
    ·refine .inr ⟨k,c',e,z'.sameBut hs ?_⟩
     rintro rfl
     exact hj (nodup_ix hN e1 (I.ok.inj _ _ _ e hc ▸ hi))
  ·by_cases hcc:c'=c
   ·subst hcc;exact ⟨_,hc'⟩
   ·obtain ⟨w2,z2⟩:=I.cell y c' e
    exact ⟨w2,z2.sameBut hs hcc⟩
  ·obtain ⟨e,n,ne,nf,d⟩:=I.pin p hp
   refine ⟨(hs.2 p.1 ?_).trans e,n,ne,nf,d⟩
   intro q
   rw [q,hoc] at e
   have q':oc=p.2:=Option.some.inj e
   exact d w' (by rw [← q'];exact hocd)
theorem store_ok{Q:Unit->Shared->Prop}(I:Inv X pins σ H s)(hN:X.N.Nodup)(hi:X.N[i]?=some x)(hx:Loc X.env.scope x)(r:RelV v u)
  (h:∀ s',Inv X pins (σ.set i (some v)) H s'->Q () s')(hf:X.fn x=true∨X.env.scope.names.lookup x=some .local:=by first | exact .inl rfl | exact .inr rfl | assumption):wpAny M A (storeName X.env x u) Q E s:=
 store_ok2 I hN hi hx r (fun s' I' _=>h s' I') hf
theorem Inv.call'{s':Shared}(I:Inv X pins σ H s)(ho:s'.os=s.os)(u:Un (frs X.stack) ch H H' s.heap s'.heap)(hok:HOk X.prog X.w H' s'.heap)(hg:AllBare s'.gens)
  (hch:∀ b ∈ ch,(b ∈ X.ex∨X.s₀.heap.objs.size≤b)/\b≠X.env.locals/\(∀ x c,X.env.cells.lookup x=some c->c≠b)/\∀ p ∈ X.pn++pins,p.1≠b):Inv X pins σ H' s':=by
 obtain ⟨h',g',d',t',o'⟩:=s'
 have e:o'=s.os:=ho
 subst e
 exact I.call (g':=g') (t':=t') (d':=d') u hok hg hch
end
noncomputable abbrev XK:=Value->Option Addr->Hp->Prop
noncomputable abbrev St:=List (Option V)
noncomputable abbrev VK:=V->Hp->Prop
noncomputable abbrev TE:=St->Hp->VK->Prop
noncomputable abbrev TT:=St->Hp->(Bool->Hp->Prop)->Prop
noncomputable abbrev TA:=St->Hp->(List V->Hp->Prop)->Prop
structure Ends where
 nx:St->Hp->Prop
 rt:VK
 bk:St->Hp->Prop:=fun _ _=>False
 ct:St->Hp->Prop:=fun _ _=>False
noncomputable abbrev TS:=Ends->St->Hp->Prop

noncomputable def EP(X:Cx)(pins:List (Addr × Obj))(σ:St)(Q:VK)(u:Value)(s':Shared):Prop:=∃ v H',Inv X pins σ H' s'/\RelV v u/\Q v H'
noncomputable def TP(X:Cx)(pins:List (Addr × Obj))(σ:St)(Q:Bool->Hp->Prop)(b:Bool)(s':Shared):Prop:=∃ H',Inv X pins σ H' s'/\Q b H'
noncomputable def AP(X:Cx)(pins:List (Addr × Obj))(σ:St)(Q:List V->Hp->Prop)(us:List Value)(s':Shared):Prop:=∃ vs H',Inv X pins σ H' s'/\Vals vs us/\Q vs H'
noncomputable def SP(X:Cx)(pins:List (Addr × Obj))(D:Ends)(f:Flow)(s':Shared):Prop:=
 match f with
 | .next=>∃ σ' H',Inv X pins σ' H' s'/\D.nx σ' H'
 | .brk=>∃ σ' H',Inv X pins σ' H' s'/\D.bk σ' H'
 | .cont=>∃ σ' H',Inv X pins σ' H' s'/\D.ct σ' H'
 | .ret u=>∃ v σ' H',Inv X pins σ' H' s'/\RelV v u/\D.rt v H'

noncomputable def PE(X:Cx)(e:Expr)(t:TE):Prop:=
 ∀ (pins:List (Addr × Obj)) (s:Shared) (σ:St) (H:Hp) (Q:VK),Inv X pins σ H s->t σ H Q->wpAny (model X.prog X.w) X.A (eval e X.env) (EP X pins σ Q) X.xe s
noncomputable def PT(X:Cx)(e:Expr)(t:TT):Prop:=
 ∀ (pins:List (Addr × Obj)) (s:Shared) (σ:St) (H:Hp) (Q:Bool->Hp->Prop),Inv X pins σ H s->t σ H Q->wpAny (model X.prog X.w) X.A (isTrue e X.env (eval e X.env)) (TP X pins σ Q) X.xe s
noncomputable def PW(X:Cx)(e:Expr)(t:TT):Prop:=
 ∀ (whole:Sem Value) (pins:List (Addr × Obj)) (s:Shared) (σ:St) (H:Hp) (Q:Bool->Hp->Prop),Inv X pins σ H s->t σ H Q->wpAny (model X.prog X.w) X.A (isTrue e X.env whole) (TP X pins σ Q) X.xe s
theorem PW.pt(h:PW X e t):PT X e t:=h _
noncomputable def PA(X:Cx)(es:List Expr)(t:TA):Prop:=
 ∀ (pos:Pos) (pins:List (Addr × Obj)) (s:Shared) (σ:St) (H:Hp) (Q:List V->Hp->Prop),Inv X pins σ H s->t σ H Q->wpAny (model X.prog X.w) X.A (spliced (backTo pos (starEach es X.env))) (AP X pins σ Q) X.xe s
noncomputable def PS(X:Cx)(st:Stmt)(t:TS):Prop:=
 ∀ (pins:List (Addr × Obj)) (s:Shared) (σ:St) (H:Hp) (D:Ends),Inv X pins σ H s->t D σ H->wpAny (model X.prog X.w) X.A (exec st X.env) (SP X pins D) X.xe s
noncomputable def PSs(X:Cx)(st:List Stmt)(t:TS):Prop:=
 ∀ (pins:List (Addr × Obj)) (s:Shared) (σ:St) (H:Hp) (D:Ends),Inv X pins σ H s->t D σ H->wpAny (model X.prog X.w) X.A (execs st X.env) (SP X pins D) X.xe s
theorem thn{α:Type}{t:Sem α}{Q Q':α->Shared->Prop}{M:Model}{A:Around}{E:Value->Shared->Prop}{s:Shared}(h:wpAny M A t Q E s)(hQ:∀ a s,Q a s->Q' a s):wpAny M A t Q' E s:=wpAny_mono h hQ fun _ _ x=>x
end L2
namespace L2
open PySem PySem.Spec PyProof.Rows
section
variable {X:Cx}
noncomputable def tVar(i:Nat):TE:=fun σ H Q=>∃ v,σ[i]?=some (some v)/\Q v H
noncomputable def tC(v:V):TE:=fun _ H Q=>Q v H
theorem pe_var(hN:X.N[i]?=some x)(hv:Vis X.env.scope x)(hd:(x == ("__debug__":Str))=false:=by decide)(hcd:(x == ("__classdict__":Str))=false:=by decide):PE X (.Name x pos) (tVar i):=by
 intro pins s σ H Q I h
 obtain ⟨v,e,h⟩:=h
 obtain ⟨m,hn,hl⟩:=I.loc
 obtain ⟨u,r,l⟩:=hl i x v hN e hv
 have fin:EP X pins σ Q u s:=⟨v,H,I,r,h⟩
 rcases l with ⟨hk,hm⟩ | ⟨hk,c,hc,hcell⟩
 ·exact wpAny_Name (wpAny_loadName_local I.ok.kind hk hn hm fin) hd
 ·rcases hk with hk | hk
  ·exact wpAny_Name (wpAny_loadName_cell I.ok.kind hk hc hcell fin) hd
  ·exact wpAny_Name (wpAny_loadName_free I.ok.kind hk hc hcell fin hcd) hd
theorem pe_int{i j pos}:PE X (.Constant (.int i) j pos) (tC (.int i)):=fun _ _ _ H _ I h=>wpAny_Constant_int ⟨.int i,H,I.tok _,⟨_,rfl⟩,h⟩
theorem pe_bl{b j pos}:PE X (.Constant (.bool b) j pos) (tC (.bl b)):=fun _ _ _ H _ I h=>Constant_bool ⟨.bl b,H,I,rfl,h⟩
theorem pe_non{j pos}:PE X (.Constant .none j pos) (tC .non):=fun _ _ _ H _ I h=>Constant_none ⟨.non,H,I,rfl,h⟩
theorem pe_str{x j pos}:PE X (.Constant (.str x) j pos) (tC (.str x)):=fun _ _ _ H _ I h=>Calls.Constant_str ⟨.str x,H,I.tok _,⟨_,rfl⟩,h⟩

noncomputable def Gl(X:Cx)(x:Str):Prop:=X.env.kindOf x=some .globalImplicit
theorem ld_glob{Q:Value->Shared->Prop}(I:Inv X pins σ H s)(hg:Gl X x)(hm:X.mg x=some u)(h:Q u s)
  (hd:(x == ("__debug__":Str))=false:=by decide):wpAny (model X.prog X.w) X.A (eval (.Name x pos) X.env) Q E s:=
 Calls.Name_function_global I.ok.kind hg (Calls.loadGlobal_global (by rw [I.ok.glob];exact I.mod.glob.keeps I.bk) hm h) hd
theorem ld_blt{Q:Value->Shared->Prop}(I:Inv X pins σ H s)(hg:Gl X x)(hm:X.mg x=none)(hv:bootBuiltins x=some u)(h:Q u s)
  (hn:x≠"__name__":=by decide)(hd:(x == ("__debug__":Str))=false:=by decide):wpAny (model X.prog X.w) X.A (eval (.Name x pos) X.env) Q E s:=by
 obtain ⟨mb,h1,h2⟩:=I.mod.blt
 exact Calls.Name_function_global I.ok.kind hg (Calls.loadGlobal_builtin (by rw [I.ok.glob];exact I.mod.glob.keeps I.bk) hm (by rw [I.ok.blt];exact h1.keeps I.bk) ((h2 x hn).trans hv) h) hd
theorem pe_glob(hg:Gl X x)(hm:X.mg x=some u)(r:RelV v u)(hd:(x == ("__debug__":Str))=false:=by decide):PE X (.Name x pos) (tC v):=
 fun _ _ _ H _ I h=>ld_glob I hg hm ⟨v,H,I,r,h⟩ hd
theorem pe_bltn(hg:Gl X x)(hm:X.mg x=none)(hv:bootBuiltins x=some u)(r:RelV v u)(hn:x≠"__name__":=by decide)(hd:(x == ("__debug__":Str))=false:=by decide):PE X (.Name x pos) (tC v):=
 fun _ _ _ H _ I h=>ld_blt I hg hm hv ⟨v,H,I,r,h⟩ hn hd

variable {a b:Expr} {ta tb:TE} {pos:Pos}
variable {tA tB':TT} {rest:List Expr}
noncomputable def tAnd(t u:TT):TT:=fun σ H Q=>t σ H fun c H1=>if c=true then u σ H1 Q else Q false H1
noncomputable def tOr(t u:TT):TT:=fun σ H Q=>t σ H fun c H1=>if c=true then Q true H1 else u σ H1 Q
noncomputable def tNot(t:TT):TT:=fun σ H Q=>t σ H fun c H1=>Q (!c) H1
theorem pw_and1(ha:PT X a tA):PW X (.BoolOp .And [a] pos) tA:=by
 intro wh pins s σ H Q I h
 refine isTrue_and (thn (ha pins s σ H Q I h) fun c s1 e=>?_)
 cases c with
 | true=>exact isTrue_and_nil e
 | false=>exact e
theorem pw_or1(ha:PT X a tA):PW X (.BoolOp .Or [a] pos) tA:=by
 intro wh pins s σ H Q I h
 refine isTrue_or (thn (ha pins s σ H Q I h) fun c s1 e=>?_)
 cases c with
 | false=>exact isTrue_or_nil e
 | true=>exact e
theorem pw_and(ha:PT X a tA)(hb:PW X (.BoolOp .And (b::rest) pos) tB'):PW X (.BoolOp .And (a::b::rest) pos) (tAnd tA tB'):=by
 intro wh pins s σ H Q I h
 refine isTrue_and (thn (ha pins s σ H _ I h) fun c s1 hq_=>?_)
 obtain ⟨H1,I1,q1⟩:=hq_
 cases c with
 | true=>exact hb wh pins s1 σ H1 Q I1 q1
 | false=>exact ⟨H1,I1,q1⟩
theorem pw_or(ha:PT X a tA)(hb:PW X (.BoolOp .Or (b::rest) pos) tB'):PW X (.BoolOp .Or (a::b::rest) pos) (tOr tA tB'):=by
 intro wh pins s σ H Q I h
 refine isTrue_or (thn (ha pins s σ H _ I h) fun c s1 hq_=>?_)
 obtain ⟨H1,I1,q1⟩:=hq_
 cases c with
 | true=>exact ⟨H1,I1,q1⟩
 | false=>exact hb wh pins s1 σ H1 Q I1 q1
theorem pt_not(ha:PT X a tA):PT X (.UnaryOp .Not a pos) (tNot tA):=by
 intro pins s σ H Q I h
 exact isTrue_not (ha pins s σ H (fun c H1=>Q (!c) H1) I h)
noncomputable def tAndV(ta tb:TE):TE:=fun σ H Q=>ta σ H fun x H1=>∃ c,x=.bl c/\if c=true then tb σ H1 Q else Q (.bl false) H1
noncomputable def tOrV(ta tb:TE):TE:=fun σ H Q=>ta σ H fun x H1=>∃ c,x=.bl c/\if c=true then Q (.bl true) H1 else tb σ H1 Q
noncomputable def tNotV(ta:TE):TE:=fun σ H Q=>ta σ H fun x H1=>∃ c,x=.bl c/\Q (.bl (!c)) H1
theorem pe_one{op}(h:PE X a t):PE X (.BoolOp op [a] pos) t:=fun pins s σ H Q I hw=>BoolOp_one (h pins s σ H Q I hw)
theorem pe_and(ha:PE X a ta)(hb:PE X (.BoolOp .And (b::rest) pos) tb):PE X (.BoolOp .And (a::b::rest) pos) (tAndV ta tb):=by
 intro pins s σ H Q I h
 refine BoolOp_and (thn (ha pins s σ H _ I h) fun v s1 hq_=>?_)
 obtain ⟨x,H1,I1,r1,q1⟩:=hq_
 obtain ⟨c,rfl,q1⟩:=q1
 cases r1
 refine wpAny_truthy_bool ?_
 cases c with
 | true=>exact hb pins s1 σ H1 Q I1 q1
 | false=>exact ⟨.bl false,H1,I1,rfl,q1⟩
theorem pe_or(ha:PE X a ta)(hb:PE X (.BoolOp .Or (b::rest) pos) tb):PE X (.BoolOp .Or (a::b::rest) pos) (tOrV ta tb):=by
 intro pins s σ H Q I h
 refine BoolOp_or (thn (ha pins s σ H _ I h) fun v s1 hq_=>?_)
 obtain ⟨x,H1,I1,r1,q1⟩:=hq_
 obtain ⟨c,rfl,q1⟩:=q1
 cases r1
 refine wpAny_truthy_bool ?_
 cases c with
 | false=>exact hb pins s1 σ H1 Q I1 q1
 | true=>exact ⟨.bl true,H1,I1,rfl,q1⟩
theorem pe_not(ha:PE X a ta):PE X (.UnaryOp .Not a pos) (tNotV ta):=by
 intro pins s σ H Q I h
 refine UnaryOp_ (thn (ha pins s σ H _ I h) fun v s1 hq_=>?_)
 obtain ⟨x,H1,I1,r1,q1⟩:=hq_
 obtain ⟨c,rfl,q1⟩:=q1
 cases r1
 exact not_of (wpAny_truthy_bool ⟨.bl (!c),H1,I1,rfl,q1⟩)
end
end L2
namespace L2
open PySem PySem.Spec PyProof.Rows
noncomputable def SqL(K:PySem.W.Frag)(H:Hp)(a:Addr)(xs:List V):Prop:=
 Rd H a (.lst xs)∨
  ∃ (o:Obj) (its:Array Value) (n:Nat),K.lookup a=some o/\o.cls=.type "list"/\o.dict=none/\o.data=.seq its n/\its.size≤sizeLine/\Vals xs its.toList
noncomputable def SqT(K:PySem.W.Frag)(H:Hp)(a:Addr)(xs:List V):Prop:=
 Rd H a (.tup xs)∨
  ∃ (o:Obj) (its:Array Value) (n:Nat),K.lookup a=some o/\o.cls=.type "tuple"/\o.data=.seq its n/\its.size≤sizeLine/\Vals xs its.toList
noncomputable def absV:Value->Option V
 | .none=>some .non
 | .bool b=>some (.bl b)
 | .int i _=>some (.int i)
 | .str x _=>some (.str x)
 | .bytes b _=>some (.byt b)
 | .float b _=>some (.flt b)
 | .ref a=>some (.ref a)
 | .type n=>some (.ty n)
 | _=>none
theorem RelV.abs(r:RelV x u):absV u=some x:=by
 cases x with
 | non=>cases r;rfl
 | bl _=>cases r;rfl
 | int _=>obtain ⟨t,rfl⟩:=r;rfl
 | str _=>obtain ⟨t,rfl⟩:=r;rfl
 | byt _=>obtain ⟨t,rfl⟩:=r;rfl
 | flt _=>obtain ⟨t,rfl⟩:=r;rfl
 | ref _=>cases r;rfl
 | ty _=>cases r;rfl
theorem RelV.inj(r:RelV x u)(q:RelV y u):x=y:=Option.some.inj (r.abs.symm.trans q.abs)
theorem Vals.inj{xs ys:List V}{us:List Value}(h:Vals xs us):Vals ys us->xs=ys:=by
 induction h generalizing ys with
 | nil=>intro h;cases h;rfl
 | cons r t ih=>intro h;cases h with | cons r' t'=>rw [r.inj r',ih t']
section
variable {X:Cx} {pins:List (Addr × Obj)} {σ:St} {H:Hp} {s:Shared} {a:Addr} {xs ys:List V}
theorem SqL.of{K:PySem.W.Frag}(h:H a=some (.lst xs)):SqL K H a xs:=.inl (.inl h)
theorem SqT.of{K:PySem.W.Frag}(h:H a=some (.tup xs)):SqT K H a xs:=.inl (.inl h)
theorem Inv.list(I:Inv X pins σ H s)(h:SqL X.K H a xs):∃ its:List Value,Vals xs its/\PlainL s.heap a its.toArray/\xs.length≤sizeLine:=by
 rcases h with h | ⟨o,its,n,hk,hc,hd,hs,hz,r⟩
 ·obtain ⟨z,its,n,r,e⟩:=h.ok I.hok
  exact ⟨its,r,⟨_,n,e,rfl,rfl,rfl⟩,z⟩
 ·refine ⟨its.toList,r,⟨o,n,I.kIn a o hk,hc,hd,by simpa using hs⟩,?_⟩
  have e:=r.length
  simp only [Array.length_toList] at e
  omega
theorem Inv.tuple(I:Inv X pins σ H s)(h:SqT X.K H a xs):∃ its:List Value,Vals xs its/\IsTup s.heap a its.toArray/\xs.length≤sizeLine:=by
 rcases h with h | ⟨o,its,n,hk,hc,hs,hz,r⟩
 ·obtain ⟨z,its,r,p⟩:=h.ok I.hok
  exact ⟨its,r,p,z⟩
 ·refine ⟨its.toList,r,⟨o,I.kIn a o hk,hc,n,by simpa using hs⟩,?_⟩
  have e:=r.length
  simp only [Array.length_toList] at e
  omega
theorem Inv.list_inj(I:Inv X pins σ H s)(h:SqL X.K H a xs)(h':SqL X.K H a ys):xs=ys:=by
 obtain ⟨its,r,⟨o,n,e,_,_,d⟩,_⟩:=I.list h
 obtain ⟨its',r',⟨o',n',e',_,_,d'⟩,_⟩:=I.list h'
 rw [e] at e';cases e'
 rw [d] at d'
 injection d' with d1 _
 have:its=its':=by simpa using congrArg Array.toList d1
 subst this
 exact r.inj r'
theorem Inv.tuple_inj(I:Inv X pins σ H s)(h:SqT X.K H a xs)(h':SqT X.K H a ys):xs=ys:=by
 obtain ⟨its,r,⟨o,e,_,n,d⟩,_⟩:=I.tuple h
 obtain ⟨its',r',⟨o',e',_,n',d'⟩,_⟩:=I.tuple h'
 rw [e] at e';cases e'
 rw [d] at d'
 injection d' with d1 _
 have:its=its':=by simpa using congrArg Array.toList d1
 subst this
 exact r.inj r'
end
noncomputable abbrev Cx.wish(X:Cx)(E:Value->Shared->Prop):Cx:={ X with xe:=E }
noncomputable abbrev Cx.nox(X:Cx):Cx:=X.wish fun _ _=>False
theorem Cx.Ok.wish{X:Cx}(ok:X.Ok)(E:Value->Shared->Prop):(X.wish E).Ok:=
 ⟨ok.mod,ok.kind,ok.glob,ok.blt,ok.above,ok.inj,ok.has,ok.cab,ok.hd,ok.frames,ok.stk,ok.exf,ok.bs,ok.bsz,ok.noex,ok.exfs,ok.funs,ok.frf⟩
theorem Cx.Ok.unwish{X:Cx}(ok:(X.wish E).Ok):X.Ok:=
 ⟨ok.mod,ok.kind,ok.glob,ok.blt,ok.above,ok.inj,ok.has,ok.cab,ok.hd,ok.frames,ok.stk,ok.exf,ok.bs,ok.bsz,ok.noex,ok.exfs,ok.funs,ok.frf⟩
section
variable {X:Cx} {pins:List (Addr × Obj)} {σ:St} {H:Hp} {s:Shared} {E:Value->Shared->Prop}
theorem Inv.wish(I:Inv X pins σ H s)(E:Value->Shared->Prop):Inv (X.wish E) pins σ H s:=⟨I.ok.wish E,I.os,I.bare,I.base,I.loc,I.cell,I.free,I.freeC,I.pin,I.hok,I.len⟩
theorem Inv.unwish(I:Inv (X.wish E) pins σ H s):Inv X pins σ H s:=⟨I.ok.unwish,I.os,I.bare,I.base,I.loc,I.cell,I.free,I.freeC,I.pin,I.hok,I.len⟩
theorem SP.unwish(h:SP (X.wish E) pins D f s'):SP X pins D f s':=by
 cases f with
 | next=>obtain ⟨σ',H',I,q⟩:=h;exact ⟨σ',H',I.unwish,q⟩
 | brk=>obtain ⟨σ',H',I,q⟩:=h;exact ⟨σ',H',I.unwish,q⟩
 | cont=>obtain ⟨σ',H',I,q⟩:=h;exact ⟨σ',H',I.unwish,q⟩
 | ret u=>obtain ⟨v,σ',H',I,r,q⟩:=h;exact ⟨v,σ',H',I.unwish,r,q⟩
theorem PE.nox(h:PE X.nox e t):PE X e t:=fun pins s σ H Q I hw=>
 wpAny_mono (h pins s σ H Q (I.wish _) hw) (fun _ _ ⟨v,H',I',r,q⟩=>⟨v,H',I'.unwish,r,q⟩) fun _ _ z=>False.elim z
theorem PT.nox(h:PT X.nox e t):PT X e t:=fun pins s σ H Q I hw=>
 wpAny_mono (h pins s σ H Q (I.wish _) hw) (fun _ _ ⟨H',I',q⟩=>⟨H',I'.unwish,q⟩) fun _ _ z=>False.elim z
theorem PSs.nox{st:List Stmt}{t:TS}(h:PSs X.nox st t):PSs X st t:=fun pins s σ H D I hw=>
 wpAny_mono (h pins s σ H D (I.wish _) hw) (fun _ _ q=>q.unwish) fun _ _ z=>False.elim z
end
section
variable {X:Cx} {st:Stmt} {rest:List Stmt} {t u:TS} {e:Expr} {te:TE} {pos:Pos}
noncomputable def tNext:TS:=fun D σ H=>D.nx σ H
noncomputable def tSeq(t u:TS):TS:=fun D σ H=>t { D with nx:=u D } σ H
theorem pss_nil:PSs X [] tNext:=fun _ _ σ H _ I h=>wpAny_execs_nil ⟨σ,H,I,h⟩
theorem pss_cons(h1:PS X st t)(h2:PSs X rest u):PSs X (st::rest) (tSeq t u):=by
 intro pins s σ H D I h
 refine wpAny_execs_cons (thn (h1 pins s σ H { D with nx:=u D } I h) fun f s1 q=>?_)
 cases f with
 | next=>
  obtain ⟨σ',H',I',q⟩:=q
  exact h2 pins s1 σ' H' D I' q
 | ret v=>exact q
 | brk=>exact q
 | cont=>exact q
theorem pss_one(h1:PS X st t):PSs X [st] t:=by
 intro pins s σ H D I h
 refine wpAny_execs_cons (thn (h1 pins s σ H D I h) fun f s1 q=>?_)
 cases f with
 | next=>exact wpAny_execs_nil q
 | ret v=>exact q
 | brk=>exact q
 | cont=>exact q
noncomputable def tBreak:TS:=fun D σ H=>D.bk σ H
noncomputable def tCont:TS:=fun D σ H=>D.ct σ H
theorem ps_pass:PS X (.Pass pos) tNext:=fun _ _ σ H _ I h=>wpAny_Pass ⟨σ,H,I,h⟩
theorem ps_break:PS X (.Break pos) tBreak:=fun _ _ σ H _ I h=>wpAny_Break ⟨σ,H,I,h⟩
theorem ps_continue:PS X (.Continue pos) tCont:=fun _ _ σ H _ I h=>wpAny_Continue ⟨σ,H,I,h⟩
theorem Inv.quiet(I:Inv X pins σ H s):interactive X.env=false:=by simp [interactive,I.ok.kind]
theorem ps_doc{x j pos pos'}:PS X (.Expr (.Constant (.str x) j pos) pos') tNext:=fun _ s σ H _ I h=>wpAny_Expr (Calls.Constant_str (show SP X _ _ .next { s with toks:=s.toks+1 } from ⟨σ,H,I.tok _,h⟩)) I.quiet
noncomputable def tDrop(te:TE):TS:=fun D σ H=>te σ H fun _ H1=>D.nx σ H1
theorem ps_expr(he:PE X e te)(hs:swapsWith e none pos.line X.env=pure false:=by rfl):PS X (.Expr e pos) (tDrop te):=by
 intro pins s σ H D I h
 exact wpAny_Expr_any (thn (he pins s σ H _ I h) fun v s1 ⟨x,H1,I1,r1,q1⟩=>⟨σ,H1,I1,q1⟩) I.quiet hs
noncomputable def tRet(te:TE):TS:=fun D σ H=>te σ H D.rt
theorem ps_ret(he:PE X e te):PS X (.Return (some e) pos) (tRet te):=by
 intro pins s σ H D I h
 exact wpAny_Return_some (thn (he pins s σ H _ I h) fun v s1 ⟨x,H1,I1,r1,q1⟩=>⟨x,σ,H1,I1,r1,q1⟩)
noncomputable def tRetN:TS:=fun D _ H=>D.rt .non H
theorem ps_retN:PS X (.Return none pos) tRetN:=fun _ _ σ H _ I h=>wpAny_Return_none ⟨.non,σ,H,I,rfl,h⟩
noncomputable def tIfS(c:TT)(t u:TS):TS:=fun D σ H=>c σ H fun b H1=>if b=true then t D σ H1 else u D σ H1
theorem ps_if{c:Expr}{a b:List Stmt}{tc:TT}(hc:PT X c tc)(ha:PSs X a t)(hb:PSs X b u):PS X (.If c a b pos) (tIfS tc t u):=by
 intro pins s σ H D I h
 refine wpAny_If (thn (hc pins s σ H _ I h) fun d s1 hq_=>?_)
 obtain ⟨H1,I1,q1⟩:=hq_
 cases d with
 | true=>exact ha pins s1 σ H1 D I1 q1
 | false=>exact hb pins s1 σ H1 D I1 q1
noncomputable def tNever:TS:=fun _ _ _=>False
theorem ps_never:PS X st tNever:=fun _ _ _ _ _ _ h=>h.elim
end
noncomputable abbrev TG:=V->St->Hp->(St->Hp->Prop)->Prop
noncomputable abbrev TGs:=List V->St->Hp->(St->Hp->Prop)->Prop
noncomputable def PG(X:Cx)(target:Expr)(t:TG):Prop:=
 ∀ (pins:List (Addr × Obj)) (s:Shared) (σ:St) (H:Hp) (v:V) (u:Value) (Q:St->Hp->Prop),Inv X pins σ H s->RelV v u->t v σ H Q->
  wpAny (model X.prog X.w) X.A (assign target X.env u) (fun _ s'=>∃ σ' H',Inv X pins σ' H' s'/\Q σ' H') X.xe s
noncomputable def PGs(X:Cx)(ts:List Expr)(t:TGs):Prop:=
 ∀ (pins:List (Addr × Obj)) (s:Shared) (σ:St) (H:Hp) (vs:List V) (us:List Value) (Q:St->Hp->Prop),Inv X pins σ H s->Vals vs us->t vs σ H Q->
  wpAny (model X.prog X.w) X.A (assignInOrder ((assignEach ts X.env).map (·.2)) us) (fun _ s'=>∃ σ' H',Inv X pins σ' H' s'/\Q σ' H') X.xe s
noncomputable abbrev TSet:=V->V->V->Hp->(Hp->Prop)->Prop
noncomputable def PSet(X:Cx)(t:TSet):Prop:=
 ∀ (pins:List (Addr × Obj)) (s:Shared) (σ:St) (H:Hp) (o i v:V) (ov iv u:Value) (Q:Hp->Prop),Inv X pins σ H s->RelV o ov->RelV i iv->RelV v u->t o i v H Q->
  wpAny (model X.prog X.w) X.A (setItem ov iv u) (fun _ s'=>∃ H',Inv X pins σ H' s'/\Q H') X.xe s
section
variable {X:Cx} {pos:Pos}
noncomputable def gName(i:Nat):TG:=fun v σ H Q=>Q (σ.set i (some v)) H
theorem pg_name(hN:X.N.Nodup)(hi:X.N[i]?=some x)(hx:Loc X.env.scope x)(hf:X.fn x=true∨X.env.scope.names.lookup x=some .local:=by first | exact .inl rfl | exact .inr rfl | assumption):PG X (.Name x pos) (gName i):=by
 intro pins s σ H v u Q I r h
 exact wpAny_assign_Name (store_ok I hN hi hx r (fun s' I'=>⟨_,H,I',h⟩) hf)
noncomputable def gNil:TGs:=fun vs σ H Q=>vs=[]/\Q σ H
noncomputable def gCons(t:TG)(u:TGs):TGs:=fun vs σ H Q=>∃ v r,vs=v::r/\t v σ H fun σ' H'=>u r σ' H' Q
theorem pgs_nil:PGs X [] gNil:=by
 intro pins s σ H vs us Q I r h
 obtain ⟨e,h⟩:=h
 subst e
 cases r
 exact assignInOrder_nil ⟨σ,H,I,h⟩
theorem pgs_cons{e:Expr}{es:List Expr}{t:TG}{u:TGs}(h1:PG X e t)(h2:PGs X es u)
  (hs:(assignEach (e::es) X.env).map (·.2)=assign e X.env::(assignEach es X.env).map (·.2):=by rfl):PGs X (e::es) (gCons t u):=by
 intro pins s σ H vs us Q I r h
 obtain ⟨v,vr,e1,h⟩:=h
 subst e1
 cases r with
 | cons r rr=>
  rw [hs]
  refine assignInOrder_cons (thn (h1 pins s σ H _ _ _ I r h) fun _ s1 hq_=>?_)
  obtain ⟨σ1,H1,I1,q1⟩:=hq_
  exact h2 pins s1 σ1 H1 _ _ Q I1 rr q1
noncomputable def gTup(K:PySem.W.Frag)(n:Nat)(t:TGs):TG:=fun v σ H Q=>∃ a xs,v=.ref a/\SqT K H a xs/\xs.length=n/\t xs σ H Q
theorem pg_tup(hc:X.calm=true)(h:PGs X es t)
  (hn:(assignEach es X.env).length=n:=by rfl)(hst:(assignEach es X.env).findIdx? (·.1)=none:=by rfl):PG X (.Tuple es k pos) (gTup X.K n t):=by
 intro pins s σ H v u Q I r hw
 obtain ⟨a,xs,e1,hq,hl,hw⟩:=hw
 subst e1
 cases r
 obtain ⟨its,rv,ht,hz⟩:=I.tuple hq
 refine assign_Tuple_tuple (I.ok.hd hc) ht (by simp [hn,← hl,rv.length]) hst fun h' hx=>?_
 have I1:Inv X pins σ H { s with heap:=h' }:=I.kept (t':=s.toks) fun b o e=>hx b o (Nat.ne_of_lt (Heap.lt_size e)) e
 exact h pins _ σ H xs _ Q I1 (by simpa using rv) hw
noncomputable def gSub(to ti:TE)(t:TSet):TG:=fun v σ H Q=>to σ H fun o H1=>ti σ H1 fun i H2=>t o i v H2 fun H3=>Q σ H3
theorem pg_sub{o i:Expr}{to ti:TE}{t:TSet}(ho:PE X o to)(hi:PE X i ti)(hs:PSet X t)
  (ha:∀ v,assign (.Subscript o i pos) X.env v=(do
   let ov ← holding [v] (eval o X.env)
   let iv ← holding [v,ov] (eval i X.env)
   standAt pos
   holding [v,ov,iv] (setItem ov iv v)
   release [v,ov,iv] []):=by intro _;rfl):PG X (.Subscript o i pos) (gSub to ti t):=by
 intro pins s σ H v u Q I r h
 rw [ha]
 refine wpAny_bind (wpAny_holding (thn (ho pins s σ H _ I h) fun ov s1 hq_=>?_))
 obtain ⟨x,H1,I1,r1,q1⟩:=hq_
 refine wpAny_bind (wpAny_holding (thn (hi pins s1 σ H1 _ I1 q1) fun iv s2 hq_=>?_))
 obtain ⟨y,H2,I2,r2,q2⟩:=hq_
 refine wpAny_bind (wpAny_standAt (wpAny_bind (wpAny_holding (thn (hs pins s2 σ H2 x y v ov iv u _ I2 r1 r2 r q2) fun _ s3 hq_=>?_))))
 obtain ⟨H3,I3,q3⟩:=hq_
 exact wpAny_release ⟨σ,H3,I3,q3⟩
noncomputable def tAsg(te:TE)(g:TG):TS:=fun D σ H=>te σ H fun x H1=>g x σ H1 D.nx
theorem ps_asg{tg e:Expr}{te:TE}{g:TG}(he:PE X e te)(hg:PG X tg g)(hs:swapsWithSole [tg] e pos.line X.env=pure false:=by rfl)(hw:swappedStores [tg] e X.env=pure none:=by rfl)
  (h1:(assignEach [tg] X.env).map (·.2)=[assign tg X.env]:=by rfl):PS X (.Assign [tg] e pos) (tAsg te g):=by
 intro pins s σ H D I h
 refine wpAny_Assign_stores (thn (he pins s σ H _ I h) fun v s1 ⟨x,H1,I1,r1,q1⟩=>?_) hs hw
 rw [h1]
 exact thn (hg pins s1 σ H1 x v _ I1 r1 q1) fun _ s2 q=>q
theorem ps_set{i:Nat}{x:Str}{e:Expr}{te:TE}{pos':Pos}(hN:X.N.Nodup)(hi:X.N[i]?=some x)(hx:Loc X.env.scope x)(he:PE X e te)(hs:swapsWith e (some (.Name x pos')) pos.line X.env=pure false:=by rfl)(hf:X.fn x=true∨X.env.scope.names.lookup x=some .local:=by first | exact .inl rfl | exact .inr rfl | assumption):
  PS X (.Assign [.Name x pos'] e pos) (tAsg te (gName i)):=by
 intro pins s σ H D I h
 refine wpAny_Assign_Name (thn (he pins s σ H _ I h) fun v s1 ⟨y,H1,I1,r1,q1⟩=>?_) hs
 exact store_ok I1 hN hi hx r1 (fun s2 I2=>⟨_,H1,I2,q1⟩) hf
end
section
variable {X:Cx} {pos:Pos}
noncomputable def tWhile(c:TT)(tb:TS):TS:=fun D σ H=>∃ W:Nat->St->Hp->Prop,(∃ m,W m σ H)/\∀ m σ H,W m σ H->
 c σ H fun b H1=>if b=true then ∃ N:St->Hp->Prop,(∀ σ' H',N σ' H'->∃ m',m'<m/\W m' σ' H')/\tb { D with nx:=N,ct:=N,bk:=D.nx } σ H1 else D.nx σ H1
theorem ps_while{c:Expr}{body:List Stmt}{tc:TT}{tb:TS}(hp:PassesOwn (model X.prog X.w) X.A X.env X.xe)(hc:PT X c tc)(hb:PSs X body tb):PS X (.While c body [] pos) (tWhile tc tb):=by
 intro pins s σ H D I h
 obtain ⟨W,⟨m0,w0⟩,turn⟩:=h
 refine wpAny_While (codeAny_whileLoop (fun n s'=>∃ σ' H',Inv X pins σ' H' s'/\W n σ' H') ?_ m0 ⟨σ,H,I,w0⟩)
 rintro n s1 ⟨σ1,H1,I1,w1⟩
 refine wpAny_passesOwn hp (thn (hc pins s1 σ1 H1 _ I1 (turn n σ1 H1 w1)) fun b s2 hq_=>?_)
 obtain ⟨H2,I2,q2⟩:=hq_
 cases b with
 | true=>
  obtain ⟨N,hN,q2⟩:=q2
  rw [if_pos rfl]
  refine wpAny_passesOwn hp (thn (hb pins s2 σ1 H2 _ I2 q2) fun f s3 q3=>?_)
  cases f with
  | next=>
   obtain ⟨σ3,H3,I3,n3⟩:=q3
   obtain ⟨m',hm,w3⟩:=hN σ3 H3 n3
   exact ⟨m',hm,σ3,H3,I3,w3⟩
  | cont=>
   obtain ⟨σ3,H3,I3,n3⟩:=q3
   obtain ⟨m',hm,w3⟩:=hN σ3 H3 n3
   exact ⟨m',hm,σ3,H3,I3,w3⟩
  | brk=>exact q3
  | ret v=>exact q3
 | false=>
  rw [if_neg Bool.false_ne_true]
  exact wpAny_execs_nil ⟨σ1,H2,I2,q2⟩
end
structure It where
 go:Nat->Hp->Prop
 yld:Nat->Hp->V->Hp->Prop
 stop:Nat->Hp->Prop
noncomputable def FpOk(X:Cx)(pins:List (Addr × Obj))(H:Hp)(b:Addr):Prop:=
 H b=none/\b≠X.env.locals/\b ∉ X.fs/\(b ∈ X.ex∨X.s₀.heap.objs.size≤b)/\(∀ x c,X.env.cells.lookup x=some c->c≠b)/\∀ p ∈ X.pn++pins,p.1≠b
theorem Inv.fpOk{H H':Hp}{s:Shared}(I:Inv X pins σ H s)(hb:s.heap.objs.size≤b)(hn:H' b=none):FpOk X pins H' b:=by
 refine ⟨hn,Nat.ne_of_gt (Nat.lt_of_lt_of_le I.lt hb),I.nofs hb,.inr (Nat.le_trans I.sz hb),fun x c e z=>?_,fun p hp z=>?_⟩
 ·obtain ⟨v,q⟩:=I.cell x c e
  exact absurd (Nat.lt_of_lt_of_le q.lt (by rw [z];exact hb)) (Nat.lt_irrefl _)
 ·exact absurd (Nat.lt_of_lt_of_le (Heap.lt_size (I.pin p hp).1) (by rw [z];exact hb)) (Nat.lt_irrefl _)
structure Turn (P:Program) (w:World) (K:PySem.W.Frag) (tg:Expr) (J:It) (fp:List Addr) (it:Addr) (tn:Nat->Heap->Prop):Prop where
 mem:it ∈ fp
 obj:∀ i h,tn i h->∀ b ∈ fp,∃ o,h.get? b=some o/\∀ v,o.data≠.cell v
 keep:∀ i h h',tn i h->(∀ b ∈ fp,∀ o,h.get? b=some o->h'.get? b=some o)->tn i h'
 item:∀ (X:Cx),X.prog=P->X.w=w->X.K=K->X.calm=true->∀ (i:Nat) (pins:List (Addr × Obj)) (s:Shared) (σ:St) (H:Hp) (E:Value->Shared->Prop),Inv X pins σ H s->(∀ b ∈ fp,FpOk X pins H b)->tn i s.heap->J.go i H->
  wpAny (model P w) X.A (pyNext (.ref it)) (fun r s1=>∃ u,r=some u/\
   wpAny (model P w) X.A (letOwnedTupleGo tg (.ref it) u) (fun _ s2=>∃ x H',Inv X pins σ H' s2/\RelV x u/\J.yld i H x H'/\tn (i+1) s2.heap/\∀ b ∈ fp,H' b=none) E s1) E s
 done:∀ (X:Cx),X.prog=P->X.w=w->X.K=K->X.calm=true->∀ (i:Nat) (pins:List (Addr × Obj)) (s:Shared) (σ:St) (H:Hp) (E:Value->Shared->Prop),Inv X pins σ H s->(∀ b ∈ fp,FpOk X pins H b)->tn i s.heap->J.stop i H->
  wpAny (model P w) X.A (pyNext (.ref it)) (fun r s1=>r=none/\Inv X pins σ H s1) E s
 self:∀ (A:Around) (i:Nat) (s:Shared) (Q:Value->Shared->Prop) (E:Value->Shared->Prop),tn i s.heap->Q (.ref it) s->wpAny (model P w) A (pyIter (.ref it)) Q E s
noncomputable abbrev TI:=St->Hp->(It->Hp->Prop)->Prop
noncomputable def PIE(X:Cx)(pins:List (Addr × Obj))(σ:St)(tg:Expr)(R:It->Hp->Prop)(itv:Value)(s2:Shared):Prop:=
 ∃ (it:Addr) (fp:List Addr) (tn:Nat->Heap->Prop) (J:It) (H':Hp),itv=.ref it/\Inv X pins σ H' s2/\Turn X.prog X.w X.K tg J fp it tn/\tn 0 s2.heap/\(∀ b ∈ fp,FpOk X pins H' b)/\R J H'
noncomputable def PI(X:Cx)(tg iter:Expr)(wi:TI):Prop:=
 ∀ (pins:List (Addr × Obj)) (s:Shared) (σ:St) (H:Hp) (R:It->Hp->Prop),Inv X pins σ H s->wi σ H R->
  wpAny (model X.prog X.w) X.A (eval iter X.env) (fun v s1=>wpAny (model X.prog X.w) X.A (pyIter v) (PIE X pins σ tg R) X.xe s1) X.xe s

theorem go_of{s:Shared}{o:Obj}{Q:Unit->Shared->Prop}(ho:s.heap.get? it=some o)(hc:o.cls=.type n)(hd:o.data=.fields vs)(hn:["enumerate","zip","dict_itemiterator","dict_reverseitemiterator","odict_iterator","itertools.zip_longest","itertools.pairwise"].contains n=false)(hQ:Q () s):wpAny M A (letOwnedTupleGo tg (.ref it) u) Q E s:=by
 unfold letOwnedTupleGo
 cases tg<;>first
  | exact wpAny_pure hQ
  | (cases u<;>first
   | exact wpAny_pure hQ
   | (
    refine wpAny_bind (wpAny_load ho ?_)
    rw [hc,hd]
    show wpAny M A (if (["enumerate","zip","dict_itemiterator","dict_reverseitemiterator","odict_iterator","itertools.zip_longest","itertools.pairwise"].contains n && vs[0]? == some (rawInt _))=true then _ else _) Q E s
    rw [if_neg (by intro h;rw [hn,Bool.false_and] at h;cases h)]
    exact wpAny_pure hQ))
noncomputable def Itl(K:PySem.W.Frag)(a:Addr):It:=
 ⟨fun i H=>∃ xs x,SqL K H a xs/\xs[i]?=some x,fun i H x H'=>H'=H/\∀ xs,SqL K H a xs->xs[i]?=some x,fun i H=>∃ xs,SqL K H a xs/\xs.length≤i⟩
noncomputable def Itt(K:PySem.W.Frag)(a:Addr):It:=
 ⟨fun i H=>∃ xs x,SqT K H a xs/\xs[i]?=some x,fun i H x H'=>H'=H/\∀ xs,SqT K H a xs->xs[i]?=some x,fun i H=>∃ xs,SqT K H a xs/\xs.length≤i⟩
noncomputable def Itr(lo:Int)(n:Nat):It:=⟨fun i _=>i<n,fun i H x H'=>H'=H/\x=.int (lo+i),fun i _=>n≤i⟩
theorem turn_list{P:Program}{w:World}{K:PySem.W.Frag}{tg:Expr}(a it:Addr):Turn P w K tg (Itl K a) [it] it (fun i h=>h.IsListIter it a i) where
 mem:=by simp
 obj:=fun i h st b hb=>by
  have e:b=it:=by simpa using hb
  subst e
  obtain ⟨o,e,c,d⟩:=st
  exact ⟨o,e,fun v z=>by rw [d] at z;cases z⟩
 keep:=fun i h h' st k=>st.at fun o e=>k it (by simp) o e
 item:=by
  intro X hP hw hK hc i pins s σ H E I hf st hg
  subst hP hw hK
  obtain ⟨xs,x,hq,hx⟩:=hg
  obtain ⟨its,rv,p,hz⟩:=I.list hq
  obtain ⟨u,hu,ru⟩:=rv.get hx
  obtain ⟨f0,f1,f2,f3,f4,f5⟩:=hf it (by simp)
  refine wpAny_pyNext_list_item st p.isList (x:=u) (by simpa using hu) fun h' st' sb=>?_
  have I1:Inv X pins σ H { s with heap:=h' }:=I.turned (t':=s.toks) (fun b o hb e=>(sb.2 b hb).trans e) f0 f1 f3 f4 f5
  obtain ⟨o,e,c,d⟩:=id st'
  exact ⟨u,rfl,go_of (s:={ s with heap:=h' }) e c d (by decide) ⟨x,H,I1,ru,⟨rfl,fun ys hy=>by rw [I.list_inj hy hq];exact hx⟩,st',fun b hb=>(hf b hb).1⟩⟩
 done:=by
  intro X hP hw hK hc i pins s σ H E I hf st hg
  subst hP hw hK
  obtain ⟨xs,hq,hx⟩:=hg
  obtain ⟨its,rv,p,hz⟩:=I.list hq
  obtain ⟨f0,f1,f2,f3,f4,f5⟩:=hf it (by simp)
  have hl:=rv.length
  exact wpAny_pyNext_list_end (I.ok.hd hc) st p.isList (by simp;omega) fun h' eb=>⟨rfl,I.turned (t':=s.toks) (fun b o hb e=>eb b o hb e) f0 f1 f3 f4 f5⟩
 self:=fun _ _ _ _ _ st h=>wpAny_pyIter_listiter st h
theorem turn_tuple{P:Program}{w:World}{K:PySem.W.Frag}{tg:Expr}(a it:Addr):Turn P w K tg (Itt K a) [it] it (fun i h=>h.IsTupleIter it a i) where
 mem:=by simp
 obj:=fun i h st b hb=>by
  have e:b=it:=by simpa using hb
  subst e
  obtain ⟨o,e,c,d⟩:=st
  exact ⟨o,e,fun v z=>by rw [d] at z;cases z⟩
 keep:=fun i h h' st k=>st.at fun o e=>k it (by simp) o e
 item:=by
  intro X hP hw hK hc i pins s σ H E I hf st hg
  subst hP hw hK
  obtain ⟨xs,x,hq,hx⟩:=hg
  obtain ⟨its,rv,p,hz⟩:=I.tuple hq
  obtain ⟨u,hu,ru⟩:=rv.get hx
  obtain ⟨f0,f1,f2,f3,f4,f5⟩:=hf it (by simp)
  refine wpAny_pyNext_tuple_item st (show s.heap.IsTuple a its.toArray from p) (x:=u) (by simpa using hu) fun h' st' sb=>?_
  have I1:Inv X pins σ H { s with heap:=h' }:=I.turned (t':=s.toks) (fun b o hb e=>(sb.2 b hb).trans e) f0 f1 f3 f4 f5
  obtain ⟨o,e,c,d⟩:=id st'
  exact ⟨u,rfl,go_of (s:={ s with heap:=h' }) e c d (by decide) ⟨x,H,I1,ru,⟨rfl,fun ys hy=>by rw [I.tuple_inj hy hq];exact hx⟩,st',fun b hb=>(hf b hb).1⟩⟩
 done:=by
  intro X hP hw hK hc i pins s σ H E I hf st hg
  subst hP hw hK
  obtain ⟨xs,hq,hx⟩:=hg
  obtain ⟨its,rv,p,hz⟩:=I.tuple hq
  obtain ⟨f0,f1,f2,f3,f4,f5⟩:=hf it (by simp)
  have hl:=rv.length
  exact wpAny_pyNext_tuple_end (I.ok.hd hc) st (show s.heap.IsTuple a its.toArray from p) (by simp;omega) fun h' eb=>⟨rfl,I.turned (t':=s.toks) (fun b o hb e=>eb b o hb e) f0 f1 f3 f4 f5⟩
 self:=fun _ _ _ _ _ st h=>wpAny_pyIter_tupleiter st h
theorem turn_range{P:Program}{w:World}{K:PySem.W.Frag}{tg:Expr}(it:Addr)(lo:Int)(n:Nat):Turn P w K tg (Itr lo n) [it] it (fun i h=>IsRangeIter h it (lo+(i:Nat) * 1) ((n:Int) - (i:Nat)) 1) where
 mem:=by simp
 obj:=fun i h st b hb=>by
  have e:b=it:=by simpa using hb
  subst e
  exact ⟨_,st,fun v z=>by
   have z':Data.fields _=Data.cell v:=z
   cases z'⟩
 keep:=fun i h h' st k=>k it (by simp) _ st
 item:=by
  intro X hP hw hK hc i pins s σ H E I hf st hg
  subst hP hw hK
  obtain ⟨f0,f1,f2,f3,f4,f5⟩:=hf it (by simp)
  have W:=Walks.range (prog:=X.prog) (w:=X.w) (I.ok.hd hc) it lo 1 n
  refine W.item i s _ _ hg st fun v h' tk hv st' kk=>?_
  obtain ⟨t,rfl⟩:=hv
  have I1:Inv X pins σ H { s with heap:=h',toks:=tk }:=I.turned (fun b o hb e=>kk b o (by simpa using hb) e) f0 f1 f3 f4 f5
  refine ⟨_,rfl,go_of (s:={ s with heap:=h',toks:=tk }) (n:="range_iterator") st' rfl rfl (by decide) ⟨.int (lo+i),H,I1,⟨t,?_⟩,⟨rfl,rfl⟩,st',fun b hb=>(hf b hb).1⟩⟩
  rw [Int.mul_one]
 done:=by
  intro X hP hw hK hc i pins s σ H E I hf st hg
  subst hP hw hK
  obtain ⟨f0,f1,f2,f3,f4,f5⟩:=hf it (by simp)
  exact wpAny_pyNext_range_end (I.ok.hd hc) st (by have:n≤i:=hg;omega) fun h' eb=>⟨rfl,I.turned (t':=s.toks) (fun b o hb e=>eb b o hb e) f0 f1 f3 f4 f5⟩
 self:=fun _ _ _ _ _ st h=>wpAny_pyIter_rangeiter st h
end L2
namespace L2
open PySem PySem.Spec PyProof.Rows
section
variable {X:Cx} {tg:Expr}
noncomputable def iList(K:PySem.W.Frag)(tl:TE):TI:=fun σ H R=>tl σ H fun x H1=>∃ a,x=.ref a/\(∃ xs,SqL K H1 a xs)/\R (Itl K a) H1
noncomputable def iTup(K:PySem.W.Frag)(tl:TE):TI:=fun σ H R=>tl σ H fun x H1=>∃ a,x=.ref a/\(∃ xs,SqT K H1 a xs)/\R (Itt K a) H1
theorem pi_list{l:Expr}{tl:TE}(hl:PE X l tl):PI X tg l (iList X.K tl):=by
 intro pins s σ H R I h
 refine thn (hl pins s σ H _ I h) fun v s1 ⟨x,H1,I1,r1,q1⟩=>?_
 obtain ⟨a,e,⟨xs,hq⟩,q⟩:=q1
 subst e
 cases r1
 obtain ⟨its,rv,p,hz⟩:=I1.list hq
 refine wpAny_pyIter_list p.isList ?_
 refine ⟨s1.heap.objs.size,[s1.heap.objs.size],_,_,H1,rfl,I1.kept (t':=s1.toks) fun b o e=>Heap.get?_push_of_some _ e,turn_list a _,⟨_,Heap.get?_push_size _ rfl,rfl,rfl⟩,fun b hb=>?_,q⟩
 have e:b=s1.heap.objs.size:=by simpa using hb
 subst e
 exact I1.fpOk (Nat.le_refl _) (I1.hok.fresh (Nat.le_refl _))
theorem pi_tup{l:Expr}{tl:TE}(hl:PE X l tl):PI X tg l (iTup X.K tl):=by
 intro pins s σ H R I h
 refine thn (hl pins s σ H _ I h) fun v s1 ⟨x,H1,I1,r1,q1⟩=>?_
 obtain ⟨a,e,⟨xs,hq⟩,q⟩:=q1
 subst e
 cases r1
 obtain ⟨its,rv,p,hz⟩:=I1.tuple hq
 refine wpAny_pyIter_tuple (show s1.heap.IsTuple a its.toArray from p) ?_
 refine ⟨s1.heap.objs.size,[s1.heap.objs.size],_,_,H1,rfl,I1.kept (t':=s1.toks) fun b o e=>Heap.get?_push_of_some _ e,turn_tuple a _,⟨_,Heap.get?_push_size _ rfl,rfl,rfl⟩,fun b hb=>?_,q⟩
 have e:b=s1.heap.objs.size:=by simpa using hb
 subst e
 exact I1.fpOk (Nat.le_refl _) (I1.hok.fresh (Nat.le_refl _))
theorem range_it{pins:List (Addr × Obj)}{σ:St}{H:Hp}{s:Shared}{R:It->Hp->Prop}{E:Value->Shared->Prop}{lo hi:Int}{t u v:Tok}{tk:Nat}(I:Inv X pins σ H s)(h1 : -(2 ^ 62)≤lo)(h2:lo<2 ^ 62)(h3 : -(2 ^ 62)≤hi)(h4:hi<2 ^ 62)
  (q:R (Itr lo (hi - lo).toNat) H):wpAny (model X.prog X.w) X.A (pyIter (.ref s.heap.objs.size)) (PIE X pins σ tg R) E { s with heap:=s.heap.push { cls:=.type "range",data:=.fields #[.int lo t,.int hi u,.int 1 v] },toks:=tk }:=by
 refine wpAny_pyIter_range (IsRange.new ..) (small_one h1 h2 h3 h4) ?_
 have I1:Inv X pins σ H { s with heap:=s.heap.push { cls:=.type "range",data:=.fields #[.int lo t,.int hi u,.int 1 v] },toks:=tk }:=I.kept fun b o e=>Heap.get?_push_of_some _ e
 refine ⟨(s.heap.push { cls:=.type "range",data:=.fields #[.int lo t,.int hi u,.int 1 v] }).objs.size,[(s.heap.push { cls:=.type "range",data:=.fields #[.int lo t,.int hi u,.int 1 v] }).objs.size],_,_,H,rfl,
  I1.kept (t':=tk) fun b o e=>Heap.get?_push_of_some _ e,turn_range _ lo (hi - lo).toNat,?_,fun b hb=>?_,q⟩
 ·have e1:lo+((0:Nat):Int) * 1=lo:=by simp
  have e2:(((hi - lo).toNat:Nat):Int) - ((0:Nat):Int)=Builtin.Range.rangeSize lo hi 1:=by rw [rangeSize_one];split<;>omega
  show IsRangeIter _ _ (lo+((0:Nat):Int) * 1) ((((hi - lo).toNat:Nat):Int) - ((0:Nat):Int)) 1
  rw [e1,e2]
  exact Heap.get?_push_size _ rfl
 ·have e:b=(s.heap.push { cls:=.type "range",data:=.fields #[.int lo t,.int hi u,.int 1 v] }).objs.size:=by simpa using hb
  subst e
  exact I1.fpOk (Nat.le_refl _) (I1.hok.fresh (Nat.le_refl _))
noncomputable def iRng1(ta:TA):TI:=fun σ H R=>ta σ H fun vs H1=>∃ j:Int,vs=[.int j]/\-(2 ^ 62)≤j/\j<2 ^ 62/\R (Itr 0 j.toNat) H1
theorem pi_range1{a:Expr}{ta:TA}{p pos:Pos}(hg:Gl X "range")(hm:X.mg "range"=none)(ha:PA X [a] ta)(hs:starEach [a] X.env=[(false,eval a X.env)]:=by rfl):PI X tg (.Call (.Name "range" p) [a] [] pos) (iRng1 ta):=by
 intro pins s σ H R I h
 refine Call_ (ld_blt I hg hm boot_range (PyProof.Rows.callWith_type1 (thn (ha pos pins s σ H _ I h) fun us s1 ⟨vs,H1,I1,r1,q1⟩=>?_) hs rfl))
 obtain ⟨j,e,q1,q2,q⟩:=q1
 subst e
 cases r1 with
 | cons r rr=>
  cases rr
  obtain ⟨t,rfl⟩:=r
  exact call_range_1 (range_it I1 (by omega) (by omega) q1 q2 (by simpa using q))
noncomputable def tFor(wi:TI)(g:TG)(tb:TS):TS:=fun D σ H=>wi σ H fun J H1=>∃ W:Nat->Nat->St->Hp->Prop,(∃ m,W 0 m σ H1)/\∀ i m σ H,W i m σ H->
 (J.stop i H/\D.nx σ H)∨(J.go i H/\∃ N:St->Hp->Prop,(∀ σ' H',N σ' H'->∃ m',m'<m/\W (i+1) m' σ' H')/\∀ x H',J.yld i H x H'->g x σ H' fun σ2 H2=>tb { D with nx:=N,ct:=N,bk:=D.nx } σ2 H2)
noncomputable def pinsAt(fp:List Addr)(h:Heap):List (Addr × Obj):=fp.filterMap fun b=>(h.get? b).map fun o=>(b,o)
theorem mem_pinsAt{h:Heap}(hb:b ∈ fp)(e:h.get? b=some o):(b,o) ∈ pinsAt fp h:=List.mem_filterMap.mpr ⟨b,hb,by rw [e];rfl⟩
theorem of_pinsAt{h:Heap}{p:Addr × Obj}(hp:p ∈ pinsAt fp h):p.1 ∈ fp/\h.get? p.1=some p.2:=by
 obtain ⟨b,hb,e⟩:=List.mem_filterMap.mp hp
 cases q:h.get? b with
 | none=>rw [q] at e;cases e
 | some o=>
  rw [q] at e
  have e':(b,o)=p:=Option.some.inj e
  subst e'
  exact ⟨hb,q⟩
theorem Inv.pinned{s:Shared}(I:Inv X pins σ H s)(hf:∀ b ∈ fp,FpOk X pins H b)(ho:∀ b ∈ fp,∃ o,s.heap.get? b=some o/\∀ v,o.data≠.cell v):Inv X (pins++pinsAt fp s.heap) σ H s:=
 I.pins_of fun p hp=>(List.mem_append.mp hp).elim (fun z=>I.pin p (List.mem_append_right _ z)) fun z=>by
  obtain ⟨hb,e⟩:=of_pinsAt z
  obtain ⟨f0,f1,f2,_⟩:=hf p.1 hb
  obtain ⟨o,e',d⟩:=ho p.1 hb
  rw [e] at e';cases e'
  exact ⟨e,f0,f1,f2,d⟩
theorem Inv.unpinned(I:Inv X (pins++pl) σ H s):Inv X pins σ H s:=I.pins_of fun p hp=>I.pin p (List.mem_append_right _ (List.mem_append_left _ hp))
theorem ps_for{iter:Expr}{body:List Stmt}{wi:TI}{g:TG}{tb:TS}{pos:Pos}(hp:PassesOwn (model X.prog X.w) X.A X.env X.xe)(hc:X.calm=true)(hi:PI X tg iter wi)(hg:PG X tg g)(hb:PSs X body tb)
  (hs:∀ x,foldedSetIterable iter X.env x=pure x:=by intro _;rfl):PS X (.For tg iter body [] pos) (tFor wi g tb):=by
 intro pins s σ H D I h
 refine wpAny_For (thn (hi pins s σ H _ I h) fun v s1 h1=>thn h1 fun itv s2 h2=>?_) hs
 obtain ⟨it,fp,tn,J,H2,e,I2,T,st2,f2,W,⟨m0,w0⟩,turn⟩:=h2
 subst e
 -- what stays true of the iterator's objects through the loop
 have stat:∀ {H':Hp},(∀ b ∈ fp,H' b=none)->∀ b ∈ fp,FpOk X pins H' b:=fun hn b hb=>⟨hn b hb,(f2 b hb).2⟩
 refine codeAny_forLoop_any (fun n s'=>∃ i σ' H',Inv X pins σ' H' s'/\tn i s'.heap/\(∀ b ∈ fp,H' b=none)/\W i n σ' H') ?_ m0 ⟨0,σ,H2,I2,st2,fun b hb=>(f2 b hb).1,w0⟩
 rintro n s3 ⟨i,σ3,H3,I3,st3,fr3,w3⟩
 rcases turn i n σ3 H3 w3 with ⟨stop,qn⟩ | ⟨go,N,hN,step⟩
 ·refine wpAny_passesOwn hp (thn (T.done X rfl rfl rfl hc i pins s3 σ3 H3 X.xe I3 (stat fr3) st3 stop) fun r s4 ⟨hr,I4⟩=>?_)
  subst hr
  exact wpAny_execs_nil ⟨σ3,H3,I4,qn⟩
 ·refine wpAny_passesOwn hp (thn (T.item X rfl rfl rfl hc i pins s3 σ3 H3 X.xe I3 (stat fr3) st3 go) fun r s4 ⟨u,hr,h4⟩=>?_)
  subst hr
  refine wpAny_passesOwn hp (thn h4 fun _ s5 hq_=>?_)
  obtain ⟨x,H5,I5,r5,y5,st5,fr5⟩:=hq_
  have I5':=I5.pinned (stat fr5) (T.obj _ _ st5)
  refine wpAny_passesOwn hp (thn (hg _ s5 σ3 H5 x u _ I5' r5 (step x H5 y5)) fun _ s6 hq_=>?_)
  obtain ⟨σ6,H6,I6,q6⟩:=hq_
  refine wpAny_passesOwn hp (thn (hb _ s6 σ6 H6 _ I6 q6) fun f s7 q7=>?_)
  have again:∀ {σ7:St} {H7:Hp},Inv X (pins++pinsAt fp s5.heap) σ7 H7 s7->N σ7 H7->∃ m,m<n/\∃ i σ' H',Inv X pins σ' H' s7/\tn i s7.heap/\(∀ b ∈ fp,H' b=none)/\W i m σ' H':=fun {σ7 H7} I7 n7=>by
   obtain ⟨m',hm,w7⟩:=hN σ7 H7 n7
   refine ⟨m',hm,i+1,σ7,H7,I7.unpinned,T.keep _ _ _ st5 fun b hb o e=>(I7.pin (b,o) (List.mem_append_right _ (List.mem_append_right _ (mem_pinsAt hb e)))).1,fun b hb=>?_,w7⟩
   obtain ⟨o,e,d⟩:=T.obj _ _ st5 b hb
   exact (I7.pin (b,o) (List.mem_append_right _ (List.mem_append_right _ (mem_pinsAt hb e)))).2.1
  cases f with
  | next=>obtain ⟨σ7,H7,I7,n7⟩:=q7;exact again I7 n7
  | cont=>obtain ⟨σ7,H7,I7,n7⟩:=q7;exact again I7 n7
  | brk=>obtain ⟨σ7,H7,I7,q7⟩:=q7;exact ⟨σ7,H7,I7.unpinned,q7⟩
  | ret v=>obtain ⟨x7,σ7,H7,I7,r7,q7⟩:=q7;exact ⟨x7,σ7,H7,I7.unpinned,r7,q7⟩
end
end L2
namespace L2
open PySem PySem.Spec PyProof.Rows
noncomputable abbrev R2:=V->V->Hp->VK->Prop
noncomputable def OpR(X:Cx)(f:Value->Value->Sem Value)(r:R2):Prop:=
 ∀ (pins:List (Addr × Obj)) (s:Shared) (σ:St) (H:Hp) (x y:V) (v u:Value) (Q:VK),Inv X pins σ H s->RelV x v->RelV y u->r x y H Q->
  wpAny (model X.prog X.w) X.A (f v u) (EP X pins σ Q) X.xe s
noncomputable def UnR(X:Cx)(f:Value->Sem Value)(r:V->Hp->VK->Prop):Prop:=
 ∀ (pins:List (Addr × Obj)) (s:Shared) (σ:St) (H:Hp) (x:V) (v:Value) (Q:VK),Inv X pins σ H s->RelV x v->r x H Q->
  wpAny (model X.prog X.w) X.A (f v) (EP X pins σ Q) X.xe s
noncomputable def CallR(X:Cx)(f:Value)(r:List V->Hp->VK->Prop):Prop:=
 ∀ (pins:List (Addr × Obj)) (s:Shared) (σ:St) (H:Hp) (xs:List V) (us:List Value) (Q:VK),Inv X pins σ H s->Vals xs us->r xs H Q->
  wpAny (model X.prog X.w) X.A (call f us) (EP X pins σ Q) X.xe s
noncomputable def TruR(X:Cx)(r:V->Hp->(Bool->Hp->Prop)->Prop):Prop:=
 ∀ (pins:List (Addr × Obj)) (s:Shared) (σ:St) (H:Hp) (x:V) (v:Value) (Q:Bool->Hp->Prop),Inv X pins σ H s->RelV x v->r x H Q->
  wpAny (model X.prog X.w) X.A (truthy v) (TP X pins σ Q) X.xe s

noncomputable def tOp(r:R2)(ta tb:TE):TE:=fun σ H Q=>ta σ H fun x H1=>tb σ H1 fun y H2=>r x y H2 Q
noncomputable def tUn(r:V->Hp->VK->Prop)(ta:TE):TE:=fun σ H Q=>ta σ H fun x H1=>r x H1 Q
noncomputable def rI(C:Int->Int->Prop)(g:Int->Int->V):R2:=fun x y H Q=>∃ i j,x=.int i/\y=.int j/\C i j/\Q (g i j) H
noncomputable def rI0(g:Int->Int->V):R2:=fun x y H Q=>∃ i j,x=.int i/\y=.int j/\Q (g i j) H
noncomputable def rU(g:Int->V):V->Hp->VK->Prop:=fun x H Q=>∃ i,x=.int i/\Q (g i) H

section
variable {X:Cx} {a b c:Expr} {ta tb tc:TE} {pos:Pos}
theorem binT(ha:PE X a ta)(hb:PE X b tb){pins:List (Addr × Obj)}{s:Shared}{σ:St}{H:Hp}{R:V->V->Hp->Prop}(I:Inv X pins σ H s)
  (h:ta σ H fun x H1=>tb σ H1 fun y H2=>R x y H2){Q:Value->Shared->Prop}{f:Value->Value->Sem Value}
  (hf:∀ v u s2 x y H2,Inv X pins σ H2 s2->RelV x v->RelV y u->R x y H2->wpAny (model X.prog X.w) X.A (f v u) Q X.xe s2):
  wpAny (model X.prog X.w) X.A (eval a X.env) (fun v s₁=>wpAny (model X.prog X.w) X.A (eval b X.env) (fun u s₂=>wpAny (model X.prog X.w) X.A (f v u) Q X.xe s₂) X.xe s₁) X.xe s:=by
 refine thn (ha pins s σ H _ I h) fun v s1 ⟨x,H1,I1,r1,q1⟩=>?_
 refine thn (hb pins s1 σ H1 _ I1 q1) fun u s2 ⟨y,H2,I2,r2,q2⟩=>?_
 exact hf v u s2 x y H2 I2 r1 r2 q2

theorem pe_op(ho:OpR X (binaryOp op) r)(ha:PE X a ta)(hb:PE X b tb):PE X (.BinOp a op b pos) (tOp r ta tb):=by
 intro pins s σ H Q I h
 exact wpAny_BinOp (binT ha hb I h fun v u s2 x y H2 I2 rx ry q=>ho pins s2 σ H2 x y v u Q I2 rx ry q)
theorem pe_un{op:UnaryOp}{r:V->Hp->VK->Prop}(ho:UnR X (unaryOp op) r)(ha:PE X a ta):PE X (.UnaryOp op a pos) (tUn r ta):=by
 intro pins s σ H Q I h
 exact UnaryOp_ (thn (ha pins s σ H _ I h) fun v s1 ⟨x,H1,I1,r1,q1⟩=>ho pins s1 σ H1 x v Q I1 r1 q1)
theorem opI{f:Value->Value->Sem Value}{C:Int->Int->Prop}{g:Int->Int->Int}
  (rule:∀ (i j:Int) (t u:Tok) (s:Shared) (Q:Value->Shared->Prop) (E:Value->Shared->Prop),C i j->Q (.int (g i j) s.toks) { s with toks:=s.toks+1 }->wpAny (model X.prog X.w) X.A (f (.int i t) (.int j u)) Q E s):
  OpR X f (rI C fun i j=>.int (g i j)):=by
 intro pins s σ H x y v u Q I rx ry h
 obtain ⟨i,j,rfl,rfl,hc,q⟩:=h
 obtain ⟨t,rfl⟩:=rx
 obtain ⟨t',rfl⟩:=ry
 exact rule i j t t' s _ _ hc ⟨.int (g i j),H,I.tok _,⟨_,rfl⟩,q⟩
theorem opI0{f:Value->Value->Sem Value}{g:Int->Int->Int}
  (rule:∀ (i j:Int) (t u:Tok) (s:Shared) (Q:Value->Shared->Prop) (E:Value->Shared->Prop),Q (.int (g i j) s.toks) { s with toks:=s.toks+1 }->wpAny (model X.prog X.w) X.A (f (.int i t) (.int j u)) Q E s):
  OpR X f (rI0 fun i j=>.int (g i j)):=by
 intro pins s σ H x y v u Q I rx ry h
 obtain ⟨i,j,rfl,rfl,q⟩:=h
 obtain ⟨t,rfl⟩:=rx
 obtain ⟨t',rfl⟩:=ry
 exact rule i j t t' s _ _ ⟨.int (g i j),H,I.tok _,⟨_,rfl⟩,q⟩
theorem opB0{f:Value->Value->Sem Value}{g:Int->Int->Bool}
  (rule:∀ (i j:Int) (t u:Tok) (s:Shared) (Q:Value->Shared->Prop) (E:Value->Shared->Prop),Q (.bool (g i j)) s->wpAny (model X.prog X.w) X.A (f (.int i t) (.int j u)) Q E s):
  OpR X f (rI0 fun i j=>.bl (g i j)):=by
 intro pins s σ H x y v u Q I rx ry h
 obtain ⟨i,j,rfl,rfl,q⟩:=h
 obtain ⟨t,rfl⟩:=rx
 obtain ⟨t',rfl⟩:=ry
 exact rule i j t t' s _ _ ⟨.bl (g i j),H,I,rfl,q⟩

noncomputable def CDiv(i j:Int):Prop:=0<j/\j<1073741824
noncomputable def CPow(i j:Int):Prop:=0≤j/\j≤1000000/\i.natAbs<2 ^ 64
noncomputable def CMul(i j:Int):Prop:=(-(2 ^ 64)<i/\i<2 ^ 64)∨(-(2 ^ 64)<j/\j<2 ^ 64)
theorem CMul.ok(h:CMul i j):IntMulOk i j:=by
 rcases h with ⟨h1,h2⟩ | ⟨h1,h2⟩
 ·exact .of_left (intBits_le_64 h1 h2)
 ·exact .of_right (intBits_le_64 h1 h2)
theorem op_add:OpR X (binaryOp .Add) (rI0 fun i j=>.int (i+j)):=opI0 fun _ _ _ _ _ _ _ q=>add_int q
theorem op_sub:OpR X (binaryOp .Sub) (rI0 fun i j=>.int (i - j)):=opI0 fun _ _ _ _ _ _ _ q=>sub_int q
theorem op_fdiv:OpR X (binaryOp .FloorDiv) (rI CDiv fun i j=>.int (i / j)):=opI fun i j _ _ _ _ _ hc q=>by
 have h1:(0:Int)<j:=hc.1
 have h2:j<1073741824:=hc.2
 exact floordiv_int (by omega) (by rw [Int.fdiv_eq_ediv_of_nonneg i (by omega)];exact q) (.inl (PyProof.noPylong_small (by omega)))
theorem op_mod:OpR X (binaryOp .Mod) (rI (fun _ j=>0<j) fun i j=>.int (i % j)):=opI fun i j _ _ _ _ _ hc q=>by
 have h1:(0:Int)<j:=hc
 exact mod_int' (by omega) (by rw [Int.fmod_eq_emod_of_nonneg i (by omega)];exact q)
theorem op_pow:OpR X (binaryOp .Pow) (rI CPow fun i j=>.int (i ^ j.toNat)):=opI fun _ _ _ _ _ _ _ hc q=>pow_int_small hc.1 hc.2.1 hc.2.2 q
theorem unI{f:Value->Sem Value}{g:Int->Int}
  (rule:∀ (i:Int) (t:Tok) (s:Shared) (Q:Value->Shared->Prop) (E:Value->Shared->Prop),Q (.int (g i) s.toks) { s with toks:=s.toks+1 }->wpAny (model X.prog X.w) X.A (f (.int i t)) Q E s):
  UnR X f (rU fun i=>.int (g i)):=by
 intro pins s σ H x v Q I rx h
 obtain ⟨i,rfl,q⟩:=h
 obtain ⟨t,rfl⟩:=rx
 exact rule i t s _ _ ⟨.int (g i),H,I.tok _,⟨_,rfl⟩,q⟩
theorem un_neg:UnR X (unaryOp .USub) (rU fun i=>.int (-i)):=unI fun _ _ _ _ _ q=>neg_int q
end
section
variable {X:Cx} {a b c:Expr} {ta tb tc:TE} {pos:Pos}
theorem op_lt:OpR X (compareOp .Lt) (rI0 fun i j=>.bl (decide (i<j))):=opB0 fun _ _ _ _ _ _ _ q=>lt_int q
theorem op_le:OpR X (compareOp .LtE) (rI0 fun i j=>.bl (decide (i≤j))):=opB0 fun _ _ _ _ _ _ _ q=>le_int q
theorem op_gt:OpR X (compareOp .Gt) (rI0 fun i j=>.bl (decide (j<i))):=opB0 fun _ _ _ _ _ _ _ q=>gt_int q
theorem op_ge:OpR X (compareOp .GtE) (rI0 fun i j=>.bl (decide (j≤i))):=opB0 fun _ _ _ _ _ _ _ q=>ge_int q
theorem OpR.or{r r':R2}(h:OpR X f r)(h':OpR X f r'):OpR X f (fun x y H Q=>r x y H Q∨r' x y H Q):=by
 intro pins s σ H x y v u Q I rx ry q
 rcases q with q | q
 ·exact h pins s σ H x y v u Q I rx ry q
 ·exact h' pins s σ H x y v u Q I rx ry q

theorem nomark(b:Expr)(h:op≠.In:=by decide)(h2:op≠.NotIn:=by decide):behindInMarks op b=false:=by
 have e1:(op == CmpOp.In)=false:=by cases op<;>first | rfl | exact absurd rfl h
 have e2:(op == CmpOp.NotIn)=false:=by cases op<;>first | rfl | exact absurd rfl h2
 cases b<;>simp [behindInMarks,e1,e2]
theorem pe_cmpR(ho:OpR X (compareOp op) r)(ha:PE X a ta)(hb:PE X b tb)(hm:behindInMarks op b=false):PE X (.Compare a [op] [b] pos) (tOp r ta tb):=by
 intro pins s σ H Q I h
 exact wpAny_Compare1 (binT ha hb I h fun v u s2 x y H2 I2 rx ry q=>ho pins s2 σ H2 x y v u Q I2 rx ry q) hm
noncomputable def tTest(t:TE):TT:=fun σ H Q=>t σ H fun x H'=>∃ k,x=.bl k/\Q k H'
theorem pt_cmpR{op:CmpOp}{r:R2}(ho:OpR X (compareOp op) r)(ha:PE X a ta)(hb:PE X b tb)(hm:behindInMarks op b=false):PT X (.Compare a [op] [b] pos) (tTest (tOp r ta tb)):=by
 intro pins s σ H Q I h
 refine wpAny_isTrue_Compare1 (thn (ha pins s σ H _ I h) fun v s1 ⟨x,H1,I1,r1,q1⟩=>thn (hb pins s1 σ H1 _ I1 q1) fun u s2 ⟨y,H2,I2,r2,q2⟩=>
  thn (ho pins s2 σ H2 x y v u _ I2 r1 r2 q2) fun c s3 ⟨z,H3,I3,r3,k,e,q3⟩=>?_) hm
 subst e
 cases r3
 exact wpAny_truthy_bool ⟨H3,I3,q3⟩
noncomputable def tChain(r r':R2)(ta tb tc:TE):TE:=fun σ H Q=>ta σ H fun x H1=>tb σ H1 fun y H2=>r x y H2 fun z H3=>∃ k,z=.bl k/\
 (if k=true then tc σ H3 fun w' H4=>r' y w' H4 Q else Q (.bl false) H3)
theorem pe_chain{op op':CmpOp}{r r':R2}(ho:OpR X (compareOp op) r)(ho':OpR X (compareOp op') r')(ha:PE X a ta)(hb:PE X b tb)(hc:PE X c tc)
  (hm:lastMarks [op,op'] [b,c]=false:=by with_unfolding_all rfl):PE X (.Compare a [op,op'] [b,c] pos) (tChain r r' ta tb tc):=by
 intro pins s σ H Q I h
 refine Compare_chain (thn (ha pins s σ H _ I h) fun v s1 ⟨x,H1,I1,r1,q1⟩=>chain_link (thn (hb pins s1 σ H1 _ I1 q1) fun u s2 ⟨y,H2,I2,r2,q2⟩=>
  thn (ho pins s2 σ H2 x y v u _ I2 r1 r2 q2) fun d s3 ⟨z,H3,I3,r3,k,e,q3⟩=>?_)) hm
 subst e
 cases r3
 refine wpAny_truthy_bool ?_
 cases k with
 | false=>exact ite_ff ⟨.bl false,H3,I3,rfl,q3⟩
 | true=>exact ite_tt (chain_last (thn (hc pins s3 σ H3 _ I3 q3) fun w' s4 ⟨z',H4,I4,r4,q4⟩=>ho' pins s4 σ H4 y z' u w' Q I4 r2 r4 q4))
theorem pt_chain{op op':CmpOp}{r r':R2}(ho:OpR X (compareOp op) r)(ho':OpR X (compareOp op') r')(ha:PE X a ta)(hb:PE X b tb)(hc:PE X c tc)
  (hm:lastMarks [op,op'] [b,c]=false:=by with_unfolding_all rfl):PT X (.Compare a [op,op'] [b,c] pos) (tTest (tChain r r' ta tb tc)):=by
 intro pins s σ H Q I h
 refine isTrue_chain (thn (ha pins s σ H _ I h) fun v s1 ⟨x,H1,I1,r1,q1⟩=>test_link (thn (hb pins s1 σ H1 _ I1 q1) fun u s2 ⟨y,H2,I2,r2,q2⟩=>
  thn (ho pins s2 σ H2 x y v u _ I2 r1 r2 q2) fun d s3 ⟨z,H3,I3,r3,k,e,q3⟩=>?_)) hm
 subst e
 cases r3
 refine wpAny_truthy_bool ?_
 cases k with
 | false=>
  obtain ⟨k',e',q'⟩:=q3
  cases e'
  exact ite_ff ⟨H3,I3,q'⟩
 | true=>
  refine ite_tt (test_last (thn (hc pins s3 σ H3 _ I3 q3) fun w' s4 ⟨z',H4,I4,r4,q4⟩=>thn (ho' pins s4 σ H4 y z' u w' _ I4 r2 r4 q4) fun d' s5 ⟨z2,H5,I5,r5,k2,e2,q5⟩=>?_))
  subst e2
  cases r5
  exact wpAny_truthy_bool ⟨H5,I5,q5⟩

noncomputable def TruV(K:PySem.W.Frag)(x:V)(H:Hp)(k:Bool):Prop:=
 match x with
 | .non=>k=false
 | .bl b=>k=b
 | .int i=>k=(i != 0)
 | .str y=>y.length≤sizeLine/\k=((y.length:Int) != 0)
 | .byt y=>y.size≤sizeLine/\k=((y.size:Int) != 0)
 | .ref p=>(∃ xs,SqL K H p xs/\k=!xs.isEmpty)∨(∃ xs,SqT K H p xs/\k=!xs.isEmpty)∨∃ kvs,H p=some (.dK kvs)/\k=!kvs.isEmpty
 | _=>False
theorem isEmpty_kv{κ:Type}{kvs:List (κ × V)}{vs:List (κ × Value)}(r:KV kvs vs):(!vs.isEmpty)=!kvs.isEmpty:=by
 cases r<;>rfl
theorem isEmpty_of{xs:List V}{its:List Value}(r:Vals xs its):(!its.toArray.isEmpty)=!xs.isEmpty:=by
 cases r<;>simp
theorem line63:(sizeLine:Nat)<2 ^ 63:=by rw [sizeLine_eq];decide
theorem tru_ok:TruR X (fun x H Q=>∃ k,TruV X.K x H k/\Q k H):=by
 intro pins s σ H x v Q I rx h
 obtain ⟨k,e,q⟩:=h
 have hl:=line63
 have hs:sizeLine=16777216:=sizeLine_eq
 cases x with
 | non=>
  cases rx
  have e':k=false:=e
  subst e'
  exact truthy_none ⟨H,I,q⟩
 | bl b=>
  cases rx
  have e':k=b:=e
  subst e'
  exact wpAny_truthy_bool ⟨H,I,q⟩
 | int i=>
  obtain ⟨t,rfl⟩:=rx
  have e':k=(i != 0):=e
  subst e'
  exact PySem.P.truthy_int ⟨H,I,q⟩
 | str y=>
  obtain ⟨t,rfl⟩:=rx
  obtain ⟨hy,e'⟩:y.length≤sizeLine/\k=((y.length:Int) != 0):=e
  subst e'
  exact PySem.P.truthy_str (by omega) ⟨H,I.tok _,q⟩
 | byt y=>
  obtain ⟨t,rfl⟩:=rx
  obtain ⟨hy,e'⟩:y.size≤sizeLine/\k=((y.size:Int) != 0):=e
  subst e'
  exact PySem.W.truthy_bytes (by omega) ⟨H,I.tok _,q⟩
 | ref p=>
  cases rx
  have e':(∃ xs,SqL X.K H p xs/\k=!xs.isEmpty)∨(∃ xs,SqT X.K H p xs/\k=!xs.isEmpty)∨∃ kvs,H p=some (.dK kvs)/\k=!kvs.isEmpty:=e
  rcases e' with ⟨xs,hx,e'⟩ | ⟨xs,hx,e'⟩ | ⟨kvs,hx,e'⟩
  ·subst e'
   obtain ⟨its,r,pl,hz⟩:=I.list hx
   have hlen:=r.length
   exact wpAny_truthy_list pl.isList (by simp only [List.size_toArray];omega) ⟨H,I.tok _,by rw [isEmpty_of r];exact q⟩
  ·subst e'
   obtain ⟨its,r,pl,hz⟩:=I.tuple hx
   have hlen:=r.length
   exact truthy_tuple pl (by simp only [List.size_toArray];omega) ⟨H,I.tok _,by rw [isEmpty_of r];exact q⟩
  ·subst e'
   obtain ⟨hz,hS,vs,r,m⟩:kvs.length≤sizeLine/\(p == sysModules)=false/\∃ vs,KV kvs vs/\s.heap.DictOf (mixKind X.prog X.w) p vs:=I.hok p _ hx
   have hlen:kvs.length=vs.length:=Paired.length r
   exact wpAny_truthy_dict hS m (by omega) ⟨H,I.tok _,by rw [isEmpty_kv r];exact q⟩
 | _=>exact (show False from e).elim
theorem pt_truth(ha:PE X a ta)(he:∀ whole,isTrue a X.env whole=(do let v ← whole;standAt a.pos;holding [v] (truthy v))):
  PT X a (fun σ H Q=>ta σ H fun x H'=>∃ k,TruV X.K x H' k/\Q k H'):=by
 intro pins s σ H Q I h
 exact isTrue_plain (thn (ha pins s σ H _ I h) fun v s1 ⟨x,H1,I1,r1,q1⟩=>tru_ok pins s1 σ H1 x v Q I1 r1 q1) (he _)

theorem op_add_str:OpR X (binaryOp .Add) (fun x y H Q=>∃ i j,x=.str i/\y=.str j/\i.length+j.length≤sizeLine/\Q (.str (i++j)) H):=by
 intro pins s σ H x y v u Q I rx ry h
 obtain ⟨i,j,rfl,rfl,hz,q⟩:=h
 obtain ⟨t,rfl⟩:=rx
 obtain ⟨t',rfl⟩:=ry
 exact add_str (fun t' tk=>⟨.str (i++j),H,I.tok _,⟨_,rfl⟩,q⟩) hz
theorem vals1(r:Vals [x] us):∃ u,us=[u]/\RelV x u:=by
 cases r with
 | cons r1 r2=>cases r2;exact ⟨_,rfl,r1⟩
theorem vals2(r:Vals [x,y] us):∃ u w',us=[u,w']/\RelV x u/\RelV y w':=by
 cases r with
 | cons r1 r2=>
  cases r2 with
  | cons r3 r4=>cases r4;exact ⟨_,_,rfl,r1,r3⟩
end
end L2
namespace L2
open PySem PySem.Spec PyProof.Rows
structure ObjM (h:Heap) (x dx C:Addr) (mA:Str->Option Value):Prop where
 obj:h.get? x=some (PySem.W.instObj C dx)
 ns:h.Ns1 dx mA
 ne:dx≠x

section
variable {prog:Program} {w:World} {A:Around} {E:Value->Shared->Prop} {s:Shared} {K:PySem.W.Frag} {x dx C f:Addr} {mA:Str->Option Value} {name:Str} {v:Value}
end
theorem RelO.some_of(r:RelO (some v) o):∃ u,o=some u/\RelV v u:=by
 cases o with
 | none=>exact (show False from r).elim
 | some u=>exact ⟨u,rfl,r⟩
section
variable {P:Program} {w:World} {H H':Hp} {h h':Heap} {a C dx:Addr} {fs fs':List (Str × V)}
end
structure Cls (K:PySem.W.Frag) (C:Addr):Prop where
 pg:PySem.W.plainGet K C Str.empty=true
 hd:PySem.W.hasDictIn K C=true
 po:PySem.W.plainOver K C=true
 sa:PySem.W.findIn K (.ref C) "__setattr__"=some (some (.builtin "object.__setattr__"))
theorem Cls.get{K:PySem.W.Frag}{C:Addr}(c:Cls K C)(f:Str):PySem.W.plainGet K C f=true:=c.pg
structure Con (K:PySem.W.Frag) (C:Addr) (f:Str) (v:V) (u:Value):Prop where
 at_:PySem.W.findIn K (.ref C) f=some (some u)
 rel:RelV v u
 get:PySem.W.specialIn K u "__get__"=some none
 cp:PySem.W.copiedNames.contains f=false
structure Meth (K:PySem.W.Frag) (C:Addr) (m:Str) (f:Addr):Prop where
 at_:PySem.W.findIn K (.ref C) m=some (some (.ref f))
 fn:PySem.W.isFn K (.ref f)=true
 kp:PySem.W.keepIn K (.ref f)=true

section
variable {X:Cx} {pins:List (Addr × Obj)} {σ:St} {H:Hp} {s:Shared} {a C dx:Addr} {fs:List (Str × V)} {f:Str} {v:V} {A:Around} {E:Value->Shared->Prop}
end
section
variable {X:Cx} {o e value:Expr} {f:Str} {pos pos' tpos:Pos} {ta tv:TE}
end
section
variable {X:Cx} {pins:List (Addr × Obj)} {σ:St} {H:Hp} {s:Shared} {A:Around} {E:Value->Shared->Prop} {Q:Value->Shared->Prop} {c:Value} {b:Bool}
inductive TyOf (K:PySem.W.Frag) (H:Hp):V->Value->Prop where
 | non:TyOf K H .non (.type "NoneType")
 | bl (x:Bool):TyOf K H (.bl x) (.type "bool")
 | int (i:Int):TyOf K H (.int i) (.type "int")
 | str (x:Str):TyOf K H (.str x) (.type "str")
 | flt (x:UInt64):TyOf K H (.flt x) (.type "float")
 | lst {a:Addr} {xs:List V} (e:H a=some (.lst xs)):TyOf K H (.ref a) (.type "list")
 | frz {a:Addr} {o:Obj} {xs:List V} (e:H a=some (.frz o (.lst xs))):TyOf K H (.ref a) (.type "list")
 | tup {a:Addr} {xs:List V} (e:H a=some (.tup xs)):TyOf K H (.ref a) (.type "tuple")
 | dK {a:Addr} {kvs:List (Key × V)} (e:H a=some (.dK kvs)):TyOf K H (.ref a) (.type "dict")
 | dT {a:Addr} {kvs:List (List Key × V)} (e:H a=some (.dT kvs)):TyOf K H (.ref a) (.type "dict")
 | ins {a C dx:Addr} {fs:List (Str × V)} (e:H a=some (.ins C dx fs)) (cl:Cls K C) (ha:PySem.W.findIn K (.ref C) "__class__"=some (some (.builtin "object.__class__")))
   (hn:PySem.W.specialIn K (.builtin "object.__class__") "__get__"=some (some (.builtin "getset_descriptor.__get__"))) (htk:PySem.W.takesIn K (.builtin "object.__class__")=some true)
   (hm:PySem.W.mroIn K C (.type "object")=some true):TyOf K H (.ref a) (.ref C)
end
end L2
namespace L2
open PySem PySem.Spec PyProof.Rows
structure Room (k:Nat) (A:Around):Prop where
 hd:A.handled=none
 dp:A.depth+3 * k+5<recursionLimit
 un:A.units+16 * k+200<cLine
theorem Room.mono(r:Room k A)(h:j≤k):Room j A:=⟨r.hd,by have:=r.dp;omega,by have:=r.un;omega⟩
theorem Room.deeper{A:Around}(r:Room (k+1) A)(env:Env):Room k (A.deeper env):=
 ⟨r.hd,by have:=r.dp;show A.depth+1+3 * k+5<_;omega,by have:=r.un;show A.units+3+16 * k+200<_;omega⟩
theorem Room.depth{A:Around}(r:Room k A):A.depth<recursionLimit:=by have:=r.dp;omega
theorem Room.units{A:Around}(r:Room k A):A.units+64<cLine:=by have:=r.un;omega
noncomputable def tNil:TA:=fun _ H Q=>Q [] H
noncomputable def tCons(ta:TE)(tr:TA):TA:=fun σ H Q=>ta σ H fun x H1=>tr σ H1 fun xs H2=>Q (x::xs) H2
section
variable {X:Cx} {e:Expr} {es:List Expr} {te:TE} {t:TA} {pos:Pos}
theorem pa_nil:PA X [] tNil:=fun _ _ _ _ H Q I h=>Calls.spliced_nil ⟨[],H,I,.nil,h⟩
theorem pa_cons(ha:PE X e te)(hr:PA X es t)(hs:starEach (e::es) X.env=(false,eval e X.env)::starEach es X.env:=by rfl):PA X (e::es) (tCons te t):=by
 intro pos pins s σ H Q I h
 rw [hs]
 show wpAny _ _ (spliced ((false,eval e X.env)::backTo pos (starEach es X.env))) _ _ s
 refine Calls.spliced_cons (thn (ha pins s σ H _ I h) fun u s1 hq_=>?_)
 obtain ⟨x,H1,I1,r1,q1⟩:=hq_
 exact thn (hr pos pins s1 σ H1 _ I1 q1) fun us s2 ⟨xs,H2,I2,r2,q2⟩=>⟨x::xs,H2,I2,.cons r1 r2,q2⟩

noncomputable def tTup(t:TA):TE:=fun σ H Q=>t σ H fun xs H1=>xs.length≤sizeLine/\∀ p,H1 p=none->Q (.ref p) (upd H1 p (.tup xs))
noncomputable def tLst(t:TA):TE:=fun σ H Q=>t σ H fun xs H1=>xs.length≤sizeLine/\∀ p,H1 p=none->Q (.ref p) (upd H1 p (.lst xs))
theorem pe_tup{x1}(h:PA X es t):PE X (.Tuple es x1 pos) (tTup t):=by
 intro pins s σ H Q I hq
 refine wpAny_Tuple_spliced (thn (h pos pins s σ H _ I hq) fun us s1 ⟨xs,H1,I1,r,z,q⟩=>⟨by rw [← r.length];exact z,?_⟩)
 have hf:H1 s1.heap.objs.size=none:=I1.hok.fresh (Nat.le_refl _)
 refine ⟨.ref s1.heap.objs.size,upd H1 s1.heap.objs.size (.tup xs),I1.laid (t':=s1.toks) (fun b u e=>Heap.get?_push_of_some _ e) (Nat.le_refl _) ?_,rfl,q _ hf⟩
 exact ⟨z,us,r,⟨_,Heap.get?_push_size _ rfl,rfl,_,rfl⟩⟩
theorem pe_lst(h:PA X es t):PE X (.List es pos) (tLst t):=by
 intro pins s σ H Q I hq
 refine wpAny_List_spliced (thn (h pos pins s σ H _ I hq) fun us s1 ⟨xs,H1,I1,r,z,q⟩=>⟨by rw [← r.length];exact z,?_⟩)
 have hf:H1 s1.heap.objs.size=none:=I1.hok.fresh (Nat.le_refl _)
 refine ⟨.ref s1.heap.objs.size,upd H1 s1.heap.objs.size (.lst xs),I1.laid (t':=s1.toks) (fun b u e=>Heap.get?_push_of_some _ e) (Nat.le_refl _) ?_,rfl,q _ hf⟩
 exact ⟨z,us,0,r,Heap.get?_push_size _ rfl⟩
end
noncomputable abbrev Sp:=List V->Hp->VK->XK->Prop
noncomputable abbrev CXT:=List Env->Hp->Shared->XK->Value->Shared->Prop

structure Env0 (P:Program) (w:World) (K:PySem.W.Frag) (mg:Str->Option Value) (base:Heap) (A:Around) (outer:List Env) (s:Shared) (H:Hp):Prop where
 frames:A.frames=some outer
 mod:Mod K mg base
 bs:∀ b o,base.get? b=some o->s.heap.get? b=some o/\H b=none
 bsz:base.objs.size≤s.heap.objs.size
 funs:s.heap.FunFrames base outer
 frf:∀ b ∈ frs outer,H b=none
 hok:HOk P w H s.heap
 bare:AllBare s.gens
noncomputable def CE(outer:List Env)(P:Program)(w:World)(H:Hp)(s:Shared)(Q:VK)(u:Value)(s':Shared):Prop:=
 ∃ v H',s'.os=s.os/\AllBare s'.gens/\Un (frs outer) [] H H' s.heap s'.heap/\HOk P w H' s'.heap/\RelV v u/\Q v H'
noncomputable def CR(CX:CXT)(outer:List Env)(P:Program)(w:World)(H:Hp)(s:Shared)(Q:VK)(E:XK)(r:Result)(s':Shared):Prop:=
 match r with
 | .ok (.ret u)=>CE outer P w H s Q u s'
 | .ok _=>False
 | .error e=>CX outer H s E e s'
structure FnOk (P:Program) (w:World) (K:PySem.W.Frag) (mg:Str->Option Value) (base:Heap) (CX:CXT) (k:Nat) (f:Addr) (fd:FuncData) (ps:List Str) (sp:Sp):Prop where
 len:∀ vs H Q E,sp vs H Q E->vs.length=ps.length
 run:∀ (A:Around) (outer:List Env) (s:Shared) (H:Hp) (args:Args) (us:List Value) (vs:List V) (Q:VK) (E:XK),Room k A->Env0 P w K mg base A outer s H->BindsTo s fd args (ps.zip us)->Vals vs us->sp vs H Q E->
  codeAny (model P w) A (.call (.ref f) args) (CR CX outer P w H s Q E) s
theorem FnOk.mono{P:Program}{w:World}{K:PySem.W.Frag}{mg:Str->Option Value}{base:Heap}{CX:CXT}{j k:Nat}{f:Addr}{fd:FuncData}{ps:List Str}{sp:Sp}(F:FnOk P w K mg base CX j f fd ps sp)(h:j≤k):
  FnOk P w K mg base CX k f fd ps sp:=⟨F.len,fun A outer s H args us vs Q E hr=>F.run A outer s H args us vs Q E (hr.mono h)⟩
theorem FnOk.imp{P:Program}{w:World}{K:PySem.W.Frag}{mg:Str->Option Value}{base:Heap}{CX:CXT}{k:Nat}{f:Addr}{fd:FuncData}{ps:List Str}{sp sp':Sp}(F:FnOk P w K mg base CX k f fd ps sp)
  (h:∀ vs H Q E,sp' vs H Q E->sp vs H Q E):FnOk P w K mg base CX k f fd ps sp':=
 ⟨fun vs H Q E q=>F.len vs H Q E (h _ _ _ _ q),fun A outer s H args us vs Q E hr he hb hv hs=>F.run A outer s H args us vs Q E hr he hb hv (h _ _ _ _ hs)⟩

section
variable {X:Cx} {pins:List (Addr × Obj)} {σ:St} {H:Hp} {s s':Shared}
theorem Inv.env0(I:Inv X pins σ H s):Env0 X.prog X.w X.K X.mg X.base X.A X.stack s H:=
 ⟨I.ok.frames,I.ok.mod,I.bs,Nat.le_trans I.ok.bsz I.sz,I.stack,I.stkFree,I.hok,I.bare⟩
theorem Inv.after(I:Inv X pins σ H s)(h:CE X.stack X.prog X.w H s Q u s'):EP X pins σ Q u s':=by
 obtain ⟨v,H',os,bare,un,hok,r,q⟩:=h
 obtain ⟨hh,g,d,t,os'⟩:=s'
 obtain rfl:os'=s.os:=os
 exact ⟨v,H',I.call (h':=hh) (g':=g) (d':=d) (t':=t) (ch:=[]) un hok bare (fun b z=>absurd z (by simp)),r,q⟩
end
noncomputable def tCall(sp:Sp)(dvs:List V)(E:XK)(t:TA):TE:=fun σ H Q=>t σ H fun vs H1=>sp (vs++dvs) H1 Q E
noncomputable def Binds(K:PySem.W.Frag)(fd:FuncData)(ps:List Str)(ds:List Value):Prop:=
 ∀ (s:Shared) (us:List Value),K.In s.heap->(us++ds).length=ps.length->BindsTo s fd ⟨us,[]⟩ (ps.zip (us++ds))
theorem Binds.all{K:PySem.W.Frag}{fd:FuncData}{ps:List Str}(h:∀ us:List Value,us.length=ps.length->bindArgs fd ⟨us,[]⟩=pure (ps.zip us)):Binds K fd ps []:=fun s us _ hl=>by
 rw [List.append_nil] at hl ⊢
 exact .of_eq (h us hl)

noncomputable def Passes(CX:CXT)(X:Cx)(E:XK):Prop:=∀ (pins:List (Addr × Obj)) (σ:St) (H:Hp) (s:Shared) (e:Value) (s':Shared),Inv X pins σ H s->CX X.stack H s E e s'->X.xe e s'

section
variable {X:Cx} {CX:CXT} {k:Nat} {f C:Addr} {fd:FuncData} {ps:List Str} {sp:Sp} {dvs:List V} {ds:List Value} {E:XK} {x m:Str} {p pos apos:Pos} {e o:Expr} {es:List Expr} {ta:TE} {t:TA}
theorem run_fn(F:FnOk X.prog X.w X.K X.mg X.base CX k f fd ps sp)(hr:Room k X.A)(hb:Binds X.K fd ps ds)(hd:Vals dvs ds)(hx:Passes CX X E)
  (I:Inv X pins σ H s)(r:Vals vs us)(h:sp (vs++dvs) H Q E):wpAny (model X.prog X.w) X.A (call (.ref f) us) (EP X pins σ Q) X.xe s:=by
 have r2:Vals (vs++dvs) (us++ds):=r.append hd
 have hl:(us++ds).length=ps.length:=by rw [← r2.length];exact F.len _ _ _ _ h
 refine wpAny_call (codeAny_mono (F.run X.A X.stack s H ⟨us,[]⟩ (us++ds) (vs++dvs) Q E hr I.env0 (hb s us I.kIn hl) r2 h) fun r s' hq=>?_)
 cases r with
 | error e=>exact hx pins σ H s e s' I hq
 | ok fl=>
  cases fl with
  | ret u=>exact I.after hq
  | next=>exact False.elim hq
  | brk=>exact False.elim hq
  | cont=>exact False.elim hq

theorem pe_call(F:FnOk X.prog X.w X.K X.mg X.base CX k f fd ps sp)(hr:Room k X.A)(hg:Gl X x)(hm:X.mg x=some (.ref f))(hk:PySem.W.keepIn X.K (.ref f)=true)(hb:Binds X.K fd ps ds)(hd:Vals dvs ds)(hx:Passes CX X E)
  (ha:PA X (e::es) t)(hdb:(x == ("__debug__":Str))=false:=by decide)(he:starEach (e::es) X.env=(false,eval e X.env)::starEach es X.env:=by rfl)(hpl:(backTo pos (starEach es X.env)).any (·.1)=false:=by rfl):
  PE X (.Call (.Name x p) (e::es) [] pos) (tCall sp dvs E t):=by
 intro pins s σ H Q I h
 refine wpAny_Call_Name_kw (ld_glob I hg hm ?_ hdb)
 refine PySem.W.callWith_K (h₀:=X.base) I.ok.mod.kin hk (thn (ha pos pins s σ H _ I h) fun us s1 ⟨vs,H1,I1,r,q⟩=>⟨I1.kIn,?_⟩) he hpl
 exact run_fn F hr hb hd hx I1 r q
theorem pe_call0(F:FnOk X.prog X.w X.K X.mg X.base CX k f fd ps sp)(hr:Room k X.A)(hg:Gl X x)(hm:X.mg x=some (.ref f))(hk:PySem.W.keepIn X.K (.ref f)=true)(hb:Binds X.K fd ps ds)(hd:Vals dvs ds)(hx:Passes CX X E)
  (hdb:(x == ("__debug__":Str))=false:=by decide):PE X (.Call (.Name x p) [] [] pos) (tCall sp dvs E tNil):=by
 intro pins s σ H Q I h
 refine wpAny_Call_Name_kw (ld_glob I hg hm ?_ hdb)
 exact PySem.W.callWith_K0 I.kIn hk (run_fn (us:=[]) F hr hb hd hx I .nil h)

structure Mk (K:PySem.W.Frag) (C f:Addr):Prop where
 makes:PySem.W.makesIn K C=true
 init:PySem.W.findIn K (.ref C) "__init__"=some (some (.ref f))
 fn:PySem.W.isFn K (.ref f)=true
 kp:PySem.W.keepIn K (.ref C)=true

end
section
variable {X:Cx} {CX:CXT} {k:Nat} {f C:Addr} {fd:FuncData} {ps ks:List Str} {sp:Sp} {E:XK} {x m:Str} {p pos apos kpos:Pos} {e o:Expr} {es:List Expr} {kws:List Keyword} {te ta:TE} {t tk:TA} {nm:Option Str}
structure KBinds (K:PySem.W.Frag) (fd:FuncData) (ps ks:List Str) (g:List Value->List Value->List Value) (gV:List V->List V->List V):Prop where
 to:∀ (s:Shared) (us ws:List Value),K.In s.heap->(g us ws).length=ps.length->BindsTo s fd ⟨us,ks.zip ws⟩ (ps.zip (g us ws))
 rel:∀ {vs:List V} {us:List Value} {zs:List V} {ws:List Value},Vals vs us->Vals zs ws->Vals (gV vs zs) (g us ws)
variable {g:List Value->List Value->List Value} {gV:List V->List V->List V}
end
structure FnScope (N P:List Str) (sc:Scope):Prop where
 kind:sc.kind=.function
 co:sc.isCoroutine=false
 gen:sc.isGenerator=false
 nd:N.Nodup
 pre:N.take P.length=P
 par:∀ x ∈ P,sc.names.lookup x=some .local∨sc.names.lookup x=some .cell
 nofree:∀ y ∈ sc.names,y.2≠.free

theorem bindL_out{kindOf:Str->Option NameKind}{x:Str}:∀ {binds:List (Str × Value)} {m:Str->Option Value},(∀ v,(x,v) ∉ binds)->bindL kindOf binds m x=m x
 | [],_,_=>rfl
 | (n,v)::r,m,h=>by
  unfold bindL
  rw [bindL_out fun w hw=>h w (List.mem_cons_of_mem _ hw)]
  split
  ·have:x≠n:=by rintro rfl;exact h v List.mem_cons_self
   simp [this]
  ·rfl
theorem bindC_out{kindOf:Str->Option NameKind}{x:Str}:∀ {binds:List (Str × Value)} {m:Str->Option Value},(∀ v,(x,v) ∉ binds)->bindC kindOf binds m x=m x
 | [],_,_=>rfl
 | (n,v)::r,m,h=>by
  unfold bindC
  rw [bindC_out fun w hw=>h w (List.mem_cons_of_mem _ hw)]
  split
  ·rfl
  ·have:x≠n:=by rintro rfl;exact h v List.mem_cons_self
   simp [this]
theorem bindL_get{kindOf:Str->Option NameKind}{x:Str}{v:Value}:∀ {P:List Str} {vs:List Value} {i:Nat} {m:Str->Option Value},P.Nodup->P[i]?=some x->vs[i]?=some v->kindOf x=some .local->
  bindL kindOf (P.zip vs) m x=some v
 | [],_,_,_,_,h,_,_=>by simp at h
 | _::_,[],_,_,_,_,h,_=>by simp at h
 | p::P,w::vs,0,m,nd,h1,h2,hk=>by
  simp at h1 h2;subst h1;subst h2
  show bindL kindOf ((p,w)::P.zip vs) m p=_
  unfold bindL
  rw [bindL_out fun v hv=>(List.nodup_cons.mp nd).1 (List.of_mem_zip hv).1,if_pos hk]
  simp
 | p::P,w::vs,i+1,m,nd,h1,h2,hk=>by
  show bindL kindOf ((p,w)::P.zip vs) m x=_
  unfold bindL
  exact bindL_get (i:=i) (List.nodup_cons.mp nd).2 (by simpa using h1) (by simpa using h2) hk
theorem bindC_get{kindOf:Str->Option NameKind}{x:Str}{v:Value}:∀ {P:List Str} {vs:List Value} {i:Nat} {m:Str->Option Value},P.Nodup->P[i]?=some x->vs[i]?=some v->kindOf x≠some .local->
  bindC kindOf (P.zip vs) m x=some v
 | [],_,_,_,_,h,_,_=>by simp at h
 | _::_,[],_,_,_,_,h,_=>by simp at h
 | p::P,w::vs,0,m,nd,h1,h2,hk=>by
  simp at h1 h2;subst h1;subst h2
  show bindC kindOf ((p,w)::P.zip vs) m p=_
  unfold bindC
  rw [bindC_out fun v hv=>(List.nodup_cons.mp nd).1 (List.of_mem_zip hv).1,if_neg hk]
  simp
 | p::P,w::vs,i+1,m,nd,h1,h2,hk=>by
  show bindC kindOf ((p,w)::P.zip vs) m x=_
  unfold bindC
  exact bindC_get (i:=i) (List.nodup_cons.mp nd).2 (by simpa using h1) (by simpa using h2) hk

noncomputable def start(N:List Str)(vs:List V):St:=vs.map some++List.replicate (N.length - vs.length) none

noncomputable def cxOf(CX:CXT)(P:Program)(w:World)(K:PySem.W.Frag)(mg:Str->Option Value)(base:Heap)(N:List Str)(qual:Str)(scope:Scope)(f:Addr)(cd:Value)(A:Around)(outer:List Env)(s:Shared)(H:Hp)(E:XK):Cx where
 prog:=P
 w:=w
 K:=K
 mg:=mg
 base:=base
 A:=A.deeper (envOfC qual scope s.heap.objs.size f cd)
 N:=N
 s₀:=s
 H₀:=H
 env:=envOfC qual scope s.heap.objs.size f cd
 outer:=outer
 stack:=envOfC qual scope s.heap.objs.size f cd::outer
 ex:=[]
 calm:=true
 fn:=fun _=>true
 pn:=[]
 xe:=fun e s'=>wpAny (model P w) (A.deeper (envOfC qual scope s.heap.objs.size f cd)) (leaving (envOfC qual scope s.heap.objs.size f cd) e) (fun _ s''=>CX outer H s E e s'') (fun e' s''=>CX outer H s E e' s'') s'

theorem cell_has{sc:Scope}(h:sc.names.lookup x=some .cell):∃ c,(cellsFrom n sc.names []).lookup x=some c:=by
 have q:=PySem.W.cellsFrom_some sc.names n [] (.inl h)
 exact Option.isSome_iff_exists.mp q

theorem inv_start{CX:CXT}{P:Program}{w:World}{K:PySem.W.Frag}{mg:Str->Option Value}{base:Heap}{N ps:List Str}{qual:Str}{scope:Scope}{f:Addr}{cd:Value}{A:Around}{outer:List Env}{s s1:Shared}{H:Hp}{E:XK}{us:List Value}{vs:List V}
  (S:FnScope N ps scope)(hd:A.handled=none)(e0:Env0 P w K mg base A outer s H)(hl:vs.length=ps.length)(r:Vals vs us)
  (x:InCallC s s.heap.objs.size (bindL (envOfC qual scope s.heap.objs.size f cd).kindOf (ps.zip us) fun _=>none) (cellsFrom (s.heap.objs.size+1) scope.names []) (bindC (envOfC qual scope s.heap.objs.size f cd).kindOf (ps.zip us) fun _=>none) s1):
  Inv (cxOf CX P w K mg base N qual scope f cd A outer s H E) [] (start N vs) H s1:=by
 have hpl:ps.length≤N.length:=by have:=congrArg List.length S.pre;rw [List.length_take] at this;omega
 obtain ⟨h1,tk,rfl,hk⟩:=x.done
 have noA:∀ b:Addr,b ∉ (cxOf CX P w K mg base N qual scope f cd A outer s H E).ex:=fun b z=>absurd (show b ∈ ([]:List Addr) from z) (by simp)
 refine ⟨⟨e0.mod,S.kind,rfl,rfl,Nat.le_refl _,fun y z c h1 h2=>?_,fun y hy=>?_,fun y c _ h=>?_,fun _=>hd,Around.frames_deeper e0.frames,.inr ⟨rfl,rfl⟩,fun b z=>absurd z (noA b),e0.bs,e0.bsz,fun b _ _=>noA b,fun b z=>absurd z (noA b),e0.funs,e0.frf⟩,
  rfl,e0.bare,Un.kept hk,⟨_,x.toInCall.ns,fun i y v h1 h2 h3=>?_⟩,fun y c h=>⟨_,x.cell y c h⟩,e0.hok.fresh (Nat.le_refl _),fun y c h=>?_,fun p hp=>absurd (show p ∈ ([]:List (Addr × Obj)) from hp) (by simp),e0.hok.kept hk,?_⟩
 ·exact name_of_addr x.apart (PySem.mem_of_lookup h1) (PySem.mem_of_lookup h2)
 ·have hy:scope.names.lookup y=some .cell∨scope.names.lookup y=some .free:=hy
  rcases hy with hy | hy
  ·exact cell_has hy
  ·exact absurd rfl (S.nofree _ (PySem.mem_of_lookup hy))
 ·exact Nat.le_of_lt (x.above y c (PySem.mem_of_lookup h))
 ·have hi:i<vs.length:=by
   unfold start at h2
   by_cases hi:i<vs.length
   ·exact hi
   ·rw [List.getElem?_append_right (by simpa using hi)] at h2
    rw [List.getElem?_replicate] at h2
    split at h2<;>cases h2
  have ha:vs[i]?=some v:=by
   unfold start at h2
   rw [List.getElem?_append_left (by simpa using hi),List.getElem?_map] at h2
   cases e:vs[i]? with
   | none=>rw [e] at h2;cases h2
   | some a=>rw [e] at h2;cases h2;rfl
  obtain ⟨u,hu,rv⟩:=r.get ha
  have hp:ps[i]?=some y:=by
   rw [← S.pre,List.getElem?_take_of_lt (by omega)];exact h1
  have ndP:ps.Nodup:=by rw [← S.pre];exact S.nd.sublist (List.take_sublist _ _)
  refine ⟨u,rv,?_⟩
  rcases S.par y (List.mem_of_getElem? hp) with k | k
  ·exact .inl ⟨k,bindL_get ndP hp hu k⟩
  ·obtain ⟨c,e⟩:=cell_has (n:=s.heap.objs.size+1) k
   refine .inr ⟨.inl k,c,e,?_⟩
   have q:=x.cell y c e
   rw [bindC_get ndP hp hu (by show scope.names.lookup y≠_;rw [k];decide)] at q
   exact q
 ·exact e0.hok.fresh (Nat.le_of_lt (x.above y c (PySem.mem_of_lookup h)))
 ·unfold start
  show _=N.length
  rw [List.length_append,List.length_map,List.length_replicate]
  omega

theorem fn_of{CX:CXT}{P:Program}{w:World}{K:PySem.W.Frag}{mg:Str->Option Value}{base:Heap}{k:Nat}{f:Addr}{name qual:Str}{params:Arguments}{body:List Stmt}{scope:Scope}{dV kV doc pm cdv ct oc:Value}{an od:Option Addr}{osl:Array (Option Value)}{N ps:List Str}{sp:Sp}(lk:K.lookup f=some ⟨oc,od,.func (PySem.W.fnOf name qual params body scope dV kV doc pm an cdv ct),osl⟩)(hcd:PySem.W.codeIn K cdv qual=true)(S:FnScope N ps scope)(len:∀ vs H Q E,sp vs H Q E->vs.length=ps.length)(hbody:∀ (A:Around) (outer:List Env) (s:Shared) (H:Hp) (vs:List V) (Q:VK) (E:XK),Room k (A.deeper (envOfC qual scope s.heap.objs.size f cdv))->sp vs H Q E->
 ∃ t,PSs (cxOf CX P w K mg base N qual scope f cdv A outer s H E) body t/\t { nx:=fun _ H'=>Q .non H',rt:=Q } (start N vs) H):
 FnOk P w K mg base CX (k+1) f (PySem.W.fnOf name qual params body scope dV kV doc pm an cdv ct) ps sp:=by
 refine ⟨len,fun A outer s H args us vs Q E hr e0 hb r hsp=>?_⟩
 have hl:=len _ _ _ _ hsp
 have KX:K.In s.heap:=e0.mod.kin.keeps fun b o e=>(e0.bs b o e).1
 have lim:s.heap.NoLimit:=e0.mod.nolimit.keeps fun b o e=>(e0.bs b o e).1
 have hkind:∀ y ∈ ps.zip us,scope.names.lookup y.1=some .local∨(scope.names.lookup y.1=some .cell/\((cellsFrom (s.heap.objs.size+1) scope.names []).lookup y.1).isSome=true):=fun ⟨n,v⟩ hy=>by
  rcases S.par n (List.of_mem_zip hy).1 with q | q
  ·exact .inl q
  ·exact .inr ⟨q,PySem.W.cellsFrom_some _ _ _ (.inl q)⟩
 refine codeAny_call_function hr.depth (KX _ _ lk) rfl S.co S.gen rfl (PySem.W.codeRec_of KX hcd) (hb _ _ _ _ ?_)
 refine wpAny_newFunctionEnv_cells S.kind hkind fun env he s1 x=>?_
 subst he
 refine ⟨lim.keeps x.toInCall.keep,codeAny_func ?_⟩
 obtain ⟨t,ht,hq⟩:=hbody A outer s H vs Q E (hr.deeper _) hsp
 have I:Inv (cxOf CX P w K mg base N qual scope f cdv A outer s H E) [] (start N vs) H s1:=inv_start S hr.hd e0 hl r x
 refine wpAny_mono (ht [] s1 (start N vs) H _ I hq) (fun fl s' hs=>?_) fun e s' hs=>hs
 have fin:∀ {σ':St} {H':Hp} {v:V} {u:Value},Inv (cxOf CX P w K mg base N qual scope f cdv A outer s H E) [] σ' H' s'->RelV v u->Q v H'->CE outer P w H s Q u s':=
  fun {σ' H' v u} J rv q=>⟨v,H',J.os,J.bare,J.base,J.hok,rv,q⟩
 cases fl with
 | ret u=>
  obtain ⟨v,σ',H',J,rv,q⟩:=hs
  exact fin J rv q
 | next=>
  obtain ⟨σ',H',J,q⟩:=hs
  exact fin (v:=V.non) (u:=Value.none) J rfl q
 | brk=>
  obtain ⟨_,_,_,q⟩:=hs
  exact False.elim q
 | cont=>
  obtain ⟨_,_,_,q⟩:=hs
  exact False.elim q
end L2
namespace L2
open PySem PySem.Spec PyProof.Rows
section
variable {X:Cx} {x:Str} {p pos:Pos} {e:Expr} {es:List Expr} {t:TA} {id T:String} {r:List V->Hp->VK->Prop}
noncomputable def tCB(r:List V->Hp->VK->Prop)(t:TA):TE:=fun σ H Q=>t σ H fun vs H1=>r vs H1 Q
theorem pe_callB(hc:CallR X (.builtin id) r)(hg:Gl X x)(hm:X.mg x=none)(hv:bootBuiltins x=some (.builtin id))(ha:PA X (e::es) t)(hn:x≠"__name__":=by decide)(hdb:(x == ("__debug__":Str))=false:=by decide)
  (he:starEach (e::es) X.env=(false,eval e X.env)::starEach es X.env:=by rfl)(hpl:(backTo pos (starEach es X.env)).any (·.1)=false:=by rfl):PE X (.Call (.Name x p) (e::es) [] pos) (tCB r t):=by
 intro pins s σ H Q I h
 refine wpAny_Call_Name_kw (ld_blt I hg hm hv ?_ hn hdb)
 exact PyProof.Rows.callWith_builtin1 (thn (ha pos pins s σ H _ I h) fun us s1 ⟨vs,H1,I1,r1,q1⟩=>hc pins s1 σ H1 vs us Q I1 r1 q1) he hpl
theorem pe_callTy(hc:CallR X (.type T) r)(hg:Gl X x)(hm:X.mg x=none)(hv:bootBuiltins x=some (.type T))(ha:PA X (e::es) t)(hn:x≠"__name__":=by decide)(hdb:(x == ("__debug__":Str))=false:=by decide)
  (he:starEach (e::es) X.env=(false,eval e X.env)::starEach es X.env:=by rfl)(hpl:(backTo pos (starEach es X.env)).any (·.1)=false:=by rfl):PE X (.Call (.Name x p) (e::es) [] pos) (tCB r t):=by
 intro pins s σ H Q I h
 refine wpAny_Call_Name_kw (ld_blt I hg hm hv ?_ hn hdb)
 exact PyProof.Rows.callWith_type1 (thn (ha pos pins s σ H _ I h) fun us s1 ⟨vs,H1,I1,r1,q1⟩=>hc pins s1 σ H1 vs us Q I1 r1 q1) he hpl
end
end L2
namespace HT
open PySem PyProof.Rows
section
open PySem.SeqAt
open PySem.AutoSeq1 (wpAny_loadPart')
open PySem.MeetsSeq PySem.MeetsSeq2 PySem.MeetsSeq3
end
section
variable {prog:Program} {w:World} {A:Around} {E:Value->Shared->Prop} {s:Shared}
theorem cat_tup{vs ws:List Value}{Q:Value->Shared->Prop}(ht:IsTup s.heap t vs.toArray)(hb:IsTup s.heap b ws.toArray)(hv:vs≠[])
  (h1:ws=[]->Q (.ref t) s)(h2:ws≠[]->Q (.ref s.heap.objs.size) { s with heap:=s.heap.push { cls:=.type "tuple",data:=.seq (vs++ws).toArray } })
  (hsz:vs.length+ws.length≤sizeLine):wpAny (model prog w) A (binaryOp .Add (.ref t) (.ref b)) Q E s:=by
 obtain ⟨⟨cls,dd,data,sl⟩,ho,hc,n,hd⟩:=id ht
 obtain ⟨⟨cls2,dd2,data2,sl2⟩,ho2,hc2,n2,hd2⟩:=id hb
 simp only at hc hd hc2 hd2
 subst hc hd hc2 hd2
 have e:vs.toArray++ws.toArray=(vs++ws).toArray:=by simp
 by_cases hw:ws=[]
 ·exact concat_meets ⟨_,ho,rfl⟩ ⟨_,ho2,rfl⟩ noFill_tuple_add seq_tuple_add PySem.F.slot_tuple_add PySem.F.entry_tuple_add (PySem.F.args_tuple_add_2 _ _)
   (tuple_addW1 t b vs.toArray ws.toArray n n2 dd dd2 sl sl2 (by simpa using hv) (by simp [hw])) ⟨ho,ho2,h1 hw⟩
 ·refine concat_meets ⟨_,ho,rfl⟩ ⟨_,ho2,rfl⟩ noFill_tuple_add seq_tuple_add PySem.F.slot_tuple_add PySem.F.entry_tuple_add (PySem.F.args_tuple_add_2 _ _)
   (tuple_addW2 t b vs.toArray ws.toArray n n2 dd dd2 sl sl2 (by simpa using hv) (by simpa using hw) (by rw [List.size_toArray,List.size_toArray];exact hsz)) ⟨ho,ho2,?_⟩
  rw [e]
  exact h2 hw

noncomputable def sIx(n d:Nat):Option Int->Nat
 | none=>d
 | some v=>if v<0 then (v+(n:Int)).toNat else min v.toNat n
theorem sIx_none(n d:Nat):sIx n d none=d:=rfl
theorem sIx_nat(n d k:Nat):sIx n d (some (k:Int))=min k n:=by
 show (if (k:Int)<0 then ((k:Int)+(n:Int)).toNat else min (k:Int).toNat n)=min k n
 rw [if_neg (by omega),Int.toNat_natCast]
theorem sIx_le(n d:Nat)(hd:d≤n)(o:Option Int):sIx n d o≤n:=by
 cases o with
 | none=>exact hd
 | some v=>
  show (if v<0 then (v+(n:Int)).toNat else min v.toNat n)≤n
  by_cases hv:v<0
  ·rw [if_pos hv];omega
  ·rw [if_neg hv];exact Nat.min_le_right _ _
theorem clip_eq(v:Int)(n d:Nat):(if v<0 then max (v+(n:Int)) 0 else min v (n:Int))=((sIx n d (some v):Nat):Int):=by
 show (if v<0 then max (v+(n:Int)) 0 else min v (n:Int))=(((if v<0 then (v+(n:Int)).toNat else min v.toNat n):Nat):Int)
 by_cases hv:v<0
 ·simp only [if_pos hv];omega
 ·simp only [if_neg hv];omega
theorem adjust_gen(lo hi:Option Int)(n:Nat):Builtin.Slice.sliceAdjust lo hi 1 (n:Int)=(((sIx n 0 lo:Nat):Int),((sIx n n hi:Nat):Int)):=by
 have h1:¬ ((1:Int)<0):=by omega
 unfold Builtin.Slice.sliceAdjust
 simp only [h1,if_false]
 refine Prod.ext ?_ ?_
 ·cases lo with
  | none=>rfl
  | some v=>exact clip_eq v n 0
 ·cases hi with
  | none=>rfl
  | some v=>exact clip_eq v n n
theorem places_gen(i j:Nat):Builtin.Slice.slicePlaces (i:Int) (j:Int) 1=j - i:=by
 unfold Builtin.Slice.slicePlaces
 have h1:(1:Int) > 0:=by omega
 simp only [h1,if_true,Int.ediv_one]
 split<;>omega
theorem slicePart_{Q:Option Int->Shared->Prop}(p:IsPart v o)(h:Q o s):wpAny (model prog w) A (Builtin.Slice.slicePartIndex v) Q E s:=by
 cases p with
 | none=>exact slicePart_none h
 | int i t=>exact slicePart_int h
theorem sliceApplied_gen{sl:Addr}{vl vu:Value}{lo hi:Option Int}{n:Nat}{Q:Int × Int × Nat->Shared->Prop}(hs:s.heap.IsSliceOf sl vl vu .none)(pl:IsPart vl lo)(pu:IsPart vu hi)
  (h:Q (((sIx n 0 lo:Nat):Int),1,sIx n n hi - sIx n 0 lo) s):wpAny (model prog w) A (Builtin.Slice.sliceApplied (.ref sl) (pure (n:Int))) Q E s:=by
 obtain ⟨os,hos,hcs,hds⟩:=id hs
 unfold Builtin.Slice.sliceApplied Builtin.Slice.sliceFields
 refine wpAny_bind (wpAny_bind (wpAny_field hos hds (x:=vl) rfl (wpAny_bind (wpAny_field hos hds (x:=vu) rfl (wpAny_bind (wpAny_field hos hds (x:=.none) rfl (wpAny_pure ?_)))))))
 refine wpAny_bind (slicePart_none ?_)
 show wpAny _ _ (if ((1:Int) == 0)=true then _ else _) _ _ s
 rw [if_neg (by decide)]
 refine wpAny_bind (slicePart_ pl (wpAny_bind (slicePart_ pu (wpAny_bind (wpAny_pure ?_)))))
 show wpAny _ _ (match Builtin.Slice.sliceAdjust lo hi 1 (n:Int) with | (lo,hi)=>pure (lo,(1:Int),Builtin.Slice.slicePlaces lo hi 1)) _ _ s
 rw [adjust_gen lo hi n]
 show wpAny _ _ (pure (((sIx n 0 lo:Nat):Int),(1:Int),Builtin.Slice.slicePlaces ((sIx n 0 lo:Nat):Int) ((sIx n n hi:Nat):Int) 1)) _ _ s
 rw [places_gen]
 exact wpAny_pure h
theorem pick_gen(xs:Array Value)(i k:Nat):((List.range k).filterMap fun (m:Nat)=>xs[((i:Int)+(m:Int) * 1).toNat]?).toArray=((xs.toList.drop i).take k).toArray:=by
 have e:(fun (m:Nat)=>xs[((i:Int)+(m:Int) * 1).toNat]?)=fun m=>xs[i+m]?:=by
  funext m
  have:((i:Int)+(m:Int) * 1).toNat=i+m:=by omega
  rw [this]
 rw [e]
 have:=pick_run xs i k
 rw [List.filterMap_map] at this
 have e2:((fun x=>xs[x]?) ∘ fun x=>i+x)=fun m=>xs[i+m]?:=rfl
 rw [e2] at this
 rw [this]

theorem getItem_tuple_cut{t sl:Addr}{items:Array Value}{vl vu:Value}{lo hi:Option Int}{Q:Value->Shared->Prop}(ht:IsTup s.heap t items)(hs:s.heap.IsSliceOf sl vl vu .none)(pl:IsPart vl lo)(pu:IsPart vu hi)
  (hw:¬ (sIx items.size 0 lo=0/\sIx items.size items.size hi=items.size))
  (h:Q (.ref s.heap.objs.size) { s with heap:=s.heap.push { cls:=.type "tuple",data:=.seq ((items.toList.drop (sIx items.size 0 lo)).take (sIx items.size items.size hi - sIx items.size 0 lo)).toArray } })
  (hsz:items.size≤sizeLine):wpAny (model prog w) A (getItem (.ref t) (.ref sl)) Q E s:=by
 have htake:sizeOk (.seq ((items.toList.drop (sIx items.size 0 lo)).take (sIx items.size items.size hi - sIx items.size 0 lo)).toArray):=by
  show ((items.toList.drop (sIx items.size 0 lo)).take (sIx items.size items.size hi - sIx items.size 0 lo)).toArray.size≤sizeLine
  rw [List.size_toArray,List.length_take,List.length_drop,Array.length_toList]
  omega
 have hj:sIx items.size items.size hi≤items.size:=sIx_le _ _ (Nat.le_refl _) hi
 obtain ⟨os,hos,hcs,hds⟩:=id hs
 have hTs:s.TypeIs (.ref sl) "slice":=⟨os,hos,hcs⟩
 unfold getItem
 try with_reducible refine wpAny_holding ?_
 first | refine wpAny_bind (wpAny_pure ?_) | skip
 refine wpAny_bind (wpAny_sequenceKey ht.typeIs (by decide) ?_)
 refine wpAny_bind (wpAny_callSpecial?_slot (name:=Str.ofString "__getitem__") ht.typeIs PyProof.Rows.slot_tuple_getitem
  (wpAny_call_entry PyProof.Rows.slot_tuple_getitem ht.typeIs entry_tuple_getitem ?_ (args_tuple_getitem _ _)))
 show wpAny _ _ (Builtin.Tuple.tupleItemsOf (.ref t) >>= _) _ _ s
 refine wpAny_bind (tupleItemsOf_ ht ?_)
 refine wpAny_bind (wpAny_typeOf hTs ?_)
 rw [if_pos (by decide)]
 refine wpAny_bind (sliceApplied_gen hs pl pu ?_)
 have hno:¬ ((((sIx items.size 0 lo:Nat):Int) == 0 && (1:Int) == 1 && (sIx items.size items.size hi - sIx items.size 0 lo) == items.size)=true):=by
  intro q
  rw [Bool.and_eq_true,Bool.and_eq_true] at q
  have q1:((sIx items.size 0 lo:Nat):Int)=0:=eq_of_beq q.1.1
  have q2:sIx items.size items.size hi - sIx items.size 0 lo=items.size:=eq_of_beq q.2
  exact hw ⟨by omega,by omega⟩
 show wpAny _ _ (if (((sIx items.size 0 lo:Nat):Int) == 0 && (1:Int) == 1 && (sIx items.size items.size hi - sIx items.size 0 lo) == items.size)=true then _ else _) _ _ s
 rw [if_neg hno,pick_gen]
 first
  | exact wpAny_bind (m:=Builtin.Tuple.tupleExact _) (wpAny_newObj_type (wpAny_pure ⟨_,rfl,wpAny_pure h⟩) htake)
  | exact wpAny_bind (m:=Builtin.Tuple.tupleExact _) (wpAny_newObj_type (wpAny_bind (wpAny_pure (wpAny_pure ⟨_,rfl,wpAny_pure h⟩))) htake)
  | exact wpAny_bind (wpAny_bind (m:=Builtin.Tuple.tupleExact _) (wpAny_newObj_type (wpAny_pure (wpAny_pure ⟨_,rfl,wpAny_pure h⟩)) htake))
  | exact wpAny_bind (wpAny_bind (m:=Builtin.Tuple.tupleExact _) (wpAny_newObj_type (wpAny_pure ⟨_,rfl,wpAny_pure h⟩) htake))
end
end HT
namespace L2
open PySem PySem.Spec PyProof.Rows
noncomputable abbrev TO:=St->Hp->(Option Int->Hp->Prop)->Prop
noncomputable def PO(X:Cx)(e:Option Expr)(t:TO):Prop:=
 ∀ (pins:List (Addr × Obj)) (s:Shared) (σ:St) (H:Hp) (Q:Option Int->Hp->Prop),Inv X pins σ H s->t σ H Q->
  wpAny (model X.prog X.w) X.A (evalPart e X.env) (fun u s'=>∃ o H',Inv X pins σ H' s'/\IsPart u o/\Q o H') X.xe s
noncomputable def tNoPart:TO:=fun _ H Q=>Q none H
noncomputable def tPart(t:TE):TO:=fun σ H Q=>t σ H fun x H1=>∃ i,x=.int i/\Q (some i) H1

section
variable {X:Cx} {e:Expr} {te:TE} {lo hi:Option Expr} {tl th:TO} {pos p2:Pos}
theorem po_none:PO X none tNoPart:=by
 intro pins s σ H Q I h
 rw [evalPart_none]
 exact wpAny_pure ⟨none,H,I,.none,h⟩
theorem po_some(h:PE X e te):PO X (some e) (tPart te):=by
 intro pins s σ H Q I hw
 rw [evalPart_some]
 refine thn (h pins s σ H _ I hw) fun u s1 ⟨x,H1,I1,r1,q1⟩=>?_
 obtain ⟨i,rfl,q⟩:=q1
 obtain ⟨t,rfl⟩:=r1
 exact ⟨some i,H1,I1,.int i t,q⟩

noncomputable def SlR(X:Cx)(r:V->Option Int->Option Int->Hp->VK->Prop):Prop:=
 ∀ (pins:List (Addr × Obj)) (s:Shared) (σ:St) (H:Hp) (x:V) (v vl vu:Value) (lo hi:Option Int) (sl:Addr) (Q:VK),Inv X pins σ H s->RelV x v->s.heap.IsSliceOf sl vl vu .none->IsPart vl lo->IsPart vu hi->r x lo hi H Q->
  ∃ T id,typeLookup (.type T) "__getitem__"=pure (some (.builtin id))/\s.TypeIs v T/\wpAny (model X.prog X.w) X.A (getItem v (.ref sl)) (EP X pins σ Q) X.xe s
theorem SlR.or{r r':V->Option Int->Option Int->Hp->VK->Prop}(h:SlR X r)(h':SlR X r'):SlR X (fun x lo hi H Q=>r x lo hi H Q∨r' x lo hi H Q):=by
 intro pins s σ H x v vl vu lo hi sl Q I rx hs pl pu q
 rcases q with q | q
 ·exact h pins s σ H x v vl vu lo hi sl Q I rx hs pl pu q
 ·exact h' pins s σ H x v vl vu lo hi sl Q I rx hs pl pu q
noncomputable def tSl(r:V->Option Int->Option Int->Hp->VK->Prop)(te:TE)(tl th:TO):TE:=fun σ H Q=>te σ H fun x H1=>tl σ H1 fun l H2=>th σ H2 fun u H3=>r x l u H3 Q
theorem pe_slice{r:V->Option Int->Option Int->Hp->VK->Prop}(hr:SlR X r)(he:PE X e te)(hl:PO X lo tl)(hu:PO X hi th):PE X (.Subscript e (.Slice lo hi none p2) pos) (tSl r te tl th):=by
 intro pins s σ H Q I h
 refine Subscript_ (thn (he pins s σ H _ I h) fun v s1 hq_=>?_)
 obtain ⟨x,H1,I1,r1,q1⟩:=hq_
 refine wpAny_Slice (thn (hl pins s1 σ H1 _ I1 q1) fun vl s2 ⟨l,H2,I2,pl,q2⟩=>thn (hu pins s2 σ H2 _ I2 q2) fun vu s3 ⟨u,H3,I3,pu,q3⟩=>?_)
 rw [evalPart_none]
 refine wpAny_pure ?_
 have I4:Inv X pins σ H3 { s3 with heap:=s3.heap.push { cls:=.type "slice",data:=.fields #[vl,vu,.none] } }:=I3.kept (t':=s3.toks) fun b ob q=>Heap.get?_push_of_some _ q
 obtain ⟨T,id,hT,ht,hg⟩:=hr pins { s3 with heap:=s3.heap.push { cls:=.type "slice",data:=.fields #[vl,vu,.none] } } σ H3 x v vl vu l u s3.heap.objs.size Q I4 r1 (Heap.IsSliceOf.new ..) pl pu q3
 show wpAny (model X.prog X.w) X.A (subscriptTail e (.Slice lo hi none p2) v (.ref s3.heap.objs.size)) (EP X pins σ Q) X.xe { s3 with heap:=s3.heap.push { cls:=.type "slice",data:=.fields #[vl,vu,.none] } }
 exact tail_any (ops:=[.ref s3.heap.objs.size,v]) ht hT hg (by with_unfolding_all rfl)

noncomputable def cutV(xs:List V)(lo hi:Option Int):List V:=(xs.drop (HT.sIx xs.length 0 lo)).take (HT.sIx xs.length xs.length hi - HT.sIx xs.length 0 lo)
theorem cutV_length(xs:List V)(lo hi:Option Int):(cutV xs lo hi).length≤xs.length:=by
 unfold cutV
 rw [List.length_take,List.length_drop]
 exact Nat.le_trans (Nat.min_le_right _ _) (Nat.sub_le _ _)
noncomputable def rSlT(K:PySem.W.Frag):V->Option Int->Option Int->Hp->VK->Prop:=fun x lo hi H Q=>∃ a xs,x=.ref a/\SqT K H a xs/\
 ¬ (HT.sIx xs.length 0 lo=0/\HT.sIx xs.length xs.length hi=xs.length)/\∀ p,H p=none->Q (.ref p) (upd H p (.tup (cutV xs lo hi)))
theorem sl_tup:SlR X (rSlT X.K):=by
 intro pins s σ H x v vl vu lo hi sl Q I rx hs pl pu h
 obtain ⟨a,xs,rfl,hx,hw,q⟩:=h
 cases rx
 obtain ⟨its,r,ht,hz⟩:=I.tuple hx
 have hlen:its.toArray.size=xs.length:=by rw [List.size_toArray];exact r.length.symm
 refine ⟨"tuple",_,PyProof.Rows.slot_tuple_getitem.lookup,ht.typeIs,?_⟩
 refine HT.getItem_tuple_cut ht hs pl pu (by rw [hlen];exact hw) ?_ (by rw [hlen];exact hz)
 rw [hlen]
 refine ⟨.ref s.heap.objs.size,_,I.laid (t':=s.toks) (o:=.tup (cutV xs lo hi)) (fun b ob q=>Heap.get?_push_of_some _ q) (Nat.le_refl _) ?_,rfl,q _ (I.hok.fresh (Nat.le_refl _))⟩
 exact ⟨Nat.le_trans (cutV_length xs lo hi) hz,_,(r.drop (HT.sIx xs.length 0 lo)).take (HT.sIx xs.length xs.length hi - HT.sIx xs.length 0 lo),IsTup.new _ _⟩

noncomputable def rCatT(K:PySem.W.Frag):R2:=fun x y H Q=>∃ a b xs ys,x=.ref a/\y=.ref b/\SqT K H a xs/\SqT K H b ys/\xs≠[]/\xs.length+ys.length≤sizeLine/\
 (ys=[]->Q (.ref a) H)/\(ys≠[]->∀ p,H p=none->Q (.ref p) (upd H p (.tup (xs++ys))))
theorem Vals.nil_iff(r:Vals xs us):us=[] ↔ xs=[]:=by
 cases r with
 | nil=>simp
 | cons _ _=>simp
theorem op_catT:OpR X (binaryOp .Add) (rCatT X.K):=by
 intro pins s σ H x y v u Q I rx ry h
 obtain ⟨a,b,xs,ys,rfl,rfl,ha,hb,hx,hz,q1,q2⟩:=h
 cases rx
 cases ry
 obtain ⟨its,r1,p1,_⟩:=I.tuple ha
 obtain ⟨its2,r2,p2,_⟩:=I.tuple hb
 refine HT.cat_tup p1 p2 (fun z=>hx (r1.nil_iff.mp z)) (fun z=>⟨.ref a,H,I,rfl,q1 (r2.nil_iff.mp z)⟩) (fun z=>?_) (by rw [← r1.length,← r2.length];exact hz)
 refine ⟨.ref s.heap.objs.size,_,I.laid (t':=s.toks) (o:=.tup (xs++ys)) (fun b ob q=>Heap.get?_push_of_some _ q) (Nat.le_refl _) ?_,rfl,q2 (fun w=>z (r2.nil_iff.mpr w)) _ (I.hok.fresh (Nat.le_refl _))⟩
 exact ⟨by rw [List.length_append];exact hz,_,r1.append r2,IsTup.new _ _⟩
end
end L2
namespace L2
open PySem PySem.Spec PyProof.Rows
noncomputable def ixN(n:Nat)(i:Int):Option Nat:=if 0≤i then (if i<n then some i.toNat else none) else if -(n:Int)≤i then some (i+n).toNat else none
noncomputable def atI{α:Type}(xs:List α)(i:Int):Option α:=(ixN xs.length i).bind fun j=>xs[j]?
theorem ixN_seq(h:ixN n i=some j):seqIndex? i n=some j/\j<n/\-(n:Int)≤i/\i<n:=by
 unfold ixN at h
 by_cases h0:0≤i
 ·rw [if_pos h0] at h
  by_cases h1:i<n
  ·rw [if_pos h1] at h
   have e:i.toNat=j:=Option.some.inj h
   exact ⟨by rw [seqIndex_of h0 h1,e],by omega,by omega,h1⟩
  ·rw [if_neg h1] at h;cases h
 ·rw [if_neg h0] at h
  by_cases h1 : -(n:Int)≤i
  ·rw [if_pos h1] at h
   have e:(i+n).toNat=j:=Option.some.inj h
   exact ⟨by rw [seqIndex_neg (by omega) h1,e],by omega,h1,by omega⟩
  ·rw [if_neg h1] at h;cases h
theorem atI_get{α:Type}{xs:List α}{i:Int}{v:α}(h:atI xs i=some v):∃ j,seqIndex? i xs.length=some j/\xs[j]?=some v/\j<xs.length/\-(xs.length:Int)≤i/\i<xs.length:=by
 unfold atI at h
 cases e:ixN xs.length i with
 | none=>rw [e] at h;cases h
 | some j=>
  rw [e] at h
  obtain ⟨h1,h2,h3,h4⟩:=ixN_seq e
  exact ⟨j,h1,h,h2,h3,h4⟩
noncomputable def PlainIx(b:Expr):Prop:=∀ o i,subscripted b false o i=operate [o,i] (getItem o i)
noncomputable def IxR(X:Cx)(r:R2):Prop:=
 ∀ (value slice:Expr) (pins:List (Addr × Obj)) (s:Shared) (σ:St) (H:Hp) (x y:V) (v u:Value) (Q:VK),Inv X pins σ H s->RelV x v->RelV y u->r x y H Q->
  subscripted slice false v u=operate [v,u] (getItem v u)->wpAny (model X.prog X.w) X.A (subscriptTail value slice v u) (EP X pins σ Q) X.xe s
noncomputable def MtR(X:Cx)(id:String)(r:V->List V->Hp->VK->Prop):Prop:=
 ∀ (pins:List (Addr × Obj)) (s:Shared) (σ:St) (H:Hp) (x:V) (xs:List V) (v:Value) (us:List Value) (Q:VK),Inv X pins σ H s->RelV x v->Vals xs us->r x xs H Q->
  wpAny (model X.prog X.w) X.A (call (.builtin id) (v::us)) (EP X pins σ Q) X.xe s
section
variable {X:Cx} {a b:Expr} {ta tb:TE} {pos:Pos}
theorem IxR.or{r r':R2}(h:IxR X r)(h':IxR X r'):IxR X (fun x y H Q=>r x y H Q∨r' x y H Q):=by
 intro value slice pins s σ H x y v u Q I rx ry q hs
 rcases q with q | q
 ·exact h value slice pins s σ H x y v u Q I rx ry q hs
 ·exact h' value slice pins s σ H x y v u Q I rx ry q hs
theorem MtR.or{id:String}{r r':V->List V->Hp->VK->Prop}(h:MtR X id r)(h':MtR X id r'):MtR X id (fun x xs H Q=>r x xs H Q∨r' x xs H Q):=by
 intro pins s σ H x xs v us Q I rx rs q
 rcases q with q | q
 ·exact h pins s σ H x xs v us Q I rx rs q
 ·exact h' pins s σ H x xs v us Q I rx rs q
theorem pe_ix(hr:IxR X r)(ha:PE X a ta)(hb:PE X b tb)(hs:PlainIx b):PE X (.Subscript a b pos) (tOp r ta tb):=by
 intro pins s σ H Q I h
 exact Subscript_ (binT ha hb I h fun v u s2 x y H2 I2 rx ry q=>hr a b pins s2 σ H2 x y v u Q I2 rx ry q (hs _ _))

noncomputable def rIxL(K:PySem.W.Frag):R2:=fun x y H Q=>∃ p xs i v,x=.ref p/\y=.int i/\SqL K H p xs/\atI xs i=some v/\Q v H
noncomputable def rIxT(K:PySem.W.Frag):R2:=fun x y H Q=>∃ p xs i v,x=.ref p/\y=.int i/\SqT K H p xs/\atI xs i=some v/\Q v H
noncomputable def rIxS:R2:=fun x y H Q=>∃ z i c,x=.str z/\y=.int i/\z.length≤sizeLine/\atI z.cps.toList i=some c/\Q (.str ⟨#[c]⟩) H
theorem ix_list:IxR X (rIxL X.K):=by
 intro value slice pins s σ H x y v u Q I rx ry h hs
 obtain ⟨p,xs,i,z,rfl,rfl,hq,he,q⟩:=h
 cases rx
 obtain ⟨t,rfl⟩:=ry
 obtain ⟨its,r,pl,hz⟩:=I.list hq
 obtain ⟨j,h1,h2,h3,h4,h5⟩:=atI_get he
 obtain ⟨w,ew,rw'⟩:=r.get h2
 have hl:=r.length
 have hn:=line63
 have fin:EP X pins σ Q w s:=⟨z,H,I,rw',q⟩
 by_cases h0:0≤i
 ·have hj:i.toNat=j:=by
   rw [seqIndex_of h0 h5] at h1
   exact Option.some.inj h1
  exact item_listR pl.isList h0 (by omega) (by rw [hj];simpa using ew) fin hs
 ·have hj:(i+(its.toArray.size:Int)).toNat=j:=by
   rw [seqIndex_neg (by omega) h4] at h1
   rw [List.size_toArray,← hl]
   exact Option.some.inj h1
  exact subscriptTail_builtinR (x:=w) pl.isList.typeIs slot_list_getitem.lookup
   (wpAny_getItem_list_neg (Q:=fun r s'=>r=w/\EP X pins σ Q r s') pl.isList (by omega) (by rw [List.size_toArray]<;>omega) (by omega) (by rw [hj];simpa using ew) ⟨rfl,fin⟩) hs
theorem ix_tup:IxR X (rIxT X.K):=by
 intro value slice pins s σ H x y v u Q I rx ry h hs
 obtain ⟨p,xs,i,z,rfl,rfl,hq,he,q⟩:=h
 cases rx
 obtain ⟨t,rfl⟩:=ry
 obtain ⟨its,r,pl,hz⟩:=I.tuple hq
 obtain ⟨j,h1,h2,h3,h4,h5⟩:=atI_get he
 obtain ⟨w,ew,rw'⟩:=r.get h2
 have hl:=r.length
 have hn:=line63
 have fin:EP X pins σ Q w s:=⟨z,H,I,rw',q⟩
 exact subscriptTail_builtinR (x:=w) pl.typeIs slot_tuple_getitem.lookup
  (getItem_tuple (j:=j) (Q:=fun r s'=>r=w/\EP X pins σ Q r s') pl (by omega) (by omega) (by rw [List.size_toArray,← hl];exact h1) (by simpa using ew) ⟨rfl,fin⟩) hs
theorem ix_str:IxR X rIxS:=by
 intro value slice pins s σ H x y v u Q I rx ry h hs
 obtain ⟨z,i,c,rfl,rfl,hz,he,q⟩:=h
 obtain ⟨t,rfl⟩:=rx
 obtain ⟨t',rfl⟩:=ry
 obtain ⟨j,h1,h2,h3,h4,h5⟩:=atI_get he
 have hl:z.cps.toList.length=z.length:=by simp [Str.length]
 rw [hl] at h1 h4 h5
 have hn:=line63
 exact tail_any (typeIs_str s z t) slot_str_getitem.lookup (getItem_str (c:=c) (by
  have e1:decide (i < -(2 ^ 63:Int))=false:=decide_eq_false (by omega)
  have e2:decide (i ≥ 2 ^ 63)=false:=decide_eq_false (by omega)
  rw [e1,e2,Bool.or_false]) (by rw [h1];simpa using h2) ⟨.str ⟨#[c]⟩,H,I.tok _,⟨_,rfl⟩,q⟩) hs
noncomputable def rIx(K:PySem.W.Frag):R2:=fun x y H Q=>rIxL K x y H Q∨rIxT K x y H Q∨rIxS x y H Q
theorem ix_seq:IxR X (rIx X.K):=ix_list.or (ix_tup.or ix_str)

theorem mapSeq_set(its:List Value)(n j:Nat)(u:Value):Obj.mapSeq (·.setIfInBounds j u) { cls:=.type "list",data:=.seq its.toArray n }={ cls:=.type "list",data:=.seq (its.set j u).toArray n }:=by
 simp [Obj.mapSeq]
theorem Inv.lst{pins:List (Addr × Obj)}{σ:St}{H:Hp}{s:Shared}{p:Addr}{xs:List V}(I:Inv X pins σ H s)(h:H p=some (.lst xs)):
  ∃ (its:List Value) (n:Nat),Vals xs its/\s.heap.get? p=some { cls:=.type "list",data:=.seq its.toArray n }/\xs.length≤sizeLine:=by
 obtain ⟨z,its,n,r,e⟩:=I.hok p _ h
 exact ⟨its,n,r,e,z⟩
theorem Inv.lstUpd{H:Hp}{s:Shared}{xs ys:List V}{its its':List Value}(I:Inv X pins σ H s)(h:H p=some (.lst xs))
  (ho:s.heap.get? p=some { cls:=.type "list",data:=.seq its.toArray n })(hf:f { cls:=.type "list",data:=.seq its.toArray n }={ cls:=.type "list",data:=.seq its'.toArray n' })(r:Vals ys its')(hz:ys.length≤sizeLine)(t:Nat):
  Inv X pins σ (upd H p (.lst ys)) { s with heap:=s.heap.update p f,toks:=t }:=by
 have e:(s.heap.update p f).get? p=some { cls:=.type "list",data:=.seq its'.toArray n' }:=by
  rw [Heap.get?_update_self f ho (by rw [hf]<;>rfl),hf]
 refine I.write (x:=p) (e:=p) (by rw [h];trivial) (.inl rfl) (fun b u hb q=>(Heap.get?_update_other _ _ (Ne.symm hb)).trans q) ⟨_,e⟩ ?_
 exact ⟨hz,its',n',r,e⟩
noncomputable def rSetL:V->V->V->Hp->(Hp->Prop)->Prop:=fun o i v H Q=>∃ p xs k j,o=.ref p/\i=.int k/\H p=some (.lst xs)/\ixN xs.length k=some j/\Q (upd H p (.lst (xs.set j v)))
theorem set_list:PSet X rSetL:=by
 intro pins s σ H o i v ov iv u Q I ro ri rv h
 obtain ⟨p,xs,k,j,rfl,rfl,hp,hj,q⟩:=h
 cases ro
 obtain ⟨t,rfl⟩:=ri
 obtain ⟨its,n,r,ho,hz⟩:=I.lst hp
 obtain ⟨h1,h2,h3,h4⟩:=ixN_seq hj
 have hl:=r.length
 have hn:=line63
 have I':Inv X pins σ (upd H p (.lst (xs.set j v))) { s with heap:=s.heap.update p (Obj.mapSeq (·.setIfInBounds j u)) }:=
  I.lstUpd hp ho (mapSeq_set its n j u) (r.set rv j) (by rw [List.length_set];exact hz) s.toks
 by_cases h0:0≤k
 ·have hk:k.toNat=j:=by
   rw [seqIndex_of h0 h4] at h1
   exact Option.some.inj h1
  exact PySem.W.ki_setAt ho h0 (by omega) (by rw [List.size_toArray,← hl];exact h4) (by rw [hk];exact ⟨_,I',q⟩)
 ·have hk:(k+(its.toArray.size:Int)).toNat=j:=by
   rw [seqIndex_neg (by omega) h3] at h1
   rw [List.size_toArray,← hl]
   exact Option.some.inj h1
  exact PySem.W.ki_setBack ho (by omega) (by rw [List.size_toArray,← hl];exact h3) (by omega) (by rw [hk];exact ⟨_,I',q⟩)

theorem slice_bounds(lo hi:Option Int)(n:Nat):(sliceBounds lo hi none n).1=((HT.sIx n 0 lo:Nat):Int)/\(sliceBounds lo hi none n).2.1=((HT.sIx n n hi:Nat):Int)/\(sliceBounds lo hi none n).2.2=1:=by
 refine ⟨?_,?_,rfl⟩
 ·cases lo with
  | none=>simp [sliceBounds,HT.sIx]
  | some i=>
   simp only [sliceBounds,HT.sIx,Option.getD_none,show (1:Int) > 0 by decide,if_true]
   by_cases h:i<0
   ·simp only [h,if_true]<;>omega
   ·simp only [h,if_false]<;>omega
 ·cases hi with
  | none=>simp [sliceBounds,HT.sIx]
  | some i=>
   simp only [sliceBounds,HT.sIx,Option.getD_none,show (1:Int) > 0 by decide,if_true]
   by_cases h:i<0
   ·simp only [h,if_true]<;>omega
   ·simp only [h,if_false]<;>omega
theorem slicePick_cut(its:List Value)(lo hi:Option Int):slicePick its.toArray lo hi none=((its.drop (HT.sIx its.length 0 lo)).take (HT.sIx its.length its.length hi - HT.sIx its.length 0 lo)).toArray:=by
 obtain ⟨h1,h2,h3⟩:=slice_bounds lo hi its.toArray.size
 unfold slicePick
 rw [h1,h2,h3]
 simp only [sliceRange_one,pick_run,List.size_toArray]<;>rfl
noncomputable def rSlL(K:PySem.W.Frag):V->Option Int->Option Int->Hp->VK->Prop:=fun x lo hi H Q=>∃ a xs,x=.ref a/\SqL K H a xs/\∀ p,H p=none->Q (.ref p) (upd H p (.lst (cutV xs lo hi)))
theorem sl_list:SlR X (rSlL X.K):=by
 intro pins s σ H x v vl vu lo hi sl Q I rx hs pl pu h
 obtain ⟨a,xs,rfl,hx,q⟩:=h
 cases rx
 obtain ⟨its,r,ht,hz⟩:=I.list hx
 have hlen:=r.length
 refine ⟨"list",_,slot_list_getitem.lookup,ht.isList.typeIs,?_⟩
 refine wpAny_getItem_list_slice ht.isList hs pl pu .none (by simp) ?_ (by rw [List.size_toArray]<;>omega)
 rw [slicePick_cut,← hlen]
 refine ⟨.ref s.heap.objs.size,_,I.laid (t':=s.toks) (o:=.lst (cutV xs lo hi)) (fun b ob q=>Heap.get?_push_of_some _ q) (Nat.le_refl _) ?_,rfl,q _ (I.hok.fresh (Nat.le_refl _))⟩
 exact ⟨Nat.le_trans (cutV_length xs lo hi) hz,_,0,(r.drop (HT.sIx xs.length 0 lo)).take (HT.sIx xs.length xs.length hi - HT.sIx xs.length 0 lo),Heap.get?_push_size _ rfl⟩

noncomputable def flatV:V->Bool
 | .non=>true
 | .bl _=>true
 | .int _=>true
 | .str _=>true
 | _=>false
noncomputable def eqV:V->V->Bool
 | .non,.non=>true
 | .bl a,.bl b=>a == b
 | .bl a,.int b=>(if a then 1 else 0) == b
 | .int a,.bl b=>a == (if b then 1 else 0)
 | .int a,.int b=>a == b
 | .str a,.str b=>a == b
 | _,_=>false
theorem eqAt_V(ry:RelV y u)(rx:RelV x v)(fy:flatV y=true)(fx:flatV x=true):SeqAt.EqAt A s u v (eqV y x):=by
 cases y with
 | non=>
  cases ry
  cases x with
  | non=>cases rx;exact SeqAt.EqAt.same _
  | bl b=>cases rx;exact SeqAt.EqAt.none_bool b
  | int b=>obtain ⟨t,rfl⟩:=rx;exact SeqAt.EqAt.none_int b t
  | str b=>obtain ⟨t,rfl⟩:=rx;exact SeqAt.EqAt.none_str b t
  | _=>exact absurd (show false=true from fx) Bool.false_ne_true
 | bl a=>
  cases ry
  cases x with
  | non=>cases rx;exact SeqAt.EqAt.bool_none a
  | bl b=>cases rx;exact SeqAt.EqAt.bool_bool a b
  | int b=>obtain ⟨t,rfl⟩:=rx;exact SeqAt.EqAt.bool_int a b t
  | str b=>obtain ⟨t,rfl⟩:=rx;exact SeqAt.EqAt.bool_str a b t
  | _=>exact absurd (show false=true from fx) Bool.false_ne_true
 | int a=>
  obtain ⟨t',rfl⟩:=ry
  cases x with
  | non=>cases rx;exact SeqAt.EqAt.int_none a t'
  | bl b=>cases rx;exact SeqAt.EqAt.int_bool a t' b
  | int b=>obtain ⟨t,rfl⟩:=rx;exact SeqAt.EqAt.int_int a t' b t
  | str b=>obtain ⟨t,rfl⟩:=rx;exact SeqAt.EqAt.int_str a t' b t
  | _=>exact absurd (show false=true from fx) Bool.false_ne_true
 | str a=>
  obtain ⟨t',rfl⟩:=ry
  cases x with
  | non=>cases rx;exact SeqAt.EqAt.str_none a t'
  | bl b=>cases rx;exact SeqAt.EqAt.str_bool a t' b
  | int b=>obtain ⟨t,rfl⟩:=rx;exact SeqAt.EqAt.str_int a t' b t
  | str b=>obtain ⟨t,rfl⟩:=rx;exact SeqAt.EqAt.str_str a t' b t
  | _=>exact absurd (show false=true from fx) Bool.false_ne_true
 | _=>exact absurd (show false=true from fy) Bool.false_ne_true
noncomputable def eqU(x:V)(u:Value):Bool:=match u with
 | .none=>eqV .non x
 | .bool b=>eqV (.bl b) x
 | .int i _=>eqV (.int i) x
 | .str z _=>eqV (.str z) x
 | _=>false
theorem eqU_of(r:RelV y u)(f:flatV y=true):eqU x u=eqV y x:=by
 cases y with
 | non=>cases r;rfl
 | bl b=>cases r;rfl
 | int i=>obtain ⟨t,rfl⟩:=r;rfl
 | str z=>obtain ⟨t,rfl⟩:=r;rfl
 | _=>exact absurd (show false=true from f) Bool.false_ne_true
theorem any_eqU{x:V}:∀ {xs:List V} {us:List Value},Vals xs us->xs.all flatV=true->us.any (eqU x)=xs.any fun y=>eqV y x
 | _,_,.nil,_=>rfl
 | y::xs,u::us,.cons r t,f=>by
  rw [List.all_cons,Bool.and_eq_true] at f
  rw [List.any_cons,List.any_cons,eqU_of r f.1,any_eqU t f.2]
theorem mem_eqAt{A:Around}{s:Shared}{x:V}{v:Value}(rx:RelV x v)(fx:flatV x=true):∀ {xs:List V} {us:List Value},Vals xs us->xs.all flatV=true->∀ u ∈ us,SeqAt.EqAt A s u v (eqU x u)
 | _,_,.nil,_=>fun u hu=>by cases hu
 | y::xs,u::us,.cons r t,f=>fun u' hu=>by
  rw [List.all_cons,Bool.and_eq_true] at f
  rcases List.mem_cons.mp hu with rfl | hu
  ·rw [eqU_of r f.1];exact eqAt_V r rx f.1 fx
  ·exact mem_eqAt rx fx t f.2 u' hu
noncomputable def inV(x:V)(xs:List V):Bool:=xs.any fun y=>eqV y x
noncomputable def rIn(K:PySem.W.Frag)(neg:Bool):R2:=fun x y H Q=>∃ p xs,y=.ref p/\(SqL K H p xs∨SqT K H p xs)/\flatV x=true/\xs.all flatV=true/\Q (.bl (if neg then !inV x xs else inV x xs)) H
theorem op_in_seq:OpR X (compareOp .In) (rIn X.K false):=by
 intro pins s σ H x y v u Q I rx ry h
 obtain ⟨p,xs,rfl,hq,fx,fs,q⟩:=h
 cases ry
 rcases hq with hq | hq
 ·obtain ⟨its,r,pl,hz⟩:=I.list hq
  refine SeqAt.in_listAt (eqU x) pl.isList (fun w hw=>mem_eqAt rx fx r fs w (by simpa using hw)) ⟨.bl _,H,I,rfl,?_⟩
  rw [show its.toArray.any (eqU x)=its.any (eqU x) by simp,any_eqU r fs]
  exact q
 ·obtain ⟨its,r,pl,hz⟩:=I.tuple hq
  refine SeqAt.in_tupleAt (eqU x) pl (fun w hw=>mem_eqAt rx fx r fs w (by simpa using hw)) ⟨.bl _,H,I,rfl,?_⟩
  rw [show its.toArray.any (eqU x)=its.any (eqU x) by simp,any_eqU r fs]
  exact q
theorem op_notIn_seq:OpR X (compareOp .NotIn) (rIn X.K true):=by
 intro pins s σ H x y v u Q I rx ry h
 obtain ⟨p,xs,rfl,hq,fx,fs,q⟩:=h
 cases ry
 rcases hq with hq | hq
 ·obtain ⟨its,r,pl,hz⟩:=I.list hq
  refine SeqAt.notIn_listAt (eqU x) pl.isList (fun w hw=>mem_eqAt rx fx r fs w (by simpa using hw)) ⟨.bl _,H,I,rfl,?_⟩
  rw [show its.toArray.any (eqU x)=its.any (eqU x) by simp,any_eqU r fs]
  exact q
 ·obtain ⟨its,r,pl,hz⟩:=I.tuple hq
  refine SeqAt.notIn_tupleAt (eqU x) pl (fun w hw=>mem_eqAt rx fx r fs w (by simpa using hw)) ⟨.bl _,H,I,rfl,?_⟩
  rw [show its.toArray.any (eqU x)=its.any (eqU x) by simp,any_eqU r fs]
  exact q
theorem call_len_seq:CallR X (.builtin "len") (fun xs H Q=>∃ p ys,xs=[.ref p]/\(SqL X.K H p ys∨SqT X.K H p ys)/\Q (.int ys.length) H):=by
 intro pins s σ H xs us Q I r h
 obtain ⟨p,ys,rfl,hq,q⟩:=h
 obtain ⟨u,rfl,rx⟩:=vals1 r
 cases rx
 have hn:=line63
 rcases hq with hq | hq
 ·obtain ⟨its,r',pl,hz⟩:=I.list hq
  have hlen:=r'.length
  exact Calls.call_len_list pl.isList (by simp only [List.size_toArray]<;>omega) ⟨.int ys.length,H,I.tok _,⟨s.toks+1,by rw [List.size_toArray,hlen]⟩,q⟩
 ·obtain ⟨its,r',pl,hz⟩:=I.tuple hq
  have hlen:=r'.length
  exact len_tuple pl (by simp only [List.size_toArray]<;>omega) ⟨.int ys.length,H,I.tok _,⟨s.toks+1,by rw [List.size_toArray,hlen]⟩,q⟩
theorem call_len_str:CallR X (.builtin "len") (fun xs H Q=>∃ z,xs=[.str z]/\z.length≤sizeLine/\Q (.int z.length) H):=by
 intro pins s σ H xs us Q I r h
 obtain ⟨z,rfl,hz,q⟩:=h
 obtain ⟨u,rfl,t,rfl⟩:=vals1 r
 have hn:=line63
 exact len_str (by omega) ⟨.int z.length,H,I.tok _,⟨_,rfl⟩,q⟩
theorem CallR.or{r r':List V->Hp->VK->Prop}(h:CallR X f r)(h':CallR X f r'):CallR X f (fun xs H Q=>r xs H Q∨r' xs H Q):=by
 intro pins s σ H xs us Q I rs q
 rcases q with q | q
 ·exact h pins s σ H xs us Q I rs q
 ·exact h' pins s σ H xs us Q I rs q
theorem call_list_of:CallR X (.type "list") (fun xs H Q=>∃ p ys,xs=[.ref p]/\(SqL X.K H p ys∨SqT X.K H p ys)/\∀ l,H l=none->Q (.ref l) (upd H l (.lst ys))):=by
 intro pins s σ H xs us Q I r h
 obtain ⟨p,ys,rfl,hq,q⟩:=h
 obtain ⟨u,rfl,rx⟩:=vals1 r
 cases rx
 have fin:∀ (its:List Value),Vals ys its->ys.length≤sizeLine->∀ (h':Heap) (c':Nat),(∀ b o',s.heap.get? b=some o'->h'.get? b=some o')->
   h'.get? s.heap.objs.size=some { cls:=.type "list",dict:=none,data:=.seq its.toArray c',slots:=#[] }->EP X pins σ Q (.ref s.heap.objs.size) { s with heap:=h' }:=fun its r' hz h' c' kp e=>
  ⟨.ref s.heap.objs.size,_,I.laid (t':=s.toks) kp (Nat.le_refl _) (show ObjOk X.prog X.w _ h' _ (.lst ys) from ⟨hz,its,c',r',e⟩),rfl,q _ (I.hok.fresh (Nat.le_refl _))⟩
 rcases hq with hq | hq
 ·obtain ⟨its,r',pl,hz⟩:=I.list hq
  have hlen:=r'.length
  obtain ⟨o,ho,hc,n,hd⟩:=pl.isList
  exact call_list_seq p (.inl rfl) ho hc hd (fun h' c' kp e=>fin its r' hz h' c' kp e) (by simp only [List.size_toArray]<;>omega)
 ·obtain ⟨its,r',pl,hz⟩:=I.tuple hq
  have hlen:=r'.length
  obtain ⟨o,ho,hc,n,hd⟩:=pl
  exact call_list_seq p (.inr rfl) ho hc hd (fun h' c' kp e=>fin its r' hz h' c' kp e) (by simp only [List.size_toArray]<;>omega)
theorem call_tuple_of:CallR X (.type "tuple") (fun xs H Q=>∃ p ys,xs=[.ref p]/\((SqL X.K H p ys/\∀ l,H l=none->Q (.ref l) (upd H l (.tup ys)))∨(SqT X.K H p ys/\Q (.ref p) H))):=by
 intro pins s σ H xs us Q I r h
 obtain ⟨p,ys,rfl,h⟩:=h
 obtain ⟨u,rfl,rx⟩:=vals1 r
 cases rx
 rcases h with ⟨hq,q⟩ | ⟨hq,q⟩
 ·obtain ⟨its,r',pl,hz⟩:=I.list hq
  have hlen:=r'.length
  refine call_tuple_list pl.isList (fun h' kp=>?_) (by simp only [List.size_toArray]<;>omega)
  have I1:Inv X pins σ H { s with heap:=h' }:=I.kept (t':=s.toks) kp
  have I2:Inv X pins σ (upd H h'.objs.size (.tup ys)) { s with heap:=h'.push { cls:=.type "tuple",data:=.seq its.toArray } }:=
   I1.laid (t':=s.toks) (fun b o e=>Heap.get?_push_of_some _ e) (Nat.le_refl _) (show ObjOk X.prog X.w _ _ _ (.tup ys) from ⟨hz,its,r',IsTup.new _ _⟩)
  exact ⟨.ref h'.objs.size,_,I2,rfl,q _ (I1.hok.fresh (Nat.le_refl _))⟩
 ·obtain ⟨its,r',pl,hz⟩:=I.tuple hq
  exact call_tuple_same pl ⟨.ref p,H,I,rfl,q⟩

noncomputable def tyV(K:PySem.W.Frag)(T:String)(x:V)(H:Hp):Prop:=match x with
 | .str _=>T="str"
 | .int _=>T="int"
 | .ref p=>(T="list"/\∃ xs,SqL K H p xs)∨(T="tuple"/\∃ o,K.lookup p=some o/\o.cls=.type "tuple"/\o.dict=none)∨
   (T="dict"/\((∃ kvs,H p=some (.dK kvs))∨∃ kvs,H p=some (.dT kvs)))∨(T="set"/\∃ S n,H p=some (.set S n))
 | _=>False
theorem tyV_is{s:Shared}(I:Inv X pins σ H s)(r:RelV x v)(ty:tyV X.K T x H):
  s.TypeIs v T/\∀ a,v=.ref a->∃ ob,s.heap.get? a=some ob/\ob.dict=none:=by
 cases x with
 | str z=>
  obtain ⟨t,rfl⟩:=r
  cases (show T="str" from ty)
  exact ⟨typeIs_str s z t,fun _ e=>nomatch e⟩
 | int i=>
  obtain ⟨t,rfl⟩:=r
  cases (show T="int" from ty)
  exact ⟨typeIs_int s i t,fun _ e=>nomatch e⟩
 | ref p=>
  cases r
  rcases ty with ⟨rfl,xs,hq⟩ | ⟨rfl,o,hk,hc,hd⟩ | ⟨rfl,hk⟩ | ⟨rfl,S,n,hk⟩
  ·obtain ⟨its,_,pl,_⟩:=I.list hq
   refine ⟨pl.isList.typeIs,fun a e=>?_⟩
   cases e
   obtain ⟨o,n,e,c,hd,_⟩:=pl
   exact ⟨o,e,hd⟩
  ·refine ⟨⟨o,I.kIn p o hk,hc⟩,fun a e=>?_⟩
   cases e
   exact ⟨o,I.kIn _ o hk,hd⟩
  ·have z:∃ o,s.heap.get? p=some o/\o.ExactDict:=by
    rcases hk with ⟨kvs,hk⟩ | ⟨kvs,hk⟩
    ·obtain ⟨_,_,_,_,o,_,_,e,ex,_⟩:=I.hok p _ hk
     exact ⟨o,e,ex⟩
    ·obtain ⟨_,_,_,_,o,_,_,e,ex,_⟩:=I.hok p _ hk
     exact ⟨o,e,ex⟩
   obtain ⟨o,e,ex⟩:=z
   refine ⟨⟨o,e,ex.1⟩,fun a e2=>?_⟩
   cases e2
   exact ⟨o,e,ex.2.1⟩
  ·obtain ⟨o,_,_,_,e,ex,_⟩:=I.hok p _ hk
   refine ⟨⟨o,e,ex.1⟩,fun a e2=>?_⟩
   cases e2
   exact ⟨o,e,ex.2.1⟩
 | _=>exact False.elim ty
noncomputable def tBM0(K:PySem.W.Frag)(T:String)(r:V->List V->Hp->VK->Prop)(to:TE):TE:=fun σ H Q=>to σ H fun x H1=>tyV K T x H1/\r x [] H1 Q
noncomputable def tBM(K:PySem.W.Frag)(T:String)(r:V->List V->Hp->VK->Prop)(to:TE)(t:TA):TE:=fun σ H Q=>to σ H fun x H1=>tyV K T x H1/\t σ H1 fun xs H2=>r x xs H2 Q
variable {o e:Expr} {es:List Expr} {to:TE} {t:TA} {name:Str} {apos cpos:Pos} {T id:String} {r:V->List V->Hp->VK->Prop}
theorem pe_bm0(pa:PlainAttrs T)(slot:Slot T name id)(hty:typeOf (.builtin id)=pure (.type "method_descriptor"))(hm:MtR X id r)(ho:PE X o to)
  (hbase:attributeBase o name X.env (eval o X.env)=eval o X.env:=by rfl)(hline:(apos.endLine == cpos.line)=true:=by rfl):PE X (.Call (.Attribute o name apos) [] [] cpos) (tBM0 X.K T r to):=by
 intro pins s σ H Q I h
 refine wpAny_Call_method0_late hbase hline (thn (ho pins s σ H _ I h) fun v s1 hq_=>?_)
 obtain ⟨x,H1,I1,r1,ty,q1⟩:=hq_
 obtain ⟨h1,h2⟩:=tyV_is I1 r1 ty
 exact ⟨T,id,pa,slot,hty,h1,h2,Calls.callWith_builtin rfl (PySem.evalArgs_none (hm pins s1 σ H1 x [] v [] Q I1 r1 .nil q1))⟩
theorem pe_bm(pa:PlainAttrs T)(slot:Slot T name id)(hty:typeOf (.builtin id)=pure (.type "method_descriptor"))(hm:MtR X id r)(ho:PE X o to)(ha:PA X (e::es) t)
  (hbase:attributeBase o name X.env (eval o X.env)=eval o X.env:=by rfl)
  (hfew:((backTo cpos (starEach (e::es) X.env)).all (fun x=>!x.1) && (backToKw cpos (keywordEach [] X.env)).all (fun x=>x.1.isSome)
   && decide ((e::es).length+([]:List Keyword).length+(if ([]:List Keyword).isEmpty then 0 else 1)<30))=true:=by rfl)
  (hline:(apos.endLine == cpos.line)=true:=by rfl)(hs:starEach (e::es) X.env=(false,eval e X.env)::starEach es X.env:=by rfl)(hplain:(backTo cpos (starEach es X.env)).any (·.1)=false:=by rfl):
  PE X (.Call (.Attribute o name apos) (e::es) [] cpos) (tBM X.K T r to t):=by
 intro pins s σ H Q I h
 refine wpAny_Call_method_late hbase hfew hline rfl (thn (ho pins s σ H _ I h) fun v s1 hq_=>?_)
 obtain ⟨x,H1,I1,r1,ty,q1⟩:=hq_
 obtain ⟨h1,h2⟩:=tyV_is I1 r1 ty
 refine ⟨T,id,pa,slot,hty,h1,h2,?_⟩
 have hA:=ha cpos pins s1 σ H1 _ I1 q1
 rw [hs] at hA ⊢
 refine Calls.callWith_builtin (by show (false || (backTo cpos (starEach es X.env)).any (·.1))=false;rw [hplain]<;>rfl) (Calls.evalArgs_plain ?_)
 exact thn hA fun us s2 ⟨vs,H2,I2,r2,q2⟩=>hm pins s2 σ H2 x vs v us Q I2 r1 r2 q2
end
end L2
namespace L2
open PySem PySem.Spec PyProof.Rows
noncomputable def MtM(X:Cx)(id:String)(r:V->List V->Hp->VK->Prop):Prop:=
 ∀ (pins:List (Addr × Obj)) (s:Shared) (σ:St) (H:Hp) (x:V) (xs:List V) (v:Value) (us:List Value) (Q:VK),Inv X pins σ H s->RelV x v->Vals xs us->r x xs H Q->
  wpAny (model X.prog X.w) X.A (call (.builtin id) (v::us)) (EP X pins σ Q) X.xe s

theorem Vals.one{x:V}{us:List Value}(h:Vals [x] us):∃ u,us=[u]/\RelV x u:=by
 cases h with | cons r t=>cases t;exact ⟨_,rfl,r⟩
theorem Vals.zero:∀ {us:List Value},Vals [] us->us=[]
 | _,.nil=>rfl
theorem Vals.dropLast{xs:List V}{us:List Value}(h:Vals xs us):Vals xs.dropLast us.dropLast:=by
 induction h with
 | nil=>exact .nil
 | cons r t ih=>
  cases t with
  | nil=>exact .nil
  | cons q t'=>exact .cons r ih
theorem Vals.eraseIdx:∀ {xs:List V} {us:List Value} (i:Nat),Vals xs us->Vals (xs.eraseIdx i) (us.eraseIdx i)
 | _,_,_,.nil=>.nil
 | _,_,0,.cons _ t=>t
 | _,_,i+1,.cons r t=>.cons r (Vals.eraseIdx i t)
theorem Vals.reverse{xs:List V}{us:List Value}(h:Vals xs us):Vals xs.reverse us.reverse:=by
 induction h with
 | nil=>exact .nil
 | cons r t ih=>rw [List.reverse_cons,List.reverse_cons];exact Vals.append ih (.cons r .nil)
theorem Vals.rep{xs:List V}{us:List Value}(h:Vals xs us):∀ k:Nat,Vals (List.replicate k xs).flatten (List.replicate k us).flatten
 | 0=>.nil
 | k+1=>by
  rw [List.replicate_succ,List.replicate_succ,List.flatten_cons,List.flatten_cons]
  exact Vals.append h (Vals.rep h k)
theorem erase_last{α:Type}(l:List α):l.eraseIdx (l.length - 1)=l.dropLast:=List.eraseIdx_length_sub_one
theorem foldl_rep(its:List Value):∀ (k:Nat) (acc:List Value),
  List.foldl (fun x1 x2=>x1++x2) acc.toArray (List.replicate k its.toArray)=(acc++(List.replicate k its).flatten).toArray
 | 0,acc=>by simp
 | k+1,acc=>by
  have e:acc.toArray++its.toArray=(acc++its).toArray:=by simp
  have e2:(acc++its)++(List.replicate k its).flatten=acc++(List.replicate (k+1) its).flatten:=by
   rw [List.replicate_succ,List.flatten_cons,List.append_assoc]
  rw [← e2,← foldl_rep its k (acc++its),← e,List.replicate_succ,List.foldl_cons]

section
variable {X:Cx} {pins:List (Addr × Obj)} {σ:St} {H:Hp} {s:Shared} {l b:Addr} {xs ys zs:List V}
theorem Inv.lset{its its':List Value}{f:Array Value->Array Value}(I:Inv X pins σ H s)(hH:H l=some (.lst xs))
  (e:s.heap.get? l=some { cls:=.type "list",data:=.seq its.toArray n })(hf:f its.toArray=its'.toArray)(hv:Vals ys its')(hz:ys.length≤sizeLine):
  Inv X pins σ (upd H l (.lst ys)) { s with heap:=s.heap.update l (Obj.mapSeq f),toks:=t' }:=by
 have q:=PySem.IsL.update e f
 rw [hf] at q
 refine I.write (x:=l) (e:=l) (by rw [hH];exact trivial) (.inl rfl) (fun b' u hb hu=>(Heap.get?_update_other s.heap (Obj.mapSeq f) (Ne.symm hb)).trans hu) ⟨_,q⟩ ?_
 exact ⟨hz,its',_,hv,q⟩
theorem Inv.lnew{its:List Value}(I:Inv X pins σ H s)(hv:Vals ys its)(hz:ys.length≤sizeLine):
  Inv X pins σ (upd H s.heap.objs.size (.lst ys)) { s with heap:=s.heap.push { cls:=.type "list",data:=.seq its.toArray },toks:=t' }:=
 I.laid (fun _ _ q=>Heap.get?_push_of_some _ q) (Nat.le_refl _) ⟨hz,its,0,hv,Heap.get?_push_size _ rfl⟩
theorem Inv.fresh(I:Inv X pins σ H s):H s.heap.objs.size=none:=I.hok.fresh (Nat.le_refl _)
theorem Inv.lstM(I:Inv X pins σ H s)(hH:H l=some (.lst xs)):xs.length≤sizeLine/\∃ (its:List Value) (n:Nat),Vals xs its/\xs.length=its.length/\s.heap.get? l=some { cls:=.type "list",data:=.seq its.toArray n }:=by
 obtain ⟨z,its,n,r,e⟩:=I.hok l _ hH
 exact ⟨z,its,n,r,r.length,e⟩

theorem notLongL(h:n≤sizeLine):Builtin.List.listTooLong n=false:=by
 unfold Builtin.List.listTooLong
 exact decide_eq_false (by omega)
end
section
variable {X:Cx}
noncomputable def rAppend:V->List V->Hp->VK->Prop:=fun x vs H Q=>∃ l xs y,x=.ref l/\vs=[y]/\H l=some (.lst xs)/\xs.length<sizeLine/\Q .non (upd H l (.lst (xs++[y])))
theorem mt_append:MtM X "list.append" rAppend:=by
 intro pins s σ H x vs v us Q I rx rv h
 obtain ⟨l,xs,y,rfl,rfl,hH,hz,q⟩:=h
 cases rx
 obtain ⟨u,rfl,ru⟩:=rv.one
 obtain ⟨z,its,n,r,hl,e⟩:=I.lstM hH
 refine call_meets F.slot_list_append ⟨_,e,rfl⟩ F.entry_list_append (F.args_list_append_2 _ _) (PySem.list_append l its.toArray n u (by rw [List.size_toArray];omega)) ⟨e,?_⟩
 refine ⟨.non,_,I.lset (its':=its++[u]) hH e (by simp) (r.append (.cons ru .nil)) ?_,rfl,q⟩
 rw [List.length_append,List.length_singleton]
 omega

noncomputable def rExtend:V->List V->Hp->VK->Prop:=fun x vs H Q=>∃ l b xs zs,x=.ref l/\vs=[.ref b]/\H l=some (.lst xs)/\H b=some (.lst zs)/\xs.length+zs.length≤sizeLine/\Q .non (upd H l (.lst (xs++zs)))
theorem mt_extend:MtM X "list.extend" rExtend:=by
 intro pins s σ H x vs v us Q I rx rv h
 obtain ⟨l,b,xs,zs,rfl,rfl,hH,hB,hz,q⟩:=h
 cases rx
 obtain ⟨u,rfl,ru⟩:=rv.one
 cases ru
 obtain ⟨z,its,n,r,hl,e⟩:=I.lstM hH
 obtain ⟨z2,its2,n2,r2,hl2,e2⟩:=I.lstM hB
 have hsz:its.toArray.size+its2.toArray.size≤sizeLine:=by rw [List.size_toArray,List.size_toArray];omega
 have hlong:¬ (!its.toArray.isEmpty && Builtin.List.listTooLong (its.toArray.size+its2.toArray.size))=true:=by
  rw [notLongL hsz,Bool.and_false]
  exact Bool.false_ne_true
 refine call_meets F.slot_list_extend ⟨_,e,rfl⟩ F.entry_list_extend (F.args_list_extend_2 _ _)
  (AutoSeq1.list_extend_list_list_0 l its.toArray n b its2.toArray n2 hlong (by rw [List.size_toArray];omega) (by omega)) ⟨e,e2,?_⟩
 refine ⟨.non,_,I.lset (its':=its++its2) hH e (by simp) (r.append r2) ?_,rfl,q⟩
 rw [List.length_append]
 omega

noncomputable def rPop:V->List V->Hp->VK->Prop:=fun x vs H Q=>∃ l xs y,x=.ref l/\vs=[]/\H l=some (.lst xs)/\xs[xs.length - 1]?=some y/\Q y (upd H l (.lst xs.dropLast))
theorem mt_pop:MtM X "list.pop" rPop:=by
 intro pins s σ H x vs v us Q I rx rv h
 obtain ⟨l,xs,y,rfl,rfl,hH,hy,q⟩:=h
 cases rx
 have hus:=rv.zero
 subst hus
 obtain ⟨z,its,n,r,hl,e⟩:=I.lstM hH
 obtain ⟨u,hu,ru⟩:=r.get hy
 have hy':its.toArray[its.toArray.size - 1]?=some u:=by
  show its.toArray[its.length - 1]?=some u
  rw [← Array.getElem?_toList,← hl]
  exact hu
 refine call_meets F.slot_list_pop ⟨_,e,rfl⟩ F.entry_list_pop (F.args_list_pop_1 _) (MeetsSeq.list_pop_last l its.toArray n u hy' (by rw [List.size_toArray];omega)) ⟨e,?_⟩
 refine ⟨y,_,I.lset (its':=its.dropLast) hH e ?_ r.dropLast ?_,ru,q⟩
 ·show its.toArray.eraseIdxIfInBounds (its.toArray.size - 1)=its.dropLast.toArray
  rw [List.size_toArray,List.eraseIdxIfInBounds_toArray,erase_last]
 ·rw [List.length_dropLast]
  omega

noncomputable def rCat:R2:=fun x y H Q=>∃ l b xs zs,x=.ref l/\y=.ref b/\H l=some (.lst xs)/\H b=some (.lst zs)/\xs.length+zs.length≤sizeLine/\∀ p,H p=none->Q (.ref p) (upd H p (.lst (xs++zs)))
theorem op_cat:OpR X (binaryOp .Add) rCat:=by
 intro pins s σ H x y v u Q I rx ry h
 obtain ⟨l,b,xs,zs,rfl,rfl,hH,hB,hz,q⟩:=h
 cases rx
 cases ry
 obtain ⟨z,its,n,r,hl,e⟩:=I.lstM hH
 obtain ⟨z2,its2,n2,r2,hl2,e2⟩:=I.lstM hB
 refine PySem.P.add_list e e2 ?_ (by rw [List.size_toArray,List.size_toArray];omega)
 have ea:its.toArray++its2.toArray=(its++its2).toArray:=by simp
 rw [ea]
 exact ⟨.ref _,_,I.lnew (t':=s.toks) (r.append r2) (by rw [List.length_append];omega),rfl,q _ I.fresh⟩
noncomputable def rRep:R2:=fun x y H Q=>∃ l k xs,x=.ref l/\y=.int k/\H l=some (.lst xs)/\-(2 ^ 63)≤k/\k<2 ^ 63/\xs.length * k.toNat≤sizeLine/\
 ∀ p,H p=none->Q (.ref p) (upd H p (.lst (List.replicate k.toNat xs).flatten))
theorem len_rep{α:Type}(xs:List α)(k:Nat):(List.replicate k xs).flatten.length=k * xs.length:=by
 induction k with
 | zero=>simp
 | succ k ih=>rw [List.replicate_succ,List.flatten_cons,List.length_append,ih,Nat.succ_mul,Nat.add_comm]
theorem op_rep:OpR X (binaryOp .Mult) rRep:=by
 intro pins s σ H x y v u Q I rx ry h
 obtain ⟨l,k,xs,rfl,rfl,hH,h1,h2,hz,q⟩:=h
 cases rx
 obtain ⟨t,rfl⟩:=ry
 obtain ⟨z,its,n,r,hl,e⟩:=I.lstM hH
 have hlen:its.toArray.size * k.toNat≤sizeLine:=by rw [List.size_toArray,← hl];exact hz
 have hcap:¬ its.toArray.size * k.toNat > (2 ^ 63 - 1) / 8:=by
  have:(sizeLine:Nat)≤(2 ^ 63 - 1) / 8:=by decide
  omega
 have hfit:¬ (!Builtin.List.listFitsIndex k)=true:=by
  rw [fitsIndex_both h1 h2]
  exact Bool.false_ne_true
 have hlong:¬ Builtin.List.listTooLong (its.toArray.size * k.toNat)=true:=by
  rw [notLongL hlen]
  exact Bool.false_ne_true
 have hnew:List.foldl (fun x1 x2=>x1++x2) #[] (List.replicate (if its.toArray.isEmpty=true then 0 else k.toNat) its.toArray)=(List.replicate k.toNat its).flatten.toArray:=by
  have f0:∀ m:Nat,List.foldl (fun x1 x2=>x1++x2) #[] (List.replicate m its.toArray)=(List.replicate m its).flatten.toArray:=fun m=>by
   have:=foldl_rep its m []
   rw [List.nil_append] at this
   exact this
  rw [f0]
  cases its with
  | nil=>simp
  | cons a r'=>rw [if_neg (by simp)]
 refine wpAny_binaryOp_repeat_ref (T:="list") (U:="int") (by decide) ⟨_,e,rfl⟩ (fun s'=>typeIs_int s' k t) noFill_list_mul F.fills_int_mul F.slot_int_rmul repeat_list F.slot_int_index.lookup
  (call_meets F.slot_int_rmul (typeIs_int s k t) F.entry_int_rmul (F.args_int_rmul_2 _ _) (int___rmul___int_list k t l its.toArray n)
   ⟨e,rfl,⟨_,e,rfl⟩,call_meets F.slot_list_mul ⟨_,e,rfl⟩ F.entry_list_mul (F.args_list_mul_2 _ _) (AutoListH.list___mul___list_int_3 l its.toArray n k t hfit hcap hlong) ⟨e,?_⟩⟩)
 rw [hnew]
 exact ⟨.ref _,_,I.lnew (t':=s.toks) (r.rep k.toNat) (by rw [len_rep,Nat.mul_comm];exact hz),rfl,q _ I.fresh⟩

end
section
variable {prog:Program} {w:World} {A:Around} {E:Value->Shared->Prop} {s:Shared}
end
section
variable {X:Cx}
end
end L2
namespace L2
open PySem PySem.Spec PyProof.Rows
section
variable {κ:Type} [DecidableEq κ]
noncomputable def valV(kvs:List (κ × V))(k:κ):Option V:=(kvs.find? fun kv=>decide (kv.1=k)).map (·.2)
noncomputable def putK(kvs:List (κ × V))(k:κ)(v:V):List (κ × V):=
 if (kvs.any fun kv=>decide (kv.1=k))=true then kvs.map (fun kv=>if kv.1=k then (kv.1,v) else kv) else kvs++[(k,v)]
noncomputable def dropK(kvs:List (κ × V))(k:κ):List (κ × V):=kvs.filter fun kv=>decide (kv.1≠k)

theorem valV_pos{p:κ × V}(e:p.1=k):valV (p::r) k=some p.2:=by simp [valV,List.find?_cons,e]
theorem valV_neg{p:κ × V}(e:¬ p.1=k):valV (p::r) k=valV r k:=by simp [valV,List.find?_cons,e]
theorem valV_any(k:κ):∀ kvs:List (κ × V),(kvs.any fun kv=>decide (kv.1=k))=(valV kvs k).isSome
 | []=>rfl
 | p::r=>by
  rw [List.any_cons]
  by_cases e:p.1=k
  ·simp only [valV_pos e,decide_eq_true e,Bool.true_or,Option.isSome_some]
  ·rw [valV_neg e,decide_eq_false e,Bool.false_or];exact valV_any k r
theorem length_putK(kvs:List (κ × V))(k:κ)(v:V):(putK kvs k v).length≤kvs.length+1:=by
 unfold putK
 split
 ·rw [List.length_map];omega
 ·rw [List.length_append,List.length_cons,List.length_nil];omega
theorem RelO.isSome_eq{o:Option V}{u:Option Value}(r:RelO o u):o.isSome=u.isSome:=by
 cases o with
 | none=>cases u with
  | none=>rfl
  | some _=>exact (show False from r).elim
 | some _=>cases u with
  | none=>exact (show False from r).elim
  | some _=>rfl
theorem RelO.getD{o:Option V}{u:Option Value}(r:RelO o u)(rd:RelV d d'):RelV (o.getD d) (u.getD d'):=by
 cases o with
 | none=>cases u with
  | none=>exact rd
  | some _=>exact (show False from r).elim
 | some _=>cases u with
  | none=>exact (show False from r).elim
  | some _=>exact r

theorem KV.val(r:KV kvs vs)(k:κ):RelO (valV kvs k) (valueAt vs k):=by
 unfold KV at r
 induction r with
 | nil=>exact True.intro
 | @cons p q ps qs h t ih=>
  obtain ⟨h1,h2⟩:=h
  by_cases e:p.1=k
  ·have e':q.1=k:=h1.symm.trans e
   have b:valueAt (q::qs) k=some q.2:=by simp [valueAt,List.find?_cons,e']
   rw [valV_pos e,b];exact h2
  ·have e':¬ q.1=k:=fun z=>e (h1.trans z)
   have b:valueAt (q::qs) k=valueAt qs k:=by simp [valueAt,List.find?_cons,e']
   rw [valV_neg e,b];exact ih
theorem KV.any{kvs:List (κ × V)}{vs:List (κ × Value)}(r:KV kvs vs)(k:κ):(kvs.any fun kv=>decide (kv.1=k))=vs.any fun kv=>decide (kv.1=k):=by
 unfold KV at r
 induction r with
 | nil=>rfl
 | cons h t ih=>rw [List.any_cons,List.any_cons,ih,h.1]
theorem KV.repl{kvs:List (κ × V)}{vs:List (κ × Value)}(r:KV kvs vs)(k:κ)(ry:RelV y u):
  KV (kvs.map fun kv=>if kv.1=k then (kv.1,y) else kv) (vs.map fun kv=>if kv.1=k then (kv.1,u) else kv):=by
 unfold KV at r ⊢
 induction r with
 | nil=>exact .nil
 | @cons p q ps qs h t ih=>
  rw [List.map_cons,List.map_cons]
  refine .cons ?_ ih
  obtain ⟨h1,h2⟩:=h
  by_cases e:p.1=k
  ·rw [if_pos e,if_pos (h1.symm.trans e)];exact ⟨h1,ry⟩
  ·rw [if_neg e,if_neg (fun z=>e (h1.trans z))];exact ⟨h1,h2⟩
theorem KV.put(r:KV kvs vs)(k:κ)(ry:RelV y u):KV (putK kvs k y) (stored vs k u):=by
 unfold putK stored
 rw [r.any k]
 by_cases e:(vs.any fun kv=>decide (kv.1=k))=true
 ·rw [if_pos e,if_pos e];exact r.repl k ry
 ·rw [if_neg e,if_neg e];exact Paired.snoc r ⟨rfl,ry⟩
theorem KV.drop(r:KV kvs vs)(k:κ):KV (dropK kvs k) (without vs k):=by
 unfold KV at r ⊢
 unfold dropK without
 induction r with
 | nil=>exact .nil
 | @cons p q ps qs h t ih=>
  obtain ⟨h1,h2⟩:=h
  rw [List.filter_cons,List.filter_cons]
  by_cases e:p.1=k
  ·have a:¬ decide (p.1≠k)=true:=by simp [e]
   have b:¬ decide (q.1≠k)=true:=by simp [h1.symm.trans e]
   rw [if_neg a,if_neg b];exact ih
  ·have e':¬ q.1=k:=fun z=>e (h1.trans z)
   have a:decide (p.1≠k)=true:=by simp [e]
   have b:decide (q.1≠k)=true:=by simp [e']
   rw [if_pos a,if_pos b];exact .cons ⟨h1,h2⟩ ih
theorem KV.keys{kvs:List (κ × V)}{vs:List (κ × Value)}(r:KV kvs vs):kvs.map (·.1)=vs.map (·.1):=by
 unfold KV at r
 induction r with
 | nil=>rfl
 | cons h t ih=>rw [List.map_cons,List.map_cons,ih,h.1]
theorem KV.length{kvs:List (κ × V)}{vs:List (κ × Value)}(r:KV kvs vs):kvs.length=vs.length:=Paired.length r
end
theorem kV_is(r:RelV (kV k) u):(mixKind P w).is k u=true:=by
 cases k with
 | inl i=>obtain ⟨t,e⟩:=(show ∃ t,u=Value.int i t from r);subst e;exact mixKind_int P w i t
 | inr x=>obtain ⟨t,e⟩:=(show ∃ t,u=Value.str x t from r);subst e;exact mixKind_str P w x t
theorem items_are{P:Program}{w:World}:∀ {ks:List Key} {us:List Value},Vals (ks.map kV) us->ItemsAre (mixKind P w) ks us
 | [],_,r=>by rw [List.map_nil] at r;cases r;exact .nil
 | k::ks,_,r=>by
  rw [List.map_cons] at r
  cases r with
  | cons h t=>exact .cons (kV_is h) (items_are t)

noncomputable abbrev KT(H:Hp):List (List Key × V)->List (List Key × Addr × Value)->Prop:=Paired fun p q=>p.1=q.1/\H q.2.1=some (.tup (p.1.map kV))/\RelV p.2 q.2.2
theorem KT.val(r:KT H kvs xs)(k:List Key):RelO (valV kvs k) ((atKey xs k).map (·.2)):=by
 induction r with
 | nil=>exact True.intro
 | @cons p q ps qs h t ih=>
  obtain ⟨h1,_,h2⟩:=h
  by_cases e:p.1=k
  ·have e':q.1=k:=h1.symm.trans e
   have b:atKey (q::qs) k=some q.2:=by simp [atKey,List.find?_cons,e']
   rw [valV_pos e,b];exact h2
  ·have e':¬ q.1=k:=fun z=>e (h1.trans z)
   have b:atKey (q::qs) k=atKey qs k:=by simp [atKey,List.find?_cons,e']
   rw [valV_neg e,b];exact ih
theorem KT.repl{kvs:List (List Key × V)}{xs:List (List Key × Addr × Value)}(r:KT H kvs xs)(k:List Key)(ry:RelV y u):
  KT H (kvs.map fun kv=>if kv.1=k then (kv.1,y) else kv) (xs.map (putAt k u)):=by
 induction r with
 | nil=>exact .nil
 | @cons p q ps qs h t ih=>
  rw [List.map_cons,List.map_cons]
  refine .cons ?_ ih
  obtain ⟨h1,h2,h3⟩:=h
  unfold putAt
  by_cases e:p.1=k
  ·rw [if_pos e,if_pos (h1.symm.trans e)];exact ⟨h1,h2,ry⟩
  ·rw [if_neg e,if_neg (fun z=>e (h1.trans z))];exact ⟨h1,h2,h3⟩
theorem KT.put{H:Hp}(r:KT H kvs xs)(k:List Key)(hb:H b=some (.tup (k.map kV)))(ry:RelV y u):
  KT H (putK kvs k y) (storedH xs k b u):=by
 have e:(kvs.any fun kv=>decide (kv.1=k))=(atKey xs k).isSome:=by
  rw [valV_any,(r.val k).isSome_eq,Option.isSome_map]
 unfold putK storedH
 rw [e]
 by_cases q:(atKey xs k).isSome=true
 ·rw [if_pos q,if_pos q];exact r.repl k ry
 ·rw [if_neg q,if_neg q];exact Paired.snoc r ⟨rfl,hb,ry⟩
theorem KT.keeps{H H':Hp}(r:KT H kvs xs)(ht:∀ b ys,H b=some (.tup ys)->H' b=some (.tup ys)):KT H' kvs xs:=
 Paired.mapP r fun _ _ z=>⟨z.1,ht _ _ z.2.1,z.2.2⟩

section
variable {P:Program} {w:World} {H:Hp} {h:Heap} {a:Addr}
theorem rd_of(ok:HOk P w H h)(e:Rd H a u):ObjOk P w H h a u:=e.ok ok
theorem dk_rd{kvs:List (Key × V)}(ok:HOk P w H h)(e:Rd H a (.dK kvs)):kvs.length≤sizeLine/\(a == sysModules)=false/\∃ vs,KV kvs vs/\h.DictOf (mixKind P w) a vs:=
 show ObjOk P w H h a (.dK kvs) from rd_of ok e
theorem dk_of{kvs:List (Key × V)}(ok:HOk P w H h)(e:H a=some (.dK kvs)):kvs.length≤sizeLine/\(a == sysModules)=false/\∃ vs,KV kvs vs/\h.DictOf (mixKind P w) a vs:=dk_rd ok (.inl e)
theorem key_of{ks:List Key}(ok:HOk P w H h)(e:H a=some (.tup (ks.map kV))):(tupleKind (mixKind P w)).is h ks a:=by
 obtain ⟨_,its,r,o,h1,h2,n,h3⟩:=(show ObjOk P w H h a (.tup (ks.map kV)) from ok a _ e)
 exact ⟨o,its.toArray,n,h1,h2,h3,by simpa using items_are r⟩
theorem dt_rd{kvs:List (List Key × V)}(ok:HOk P w H h)(e:Rd H a (.dT kvs)):kvs.length≤sizeLine/\(a == sysModules)=false/\
  ∃ xs,KT H kvs xs/\h.DictOfH (tupleKind (mixKind P w)) a xs:=by
 obtain ⟨z,y,xs,r,o,es,ep,h1,h2,h3,h4,h5⟩:=(show ObjOk P w H h a (.dT kvs) from rd_of ok e)
 refine ⟨z,y,xs,r,o,es,ep,h1,h2,h3,h4,fun x hx=>?_,h5⟩
 have all:∀ {l:List (List Key × V)} {m:List (List Key × Addr × Value)},KT H l m->∀ x ∈ m,(tupleKind (mixKind P w)).is h x.1 x.2.1:=by
  intro l m q
  induction q with
  | nil=>intro x hx;exact nomatch hx
  | @cons p q ps qs hq t ih=>
   intro x hx
   rcases List.mem_cons.mp hx with e | hx
   ·subst e
    exact key_of ok (by rw [← hq.1];exact hq.2.1)
   ·exact ih x hx
 exact all r x hx
theorem dt_of{kvs:List (List Key × V)}(ok:HOk P w H h)(e:H a=some (.dT kvs)):kvs.length≤sizeLine/\(a == sysModules)=false/\
  ∃ xs,KT H kvs xs/\h.DictOfH (tupleKind (mixKind P w)) a xs:=dt_rd ok (.inl e)
end
noncomputable def DGet(H:Hp)(a:Addr)(y:V)(r:Option V):Prop:=
 (∃ kvs k,Rd H a (.dK kvs)/\y=kV k/\r=valV kvs k)∨∃ kvs k b,Rd H a (.dT kvs)/\y=.ref b/\H b=some (.tup (k.map kV))/\r=valV kvs k
noncomputable def DPut(H:Hp)(a:Addr)(y v:V)(H':Hp):Prop:=
 (∃ kvs k,H a=some (.dK kvs)/\y=kV k/\kvs.length<sizeLine/\H'=upd H a (.dK (putK kvs k v)))∨
 ∃ kvs k b,H a=some (.dT kvs)/\y=.ref b/\H b=some (.tup (k.map kV))/\kvs.length<sizeLine/\H'=upd H a (.dT (putK kvs k v))
theorem DGet.k{H:Hp}{a:Addr}{kvs:List (Key × V)}{k:Key}(e:H a=some (.dK kvs)):DGet H a (kV k) (valV kvs k):=.inl ⟨kvs,k,.inl e,rfl,rfl⟩
theorem DGet.t{H:Hp}{k:List Key}(e:H a=some (.dT kvs))(eb:H b=some (.tup (k.map kV))):DGet H a (.ref b) (valV kvs k):=.inr ⟨kvs,k,b,.inl e,rfl,eb,rfl⟩
theorem DPut.k{H:Hp}{a:Addr}{kvs:List (Key × V)}{k:Key}{v:V}(e:H a=some (.dK kvs))(hl:kvs.length<sizeLine):DPut H a (kV k) v (upd H a (.dK (putK kvs k v))):=.inl ⟨kvs,k,e,rfl,hl,rfl⟩
theorem DPut.t{H:Hp}{kvs:List (List Key × V)}{k:List Key}(e:H a=some (.dT kvs))(eb:H b=some (.tup (k.map kV)))(hl:kvs.length<sizeLine):
  DPut H a (.ref b) v (upd H a (.dT (putK kvs k v))):=.inr ⟨kvs,k,b,e,rfl,eb,hl,rfl⟩


section
variable {X:Cx} {pins:List (Addr × Obj)} {σ:St} {H:Hp} {s:Shared} {a:Addr} {y v:V} {u r:Value} {o:Option V} {A:Around} {E:Value->Shared->Prop}
theorem Inv.big(I:Inv X pins σ H s):sysModules<s.heap.objs.size:=by
 have h:mainGlobals<s.heap.objs.size:=(I.mod.glob.keeps I.bk).lt
 exact Nat.lt_trans (by decide) h

theorem d_getItem{Q:Value->Shared->Prop}(hu:A.units+1<cLine)(I:Inv X pins σ H s)(g:DGet H a y (some v))(ry:RelV y u)(h:∀ w' s',Inv X pins σ H s'->RelV v w'->Q w' s'):
  wpAny (model X.prog X.w) A (getItem (.ref a) u) Q E s:=by
 rcases g with ⟨kvs,k,e,ey,l⟩ | ⟨kvs,k,b,e,ey,eb,l⟩
 ·subst ey
  obtain ⟨z,hd,vs,rel,dd⟩:=dk_rd I.hok e
  obtain ⟨w',hw,rw'⟩:=RelO.some_of (v:=v) (o:=valueAt vs k) (by rw [l];exact rel.val k)
  exact wpAny_getItem_of (kV_is ry) dd.mapOf hw (h w' _ (I.tok _) rw')
 ·subst ey
  cases (show u=Value.ref b from ry)
  obtain ⟨z,hd,xs,rel,dd⟩:=dt_rd I.hok e
  obtain ⟨w',hw,rw'⟩:=RelO.some_of (v:=v) (o:=(atKey xs k).map (·.2)) (by rw [l];exact rel.val k)
  obtain ⟨p,hp,hp2⟩:=Option.map_eq_some_iff.mp hw
  refine wpAny_getItem_heap (tupleKind_room_in1 hu) (key_of I.hok eb) dd hp ?_
  rw [hp2]
  exact h w' _ (I.tok _) rw'
theorem d_in{Q:Value->Shared->Prop}(hu:A.units+1<cLine)(I:Inv X pins σ H s)(g:DGet H a y o)(ry:RelV y u)(h:∀ s',Inv X pins σ H s'->Q (.bool o.isSome) s'):
  wpAny (model X.prog X.w) A (compareOp .In u (.ref a)) Q E s:=by
 rcases g with ⟨kvs,k,e,ey,l⟩ | ⟨kvs,k,b,e,ey,eb,l⟩
 ·subst ey
  obtain ⟨z,hd,vs,rel,dd⟩:=dk_rd I.hok e
  refine wpAny_in_of (kV_is ry) hd dd.mapOf ?_
  rw [← (rel.val k).isSome_eq,← l]
  exact h _ (I.tok _)
 ·subst ey
  cases (show u=Value.ref b from ry)
  obtain ⟨z,hd,xs,rel,dd⟩:=dt_rd I.hok e
  refine wpAny_in_heap (tupleKind_room_in1 hu) (key_of I.hok eb) hd dd ?_
  have q:=(rel.val k).isSome_eq
  rw [Option.isSome_map] at q
  rw [← q,← l]
  exact h _ (I.tok _)
theorem d_notIn{Q:Value->Shared->Prop}(hu:A.units+1<cLine)(I:Inv X pins σ H s)(g:DGet H a y o)(ry:RelV y u)(h:∀ s',Inv X pins σ H s'->Q (.bool (!o.isSome)) s'):
  wpAny (model X.prog X.w) A (compareOp .NotIn u (.ref a)) Q E s:=by
 rcases g with ⟨kvs,k,e,ey,l⟩ | ⟨kvs,k,b,e,ey,eb,l⟩
 ·subst ey
  obtain ⟨z,hd,vs,rel,dd⟩:=dk_rd I.hok e
  refine wpAny_notIn_of (kV_is ry) hd dd.mapOf ?_
  rw [← (rel.val k).isSome_eq,← l]
  exact h _ (I.tok _)
 ·subst ey
  cases (show u=Value.ref b from ry)
  obtain ⟨z,hd,xs,rel,dd⟩:=dt_rd I.hok e
  refine wpAny_notIn_heap (tupleKind_room_in1 hu) (key_of I.hok eb) hd dd ?_
  have q:=(rel.val k).isSome_eq
  rw [Option.isSome_map] at q
  rw [← q,← l]
  exact h _ (I.tok _)
theorem d_write{h':Heap}(I:Inv X pins σ H s)(mu:Mut (H a))(hs:Heap.SameBut a s.heap h')(he:∃ q,h'.get? a=some q)(new:ObjOk X.prog X.w (upd H a ob) h' a ob):
  Inv X pins σ (upd H a ob) { s with heap:=h',toks:=t' }:=
 I.write (x:=a) (e:=a) mu (.inl rfl) (fun b q hb z=>(hs.2 b hb).trans z) he new
theorem dk_new{h':Heap}{kvs:List (Key × V)}(z:kvs.length≤sizeLine)(hd:(a == sysModules)=false)(rel:KV kvs vs)(dd:h'.DictOf (mixKind P w) a vs):
  ObjOk P w H' h' a (.dK kvs):=⟨z,hd,vs,rel,dd⟩
theorem d_setItem{Q:Unit->Shared->Prop}(hu:A.units+1<cLine)(I:Inv X pins σ H s)(g:DPut H a y v H')(ry:RelV y u)(rv:RelV v r)(h:∀ s',Inv X pins σ H' s'->Q () s'):
  wpAny (model X.prog X.w) A (setItem (.ref a) u r) Q E s:=by
 rcases g with ⟨kvs,k,e,ey,l,eH⟩ | ⟨kvs,k,b,e,ey,eb,l,eH⟩
 ·subst ey eH
  obtain ⟨z,hd,vs,rel,dd⟩:=dk_of I.hok e
  have hz:vs.length≤sizeLine:=by rw [← rel.length];exact z
  have hl:(putK kvs k v).length≤sizeLine:=by have:=length_putK kvs k v;omega
  refine wpAny_setItem_pairs (hsz:=hz) (kV_is ry) dd fun h' dd' hs=>h _ ?_
  have he:∃ q,h'.get? a=some q:=let ⟨q,_,_,hq,_⟩:=dd';⟨q,hq⟩
  exact d_write I (by rw [e];exact True.intro) hs he (dk_new hl hd (rel.put k rv) dd')
 ·subst ey eH
  cases (show u=Value.ref b from ry)
  obtain ⟨z,hd,xs,rel,dd⟩:=dt_of I.hok e
  have hz:xs.length≤sizeLine:=by rw [← Paired.length rel];exact z
  have hl:(putK kvs k v).length≤sizeLine:=by have:=length_putK kvs k v;omega
  refine wpAny_setItem_heap (hsz:=hz) (tupleKind_room_in1 hu) (key_of I.hok eb) dd fun h' dd' hs=>h _ ?_
  obtain ⟨q,es,ep,hq,h2,h3,h4,_,h5⟩:=dd'
  refine d_write I (by rw [e];exact True.intro) hs ⟨q,hq⟩ ⟨hl,hd,_,(rel.put k eb rv).keeps fun c ys ec=>?_,q,es,ep,hq,h2,h3,h4,h5⟩
  rw [upd_ne (ne_of ec e (fun z=>nomatch z))]
  exact ec
end
section
variable {X:Cx} {pins:List (Addr × Obj)} {σ:St} {H:Hp} {s:Shared} {a:Addr} {kvs:List (Key × V)} {k:Key} {u:Value} {A:Around} {E:Value->Shared->Prop}
theorem d_len{Q:Value->Shared->Prop}(I:Inv X pins σ H s)(e:Rd H a (.dK kvs))(h:∀ t s',Inv X pins σ H s'->Q (.int kvs.length t) s'):wpAny (model X.prog X.w) A (call (.builtin "len") [.ref a]) Q E s:=by
 obtain ⟨z,hd,vs,rel,dd⟩:=dk_rd I.hok e
 refine call_len_dict hd dd (by rw [← rel.length];rw [sizeLine_eq] at z;omega) ?_
 rw [← rel.length]
 exact h _ _ (I.tok _)
end
noncomputable def NoSl(i:Expr):Prop:=∀ ov iv,subscripted i false ov iv=operate [ov,iv] (getItem ov iv)
theorem subD_of{prog:Program}{w:World}{A:Around}{E:Value->Shared->Prop}{s:Shared}{env:Env}{value slice:Expr}{pos:Pos}{T id:String}{Q:Value->Shared->Prop}
  (hl:typeLookup (.type T) "__getitem__"=pure (some (.builtin id)))(hs:NoSl slice)
  (h:wpAny (model prog w) A (eval value env) (fun o s₁=>wpAny (model prog w) A (eval slice env) (fun i s₂=>s₂.TypeIs o T/\wpAny (model prog w) A (getItem o i) Q E s₂) E s₁) E s):
  wpAny (model prog w) A (eval (.Subscript value slice pos) env) Q E s:=by
 refine Subscript_ (wpAny_mono h (fun o s₁ h₁=>wpAny_mono h₁ (fun i s₂ h₂=>?_) fun _ _ x=>x) fun _ _ x=>x)
 obtain ⟨hT,h₂⟩:=h₂
 unfold subscriptTail
 refine wpAny_bind ?_
 rw [getitemInPython_of_ne hT.not_modules]
 refine wpAny_bind (wpAny_specialOf hT hl ?_)
 have fin:wpAny (model prog w) A (subscripted slice false o i) (fun r s₃=>wpAny (model prog w) A (letTemporaryGo value o r >>= fun _=>pure r) Q E s₃) E s₂:=by
  rw [hs o i]
  exact wpAny_operating (wpAny_mono h₂ (fun r s₃ h₃=>wpAny_bind (wpAny_letTemporaryGo (wpAny_pure h₃))) fun _ _ x=>x)
 first
  | exact wpAny_pure (wpAny_bind fin)
  | exact wpAny_bind (wpAny_pure (wpAny_bind fin))
  | exact wpAny_bind fin

theorem dict_typeIs{s:Shared}(I:Inv X pins σ H s)(g:DGet H a y o):s.TypeIs (.ref a) "dict":=by
 rcases g with ⟨kvs,k,e,_,_⟩ | ⟨kvs,k,b,e,_,_,_⟩
 ·obtain ⟨_,_,vs,_,dd⟩:=dk_rd I.hok e
  exact dd.typeIs
 ·obtain ⟨_,_,xs,_,dd⟩:=dt_rd I.hok e
  exact dd.typeIs
noncomputable def tDGet(td ty:TE):TE:=fun σ H Q=>td σ H fun x H1=>ty σ H1 fun y H2=>∃ a v,x=.ref a/\DGet H2 a y (some v)/\Q v H2
noncomputable def sDPut(td ty tv:TE):TS:=fun D σ H=>tv σ H fun v H1=>td σ H1 fun x H2=>ty σ H2 fun y H3=>∃ a H4,x=.ref a/\DPut H3 a y v H4/\D.nx σ H4
section
variable {X:Cx} {o i e value:Expr} {pos pos' tpos:Pos} {td ty tv:TE}
theorem pe_dget(hu:X.A.units+1<cLine)(ho:PE X o td)(hi:PE X i ty)(hs:NoSl i):PE X (.Subscript o i pos) (tDGet td ty):=by
 intro pins s σ H Q I h
 refine subD_of PySem.F.slot_dict_getitem.lookup hs (thn (ho pins s σ H _ I h) fun u s1 ⟨x,H1,I1,rx,q1⟩=>thn (hi pins s1 σ H1 _ I1 q1) fun iv s2 ⟨y,H2,I2,ry,a,v,ex,g,q2⟩=>?_)
 subst ex
 obtain rfl:u=Value.ref a:=rx
 exact ⟨dict_typeIs I2 g,d_getItem hu I2 g ry fun w' s3 I3 rw'=>⟨v,H2,I3,rw',q2⟩⟩
theorem ps_dput(hu:X.A.units+1<cLine)(ho:PE X o td)(hi:PE X i ty)(hv:PE X value tv)(hs:swapsWith value (some (.Subscript o i pos')) pos.line X.env=pure false):
  PS X (.Assign [.Subscript o i pos'] value pos) (sDPut td ty tv):=by
 intro pins s σ H D I h
 refine wpAny_Assign_Subscript (thn (hv pins s σ H _ I h) fun r s1 ⟨v,H1,I1,rv,q1⟩=>thn (ho pins s1 σ H1 _ I1 q1) fun u s2 ⟨x,H2,I2,rx,q2⟩=>thn (hi pins s2 σ H2 _ I2 q2) fun iv s3 ⟨y,H3,I3,ry,a,H4,ex,g,q3⟩=>?_) hs
 subst ex
 obtain rfl:u=Value.ref a:=rx
 exact d_setItem hu I3 g ry rv fun s4 I4=>⟨σ,H4,I4,q3⟩
end
theorem dk_empty(h:Heap)(hb:sysModules<h.objs.size):ObjOk P w H (h.push { cls:=.type "dict",data:=.dict #[] }) h.objs.size (.dK []):=
 ⟨Nat.zero_le _,beq_eq_false_iff_ne.mpr (Ne.symm (Nat.ne_of_lt hb)),[],.nil,Heap.DictOf.new h⟩
noncomputable def tDNewK:TE:=fun _ H Q=>∀ p,H p=none->Q (.ref p) (upd H p (.dK []))
section
variable {X:Cx} {pos:Pos}
theorem pe_dnewK:PE X (.Dict [] [] pos) tDNewK:=fun pins s σ H Q I h=>
 wpAny_Dict_empty ⟨.ref s.heap.objs.size,_,I.laid (a:=s.heap.objs.size) (o:=.dK []) (t':=s.toks) (fun _ _ q=>Heap.get?_push_of_some _ q) (Nat.le_refl _) (dk_empty s.heap I.big),rfl,h _ (I.hok.fresh (Nat.le_refl _))⟩
end
noncomputable def tPairs:List (TE × TE)->St->Hp->(List (V × V)->Hp->Prop)->Prop
 | [],_,H,Q=>Q [] H
 | (tk,tv)::r,σ,H,Q=>tk σ H fun x H1=>tv σ H1 fun y H2=>tPairs r σ H2 fun ps H3=>Q ((x,y)::ps) H3
noncomputable abbrev VV:List (V × V)->List (Value × Value)->Prop:=Paired fun p q=>RelV p.1 q.1/\RelV p.2 q.2
noncomputable def PPs(X:Cx)(pos:Pos)(keys:List (Option Expr))(values:List Expr)(trs:List (TE × TE)):Prop:=
 ∀ (pins:List (Addr × Obj)) (s:Shared) (σ:St) (H:Hp) (Q:List (V × V)->Hp->Prop),Inv X pins σ H s->tPairs trs σ H Q->
  wpAny (model X.prog X.w) X.A (evalPairs (pairTrees keys values X.env pos)) (fun vs s'=>∃ ps H',Inv X pins σ H' s'/\VV ps vs/\Q ps H') X.xe s
theorem pps_nil:PPs X pos [] [] []:=fun pins s σ H Q I h=>pairTrees_nil_walk ⟨[],H,I,.nil,h⟩
theorem pps_cons{X:Cx}{pos:Pos}{k v:Expr}{ks:List (Option Expr)}{vs:List Expr}{tk tv:TE}{trs:List (TE × TE)}(hk:PE X k tk)(hv:PE X v tv)(hr:PPs X pos ks vs trs):
  PPs X pos (some k::ks) (v::vs) ((tk,tv)::trs):=fun pins s σ H Q I h=>
 pairTrees_cons_walk (thn (hk pins s σ H _ I h) fun u s1 ⟨x,H1,I1,rx,q1⟩=>thn (hv pins s1 σ H1 _ I1 q1) fun w2 s2 ⟨y,H2,I2,ry,q2⟩=>
  thn (hr pins s2 σ H2 _ I2 q2) fun ws s3 ⟨ps,H3,I3,rel,q3⟩=>⟨(x,y)::ps,H3,I3,.cons ⟨rx,ry⟩ rel,q3⟩)

noncomputable def mergeK(kvs more:List (Key × V)):List (Key × V):=more.foldl (fun acc kv=>putK acc kv.1 kv.2) kvs
theorem KV.merge:∀ {more:List (Key × V)} {rs:List (Key × Value)} {kvs:List (Key × V)} {vs:List (Key × Value)},KV more rs->KV kvs vs->KV (mergeK kvs more) (merged vs rs):=by
 intro more rs kvs vs r
 unfold KV at r
 induction r generalizing kvs vs with
 | nil=>intro q;exact q
 | @cons p q ps qs h t ih=>
  intro r0
  have e:KV (putK kvs p.1 p.2) (stored vs q.1 q.2):=by
   have:=r0.put p.1 h.2
   rw [← h.1];exact this
  exact ih e
theorem length_mergeK:∀ (more kvs:List (Key × V)),(mergeK kvs more).length≤kvs.length+more.length
 | [],kvs=>by show kvs.length≤kvs.length+0;omega
 | p::r,kvs=>by
  have h1:=length_mergeK r (putK kvs p.1 p.2)
  have h2:=length_putK kvs p.1 p.2
  show (mergeK (putK kvs p.1 p.2) r).length≤_
  rw [List.length_cons];omega
theorem carries_of{P:Program}{w:World}:∀ {kvs:List (Key × V)} {ws:List (Value × Value)},VV (kvs.map fun kv=>(kV kv.1,kv.2)) ws->∃ rs,Carries (mixKind P w) ws rs/\KV kvs rs
 | [],_,r=>by rw [List.map_nil] at r;cases r;exact ⟨[],True.intro,.nil⟩
 | p::kvs,_,r=>by
  rw [List.map_cons] at r
  cases r with
  | @cons a b as bs h t=>
   obtain ⟨rs,c,q⟩:=carries_of (P:=P) (w:=w) t
   obtain ⟨b1,b2⟩:=b
   exact ⟨(p.1,b2)::rs,⟨kV_is h.1,rfl,c⟩,.cons ⟨rfl,h.2⟩ q⟩
noncomputable def tDisp(trs:List (TE × TE)):TE:=fun σ H Q=>∀ p,H p=none->tPairs trs σ (upd H p (.dK [])) fun ps H2=>H2 p=some (.dK [])/\∃ kvs:List (Key × V),ps=kvs.map (fun kv=>(kV kv.1,kv.2))/\kvs.length≤15/\Q (.ref p) (upd H2 p (.dK (mergeK [] kvs)))
theorem pe_disp{X:Cx}{pos:Pos}{keys:List (Option Expr)}{values:List Expr}{trs:List (TE × TE)}(h:PPs X pos keys values trs)(hall:keys.all (·.isSome)=true)(hl:keys.length=values.length)(h0:keys≠[])
  (h15:keys.length≤15):PE X (.Dict keys values pos) (tDisp trs):=by
 intro pins s σ H Q I q
 have hn:=I.hok.fresh (Nat.le_refl s.heap.objs.size)
 have I1:=I.laid (a:=s.heap.objs.size) (o:=.dK []) (h':=s.heap.push { cls:=.type "dict",data:=.dict #[] }) (t':=s.toks) (fun _ _ q=>Heap.get?_push_of_some _ q) (Nat.le_refl _) (dk_empty s.heap I.big)
 refine wpAny_Dict_walk (knd:=mixKind X.prog X.w) hall hl h0 h15 (thn (h pins _ σ _ _ I1 (q _ hn)) fun ws s2 hq_=>?_)
 obtain ⟨ps,H2,I2,rel,e,kvs,ep,lk,q2⟩:=hq_
 subst ep
 obtain ⟨rs,c,rk⟩:=carries_of (P:=X.prog) (w:=X.w) rel
 obtain ⟨z,hd,vs0,r0,dd⟩:=dk_of I2.hok e
 cases r0
 refine ⟨rs,c,dd,fun h' dd' hs=>⟨.ref s.heap.objs.size,_,?_,rfl,q2⟩⟩
 have hz:(mergeK [] kvs).length≤sizeLine:=by
  have h1:=length_mergeK kvs []
  rw [List.length_nil] at h1
  rw [sizeLine_eq];omega
 have he:∃ q,h'.get? s.heap.objs.size=some q:=let ⟨q,_,_,hq,_⟩:=dd';⟨q,hq⟩
 exact d_write I2 (by rw [e];exact True.intro) hs he (dk_new hz hd (rk.merge .nil) dd')


structure M1 (X:Cx) (o:Expr) (m:Str) (apos:Pos) (e:Expr) (cpos:Pos):Prop where
 base:attributeBase o m X.env (eval o X.env)=eval o X.env
 few:((backTo cpos (starEach [e] X.env)).all (fun x=>!x.1) && (backToKw cpos (keywordEach [] X.env)).all (fun x=>x.1.isSome)
  && decide (([e]:List Expr).length+([]:List Keyword).length+(if ([]:List Keyword).isEmpty then 0 else 1)<30))=true
 line:(apos.endLine == cpos.line)=true
 trees:backTo cpos (starEach [e] X.env)=[(false,eval e X.env)]
structure M2 (X:Cx) (o:Expr) (m:Str) (apos:Pos) (e f:Expr) (cpos:Pos):Prop where
 base:attributeBase o m X.env (eval o X.env)=eval o X.env
 few:((backTo cpos (starEach [e,f] X.env)).all (fun x=>!x.1) && (backToKw cpos (keywordEach [] X.env)).all (fun x=>x.1.isSome)
  && decide (([e,f]:List Expr).length+([]:List Keyword).length+(if ([]:List Keyword).isEmpty then 0 else 1)<30))=true
 line:(apos.endLine == cpos.line)=true
 trees:backTo cpos (starEach [e,f] X.env)=[(false,eval e X.env),(false,eval f X.env)]

section
variable {X:Cx} {pins:List (Addr × Obj)} {σ:St} {H:Hp} {s:Shared} {a:Addr} {y d:V} {u r:Value} {o:Option V} {A:Around} {E:Value->Shared->Prop}
end
section
variable {X:Cx} {o e f:Expr} {apos cpos:Pos} {td ty tx:TE}
end
section
variable {X:Cx} {pins:List (Addr × Obj)} {σ:St} {H:Hp} {s:Shared} {a:Addr} {kvs:List (Key × V)} {A:Around} {E:Value->Shared->Prop}
end
section
variable {X:Cx} {pins:List (Addr × Obj)} {σ:St} {H:Hp} {s:Shared} {a:Addr} {y:V} {u:Value} {A:Around} {E:Value->Shared->Prop}
end
end L2
namespace Att
open PySem PySem.W PySem.Calls PyProof.Rows
theorem ints_of_wellAll:∀ (ns:List Int) (vs:List Value),WellAll P h vs (ns.map WData.int)->IntsAre vs ns:=by
 intro ns
 induction ns with
 | nil=>
  intro vs w
  rw [List.map_nil] at w
  cases w
  exact .nil
 | cons n ns ih=>
  intro vs w
  rw [List.map_cons] at w
  cases w with
  | cons a b=>
   cases a
   exact .cons _ _ (ih _ b)

theorem script_of{l:OpenLaw}(hn:l.most=some n){h:Heap}
  (hpre:l.row.toRowW.claim.pre args=true)(hwl:WellAll P h vals args):
  ∃ a vs ns,vals=[Value.ref a]/\args=[WData.list (ns.map WData.int)]/\h.get? a=some { cls:=.type "list",data:=.seq vs.toArray }/\IntsAre vs ns/\ns.length≤n:=by
 have hsh:WShape.hasAll [] args [.list .int]=true:=(pre_splitW hpre).1
 have hc:l.pre.holds [] { args:=args }=true:=(pre_splitW hpre).2
 obtain ⟨d,r,rfl,h1,h2⟩:=hasAllW_cons hsh
 obtain rfl:=hasAllW_nil h2
 obtain ⟨xs,rfl,h3⟩:=hasW_list h1
 obtain ⟨ns,rfl⟩:=items_int h3
 have hlen:ns.length≤n:=by
  unfold OpenLaw.pre at hc
  have h4:(WTm.not (.lt (.lit (.int (n:Int))) (.len (.arg 0)))).holds [] { args:=[.list (ns.map .int)] }=true:=by
   have h4:=(holds_andW hc).1
   rw [hn] at h4
   exact h4
  have h5:=condW_of h4 (w_not (w_lt w_lit (w_len_list (w_arg rfl))))
  rw [List.length_map] at h5
  refine Nat.le_of_not_lt fun q=>?_
  have q':(n:Int)<((ns.length:Nat):Int):=by omega
  first
   | (rw [decide_eq_true q'] at h5;exact absurd h5 (by decide))
   | (simp at h5;omega)
 cases hwl with
 | cons w1 w2=>
  cases w2
  cases w1 with
  | list ho hall=>exact ⟨_,_,ns,rfl,rfl,ho,ints_of_wellAll ns _ hall,hlen⟩

theorem post_true(l:OpenLaw)(args:List WData):l.row.toRowW.claim.post args (.bool true) args=true:=
 postW_of (r:=l.row.toRowW) (X:=(true == true))
  (show WShape.has [] (.bool true) .bool=true by first | rfl | decide | simp [WShape.has,WShape.arms,WShape.armsAll])
  (show (WTm.eq .res (.lit (.bool true))).value [] { args:=args,res:=some (.bool true),after:=args }=some (.bool (true == true)) from w_eq_bool (w_res rfl) w_lit) rfl

section
variable {prog:Program} {w:World} {A:Around} {E:Value->Shared->Prop} {s:Shared} {K:Frag}
end
end Att
namespace L2
open PySem PySem.Spec PyProof.Rows
theorem vals_ints:∀ {vs:List Value} {ns:List Int},IntsAre vs ns->Vals (ns.map V.int) vs
 | _,_,.nil=>.nil
 | _,_,.cons n t h=>.cons ⟨t,rfl⟩ (vals_ints h)

noncomputable def Only(H:Hp):Prop:=∀ b,H b=none∨∃ o xs,H b=some (.frz o (.lst xs))

theorem law_call{K:PySem.W.Frag}{mg mb:Str->Option Value}{CX:CXT}{sp:Sp}{s₁:Shared}{vs:List Value}{ns:List Int}
  (KX:K.In s₁.heap)(hns:s₁.heap.Ns mainGlobals mg)(hb:s₁.heap.Ns builtinsNs mb)(hbb:∀ x:Str,x≠"__name__"->mb x=bootBuiltins x)(hlim:s₁.heap.NoLimit)(hg:s₁.gens=#[])
  (ha:s₁.heap.get? a=some { cls:=.type "list",data:=.seq vs.toArray })(hi:IntsAre vs ns)(hl:ns.length≤sizeLine)(hr:Room k callerA)
  (F:∀ base:Heap,K.In base->base.Ns mainGlobals mg->FnOk P w K mg base CX k fa fd [x] sp)(hbind:∀ (s:Shared) (u:Value),BindsTo s fd ⟨[u],[]⟩ [(x,u)])
  (hsp:∀ H:Hp,Only H->SqL K H a (ns.map V.int)->sp [.ref a] H (fun v _=>v=.bl true) fun _ _ _=>False)
  (hCX:∀ H e s',CX [] H s₁ (fun _ _ _=>False) e s'->False):
  codeAny (model P w) callerA (.call (.ref fa) ⟨[.ref a],[]⟩) (fun r s'=>r=.ok (.ret (.bool true))/\OldK s₁.heap s'.heap/\s'.os=s₁.os/\AllBare s'.gens) s₁:=by
 have rv:=vals_ints hi
 have lenV:=hi.length
 -- from an abstract heap in which nothing but the script may be tracked
 have core:∀ H:Hp,Only H->SqL K H a (ns.map V.int)->HOk P w H s₁.heap->(∀ b,H b≠none->b=a)->(H a≠none->K.lookup a=none)->
   codeAny (model P w) callerA (.call (.ref fa) ⟨[.ref a],[]⟩) (fun r s'=>r=.ok (.ret (.bool true))/\OldK s₁.heap s'.heap/\s'.os=s₁.os/\AllBare s'.gens) s₁:=by
  intro H hO hS hok hA hK
  have base_of:∀ {b:Addr} {o:Obj},s₁.heap.get? b=some o->H b=none->(hidT s₁.heap H).get? b=some o:=fun e n=>hidT_get e n
  have noA:∀ {b:Addr} {o:Obj} {es:Array DictEntry} {ep:Nat},s₁.heap.get? b=some o->o.data=.dict es ep->H b=none:=fun {b o es ep} e d=>by
   cases q:H b with
   | none=>rfl
   | some u=>
    have e':b=a:=hA b (by rw [q];simp)
    subst e'
    rw [ha] at e;cases e
    have d':Data.seq vs.toArray _=Data.dict es ep:=d
    cases d'
  have nsK:∀ {b:Addr} {m:Str->Option Value},s₁.heap.Ns b m->(hidT s₁.heap H).Ns b m:=fun {b m} ⟨o,es,ep,e,d,r⟩=>⟨o,es,ep,base_of e (noA e d),d,r⟩
  have hKb:K.In (hidT s₁.heap H):=fun b o e=>base_of (KX b o e) (by
   cases q:H b with
   | none=>rfl
   | some u=>
    have e':b=a:=hA b (by rw [q];simp)
    subst e'
    rw [hK (by rw [q];simp)] at e;cases e)
  have hM:Mod K mg (hidT s₁.heap H):=⟨hKb,nsK hns,⟨mb,nsK hb,hbb⟩,let ⟨mc,h1,h2⟩:=hlim;⟨mc,nsK h1,h2⟩⟩
  have e0:Env0 P w K mg (hidT s₁.heap H) callerA [] s₁ H:=⟨rfl,hM,fun b o e=>of_hidT e,Nat.le_of_eq (hidT_size _ _),trivial,fun b hb=>absurd (show b ∈ ([]:List Addr) from hb) (by simp),hok,.of_eq hg⟩
  refine codeAny_mono ((F _ hKb (nsK hns)).run callerA [] s₁ H ⟨[.ref a],[]⟩ [.ref a] [.ref a] _ _ hr e0 (hbind s₁ (.ref a)) (.cons rfl .nil) (hsp H hO hS)) fun r s' h=>?_
  cases r with
  | error e=>exact (hCX H e s' h).elim
  | ok fl=>
   cases fl with
   | next=>exact False.elim h
   | brk=>exact False.elim h
   | cont=>exact False.elim h
   | ret u=>
    obtain ⟨v,H',os,bare,un,hok',r',q⟩:=h
    have q':v=.bl true:=q
    subst q'
    obtain rfl:u=Value.bool true:=r'
    refine ⟨rfl,OldK.of_keep fun b o e=>?_,os,bare⟩
    cases q:H b with
    | none=>exact un.keep b o e q (by intro z;exact absurd (show b ∈ ([]:List Addr) from z) (by simp)) (by simp)
    | some u=>
     rcases hO b with z | ⟨ob,xs,z⟩
     ·rw [q] at z;cases z
     ·have z2:=un.frzs b ob _ z
      obtain ⟨e1,_⟩:=hok b _ z
      obtain ⟨e2,_⟩:=hok' b _ z2
      rw [e] at e1;cases e1
      exact e2
 cases hk:K.lookup a with
 | some o=>
  -- the script is one of the module's own objects
  have e:=KX a o hk
  rw [ha] at e
  cases e
  refine core (fun _=>none) (fun _=>.inl rfl) (.inr ⟨_,vs.toArray,_,hk,rfl,rfl,rfl,by rw [List.size_toArray,lenV];exact hl,by simpa using rv⟩) (fun b u z=>by have z':(none:Option HO)=some u:=z;cases z') (fun b z=>absurd rfl z) fun z=>absurd rfl z
 | none=>
  refine core (fun b=>if b=a then some (.frz { cls:=.type "list",data:=.seq vs.toArray } (.lst (ns.map V.int))) else none) (fun b=>?_) (.inl (.inr ⟨{ cls:=.type "list",data:=.seq vs.toArray },if_pos rfl⟩)) (fun b u z=>?_) (fun b z=>?_) fun _=>hk
  ·by_cases hb:b=a
   ·exact .inr ⟨_,_,if_pos hb⟩
   ·exact .inl (if_neg hb)
  ·by_cases hb:b=a
   ·have z':=(if_pos hb).symm.trans z
    cases z'
    subst hb
    exact ⟨ha,by rw [List.length_map];exact hl,vs,_,rv,ha⟩
   ·have z':=(if_neg hb).symm.trans z
    cases z'
  ·by_cases hb:b=a
   ·exact hb
   ·exact absurd (if_neg hb) z
end L2
namespace L2
open PySem PySem.Spec PyProof.Rows
end L2
namespace L2
open PySem PySem.Spec PyProof.Rows
noncomputable def defArgs(s:Stmt):Arguments:=match s with
 | .FunctionDef _ a _ _ _ _ _ _ _ _=>a
 | _=>{ posonlyargs:=[],args:=[],vararg:=none,kwonlyargs:=[],kw_defaults:=[],kwarg:=none,defaults:=[] }
noncomputable def defBody(s:Stmt):List Stmt:=match s with
 | .FunctionDef _ _ b _ _ _ _ _ _ _=>b
 | _=>[]
noncomputable def defScope(s:Stmt):Scope:=match s with
 | .FunctionDef _ _ _ _ _ _ sc _ _ _=>sc
 | _=>{ kind:=.function,names:=[],isGenerator:=false,isCoroutine:=false }

noncomputable abbrev CX0:CXT:=fun _ _ _ _ _ _=>False
noncomputable abbrev E0:XK:=fun _ _ _=>False
theorem pass0:Passes CX0 X E0:=fun _ _ _ _ _ _ _ h=>h.elim

structure Fun (K:PySem.W.Frag) (x qual:Str) (st:Stmt) (f:Addr) (fd:FuncData):Prop where
 ex:∃ (oc:Value) (od:Option Addr) (kV doc pm:Value) (an:Option Addr) (cdv ct:Value) (osl:Array (Option Value)),
  fd=PySem.W.fnOf x qual (defArgs st) (defBody st) (defScope st) .none kV doc pm an cdv ct/\K.lookup f=some ⟨oc,od,.func fd,osl⟩/\PySem.W.codeIn K cdv qual=true
 kp:PySem.W.keepIn K (.ref f)=true
section
variable {P:Program} {w:World} {K:PySem.W.Frag} {mg:Str->Option Value} {base:Heap}
theorem Fun.ok{x qual:Str}{st:Stmt}{f:Addr}{fd:FuncData}{N ps:List Str}{k:Nat}{sp:Sp}(F:Fun K x qual st f fd)(S:FnScope N ps (defScope st))(len:∀ vs H Q E,sp vs H Q E->vs.length=ps.length)
  (hbody:∀ (cdv:Value) (A:Around) (outer:List Env) (s:Shared) (H:Hp) (vs:List V) (Q:VK) (E:XK),Room k (A.deeper (envOfC qual (defScope st) s.heap.objs.size f cdv))->sp vs H Q E->
   ∃ t,PSs (cxOf CX0 P w K mg base N qual (defScope st) f cdv A outer s H E).nox (defBody st) t/\t { nx:=fun _ H'=>Q .non H',rt:=Q } (start N vs) H):FnOk P w K mg base CX0 (k+1) f fd ps sp:=by
 obtain ⟨oc,od,kV,doc,pm,an,cdv,ct,osl,rfl,lk,hcd⟩:=F.ex
 refine fn_of lk hcd S len fun A outer s H vs Q E hr hsp=>?_
 obtain ⟨t,h,q⟩:=hbody cdv A outer s H vs Q E hr hsp
 exact ⟨t,h.nox,q⟩
theorem Fun.binds{x qual:Str}{st:Stmt}{f:Addr}{fd:FuncData}{ps:List Str}(F:Fun K x qual st f fd)
  (h:∀ (kV doc pm:Value) (an:Option Addr) (cdv ct:Value) (us:List Value),us.length=ps.length->bindArgs (PySem.W.fnOf x qual (defArgs st) (defBody st) (defScope st) .none kV doc pm an cdv ct) ⟨us,[]⟩=pure (ps.zip us)):Binds K fd ps []:=by
 obtain ⟨oc,od,kV,doc,pm,an,cdv,ct,osl,rfl,lk,hcd⟩:=F.ex
 exact .all (h kV doc pm an cdv ct)
theorem fun_mk{x qual:Str}{st:Stmt}{f:Addr}{oc:Value}{od an:Option Addr}{osl:Array (Option Value)}{kV doc pm cdv ct:Value}(l:K.lookup f=some ⟨oc,od,.func (PySem.W.fnOf x qual (defArgs st) (defBody st) (defScope st) .none kV doc pm an cdv ct),osl⟩)
  (c:PySem.W.codeIn K cdv qual=true)(k:PySem.W.keepIn K (.ref f)=true):Fun K x qual st f (PySem.W.fnOf x qual (defArgs st) (defBody st) (defScope st) .none kV doc pm an cdv ct):=⟨⟨oc,od,kV,doc,pm,an,cdv,ct,osl,rfl,l,c⟩,k⟩
end
theorem hu_of{A:Around}(hr:Room k A):A.units+1<cLine:=Nat.lt_of_le_of_lt (Nat.add_le_add_left (by decide:1≤64) _) hr.units
section
variable {X:Cx}
theorem pv(i:Nat)(hN:X.N[i]?=some x:=by rfl)(hv:Vis X.env.scope x:=by first | exact Or.inl rfl | exact Or.inr (Or.inl rfl) | exact Or.inr (Or.inr rfl))(hd:(x == ("__debug__":Str))=false:=by decide)
  (hcd:(x == ("__classdict__":Str))=false:=by decide):PE X (.Name x pos) (tVar i):=pe_var hN hv hd hcd
theorem call_lenD:CallR X (.builtin "len") (fun xs H Q=>∃ a kvs,xs=[V.ref a]/\H a=some (.dK kvs)/\Q (.int kvs.length) H):=by
 intro pins s σ H xs us Q I r h
 obtain ⟨a,kvs,rfl,ha,q⟩:=h
 obtain ⟨u,rfl,ru⟩:=vals1 r
 cases ru
 exact d_len I (.inl ha) fun t s' I'=>⟨.int kvs.length,H,I',⟨t,rfl⟩,q⟩
end
noncomputable def Same(H H':Hp):Prop:=∀ b o,H b=some o->H' b=some o
theorem Same.refl(H:Hp):Same H H:=fun _ _ h=>h
theorem Same.trans(a:Same H H1)(b:Same H1 H2):Same H H2:=fun c o h=>b c o (a c o h)
theorem Same.free{H H':Hp}(e:Same H H')(h:H' l=Option.none):H l=Option.none:=by
 cases q:H l with
 | none=>rfl
 | some o=>
  rw [e l o q] at h
  cases h
theorem Same.seq{K:PySem.W.Frag}{H H':Hp}{a:Addr}{xs:List V}(e:Same H H')(h:SqL K H a xs):SqL K H' a xs:=by
 rcases h with (h | ⟨o,h⟩) | h
 ·exact .inl (.inl (e _ _ h))
 ·exact .inl (.inr ⟨o,e _ _ h⟩)
 ·exact .inr h

section
variable {κ:Type} [DecidableEq κ]
end
end L2
namespace L2
open PySem PySem.Spec PyProof.Rows
theorem forIn_fold{α β:Type}{f:α->β->Sem (ForInStep β)}(g:β->α->β):∀ (l:List α) (c:β),(∀ x ∈ l,∀ c,f x c=pure (.yield (g c x)))->forIn l c f=pure (l.foldl g c)
 | [],_,_=>rfl
 | x::l,c,h=>by
  rw [List.forIn_cons,h x List.mem_cons_self,pure_bind]
  exact forIn_fold g l _ fun y hy=>h y (List.mem_cons_of_mem _ hy)
noncomputable def clStep(cells:List (Str × Addr))(cs:List (Str × Addr))(y:Str × NameKind):List (Str × Addr):=
 if (y.2 == NameKind.free)=true then (match cells.lookup y.1 with | some c=>(y.1,c)::cs | none=>cs) else cs
noncomputable def clOf(scope:Scope)(cells:List (Str × Addr)):List (Str × Addr):=scope.names.foldl (clStep cells) []
theorem closure_of{scope:Scope}{env:Env}(h:∀ y ∈ scope.names,(y.2 == NameKind.free)=true->∃ c,env.cells.lookup y.1=some c):closureFor scope env=pure (clOf scope env.cells):=by
 simp only [closureFor]
 rw [forIn_fold (clStep env.cells) _ _ (fun y hy c=>?_)]
 ·rfl
 ·obtain ⟨n,k⟩:=y
  by_cases e:(k == NameKind.free)=true
  ·obtain ⟨a,ha⟩:=h _ hy e
   have ha':List.lookup n env.cells=some a:=ha
   simp [clStep,cellOf,ha',e]
  ·simp [clStep,e]
theorem lookup_cons'{x n:Str}{α:Type}{c:α}{r:List (Str × α)}:List.lookup x ((n,c)::r)=if x=n then some c else r.lookup x:=by
 rw [List.lookup_cons]
 by_cases e:x=n
 ·subst e;simp
 ·rw [if_neg e]
  have:(x == n)=false:=by simpa using e
  rw [this]
theorem cl_sub{cells:List (Str × Addr)}:∀ (names:List (Str × NameKind)) (acc:List (Str × Addr)),(∀ x c,acc.lookup x=some c->cells.lookup x=some c)->∀ x c,(names.foldl (clStep cells) acc).lookup x=some c->cells.lookup x=some c
 | [],_,h=>h
 | y::r,acc,h=>by
  refine cl_sub r (clStep cells acc y) fun x c e=>?_
  unfold clStep at e
  split at e
  ·split at e
   ·rename_i c' hc'
    rw [lookup_cons'] at e
    split at e
    ·rename_i hx;cases e;rw [hx];exact hc'
    ·exact h x c e
   ·exact h x c e
  ·exact h x c e
theorem cl_keep{cells:List (Str × Addr)}{x:Str}:∀ (names:List (Str × NameKind)) (acc:List (Str × Addr)),(acc.lookup x).isSome=true->((names.foldl (clStep cells) acc).lookup x).isSome=true
 | [],_,h=>h
 | y::r,acc,h=>by
  refine cl_keep r (clStep cells acc y) ?_
  unfold clStep
  split
  ·split
   ·rw [lookup_cons'];split
    ·rfl
    ·exact h
   ·exact h
  ·exact h
theorem cl_has{cells:List (Str × Addr)}{x:Str}(hc:(cells.lookup x).isSome=true):∀ (names:List (Str × NameKind)) (acc:List (Str × Addr)) (k:NameKind),(k == NameKind.free)=true->(x,k) ∈ names->((names.foldl (clStep cells) acc).lookup x).isSome=true
 | [],_,_,_,h=>nomatch h
 | y::r,acc,k,hk,h=>by
  rcases List.mem_cons.mp h with e | h
  ·refine cl_keep r (clStep cells acc y) ?_
   subst e
   obtain ⟨c,hc⟩:=Option.isSome_iff_exists.mp hc
   unfold clStep
   rw [if_pos hk]
   simp [hc]
  ·exact cl_has hc r _ k hk h
theorem relabel_kind{env:Env}{x:Str}{k:NameKind}:∀ {names:List (Str × NameKind)},
  (names.map fun (n,k)=>if (k == NameKind.free && env.scope.kind == .function && env.kindOf n == some .cell) then (n,NameKind.cell) else (n,k)).lookup x=some k->∃ k0,(x,k0) ∈ names/\(k=k0∨(k0 == NameKind.free)=true)
 | [],h=>by simp at h
 | (n,j)::r,h=>by
  rw [List.map_cons] at h
  by_cases hx:x=n
  ·subst hx
   by_cases hc:(j == NameKind.free && env.scope.kind == .function && env.kindOf x == some .cell)=true
   ·refine ⟨j,List.mem_cons_self,.inr ?_⟩
    simp only [Bool.and_eq_true] at hc
    exact hc.1.1
   ·dsimp only at h
    rw [if_neg hc,lookup_cons',if_pos rfl] at h
    cases h
    exact ⟨k,List.mem_cons_self,.inl rfl⟩
  ·have h':(r.map fun (n,k)=>if (k == NameKind.free && env.scope.kind == .function && env.kindOf n == some .cell) then (n,NameKind.cell) else (n,k)).lookup x=some k:=by
    dsimp only at h
    by_cases hc:(j == NameKind.free && env.scope.kind == .function && env.kindOf n == some .cell)=true
    ·rw [if_pos hc,lookup_cons',if_neg hx] at h;exact h
    ·rw [if_neg hc,lookup_cons',if_neg hx] at h;exact h
   obtain ⟨k0,h1,h2⟩:=relabel_kind h'
   exact ⟨k0,List.mem_cons_of_mem _ h1,h2⟩
theorem relabel_free{env:Env}{x:Str}:∀ {names:List (Str × NameKind)},names.lookup x=some .free->
  (names.map fun (n,k)=>if (k == NameKind.free && env.scope.kind == .function && env.kindOf n == some .cell) then (n,NameKind.cell) else (n,k)).lookup x=some .cell∨
  (names.map fun (n,k)=>if (k == NameKind.free && env.scope.kind == .function && env.kindOf n == some .cell) then (n,NameKind.cell) else (n,k)).lookup x=some .free
 | [],h=>by simp at h
 | (n,j)::r,h=>by
  rw [List.map_cons]
  dsimp only
  by_cases hx:x=n
  ·subst hx
   rw [lookup_cons',if_pos rfl] at h
   cases h
   by_cases hc:(NameKind.free == NameKind.free && env.scope.kind == .function && env.kindOf x == some .cell)=true
   ·rw [if_pos hc,lookup_cons',if_pos rfl];exact .inl rfl
   ·rw [if_neg hc,lookup_cons',if_pos rfl];exact .inr rfl
  ·rw [lookup_cons',if_neg hx] at h
   have ih:=relabel_free (env:=env) h
   by_cases hc:(j == NameKind.free && env.scope.kind == .function && env.kindOf n == some .cell)=true
   ·rw [if_pos hc,lookup_cons',if_neg hx];exact ih
   ·rw [if_neg hc,lookup_cons',if_neg hx];exact ih

noncomputable def cN(own:List Str)(js:List Nat)(N:List Str):List Str:=own++js.map fun j=>N.getD j ""
noncomputable def cS(own:List Str)(js:List Nat)(σ:St):St:=own.map (fun _=>none)++js.map fun j=>(σ[j]?).join
noncomputable def compCx (X : Cx) (own : List Str) (js : List Nat) (scope : Scope) (C : Addr) (s₀ : Shared) (H₀ : Hp) (fp : List Addr) : Cx :=
  { prog := X.prog, w := X.w, K := X.K, mg := X.mg, base := X.base, A := X.A, N := cN own js X.N, s₀ := s₀, H₀ := H₀, env := compEnvC scope (clOf scope X.env.cells) C X.env, outer := X.stack, stack := X.stack,
    ex := fp, fn := fun _ => false, calm := X.calm, pn := [], xe := fun _ _ => False }
noncomputable def compB(js:List Nat)(scope:Scope)(kindOf:Str->Option NameKind)(N:List Str):Bool:=
 (scope.kind == .function) && scope.names.all (fun y=>!(y.2 == .cell) && (!(y.2 == .free) || kindOf y.1 == some .cell || kindOf y.1 == some .free) && (!(y.2 == .local) || scope.names.lookup y.1 == some .local)) &&
  js.all fun j=>scope.names.lookup (N.getD j "") == some .free
structure CompOk (js:List Nat) (scope:Scope) (kindOf:Str->Option NameKind) (N:List Str):Prop where
 kind:scope.kind=.function
 nocell:∀ y ∈ scope.names,y.2≠.cell
 free:∀ y ∈ scope.names,(y.2 == NameKind.free)=true->kindOf y.1=some .cell∨kindOf y.1=some .free
 loc:∀ y ∈ scope.names,y.2=.local->scope.names.lookup y.1=some .local
 used:∀ j ∈ js,scope.names.lookup (N.getD j "")=some .free
theorem compOk_of{js:List Nat}{scope:Scope}{kindOf:Str->Option NameKind}{N:List Str}(h:compB js scope kindOf N=true):CompOk js scope kindOf N:=by
 unfold compB at h
 simp only [Bool.and_eq_true,List.all_eq_true] at h
 obtain ⟨⟨h1,h2⟩,h3⟩:=h
 refine ⟨by simpa using h1,fun y hy e=>?_,fun y hy e=>?_,fun y hy e=>?_,fun j hj=>by simpa using h3 j hj⟩
 ·have:=(h2 y hy).1.1
  rw [e] at this
  exact absurd this (by decide)
 ·have:=(h2 y hy).1.2
  rw [e] at this
  simpa using this
 ·have:=(h2 y hy).2
  rw [e] at this
  simpa using this

theorem lookup_mem{α:Type}{x:Str}{a:α}:∀ {l:List (Str × α)},l.lookup x=some a->(x,a) ∈ l
 | [],h=>by simp at h
 | (n,c)::r,h=>by
  rw [lookup_cons'] at h
  split at h
  ·rename_i e;cases h;subst e;exact List.mem_cons_self
  ·exact List.mem_cons_of_mem _ (lookup_mem h)
section
variable {X:Cx} {pins:List (Addr × Obj)} {σ:St} {H:Hp} {s:Shared} {own:List Str} {js:List Nat} {scope:Scope}
theorem comp_start{h₁:Heap}(ok:CompOk js scope X.env.kindOf X.N)(I:Inv X pins σ H s)(hC:C=s.heap.objs.size)(hns:h₁.Ns C m0)(keep:∀ b o,s.heap.get? b=some o->h₁.get? b=some o)(hf:∀ b ∈ fp,FpOk X pins H b)(hlt:∀ b ∈ fp,b<s.heap.objs.size):
 Inv (compCx X own js scope C s H fp) [] (cS own js σ) H { s with heap:=h₁,toks:=t }:=by
 have sub:=cl_sub (cells:=X.env.cells) scope.names [] (by simp)
 have has:∀ x k0,(x,k0) ∈ scope.names->(k0 == NameKind.free)=true->∃ c,(clOf scope X.env.cells).lookup x=some c:=fun x k0 m hk=>by
  obtain ⟨c,hc⟩:=I.ok.has x (ok.free _ m hk)
  exact Option.isSome_iff_exists.mp (cl_has (by rw [hc];rfl) scope.names [] k0 hk m)
 refine ⟨⟨I.ok.mod,ok.kind,I.ok.glob,I.ok.blt,Nat.le_of_eq hC.symm,fun x y c hx hy=>I.ok.inj x y c (sub x c hx) (sub y c hy),fun x hx=>?_,fun x c h=>absurd (show false=true from h) (by decide),I.ok.hd,I.ok.frames,.inl rfl,fun b hb=>⟨?_,fun x c hc=>(hf b hb).2.2.2.2.1 x c (sub x c hc)⟩,I.bs,Nat.le_trans I.ok.bsz I.sz,fun b o e hb=>?_,fun b hb hb2=>?_,I.stack,I.stkFree⟩,
  rfl,I.bare,Un.kept keep,⟨m0,hns,fun i x v e1 e2 e3=>?_⟩,fun x c e=>?_,?_,fun x c e=>I.freeC x c (sub x c e),(fun p hp=>nomatch hp),I.hok.kept keep,?_⟩
 ·have hx':∃ k,(k=NameKind.cell∨k=NameKind.free)/\(relabel scope X.env).names.lookup x=some k:=by
   rcases hx with hx | hx
   ·exact ⟨_,.inl rfl,hx⟩
   ·exact ⟨_,.inr rfl,hx⟩
  obtain ⟨k,hk,hl⟩:=hx'
  obtain ⟨k0,m,e⟩:=relabel_kind hl
  have hfree:(k0 == NameKind.free)=true:=by
   rcases e with e | e
   ·subst e
    rcases hk with hk | hk
    ·exact absurd hk (ok.nocell _ m)
    ·rw [hk];rfl
   ·exact e
  exact has x k0 m hfree
 ·rw [hC];exact Nat.ne_of_lt (hlt b hb)
 ·rcases (hf b hb).2.2.2.1 with z | z
  ·exact I.ok.noex b o e z
  ·exact absurd (Nat.lt_of_lt_of_le (Heap.lt_size e) (Nat.le_trans I.ok.bsz z)) (Nat.lt_irrefl _)
 ·rcases List.mem_cons.mp (I.stkSub b hb2) with e | e
  ·exact (hf b hb).2.1 e
  ·exact (hf b hb).2.2.1 e
 ·have key:∃ j,j ∈ js/\x=X.N.getD j ""/\σ[j]?=some (some v):=by
   have e1:(own++js.map fun j=>X.N.getD j "")[i]?=some x:=e1
   have e2:(own.map (fun _=>none)++js.map fun j=>(σ[j]?).join)[i]?=some (some v):=e2
   by_cases hi:i<own.length
   ·rw [List.getElem?_append_left (by simpa using hi),List.getElem?_map] at e2
    cases q:own[i]? with
    | none=>rw [q] at e2;simp at e2
    | some y=>rw [q] at e2;simp at e2
   ·have hi':own.length≤i:=Nat.le_of_not_lt hi
    rw [List.getElem?_append_right hi',List.getElem?_map] at e1
    rw [List.getElem?_append_right (by simpa using hi'),List.getElem?_map,List.length_map] at e2
    cases q:js[i - own.length]? with
    | none=>rw [q] at e1;simp at e1
    | some j=>
     rw [q] at e1 e2
     refine ⟨j,List.mem_of_getElem? q,?_,?_⟩
     ·have:=Option.some.inj e1;exact this.symm
     ·have e2':(σ[j]?).join=some v:=Option.some.inj e2
      cases z:σ[j]? with
      | none=>rw [z] at e2';simp at e2'
      | some w=>
       rw [z] at e2';have:w=some v:=by simpa using e2'
       rw [this]
  obtain ⟨j,hj,hx,hσ⟩:=key
  have hu:=ok.used j hj
  rw [← hx] at hu
  have hm:=lookup_mem hu
  obtain ⟨m,hn,hl⟩:=I.loc
  have hjl:j<X.N.length:=by rw [← I.len];exact (List.getElem?_eq_some_iff.mp hσ).1
  have hN:X.N[j]?=some x:=by
   rw [hx,List.getElem?_eq_getElem hjl]
   simp [List.getD,List.getElem?_eq_getElem hjl]
  have kx:=ok.free _ hm rfl
  obtain ⟨u,r,l⟩:=hl j x v hN hσ (.inr kx)
  refine ⟨u,r,.inr ⟨relabel_free hu,?_⟩⟩
  rcases l with ⟨hk,_⟩ | ⟨hk,c,hc,cell⟩
  ·have kx':X.env.kindOf x=some .cell∨X.env.kindOf x=some .free:=kx
   rw [hk] at kx'
   rcases kx' with z | z<;>cases z
  ·obtain ⟨c',hc'⟩:=has x _ hm rfl
   have:=sub x c' hc'
   rw [hc] at this;cases this
   obtain ⟨o,ho,hd⟩:=cell
   exact ⟨c,hc',o,keep _ _ ho,hd⟩
 ·obtain ⟨v,o,ho,hd⟩:=I.cell x c (sub x c e)
  exact ⟨v,o,keep _ _ ho,hd⟩
 ·show H C=none
  rw [hC];exact I.hok.fresh (Nat.le_refl _)
 ·show (own.map (fun _=>none)++js.map fun j=>(σ[j]?).join).length=(own++js.map fun j=>X.N.getD j "").length
  simp
theorem comp_back(I:Inv X pins σ H s)(hf:∀ b ∈ fp,FpOk X pins H b)(J:Inv (compCx X own js scope C s H fp) p2 σ2 H2 s'):Inv X pins σ H2 s':=
 I.call' J.os J.base J.hok J.bare fun b hb=>⟨(hf b hb).2.2.2.1,(hf b hb).2.1,(hf b hb).2.2.2.2.1,(hf b hb).2.2.2.2.2⟩
end
noncomputable def PTs(X:Cx)(ifs:List Expr)(t:TT):Prop:=
 ∀ (pins:List (Addr × Obj)) (s:Shared) (σ:St) (H:Hp) (Q:Bool->Hp->Prop),Inv X pins σ H s->t σ H Q->
  wpAny (model X.prog X.w) X.A (forIn ifs true fun c r=>if r=true then do let ok ← isTrue c X.env (eval c X.env);pure (ForInStep.yield ok) else pure (ForInStep.yield r)) (TP X pins σ Q) X.xe s
noncomputable def tYes:TT:=fun _ H Q=>Q true H
theorem pts_nil:PTs X [] tYes:=fun _ _ _ H _ I h=>wpAny_tests_nil ⟨H,I,h⟩
theorem pts_one(h:PT X c t):PTs X [c] t:=fun pins s σ H Q I hw=>wpAny_tests_one (h pins s σ H Q I hw)

theorem comp_loop{R:Result->Shared->Prop}(I:Nat->Shared->Prop)
  (turn:∀ n s,I n s->wpAny (model prog w) A (pyNext it) (fun r s₁=>match r with
   | none=>R (.ok .next) s₁
   | some v=>wpAny (model prog w) A (letOwnedTupleGo target it v) (fun _ s₁'=>wpAny (model prog w) A (assign target env v) (fun _ s₂=>
     wpAny (model prog w) A (forIn ifs true fun c r=>if r=true then do let ok ← isTrue c env (eval c env);pure (ForInStep.yield ok) else pure (ForInStep.yield r)) (fun ok s₃=>
      if ok=true then wpAny (model prog w) A (eval elt env) (fun x s₄=>
       wpAny (model prog w) A (call (.builtin "list.append") [acc,x]) (fun _ s₅=>∃ m,m<n/\I m s₅) (fun _ _=>False) s₄) (fun _ _=>False) s₃
      else ∃ m,m<n/\I m s₃) (fun _ _=>False) s₂) (fun _ _=>False) s₁') (fun _ _=>False) s₁) (fun _ _=>False) s)
  (n:Nat)(h:I n s):codeAny (model prog w) A (.compLoop (.ListComp elt [⟨target,iter,ifs,0⟩] scope pos) 0 it acc env) R s:=by
 refine codeAny_loop rfl I (fun n s hI=>?_) n h
 show wpAny _ A ((compTurn (.ListComp elt [⟨target,iter,ifs,0⟩] scope pos) 0 it acc env).onRaise (fun x=>do noteFrame x env;theTreesLotGoes x)) _ _ s
 refine wpAny_noted ?_
 rw [compTurn_list]
 refine wpAny_bind (wpAny_standAt (wpAny_bind (wpAny_mono (turn n s hI) (fun r s₁ h₁=>?_) fun _ _ h'=>h'.elim)))
 cases r with
 | none=>exact wpAny_pure h₁
 | some v=>
  refine wpAny_bind (wpAny_mono h₁ (fun _ s₁' h₁'=>?_) fun _ _ h'=>h'.elim)
  refine wpAny_bind (wpAny_mono h₁' (fun _ s₂ h₂=>wpAny_bind (wpAny_mono h₂ (fun ok s₃ h₃=>?_) fun _ _ h'=>h'.elim)) fun _ _ h'=>h'.elim)
  cases ok with
  | false=>exact wpAny_pure ⟨rfl,h₃⟩
  | true=>
   exact wpAny_bind (wpAny_bind (wpAny_mono h₃ (fun x s₄ h₄=>wpAny_bind (wpAny_mono h₄ (fun _ s₅ h₅=>wpAny_pure (wpAny_pure ⟨rfl,h₅⟩)) fun _ _ h'=>h'.elim)) fun _ _ h'=>h'.elim))

noncomputable def runT(t:TT)(σ:St)(H:Hp)(Q:Bool->Hp->Prop):Prop:=t σ H Q
noncomputable def runE(t:TE)(σ:St)(H:Hp)(Q:VK):Prop:=t σ H Q
noncomputable def runG(g:TG)(v:V)(σ:St)(H:Hp)(Q:St->Hp->Prop):Prop:=g v σ H Q
noncomputable def cEnd(Q:VK)(D:Addr)(H:Hp):Prop:=Q (.ref D) H
noncomputable def tComp(wi:TI)(own:List Str)(js:List Nat)(g:Addr->Shared->Hp->List Addr->TG)(tt:Addr->Shared->Hp->List Addr->TT)(te:Addr->Shared->Hp->List Addr->TE):TE:=fun σ H Q=>wi σ H fun J H1=>∀ C s₀ H₀ fp D,H1 D=none->
 ∃ W:Nat->Nat->St->Hp->Prop,(∃ m,W 0 m (cS own js σ) (upd H1 D (.lst [])))/\∀ i m σ1 H2,W i m σ1 H2->
  (J.stop i H2/\cEnd Q D H2)∨(J.go i H2/\∀ x H3,J.yld i H2 x H3->runG (g C s₀ H₀ fp) x σ1 H3 fun σ2 H4=>runT (tt C s₀ H₀ fp) σ2 H4 fun b H5=>
   if b=true then runE (te C s₀ H₀ fp) σ2 H5 fun y H6=>∃ ys,H6 D=some (.lst ys)/\ys.length<sizeLine/\∃ m',m'<m/\W (i+1) m' σ2 (upd H6 D (.lst (ys++[y]))) else ∃ m',m'<m/\W (i+1) m' σ2 H5)

section
variable {X:Cx} {own:List Str} {js:List Nat} {scope:Scope} {tg elt iter:Expr} {ifs:List Expr} {pos:Pos} {g:Addr->Shared->Hp->List Addr->TG} {tt:Addr->Shared->Hp->List Addr->TT} {te:Addr->Shared->Hp->List Addr->TE}
theorem comp_block{H1:Hp}{s2:Shared}{tn:Nat->Heap->Prop}{J:It}{RR:Value->Addr->Result->Shared->Prop}{Qv:V->Hp->Prop}
  (hc:X.calm=true)(ok:CompOk js scope X.env.kindOf X.N)(hg:∀ C s₀ H₀ fp,PG (compCx X own js scope C s₀ H₀ fp) tg (g C s₀ H₀ fp))(ht:∀ C s₀ H₀ fp,PTs (compCx X own js scope C s₀ H₀ fp) ifs (tt C s₀ H₀ fp))(he:∀ C s₀ H₀ fp,PE (compCx X own js scope C s₀ H₀ fp) elt (te C s₀ H₀ fp))
  (I:Inv X pins σ H1 s2)(T:Turn X.prog X.w X.K tg J fp it tn)(st:tn 0 s2.heap)(hf:∀ b ∈ fp,FpOk X pins H1 b)
  (h:∀ C s₀ H₀ fp D,H1 D=none->∃ W:Nat->Nat->St->Hp->Prop,(∃ m,W 0 m (cS own js σ) (upd H1 D (.lst [])))/\∀ i m σ1 H2,W i m σ1 H2->
   (J.stop i H2/\cEnd Qv D H2)∨(J.go i H2/\∀ x H3,J.yld i H2 x H3->runG (g C s₀ H₀ fp) x σ1 H3 fun σ2 H4=>runT (tt C s₀ H₀ fp) σ2 H4 fun b H5=>
    if b=true then runE (te C s₀ H₀ fp) σ2 H5 fun y H6=>∃ ys,H6 D=some (.lst ys)/\ys.length<sizeLine/\∃ m',m'<m/\W (i+1) m' σ2 (upd H6 D (.lst (ys++[y]))) else ∃ m',m'<m/\W (i+1) m' σ2 H5))
  (hRR:∀ D C H2 s' oC m,s'.heap.get? C=some oC->s'.heap.Ns C m->(∀ v,oC.data≠.cell v)->FpOk X pins H2 C->Inv X pins σ H2 s'->Qv (.ref D) H2->RR (.ref D) C (.ok .next) s'):
  wpAny (model X.prog X.w) X.A (newList []) (fun acc s₃=>wpAny (model X.prog X.w) X.A (newFunctionEnv scope X.env.globals (clOf scope X.env.cells) [] X.env.qual none .none (some X.env)) (fun cenv s₄=>
   codeAny (model X.prog X.w) X.A (.compStart (.ListComp elt [⟨tg,iter,ifs,0⟩] scope pos) 0 (.ref it) acc { cenv with scope:=relabel scope X.env }) (RR acc cenv.locals) s₄) E s₃) E s2:=by
 refine wpAny_newObj_type (wpAny_newFunctionEnv ok.nocell (by intro y hy;simp at hy) (fun h₁ hns₁ hsb₁=>?_) ok.kind)
 dsimp only at hns₁ hsb₁ ⊢
 have hD:H1 s2.heap.objs.size=none:=I.hok.fresh (Nat.le_refl _)
 have I3:Inv X pins σ (upd H1 s2.heap.objs.size (.lst [])) { s2 with heap:=s2.heap.push { cls:=.type "list",dict:=none,data:=.seq ([]:List Value).toArray } }:=
  I.laid (t':=s2.toks) (fun b u e=>Heap.get?_push_of_some _ e) (Nat.le_refl _) ⟨Nat.zero_le _,[],0,.nil,Heap.get?_push_size _ rfl⟩
 have hlt2:∀ b ∈ fp,b<s2.heap.objs.size:=fun b hb=>let ⟨o,e,_⟩:=T.obj 0 _ st b hb;Heap.lt_size e
 generalize hH2:s2.heap.push { cls:=.type "list",dict:=none,data:=.seq ([]:List Value).toArray }=heap2 at hns₁ hsb₁ I3 ⊢
 have sz2:heap2.objs.size=s2.heap.objs.size+1:=by rw [← hH2,Heap.size_push]
 have keep12:∀ b o,s2.heap.get? b=some o->heap2.get? b=some o:=fun b o e=>hH2 ▸ Heap.get?_push_of_some _ e
 have keep:∀ b o,heap2.get? b=some o->h₁.get? b=some o:=fun b o e=>hsb₁.extBut b o (Nat.ne_of_lt (Heap.lt_size e)) (Heap.get?_push_of_some _ e)
 have hf3:∀ b ∈ fp,FpOk X pins (upd H1 s2.heap.objs.size (.lst [])) b:=fun b hb=>⟨by rw [upd_ne (Nat.ne_of_lt (hlt2 b hb))];exact (hf b hb).1,(hf b hb).2⟩
 have hlt3:∀ b ∈ fp,b<heap2.objs.size:=fun b hb=>by rw [sz2];exact Nat.lt_succ_of_lt (hlt2 b hb)
 generalize hDd:s2.heap.objs.size=D at *
 have I4:=comp_start (own:=own) (js:=js) (t:=s2.toks+([]:List (Str × Value)).length) ok I3 rfl hns₁ keep hf3 hlt3
 have st4:tn 0 h₁:=T.keep 0 _ _ st fun b _ o e=>keep b o (keep12 b o e)
 obtain ⟨W,⟨m0,w0⟩,turn⟩:=h heap2.objs.size { s2 with heap:=heap2 } (upd H1 D (.lst [])) fp D hD
 -- facts about the block's frame
 have hXl:X.env.locals<heap2.objs.size:=I3.lt
 have loop:∀ s₃:Shared,s₃={ s2 with heap:=h₁,toks:=s2.toks+([]:List (Str × Value)).length }->
   codeAny (model X.prog X.w) X.A (.compLoop (.ListComp elt [⟨tg,iter,ifs,0⟩] scope pos) 0 (.ref it) (.ref D) (compEnvC scope (clOf scope X.env.cells) heap2.objs.size X.env)) (RR (.ref D) heap2.objs.size) s₃:=by
  rintro s₃ rfl
  generalize hXX:compCx X own js scope heap2.objs.size { s2 with heap:=heap2 } (upd H1 D (.lst [])) fp=X' at I4
  have eP:X'.prog=X.prog:=by rw [← hXX];rfl
  have eW:X'.w=X.w:=by rw [← hXX];rfl
  have eK:X'.K=X.K:=by rw [← hXX];rfl
  have eA:X'.A=X.A:=by rw [← hXX];rfl
  have eC:X'.calm=true:=by rw [← hXX];exact hc
  have eE:X'.env=compEnvC scope (clOf scope X.env.cells) heap2.objs.size X.env:=by rw [← hXX];rfl
  have eL:X'.env.locals=heap2.objs.size:=by rw [← hXX];rfl
  have eX:X'.xe=fun _ _=>False:=by rw [← hXX];rfl
  have eex:X'.ex=fp:=by rw [← hXX];rfl
  have epn:X'.pn=[]:=by rw [← hXX];rfl
  have efs:X'.fs=frs X.stack:=by rw [← hXX];rfl
  have ecl:X'.env.cells=clOf scope X.env.cells:=by rw [← hXX];rfl
  have sub:=cl_sub (cells:=X.env.cells) scope.names [] (by simp)
  have stat:∀ {H':Hp},(∀ b ∈ fp,H' b=none)->∀ b ∈ fp,FpOk X' [] H' b:=fun {H'} hn b hb=>by
   refine ⟨hn b hb,by rw [eL];exact Nat.ne_of_lt (hlt3 b hb),?_,.inl (by rw [eex];exact hb),fun x c hc=>?_,fun p hp=>?_⟩
   ·rw [efs]
    intro hb2
    rcases List.mem_cons.mp (I3.stkSub b hb2) with e | e
    ·exact (hf3 b hb).2.1 e
    ·exact (hf3 b hb).2.2.1 e
   ·rw [ecl] at hc
    exact (hf3 b hb).2.2.2.2.1 x c (sub x c hc)
   ·rw [epn] at hp;exact nomatch hp
  have hg':=hg heap2.objs.size { s2 with heap:=heap2 } (upd H1 D (.lst [])) fp
  have ht':=ht heap2.objs.size { s2 with heap:=heap2 } (upd H1 D (.lst [])) fp
  have he':=he heap2.objs.size { s2 with heap:=heap2 } (upd H1 D (.lst [])) fp
  rw [hXX] at hg' ht' he'
  rw [← eE]
  refine comp_loop (fun n s'=>∃ i σ' H',Inv X' [] σ' H' s'/\tn i s'.heap/\(∀ b ∈ fp,H' b=none)/\W i n σ' H') ?_ m0 ⟨0,_,_,I4,st4,fun b hb=>(hf3 b hb).1,w0⟩
  rintro n s3 ⟨i,σ3,H3,I3',st3,fr3,w3⟩
  rcases turn i n σ3 H3 w3 with ⟨stop,qn⟩ | ⟨go,step⟩
  ·have:=T.done X' eP eW eK eC i [] s3 σ3 H3 (fun _ _=>False) I3' (stat fr3) st3 stop
   rw [eA] at this
   refine thn this fun r s4 ⟨hr,I5⟩=>?_
   subst hr
   obtain ⟨m,hn,_⟩:=I5.loc
   obtain ⟨oC,es,ep,hoC,hd,_⟩:=id hn
   rw [eL] at hoC hn
   have hback:Inv X pins σ H3 s4:=comp_back I3 hf3 (hXX ▸ I5)
   refine hRR _ _ H3 s4 oC m hoC hn (fun v z=>by rw [hd] at z;cases z) ?_ hback qn
   have hfree:H3 heap2.objs.size=none:=by have:=I5.free;rw [eL] at this;exact this
   refine ⟨hfree,Nat.ne_of_gt hXl,I3.nofs (Nat.le_refl _),.inr I3.sz,fun x c e z=>?_,fun p hp z=>?_⟩
   ·obtain ⟨v,q⟩:=I3.cell x c e
    exact absurd q.lt (by rw [z];exact Nat.lt_irrefl _)
   ·exact absurd (Heap.lt_size (I3.pin p hp).1) (by rw [z];exact Nat.lt_irrefl _)
  ·have:=T.item X' eP eW eK eC i [] s3 σ3 H3 (fun _ _=>False) I3' (stat fr3) st3 go
   rw [eA] at this
   refine thn this fun r s4 ⟨u,hr,h4⟩=>?_
   subst hr
   refine thn h4 fun _ s5 ⟨x,H5,I5,r5,y5,st5,fr5⟩=>?_
   have I5':=I5.pinned (stat fr5) (T.obj _ _ st5)
   have h6:=hg' _ s5 σ3 H5 x u _ I5' r5 (step x H5 y5)
   rw [eP,eW,eA,eX] at h6
   refine thn h6 fun _ s6 ⟨σ6,H6,I6,q6⟩=>?_
   have h7:=ht' _ s6 σ6 H6 _ I6 q6
   rw [eP,eW,eA,eX] at h7
   refine thn h7 fun b s7 ⟨H7,I7,q7⟩=>?_
   have again:∀ {s8:Shared} {H8:Hp},Inv X' ([]++pinsAt fp s5.heap) σ6 H8 s8->(∃ m',m'<n/\W (i+1) m' σ6 H8)->∃ m,m<n/\∃ i σ' H',Inv X' [] σ' H' s8/\tn i s8.heap/\(∀ b ∈ fp,H' b=none)/\W i m σ' H':=fun {s8 H8} I8 ⟨m',hm,w8⟩=>by
    refine ⟨m',hm,i+1,σ6,H8,I8.unpinned,T.keep _ _ _ st5 fun b hb o e=>(I8.pin (b,o) (List.mem_append_right _ (List.mem_append_right _ (mem_pinsAt hb e)))).1,fun b hb=>?_,w8⟩
    obtain ⟨o,e,d⟩:=T.obj _ _ st5 b hb
    exact (I8.pin (b,o) (List.mem_append_right _ (List.mem_append_right _ (mem_pinsAt hb e)))).2.1
   cases b with
   | false=>exact again I7 q7
   | true=>
    have h8:=he' _ s7 σ6 H7 _ I7 q7
    rw [eP,eW,eA,eX] at h8
    refine thn h8 fun v s8 ⟨y,H8,I8,r8,ys,hys,hz,q8⟩=>?_
    have h9:=mt_append (X:=X') _ s8 σ6 H8 (.ref D) [y] (.ref D) [v] (fun _ H9=>H9=upd H8 D (.lst (ys++[y]))) I8 rfl (.cons r8 .nil) ⟨D,ys,y,rfl,rfl,hys,hz,rfl⟩
    rw [eP,eW,eA,eX] at h9
    refine thn h9 fun _ s9 ⟨v9,H9,I9,r9,e9⟩=>?_
    subst e9
    exact again I9 q8
 exact codeAny_compStart_list (loop _ rfl) (T.self _ 0 _ _ _ st4 (loop _ rfl))

theorem pe_lc(hc:X.calm=true)(hi:PI X tg iter wi)(hg:∀ C s₀ H₀ fp,PG (compCx X own js scope C s₀ H₀ fp) tg (g C s₀ H₀ fp))(ht:∀ C s₀ H₀ fp,PTs (compCx X own js scope C s₀ H₀ fp) ifs (tt C s₀ H₀ fp))(he:∀ C s₀ H₀ fp,PE (compCx X own js scope C s₀ H₀ fp) elt (te C s₀ H₀ fp))
  (ok:compB js scope X.env.kindOf X.N=true:=by first | rfl | decide +kernel)(hs:∀ x,foldedSetIterable iter X.env x=pure x:=by intro _;rfl):
  PE X (.ListComp elt [⟨tg,iter,ifs,0⟩] scope pos) (tComp wi own js g tt te):=by
 intro pins s σ H Q I h
 have ok:=compOk_of ok
 rw [eval_ListComp]
 refine wpAny_comprehension_free (use:=none) rfl hs (closure_of fun y hy e=>I.ok.has _ (ok.free y hy e)) ok.kind ok.loc (thn (hi pins s σ H _ I h) fun v s1 h1=>thn h1 fun itv s2 h2=>?_)
 obtain ⟨it,fp,tn,J,H2,e,I2,T,st2,f2,q⟩:=h2
 subst e
 refine comp_block (RR:=fun acc C=>compPost (model X.prog X.w) X.A X.xe none (EP X pins σ Q) acc C) hc ok hg ht he I2 T st2 f2 q ?_
 intro D C H3 s' oC m hoC hn hd hfp I' q'
 refine ⟨m,hn,fun h' hs'=>⟨.ref D,H3,?_,rfl,q'⟩⟩
 exact I'.turned (t':=s'.toks) (fun b o hb e=>(hs'.2 b hb).trans e) hfp.1 hfp.2.1 hfp.2.2.2.1 hfp.2.2.2.2.1 hfp.2.2.2.2.2

theorem ps_setC{py spos:Pos}(hN:X.N.Nodup)(hi':X.N[i]?=some y)(hx:Loc X.env.scope y)(hc:X.calm=true)(hi:PI X tg iter wi)(hg:∀ C s₀ H₀ fp,PG (compCx X own js scope C s₀ H₀ fp) tg (g C s₀ H₀ fp))
  (ht:∀ C s₀ H₀ fp,PTs (compCx X own js scope C s₀ H₀ fp) ifs (tt C s₀ H₀ fp))(he:∀ C s₀ H₀ fp,PE (compCx X own js scope C s₀ H₀ fp) elt (te C s₀ H₀ fp))
  (ok:compB js scope X.env.kindOf X.N=true:=by first | rfl | decide +kernel)(hs:∀ x,foldedSetIterable iter X.env x=pure x:=by intro _;rfl)
  (hsw:swapsWith (.ListComp elt [⟨tg,iter,ifs,0⟩] scope pos) (some (.Name y py)) spos.line X.env=pure true:=by rfl)(hf:X.fn y=true∨X.env.scope.names.lookup y=some .local:=by first | exact .inl rfl | exact .inr rfl | assumption):
  PS X (.Assign [.Name y py] (.ListComp elt [⟨tg,iter,ifs,0⟩] scope pos) spos) (tAsg (tComp wi own js g tt te) (gName i)):=by
 intro pins s σ H D I h
 have ok:=compOk_of ok
 rw [exec_Assign_Name_used _ _ _ _ hsw]
 refine wpAny_bind (wpAny_standAt (wpAny_bind ?_))
 show wpAny _ X.A (do let _ ← comprehension (.ListComp elt [⟨tg,iter,ifs,0⟩] scope pos) scope X.env _ (newList []) false (eval iter X.env) (some (assign (.Name y py) X.env))) _ _ s
 refine wpAny_bind (wpAny_mono (wpAny_comprehension_free (use:=some (assign (.Name y py) X.env)) (Q:=fun _ s'=>SP X pins D .next s') rfl hs (closure_of fun y hy e=>I.ok.has _ (ok.free y hy e)) ok.kind ok.loc (thn (hi pins s σ H _ I h) fun v s1 h1=>thn h1 fun itv s2 h2=>?_))
  (fun _ s' hq=>wpAny_pure (wpAny_pure hq)) fun _ _ e=>e)
 obtain ⟨it,fp,tn,J,H2,e,I2,T,st2,f2,q⟩:=h2
 subst e
 refine comp_block (Qv:=fun x H1=>gName i x σ H1 D.nx) (RR:=fun acc C=>compPost (model X.prog X.w) X.A X.xe (some (assign (.Name y py) X.env)) (fun _ s'=>SP X pins D .next s') acc C) hc ok hg ht he I2 T st2 f2 q ?_
 intro Da C H3 s' oC m hoC hn hd hfp I' q'
 have I'':Inv X (pins++[(C,oC)]) σ H3 s':=I'.pins_of fun p hp=>(List.mem_append.mp hp).elim (fun z=>I'.pin p (List.mem_append_right _ z)) fun z=>by
  rw [List.mem_singleton.mp z]
  exact ⟨hoC,hfp.1,hfp.2.1,hfp.2.2.1,hd⟩
 refine thn (pg_name (pos:=py) hN hi' hx hf _ s' σ H3 (.ref Da) (.ref Da) _ I'' rfl q') fun _ s'' ⟨σ4,H4,I4,q4⟩=>?_
 have hC4:=I4.pin (C,oC) (List.mem_append_right _ (List.mem_append_right _ List.mem_cons_self))
 refine ⟨m,hn.at' fun o e=>?_,fun h' hs'=>⟨σ4,H4,?_,q4⟩⟩
 ·rw [hoC] at e;cases e;exact hC4.1
 ·have I5:Inv X pins σ4 H4 s'':=I4.unpinned
  exact I5.turned (t':=s''.toks) (fun b o hb e=>(hs'.2 b hb).trans e) hC4.2.1 hfp.2.1 hfp.2.2.2.1 hfp.2.2.2.2.1 hfp.2.2.2.2.2
end
end L2
namespace L2
open PySem PySem.Spec PyProof.Rows
structure Fn (P:Program) (w:World) (K:PySem.W.Frag) (mg:Str->Option Value) (base:Heap) (x:Str) (k:Nat) (ps:List Str) (sp:Sp):Prop where
 ex:∃ f fd,FnOk P w K mg base CX0 k f fd ps sp/\mg x=some (.ref f)/\PySem.W.keepIn K (.ref f)=true/\Binds K fd ps []
theorem pe_fn{X:Cx}(F:Fn X.prog X.w X.K X.mg X.base x k ps sp)(hr:Room k X.A)(hg:Gl X x)(ha:PA X (e::es) t)
  (hdb:(x == ("__debug__":Str))=false:=by decide)(he:starEach (e::es) X.env=(false,eval e X.env)::starEach es X.env:=by rfl)(hpl:(backTo pos (starEach es X.env)).any (·.1)=false:=by rfl):
  PE X (.Call (.Name x p) (e::es) [] pos) (tCall sp [] E0 t):=by
 obtain ⟨f,fd,F,hm,hk,hb⟩:=F.ex
 exact pe_call F hr hg hm hk hb .nil pass0 ha hdb he hpl

section
variable {prog:Program} {w:World} {A:Around} {E:Value->Shared->Prop} {s:Shared}
theorem draw_list{it t:Addr}{items:Array Value}(hne:t≠it):∀ (n i:Nat) (s:Shared) (Q:List Value->Shared->Prop),s.heap.IsListIter it t i->s.heap.IsList t items->i+n≤items.size->
  (∀ h',h'.IsListIter it t (i+n)->Heap.SameBut it s.heap h'->Q ((items.toList.drop i).take n) { s with heap:=h' })->wpAny (model prog w) A (draw (.ref it) n) Q E s
 | 0,i,s,Q,hit,_,_,hQ=>by
  show wpAny _ _ (pure []) Q E s
  exact wpAny_pure (by simpa using hQ s.heap hit (Heap.SameBut.refl ..))
 | n+1,i,s,Q,hit,ht,hle,hQ=>by
  have hlt:i<items.size:=by omega
  show wpAny _ _ (pyNext (.ref it) >>= _) Q E s
  refine wpAny_bind (wpAny_pyNext_list_item hit ht (x:=items[i]) (by simp [hlt]) fun h₁ hit₁ hs₁=>?_)
  refine wpAny_bind (wpAny_holding (draw_list hne n (i+1) _ _ hit₁ (ht.extBut hs₁.extBut hne) (by omega) fun h₂ hit₂ hs₂=>wpAny_pure ?_))
  have hd:items.toList.drop i=items[i]::items.toList.drop (i+1):=by simp [List.drop_eq_getElem_cons,hlt]
  have:=hQ h₂ (by rw [show i+(n+1)=i+1+n by omega];exact hit₂) (hs₁.trans hs₂)
  rw [hd,List.take_succ_cons] at this
  exact this
theorem unpackItems_list{items:Array Value}{Q:List Value->Shared->Prop}(hh:A.handled=none)(ht:s.heap.IsList t items)
  (hQ:∀ h',Heap.ExtBut s.heap.objs.size s.heap h'->Q items.toList { s with heap:=h' }):wpAny (model prog w) A (unpackItems (.ref t) items.size none) Q E s:=by
 have hlt:t≠s.heap.objs.size:=by obtain ⟨o,ho,_⟩:=ht;exact Nat.ne_of_lt (Heap.lt_size ho)
 unfold unpackItems
 refine wpAny_bind ?_
 ·unfold notIterableAtAll
  refine wpAny_bind (wpAny_specialOf ht.typeIs slot_list_iter.lookup ?_)
  refine wpAny_pure ?_
  simp only [Bool.false_eq_true,if_false]
  refine wpAny_bind (wpAny_holding (wpAny_pyIter_list ht ?_))
  have hpush:(s.heap.push { cls:=.type "list_iterator",data:=.fields #[.ref t,.int 0 0] }).IsList t items:=by
   obtain ⟨o,ho,r⟩:=ht
   exact ⟨o,Heap.get?_push_of_some _ ho,r⟩
  refine wpAny_bind (wpAny_holding (draw_list hlt items.size 0 _ _ ⟨_,Heap.get?_push_size _ rfl,rfl,rfl⟩ hpush (by omega) fun h₁ hit₁ hs₁=>?_))
  have hall:List.take items.size (List.drop 0 items.toList)=items.toList:=by
   rw [List.drop_zero];exact List.take_of_length_le (by simp)
  rw [hall]
  rw [if_neg (by simp)]
  have ht₁:h₁.IsList t items:=hpush.extBut hs₁.extBut hlt
  refine wpAny_bind (wpAny_holding (wpAny_pyNext_list_end hh hit₁ ht₁ (by simp) fun h₂ he₂=>?_))
  simp only [Option.isSome_none,Bool.false_eq_true,if_false]
  refine wpAny_pure (hQ h₂ fun b o hb e=>he₂ b o hb (hs₁.extBut b o hb (Heap.get?_push_of_some _ e)))
theorem assign_Tuple_list{x1}{items:Array Value}(hh:A.handled=none)(ht:s.heap.IsList t items)
  (hn:(assignEach elts env).length=items.size)(hstar:(assignEach elts env).findIdx? (·.1)=none)
  (h:∀ h',Heap.ExtBut s.heap.objs.size s.heap h'->wpAny (model prog w) A (assignInOrder ((assignEach elts env).map (·.2)) items.toList) Q E { s with heap:=h' }):
  wpAny (model prog w) A (assign (.Tuple elts x1 pos) env (.ref t)) Q E s:=by
 rw [assign_Tuple]
 refine wpAny_bind (wpAny_standAt ?_)
 unfold unpack
 rw [hn,hstar]
 exact wpAny_bind (wpAny_holding (unpackItems_list hh ht h))
end
section
variable {X:Cx} {pos:Pos}
noncomputable def gLst(K:PySem.W.Frag)(n:Nat)(t:TGs):TG:=fun v σ H Q=>∃ a xs,v=.ref a/\SqL K H a xs/\xs.length=n/\t xs σ H Q
theorem pg_lst(hc:X.calm=true)(h:PGs X es t)
  (hn:(assignEach es X.env).length=n:=by rfl)(hst:(assignEach es X.env).findIdx? (·.1)=none:=by rfl):PG X (.Tuple es k pos) (gLst X.K n t):=by
 intro pins s σ H v u Q I r hw
 obtain ⟨a,xs,e1,hq,hl,hw⟩:=hw
 subst e1
 cases r
 obtain ⟨its,rv,ht,hz⟩:=I.list hq
 refine assign_Tuple_list (I.ok.hd hc) ht.isList (by simp [hn,← hl,rv.length]) hst fun h' hx=>?_
 have I1:Inv X pins σ H { s with heap:=h' }:=I.kept (t':=s.toks) fun b o e=>hx b o (Nat.ne_of_lt (Heap.lt_size e)) e
 exact h pins _ σ H xs _ Q I1 (by simpa using rv) hw
end
section
variable {prog:Program} {w:World} {A:Around} {E:Value->Shared->Prop} {s:Shared}
theorem getItem_tuple_whole{t sl:Addr}{items:Array Value}{vl vu:Value}{lo hi:Option Int}{Q:Value->Shared->Prop}(ht:IsTup s.heap t items)(hs:s.heap.IsSliceOf sl vl vu .none)(pl:IsPart vl lo)(pu:IsPart vu hi)
  (hw:HT.sIx items.size 0 lo=0/\HT.sIx items.size items.size hi=items.size)(h:Q (.ref t) s):wpAny (model prog w) A (getItem (.ref t) (.ref sl)) Q E s:=by
 obtain ⟨os,hos,hcs,hds⟩:=id hs
 have hTs:s.TypeIs (.ref sl) "slice":=⟨os,hos,hcs⟩
 unfold getItem
 try with_reducible refine wpAny_holding ?_
 first | refine wpAny_bind (wpAny_pure ?_) | skip
 refine wpAny_bind (wpAny_sequenceKey ht.typeIs (by decide) ?_)
 refine wpAny_bind (wpAny_callSpecial?_slot (name:=Str.ofString "__getitem__") ht.typeIs PyProof.Rows.slot_tuple_getitem
  (wpAny_call_entry PyProof.Rows.slot_tuple_getitem ht.typeIs entry_tuple_getitem ?_ (args_tuple_getitem _ _)))
 show wpAny _ _ (Builtin.Tuple.tupleItemsOf (.ref t) >>= _) _ _ s
 refine wpAny_bind (tupleItemsOf_ ht ?_)
 refine wpAny_bind (wpAny_typeOf hTs ?_)
 rw [if_pos (by decide)]
 refine wpAny_bind (HT.sliceApplied_gen hs pl pu ?_)
 have hyes:(((HT.sIx items.size 0 lo:Nat):Int) == 0 && (1:Int) == 1 && (HT.sIx items.size items.size hi - HT.sIx items.size 0 lo) == items.size)=true:=by
  rw [hw.1,hw.2];simp
 show wpAny _ _ (if (((HT.sIx items.size 0 lo:Nat):Int) == 0 && (1:Int) == 1 && (HT.sIx items.size items.size hi - HT.sIx items.size 0 lo) == items.size)=true then _ else _) _ _ s
 rw [if_pos hyes]
 refine wpAny_bind ?_
 unfold Builtin.Tuple.tupleIsExact
 refine wpAny_bind (wpAny_typeOf ht.typeIs (wpAny_pure ?_))
 rw [if_pos (by decide)]
 first
  | exact wpAny_bind (wpAny_rule (wpAny_pure ⟨_,rfl,wpAny_pure h⟩))
  | exact wpAny_bind (wpAny_rule (wpAny_bind (wpAny_pure (wpAny_pure ⟨_,rfl,wpAny_pure h⟩))))
  | exact wpAny_bind (wpAny_rule (wpAny_bind (wpAny_pure ⟨_,rfl,wpAny_pure h⟩)))
end
section
variable {X:Cx}
noncomputable def rSlTa(K:PySem.W.Frag):V->Option Int->Option Int->Hp->VK->Prop:=fun x lo hi H Q=>∃ a xs,x=.ref a/\SqT K H a xs/\(cutV xs lo hi=xs->Q (.ref a) H)/\∀ p,H p=none->Q (.ref p) (upd H p (.tup (cutV xs lo hi)))
theorem sl_tupA:SlR X (rSlTa X.K):=by
 intro pins s σ H x v vl vu lo hi sl Q I rx hs pl pu h
 obtain ⟨a,xs,rfl,hx,q1,q2⟩:=h
 by_cases hw:HT.sIx xs.length 0 lo=0/\HT.sIx xs.length xs.length hi=xs.length
 ·cases rx
  obtain ⟨its,r,ht,hz⟩:=I.tuple hx
  have hlen:its.toArray.size=xs.length:=by rw [List.size_toArray];exact r.length.symm
  refine ⟨"tuple",_,PyProof.Rows.slot_tuple_getitem.lookup,ht.typeIs,?_⟩
  refine getItem_tuple_whole ht hs pl pu (by rw [hlen];exact hw) ⟨.ref a,H,I,rfl,q1 ?_⟩
  unfold cutV
  rw [hw.1,hw.2]
  simp
 ·exact sl_tup pins s σ H _ v vl vu lo hi sl Q I rx hs pl pu ⟨a,xs,rfl,hx,hw,q2⟩
end
section
variable {X:Cx}
theorem vals_ty:∀ {ns:List String} {us:List Value},Vals (ns.map V.ty) us->us=ns.map Value.type
 | [],_,h=>by cases h;rfl
 | n::ns,_,h=>by
  cases h with
  | cons r t=>cases r;rw [vals_ty t];rfl
theorem op_mulB:OpR X (binaryOp .Mult) (rI IntMulOk fun i j=>.int (i * j)):=opI fun _ _ _ _ _ _ _ hc q=>mul_int q hc

theorem op_in_dict(hu:X.A.units+1<cLine):OpR X (compareOp .In) (fun x y H Q=>∃ a o,y=.ref a/\DGet H a x o/\Q (.bl o.isSome) H):=by
 intro pins s σ H x y v u Q I rx ry h
 obtain ⟨a,o,rfl,g,q⟩:=h
 cases ry
 exact d_in hu I g rx fun s' I'=>⟨.bl _,H,I',rfl,q⟩
theorem op_notIn_dict(hu:X.A.units+1<cLine):OpR X (compareOp .NotIn) (fun x y H Q=>∃ a o,y=.ref a/\DGet H a x o/\Q (.bl (!o.isSome)) H):=by
 intro pins s σ H x y v u Q I rx ry h
 obtain ⟨a,o,rfl,g,q⟩:=h
 cases ry
 exact d_notIn hu I g rx fun s' I'=>⟨.bl _,H,I',rfl,q⟩
noncomputable def InBy(K:PySem.W.Frag)(H:Hp)(y x:V)(b:Bool):Prop:=
 (∃ p xs,y=.ref p/\(SqL K H p xs∨SqT K H p xs)/\flatV x=true/\xs.all flatV=true/\b=inV x xs)∨∃ a o,y=.ref a/\DGet H a x o/\b=o.isSome
theorem op_in_any(hu:X.A.units+1<cLine):OpR X (compareOp .In) (fun x y H Q=>∃ b,InBy X.K H y x b/\Q (.bl b) H):=by
 intro pins s σ H x y v u Q I rx ry h
 obtain ⟨b,h | h,q⟩:=h
 ·obtain ⟨p,xs,rfl,h1,h2,h3,rfl⟩:=h
  exact op_in_seq pins s σ H x _ v u Q I rx ry ⟨p,xs,rfl,h1,h2,h3,q⟩
 ·obtain ⟨a,o,rfl,h1,rfl⟩:=h
  exact op_in_dict hu pins s σ H x _ v u Q I rx ry ⟨a,o,rfl,h1,q⟩
theorem op_notIn_any(hu:X.A.units+1<cLine):OpR X (compareOp .NotIn) (fun x y H Q=>∃ b,InBy X.K H y x b/\Q (.bl (!b)) H):=by
 intro pins s σ H x y v u Q I rx ry h
 obtain ⟨b,h | h,q⟩:=h
 ·obtain ⟨p,xs,rfl,h1,h2,h3,rfl⟩:=h
  exact op_notIn_seq pins s σ H x _ v u Q I rx ry ⟨p,xs,rfl,h1,h2,h3,q⟩
 ·obtain ⟨a,o,rfl,h1,rfl⟩:=h
  exact op_notIn_dict hu pins s σ H x _ v u Q I rx ry ⟨a,o,rfl,h1,q⟩

theorem call_list_dict(hc:X.calm=true):CallR X (.type "list") (fun xs H Q=>∃ p kvs,xs=[.ref p]/\H p=some (.dK kvs)/\∀ l,H l=none->Q (.ref l) (upd H l (.lst (kvs.map fun kv=>kV kv.1)))):=by
 intro pins s σ H xs us Q I r h
 obtain ⟨p,kvs,rfl,hp,q⟩:=h
 obtain ⟨u,rfl,rx⟩:=vals1 r
 cases rx
 obtain ⟨hz,hS,vs,rel,o,es,ep,h1,h2,h3,h4⟩:=dk_of I.hok hp
 have hlen:kvs.length=vs.length:=rel.length
 have hn:H s.heap.objs.size=none:=I.hok.fresh (Nat.le_refl _)
 refine PySem.W.kdl_call (PySem.W.kdl_dict (kvs:=vs) (ep:=ep) hS) (I.ok.hd hc) ⟨o,es,h1,h2,h3,h4⟩ (by omega) fun h' tk acc' c' hk hl hi=>?_
 have rv:Vals (kvs.map fun kv=>kV kv.1) acc'.toList:=by
  have key:∀ (l:List (Key × V)) (m:List (Key × Value)) (us:List Value),KV l m->us.length=m.length->(∀ (j:Nat) (v:Value),us[j]?=some v->∃ k x,m[j]?=some (k,x)/\(mixKind X.prog X.w).is k v=true)->Vals (l.map fun kv=>kV kv.1) us:=by
   intro l m us hr
   unfold KV at hr
   induction hr generalizing us with
   | nil=>intro hl _;cases us with
    | nil=>exact .nil
    | cons _ _=>simp at hl
   | @cons a b l m hab t ih=>
    intro hl hv
    cases us with
    | nil=>simp at hl
    | cons u us=>
     refine .cons ?_ (ih us (by simpa using hl) fun j v hj=>by simpa using hv (j+1) v (by simpa using hj))
     obtain ⟨k,x,e,hk⟩:=hv 0 u rfl
     simp only [List.getElem?_cons_zero,Option.some.injEq] at e
     have e1:b.1=k:=by rw [e]
     show RelV (kV a.1) u
     rw [hab.1,e1]
     rw [mixKind_is] at hk
     rcases keyIs_shape hk with ⟨i,t,rfl,rfl⟩ | ⟨x,t,rfl,rfl⟩
     ·exact ⟨t,rfl⟩
     ·exact ⟨t,rfl⟩
  refine key kvs vs _ rel (by rw [Array.length_toList];exact hi.1) fun j v hj=>hi.2 j v (by rw [← Array.getElem?_toList];exact hj)
 refine ⟨.ref s.heap.objs.size,_,I.laid hk (Nat.le_refl _) (show ObjOk X.prog X.w _ h' _ (.lst (kvs.map fun kv=>kV kv.1)) from ⟨by rw [List.length_map];exact hz,acc'.toList,c',rv,by rw [Array.toArray_toList];exact hl⟩),rfl,q _ hn⟩
end
mutual
inductive Rep (K:PySem.W.Frag) (H:Hp):V->PyData->Prop
 | non:Rep K H .non .none
 | bl (b:Bool):Rep K H (.bl b) (.bool b)
 | int (i:Int):Rep K H (.int i) (.int i)
 | str (x:Str):Rep K H (.str x) (.str x)
 | list {a:Addr} {xs:List V} {ds:List PyData}:SqL K H a xs->Reps K H xs ds->Rep K H (.ref a) (.list ds)
 | tuple {a:Addr} {xs:List V} {ds:List PyData}:SqT K H a xs->Reps K H xs ds->Rep K H (.ref a) (.tuple ds)
inductive Reps (K:PySem.W.Frag) (H:Hp):List V->List PyData->Prop
 | nil:Reps K H [] []
 | cons {x:V} {d:PyData} {xs:List V} {ds:List PyData}:Rep K H x d->Reps K H xs ds->Reps K H (x::xs) (d::ds)
end
theorem Same.tup{K:PySem.W.Frag}{H H':Hp}{a:Addr}{xs:List V}(e:Same H H')(h:SqT K H a xs):SqT K H' a xs:=by
 rcases h with (h | ⟨o,h⟩) | h
 ·exact .inl (.inl (e _ _ h))
 ·exact .inl (.inr ⟨o,e _ _ h⟩)
 ·exact .inr h
mutual
theorem Rep.same{K:PySem.W.Frag}{H H':Hp}(e:Same H H'):∀ {x:V} {d:PyData},Rep K H x d->Rep K H' x d
 | _,_,.non=>.non
 | _,_,.bl b=>.bl b
 | _,_,.int i=>.int i
 | _,_,.str x=>.str x
 | _,_,.list h r=>.list (e.seq h) (Reps.same e r)
 | _,_,.tuple h r=>.tuple (e.tup h) (Reps.same e r)
theorem Reps.same{K:PySem.W.Frag}{H H':Hp}(e:Same H H'):∀ {xs:List V} {ds:List PyData},Reps K H xs ds->Reps K H' xs ds
 | _,_,.nil=>.nil
 | _,_,.cons h t=>.cons (Rep.same e h) (Reps.same e t)
end
mutual
theorem Rep.reads{X:Cx}{pins:List (Addr × Obj)}{σ:St}{H:Hp}{s:Shared}(I:Inv X pins σ H s):∀ {x:V} {d:PyData} {u:Value},Rep X.K H x d->RelV x u->∃ as,Reads s.heap u d as
 | _,_,_,.non,r=>by cases r;exact ⟨_,.none⟩
 | _,_,_,.bl b,r=>by cases r;exact ⟨_,.bool b⟩
 | _,_,_,.int i,r=>by obtain ⟨t,rfl⟩:=r;exact ⟨_,.int i t⟩
 | _,_,_,.str x,r=>by obtain ⟨t,rfl⟩:=r;exact ⟨_,.str x t⟩
 | _,_,_,.list h q,r=>by
  cases r
  obtain ⟨its,rv,⟨o,n,e,c,d,hd⟩,hz⟩:=I.list h
  obtain ⟨as,ra⟩:=Reps.reads I q rv
  exact ⟨_,.list e c hd (by simpa using ra)⟩
 | _,_,_,.tuple h q,r=>by
  cases r
  obtain ⟨its,rv,⟨o,e,c,n,hd⟩,hz⟩:=I.tuple h
  obtain ⟨as,ra⟩:=Reps.reads I q rv
  exact ⟨_,.tuple e c hd (by simpa using ra)⟩
theorem Reps.reads{X:Cx}{pins:List (Addr × Obj)}{σ:St}{H:Hp}{s:Shared}(I:Inv X pins σ H s):∀ {xs:List V} {ds:List PyData} {us:List Value},Reps X.K H xs ds->Vals xs us->∃ as,ReadsAll s.heap us ds as
 | _,_,_,.nil,r=>by cases r;exact ⟨_,.nil⟩
 | _,_,_,.cons h t,r=>by
  cases r with
  | cons r1 r2=>
   obtain ⟨as,ra⟩:=Rep.reads I h r1
   obtain ⟨bs,rb⟩:=Reps.reads I t r2
   exact ⟨_,.cons ra rb⟩
end
section
variable {X:Cx}
open PySem.SeqAt in
theorem op_eqD(hu:X.A.units+64<cLine):OpR X (compareOp .Eq) (fun x y H Q=>∃ d e,Rep X.K H x d/\Rep X.K H y e/\d.canLay0=true/\e.canLay0=true/\d.depth≤64/\Q (.bl (PyData.eqv d e)) H):=by
 intro pins s σ H x y v u Q I rx ry h
 obtain ⟨d,e,hd,he,h1,h2,h3,q⟩:=h
 obtain ⟨as,ra⟩:=hd.reads I rx
 obtain ⟨bs,rb⟩:=he.reads I ry
 exact compareEq_reads ra rb h1 h2 (by have:=Nat.min_le_left d.depth e.depth;omega) ⟨.bl _,H,I,rfl,q⟩
open PySem.SeqAt in
end
end L2
namespace L2
open PySem PySem.Spec PyProof.Rows
section
variable {X:Cx} {pos:Pos}
theorem pe_bty(hg:Gl X x)(hm:X.mg x=none)(hv:bootBuiltins x=some (.type T))(hn:x≠"__name__":=by decide)(hd:(x == ("__debug__":Str))=false:=by decide):PE X (.Name x pos) (tC (.ty T)):=
 pe_bltn hg hm hv (show RelV (.ty T) (.type T) from rfl) hn hd
theorem pe_gint(hg:Gl X x)(hm:X.mg x=some (.int i t))(hd:(x == ("__debug__":Str))=false:=by decide):PE X (.Name x pos) (tC (.int i)):=
 pe_glob hg hm (show RelV (.int i) (.int i t) from ⟨t,rfl⟩) hd
end
section
variable {X:Cx}
end
noncomputable def cW(D:Addr)(xs:List V)(τ:St)(Pv:Nat->List V->Hp->Prop)(i m:Nat)(σ:St)(H:Hp):Prop:=
 ∃ o ys,σ=o::τ/\H D=some (.lst ys)/\ys.length≤i/\i≤xs.length/\m=xs.length - i/\Pv i ys H
noncomputable def cPut(D:Addr)(xs:List V)(τ:St)(Pv:Nat->List V->Hp->Prop)(i:Nat)(x:V)(y:V)(H6:Hp):Prop:=
 ∃ ys,H6 D=some (.lst ys)/\ys.length<sizeLine/\∃ m',m'<xs.length - i/\cW D xs τ Pv (i+1) m' (some x::τ) (upd H6 D (.lst (ys++[y])))
noncomputable def cSkip(D:Addr)(xs:List V)(τ:St)(Pv:Nat->List V->Hp->Prop)(i:Nat)(x:V)(H5:Hp):Prop:=
 ∃ m',m'<xs.length - i/\cW D xs τ Pv (i+1) m' (some x::τ) H5
theorem cPut.mk{xs:List V}{τ:St}{Pv:Nat->List V->Hp->Prop}{H6:Hp}{ys:List V}(hi:i<xs.length)(hz:xs.length≤100000)(hy:ys.length≤i)(h:H6 D=some (.lst ys))(p:Pv (i+1) (ys++[y]) (upd H6 D (.lst (ys++[y])))):
  cPut D xs τ Pv i x y H6:=
 ⟨ys,h,by rw [sizeLine_eq];omega,xs.length - (i+1),by omega,some x,ys++[y],rfl,upd_same,by rw [List.length_append,List.length_singleton];omega,hi,rfl,p⟩
theorem cSkip.mk{xs:List V}{τ:St}{Pv:Nat->List V->Hp->Prop}{H5:Hp}{ys:List V}(hi:i<xs.length)(hy:ys.length≤i)(h:H5 D=some (.lst ys))(p:Pv (i+1) ys H5):cSkip D xs τ Pv i x H5:=
 ⟨xs.length - (i+1),by omega,some x,ys,rfl,h,by omega,hi,rfl,p⟩
section
variable {J:It} {v:Str} {js:List Nat} {tt:TT} {te:TE} {σ:St} {H1:Hp} {Q:VK}
end
theorem same_upd{H H':Hp}(s:Same H H')(hD:H D=none):Same H (upd H' D o):=fun b u e=>by
 rw [upd_ne (ne_of_none e hD)]
 exact s b u e
theorem bits_of_weight:∀ (ns:List Int),PySem.W.WData.weightAll (ns.map PySem.W.WData.int)≤2 ^ 20->∀ n ∈ ns,Builtin.Int.intBits n≤1048576
 | [],_,_,h=>nomatch h
 | m::ns,hw,n,h=>by
  rw [List.map_cons] at hw
  unfold PySem.W.WData.weightAll at hw
  rcases List.mem_cons.mp h with rfl | h
  ·have:PySem.W.WData.weight (PySem.W.WData.int n)=Builtin.Int.intBits n:=by unfold PySem.W.WData.weight Builtin.Int.intBits;rfl
   omega
  ·exact bits_of_weight ns (by omega) n h
end L2
namespace Att
open PySem PySem.W PySem.Calls PyProof.Rows
theorem attach_callB{l:OpenLaw}{YP:World->Heap->Prop}{d:DefRec}
  (hn:l.most=some n)(hdf:d.params.defaults=[])
  (call:∀ (w:World) (s₀ s₁:Shared) (mg mb:Str->Option Value) (fa:Addr) (o:Obj) (pm cd doc:Value) (a:Addr) (vs:List Value) (ns:List Int),
   Ground q loose [] XP w s₀ mg mb s₁.heap->YP w s₁.heap->
   s₁.heap.get? fa=some o->o.data=.func (docDef d.name d.params d.body d.scope pm cd doc)->s₁.heap.CodeRec cd d.name->mg d.name=some (.ref fa)->
   s₁.heap.get? a=some { cls:=.type "list",data:=.seq vs.toArray }->IntsAre vs ns->ns.length≤n->(∀ m ∈ ns,Builtin.Int.intBits m≤1048576)->s₁.gens=#[]->
   codeAny (model l.prog w) callerA (.call (.ref fa) ⟨[.ref a],[]⟩) (fun r s'=>r=.ok (.ret (.bool true))/\OldK s₁.heap s'.heap/\s'.os=s₁.os/\AllBare s'.gens) s₁):
  WalkO q loose XP YP l.row.toRowW d [] (fun f vs=>PySem.call f vs):=by
 intro w s₀ s₁ mg mb G Y fa o pm cd doc dV kV ho hd hcd hD hmg hg args vals as hpre hlay hrd hwl hlo
 obtain rfl:dV=.none:=Dflts.none hD hdf
 obtain rfl:kV=.none:=Dflts.noKw hD
 obtain ⟨a,vs,ns,rfl,rfl,hobj,hints,hlen⟩:=script_of hn hpre hwl
 have hb:∀ m ∈ ns,Builtin.Int.intBits m≤1048576:=by
  refine L2.bits_of_weight ns ?_
  have h1:WData.layable (WData.list (ns.map WData.int))=true:=by simpa [WData.layableAll] using hlay
  unfold WData.layable at h1
  have h2:=of_decide_eq_true (Bool.and_eq_true_iff.mp h1).2
  unfold WData.weight at h2
  exact h2
 refine enter_call (codeAny_mono (call w s₀ s₁ mg mb fa o pm cd doc a vs ns G Y ho (fd_plain hd) hcd hmg hobj hints hlen hb hg) fun r s' hq=>?_)
 obtain ⟨rfl,h2,h3,h4⟩:=hq
 exact ⟨.inl ⟨.bool true,.bool true,[],rfl,fun _=>rfl,.bool true,post_true l _,fun _=>⟨List.Pairwise.nil,fun _ hm=>(nomatch hm)⟩⟩,h2,h3,h4⟩
end Att
namespace L2
open PySem PySem.Spec PyProof.Rows
theorem walk_ofB{l:PySem.W.OpenLaw}{YP:World->Heap->Prop}{d:DefRec}{K:Params->PySem.W.Frag}{CX:World->CXT}{sp:World->Sp}
  (hn:l.most=some n)(hn2:n≤sizeLine)(hdf:d.params.defaults=[])(hr:Room k callerA)
  (hY:∀ (w:World) (h:Heap),YP w h->(K w.params).In h)
  (F:∀ (w:World) (mg:Str->Option Value) (fa:Addr) (h:Heap),(K w.params).In h->h.Ns mainGlobals mg->mg d.name=some (.ref fa)->
   ∃ fd:FuncData,(∀ (s:Shared) (u:Value),BindsTo s fd ⟨[u],[]⟩ [(x,u)])/\
    ∀ base:Heap,(K w.params).In base->base.Ns mainGlobals mg->FnOk l.prog w (K w.params) mg base (CX w) k fa fd [x] (sp w))
  (hsp:∀ (w:World) (H:Hp) (a:Addr) (ns:List Int),ns.length≤n->(∀ m ∈ ns,Builtin.Int.intBits m≤1048576)->Only H->SqL (K w.params) H a (ns.map V.int)->sp w [.ref a] H (fun v _=>v=.bl true) fun _ _ _=>False)
  (hCX:∀ (w:World) (H:Hp) (s:Shared) (e:Value) (s':Shared),CX w [] H s (fun _ _ _=>False) e s'->False):
  PySem.W.WalkO q loose XP YP l.row.toRowW d [] (fun f vs=>PySem.call f vs):=by
 refine Att.attach_callB hn hdf fun w s₀ s₁ mg mb fa o pm cd doc a vs ns G Y ho hd hcd hmg hobj hints hlen hb hg=>?_
 have KX:=hY w _ Y
 obtain ⟨fd,hbd,hF⟩:=F w mg fa _ KX G.T.g hmg
 exact law_call KX G.T.g G.T.b G.T.builtins G.T.nolimit hg hobj hints (Nat.le_trans hlen hn2) hr hF hbd (fun H hO hS=>hsp w H a ns hlen hb hO hS) fun H e s'=>hCX w H s₁ e s'
end L2
namespace L2
open PySem PySem.Spec PyProof.Rows
section
variable {prog:Program} {w:World} {A:Around} {E:Value->Shared->Prop} {s:Shared}
theorem typeIs_none(s:Shared):s.TypeIs .none "NoneType":=by first | exact rfl | trivial | (unfold Shared.TypeIs;trivial)
theorem wpAny_pyHash_none{Q:Int->Shared->Prop}(h:Q 0xFCA86420 { s with toks:=s.toks+1 }):wpAny (model prog w) A (pyHash .none) Q E s:=by
 unfold pyHash
 unfold pyHashByItsType
 have hv:[Value.none].any Value.onHeap=false:=rfl
 refine wpAny_bind ?_
 rw [cRoomFor,if_neg (by rw [hv];exact Bool.false_ne_true)];refine wpAny_pure ?_
 refine wpAny_bind (wpAny_specialOf (typeIs_none s) PySem.F.slot_NoneType_hash.lookup ?_)
 show wpAny _ _ (if (some (Value.builtin "NoneType.__hash__") == some Value.none)=true then _ else _) Q E s
 rw [if_neg (by rw [beq_builtin_none];exact Bool.false_ne_true)]
 refine wpAny_bind (wpAny_specialOf (typeIs_none s) PySem.F.slot_NoneType_hash.lookup ?_)
 show wpAny _ _ (callSpecialIfBoundUnlessNone? .none "__hash__" _ >>= _) Q E s
 refine wpAny_bind (wpAny_callSpecialIfBoundUnlessNone?_slot (typeIs_none s) PySem.F.slot_NoneType_hash
  (wpAny_call_entry PySem.F.slot_NoneType_hash (typeIs_none s) PySem.F.entry_NoneType_hash
   (show wpAny _ _ (do ret (← mkInt 0xFCA86420)) _ _ s from wpAny_ret_mkInt ?_) (PySem.F.args_NoneType_hash_1 _)))
 show wpAny _ _ (if (decide (-(2:Int) ^ 63≤0xFCA86420) && decide ((0xFCA86420:Int)<2 ^ 63))=true then _ else _) Q E _
 rw [if_pos (by decide)]
 exact wpAny_pure h
end
noncomputable def optKind(prog:Program)(w:World):PySem.KeyKind prog w (Option Key) where
 is:=fun o v=>match o with | some k=>keyIs k v | none=>(v == Value.none)
 hash:=fun o=>match o with | some k=>keyH w k | none=>0xFCA86420
 inj:=fun v a b ha hb=>by
  cases a with
  | none=>
   have ha:v=Value.none:=eq_of_beq ha
   subst ha
   cases b with
   | none=>rfl
   | some k=>rcases keyIs_shape hb with ⟨_,_,_,e⟩ | ⟨_,_,_,e⟩<;>cases e
  | some k=>
   cases b with
   | none=>
    have hb:v=Value.none:=eq_of_beq hb
    subst hb
    rcases keyIs_shape ha with ⟨_,_,_,e⟩ | ⟨_,_,_,e⟩<;>cases e
   | some k'=>rw [(mixKind prog w).inj v k k' ha hb]
 byValue:=fun k v h=>by
  cases k with
  | none=>have h:v=Value.none:=eq_of_beq h;subst h;rfl
  | some k=>exact (mixKind prog w).byValue k v h
 pyHash:=fun {A E s k v Q} hv h=>by
  cases k with
  | none=>have hv:v=Value.none:=eq_of_beq hv;subst hv;exact wpAny_pyHash_none h
  | some k=>exact (mixKind prog w).pyHash (k:=k) hv h
 eqBool:=fun {A E s a b u v Q} hu hv h=>by
  cases a with
  | none=>
   have hu:u=Value.none:=eq_of_beq hu
   subst hu
   cases b with
   | none=>
    have hv:v=Value.none:=eq_of_beq hv
    subst hv
    exact SeqAt.EqAt.same .none _ _ _ _ (by simpa using h)
   | some k=>
    have h:Q false s:=by simpa using h
    rcases keyIs_shape hv with ⟨i,t,rfl,rfl⟩ | ⟨x,t,rfl,rfl⟩
    ·exact SeqAt.EqAt.none_int i t _ _ _ _ h
    ·exact SeqAt.EqAt.none_str x t _ _ _ _ h
  | some k=>
   cases b with
   | none=>
    have hv:v=Value.none:=eq_of_beq hv
    subst hv
    have h:Q false s:=by simpa using h
    rcases keyIs_shape hu with ⟨i,t,rfl,rfl⟩ | ⟨x,t,rfl,rfl⟩
    ·exact SeqAt.EqAt.int_none i t _ _ _ _ h
    ·exact SeqAt.EqAt.str_none x t _ _ _ _ h
   | some k'=>
    refine (mixKind prog w).eqBool (a:=k) (b:=k') hu hv ?_
    have e:decide (some k=some k')=decide (k=k'):=by by_cases z:k=k'<;>simp [z]
    rw [e] at h
    exact h
 «strs»:=fun k x t v h=>by
  cases k with
  | none=>
   have z:Value.str x t=Value.none:=eq_of_beq h
   cases z
  | some k=>exact (mixKind prog w).strs k x t v h
theorem map_none{h:Heap}{f:Key->Option Value}(m:h.MapOf (mixKind P w) a f):h.MapOf (optKind P w) a (fun o=>match o with | some k=>f k | none=>none):=by
 obtain ⟨o,es,ep,h1,h2,h3,h4,h5⟩:=m
 refine ⟨o,es,ep,h1,h2,h3,fun e he=>?_,fun k=>?_⟩
 ·obtain ⟨k,a1,a2⟩:=h4 e he
  exact ⟨some k,a1,a2⟩
 ·cases k with
  | some k=>exact h5 k
  | none=>
   unfold findBy
   rw [Option.map_eq_none_iff,Array.find?_eq_none]
   intro e he z
   obtain ⟨k,a1,a2⟩:=h4 e he
   have z:e.key=Value.none:=eq_of_beq z
   rw [z] at a1
   rcases keyIs_shape a1 with ⟨_,_,_,e⟩ | ⟨_,_,_,e⟩<;>cases e
section
variable {X:Cx}
theorem op_in_dictN(hu:X.A.units+1<cLine):OpR X (compareOp .In) (fun x y H Q=>∃ a,y=.ref a/\((∃ o,DGet H a x o/\Q (.bl o.isSome) H)∨(∃ kvs,x=.non/\H a=some (.dK kvs)/\Q (.bl false) H))):=by
 intro pins s σ H x y v u Q I rx ry h
 obtain ⟨a,rfl,h | h⟩:=h
 ·obtain ⟨o,g,q⟩:=h
  exact op_in_dict hu pins s σ H x _ v u Q I rx ry ⟨a,o,rfl,g,q⟩
 ·obtain ⟨kvs,rfl,ha,q⟩:=h
  cases ry
  cases rx
  obtain ⟨z,hd,vs,rel,dd⟩:=dk_of I.hok ha
  exact wpAny_in_of (knd:=optKind X.prog X.w) (k:=none) rfl hd (map_none dd.mapOf) ⟨.bl false,H,I.tok _,rfl,q⟩
end
end L2
namespace CB
inductive Reach (R:Int->Int->Prop) (S A:Int->Prop):Int->Prop where
 | start {p:Int}:A p->S p->Reach R S A p
 | step {p q:Int}:Reach R S A p->R p q->S q->Reach R S A q

theorem Reach.inS{R S A}{p:Int}(h:Reach R S A p):S p:=by
 cases h with
 | start _ h=>exact h
 | step _ _ h=>exact h
theorem Reach.mono{R:Int->Int->Prop}{S S' A A':Int->Prop}(hA:∀ p,A p->S p->Reach R S' A' p)(hS:∀ p,Reach R S A p->S' p){p:Int}(h:Reach R S A p):Reach R S' A' p:=by
 induction h with
 | start a s=>exact hA _ a s
 | step h r s ih=>exact .step ih r (hS _ (.step h r s))

theorem length_le_of_nodup:∀ (xs ys:List Int),xs.Nodup->(∀ x ∈ xs,x ∈ ys)->xs.length≤ys.length
 | [],ys,_,_=>Nat.zero_le _
 | x::xs,ys,nd,h=>by
  have hx:x ∈ ys:=h x List.mem_cons_self
  have nd':=List.nodup_cons.mp nd
  have ih:=length_le_of_nodup xs (ys.erase x) nd'.2 fun z hz=>by
   have hzx:z≠x:=fun e=>nd'.1 (e ▸ hz)
   exact (List.mem_erase_of_ne hzx).mpr (h z (List.mem_cons_of_mem _ hz))
  rw [List.length_erase_of_mem hx] at ih
  have:0<ys.length:=List.length_pos_of_mem hx
  simp only [List.length_cons]
  omega
structure Dfs (R:Int->Int->Prop) (S A:Int->Prop) (found waiting:List Int):Prop where
 nd:found.Nodup
 sound:∀ p ∈ found,Reach R S A p
 soundW:∀ p ∈ waiting,Reach R S A p
 starts:∀ p,A p->S p->p ∈ found∨p ∈ waiting
 closed:∀ p ∈ found,∀ q,R p q->S q->q ∈ found∨q ∈ waiting
section
variable {R:Int->Int->Prop} {S A:Int->Prop} {found ws nbs:List Int} {p:Int}
theorem Dfs.init{starts:List Int}(h:∀ q,q ∈ starts ↔ A q/\S q):Dfs R S A [] starts:=
 ⟨List.nodup_nil,(fun _ h=>nomatch h),fun p hp=>.start ((h p).mp hp).1 ((h p).mp hp).2,fun p a s=>.inr ((h p).mpr ⟨a,s⟩),(fun _ h=>nomatch h)⟩
theorem Dfs.old(d:Dfs R S A found (ws++[p]))(hp:p ∈ found):Dfs R S A found ws:=by
 refine ⟨d.nd,d.sound,fun q hq=>d.soundW q (List.mem_append_left _ hq),fun q a s=>?_,fun q hq r hr s=>?_⟩
 ·rcases d.starts q a s with h | h
  ·exact .inl h
  ·rcases List.mem_append.mp h with h | h
   ·exact .inr h
   ·rw [List.mem_singleton.mp h];exact .inl hp
 ·rcases d.closed q hq r hr s with h | h
  ·exact .inl h
  ·rcases List.mem_append.mp h with h | h
   ·exact .inr h
   ·rw [List.mem_singleton.mp h];exact .inl hp
theorem Dfs.new(d:Dfs R S A found (ws++[p]))(hp:p ∉ found)(hn:∀ q,q ∈ nbs ↔ R p q/\S q):Dfs R S A (found++[p]) (ws++nbs):=by
 have rp:Reach R S A p:=d.soundW p (List.mem_append_right _ List.mem_cons_self)
 have mv:∀ q,q ∈ found∨q ∈ ws++[p]->q ∈ found++[p]∨q ∈ ws++nbs:=fun q h=>by
  rcases h with h | h
  ·exact .inl (List.mem_append_left _ h)
  ·rcases List.mem_append.mp h with h | h
   ·exact .inr (List.mem_append_left _ h)
   ·exact .inl (List.mem_append_right _ h)
 refine ⟨?_,fun q hq=>?_,fun q hq=>?_,fun q a s=>mv q (d.starts q a s),fun q hq r hr s=>?_⟩
 ·rw [List.nodup_append]
  refine ⟨d.nd,by simp,fun a ha b hb=>?_⟩
  rw [List.mem_singleton.mp hb]
  exact fun e=>hp (e ▸ ha)
 ·rcases List.mem_append.mp hq with h | h
  ·exact d.sound q h
  ·rw [List.mem_singleton.mp h];exact rp
 ·rcases List.mem_append.mp hq with h | h
  ·exact d.soundW q (List.mem_append_left _ h)
  ·exact .step rp ((hn q).mp h).1 ((hn q).mp h).2
 ·rcases List.mem_append.mp hq with h | h
  ·exact mv r (d.closed q h r hr s)
  ·rw [List.mem_singleton.mp h] at hr
   exact .inr (List.mem_append_right _ ((hn r).mpr ⟨hr,s⟩))
theorem Dfs.done(d:Dfs R S A found [])(q:Int):q ∈ found ↔ Reach R S A q:=by
 refine ⟨d.sound q,fun h=>?_⟩
 induction h with
 | start a s=>rcases d.starts _ a s with h | h;exact h;exact nomatch h
 | step h r s ih=>rcases d.closed _ ih _ r s with h | h;exact h;exact nomatch h
end
noncomputable def Place(w h p:Int):Prop:=0≤p/\p<w * h
noncomputable def Adj(w p q:Int):Prop:=(q=p+1/\p / w=q / w)∨(q+1=p/\p / w=q / w)∨q=p+w∨q+w=p
noncomputable def Rim(w h p:Int):Prop:=p % w=0∨p % w=w - 1∨p / w=0∨p / w=h - 1
noncomputable def beside(w h p:Int):List Int:=
 (if 0<p % w then [p - 1] else [])++(if p % w<w - 1 then [p+1] else [])++(if 0<p / w then [p - w] else [])++(if p / w<h - 1 then [p+w] else [])

theorem six{w:Int}(h1:1≤w)(h6:w≤6):w=1∨w=2∨w=3∨w=4∨w=5∨w=6:=by omega

theorem step_mod{w p:Int}(w1:1≤w)(h:p % w<w - 1):(p+1) / w=p / w/\(p+1) % w=p % w+1:=by
 have e:=Int.mul_ediv_add_emod p w
 have:=Int.emod_nonneg p (show w≠0 by omega)
 exact (Int.ediv_emod_unique (by omega)).mpr ⟨by omega,by omega,by omega⟩
theorem back_mod{w p:Int}(w1:1≤w)(h:0<p % w):(p - 1) / w=p / w/\(p - 1) % w=p % w - 1:=by
 have e:=Int.mul_ediv_add_emod p w
 have:=Int.emod_lt_of_pos p (show 0<w by omega)
 exact (Int.ediv_emod_unique (by omega)).mpr ⟨by omega,by omega,by omega⟩
theorem mem_ite1{c:Prop}[Decidable c]:(q ∈ (if c then [a] else []:List Int)) ↔ c/\q=a:=by
 by_cases h:c
 ·simp [h]
 ·simp [h]
theorem back_row{w p:Int}(w1:1≤w)(h:p % w=0):(p - 1) / w=p / w - 1:=by
 have e:=Int.mul_ediv_add_emod p w
 refine ((Int.ediv_emod_unique (r:=w - 1) (show 0<w by omega)).mpr ⟨?_,by omega,by omega⟩).1
 rw [Int.mul_sub,Int.mul_one];omega
theorem fore_row{w p:Int}(w1:1≤w)(h:p % w=w - 1):(p+1) / w=p / w+1:=by
 have e:=Int.mul_ediv_add_emod p w
 refine ((Int.ediv_emod_unique (r:=0) (show 0<w by omega)).mpr ⟨?_,by omega,by omega⟩).1
 rw [Int.mul_add,Int.mul_one];omega
theorem rows_of(w1:1≤w)(hp:Place w h p):0≤p / w/\p / w<h/\(0≤p - w ↔ 0<p / w)/\(p+w<w * h ↔ p / w<h - 1)/\(p % w<w - 1->p+1<w * h)/\p % w≤p:=by
 have e:=Int.mul_ediv_add_emod p w
 have a0:=Int.emod_nonneg p (show w≠0 by omega)
 have a1:=Int.emod_lt_of_pos p (show 0<w by omega)
 have hw:0≤w:=by omega
 have mono:∀ {a b:Int},a≤b->w * a≤w * b:=fun h=>Int.mul_le_mul_of_nonneg_left h hw
 obtain ⟨p0,p1⟩:=hp
 have q0:0≤p / w:=Int.ediv_nonneg p0 hw
 have q1:p / w<h:=by
  refine Classical.byContradiction fun z=>?_
  have:=mono (show h≤p / w by omega)
  omega
 have m1:=mono (show p / w+1≤h by omega)
 rw [Int.mul_add,Int.mul_one] at m1
 refine ⟨q0,q1,⟨fun z=>Classical.byContradiction fun y=>?_,fun z=>?_⟩,⟨fun z=>Classical.byContradiction fun y=>?_,fun z=>?_⟩,fun z=>by omega,by have:=Int.mul_nonneg hw q0;omega⟩
 ·have:p / w=0:=by omega
  rw [this,Int.mul_zero] at e
  omega
 ·have:=mono (show 1≤p / w by omega)
  rw [Int.mul_one] at this
  omega
 ·have:=mono (show h≤p / w+1 by omega)
  rw [Int.mul_add,Int.mul_one] at this
  omega
 ·have:=mono (show p / w+2≤h by omega)
  rw [Int.mul_add] at this
  omega
theorem mem_beside{w h p q:Int}(w1:1≤w)(w6:w≤6)(hp:Place w h p):q ∈ beside w h p ↔ Place w h q/\Adj w p q:=by
 obtain ⟨r0,r1,r2,r3,r4,r5⟩:=rows_of w1 hp
 have a0:=Int.emod_nonneg p (show w≠0 by omega)
 have a1:=Int.emod_lt_of_pos p (show 0<w by omega)
 obtain ⟨p0,p1⟩:=hp
 have b1:=fun z=>(back_mod (w:=w) (p:=p) w1 z).1
 have b2:=fun z=>back_row (w:=w) (p:=p) w1 z
 have f1:=fun z=>(step_mod (w:=w) (p:=p) w1 z).1
 have f2:=fun z=>fore_row (w:=w) (p:=p) w1 z
 unfold beside
 simp only [List.mem_append,mem_ite1]
 generalize p % w=b at *
 generalize ha:p / w=a at *
 unfold Place Adj
 rw [ha]
 constructor
 ·rintro (((⟨z,rfl⟩ | ⟨z,rfl⟩) | ⟨z,rfl⟩) | ⟨z,rfl⟩)
  ·exact ⟨⟨by omega,by omega⟩,.inr (.inl ⟨by omega,(b1 z).symm⟩)⟩
  ·exact ⟨⟨by omega,r4 z⟩,.inl ⟨rfl,(f1 z).symm⟩⟩
  ·exact ⟨⟨r2.mpr z,by omega⟩,.inr (.inr (.inr (by omega)))⟩
  ·exact ⟨⟨by omega,r3.mpr z⟩,.inr (.inr (.inl rfl))⟩
 ·rintro ⟨⟨q0,q1⟩,⟨rfl,z⟩ | ⟨y,z⟩ | rfl | y⟩
  ·refine .inl (.inl (.inr ⟨Classical.byContradiction fun x=>?_,rfl⟩))
   have:=f2 (by omega)
   omega
  ·obtain rfl:q=p - 1:=by omega
   refine .inl (.inl (.inl ⟨Classical.byContradiction fun x=>?_,rfl⟩))
   have:=b2 (by omega)
   omega
  ·exact .inr ⟨r3.mp q1,rfl⟩
  ·obtain rfl:q=p - w:=by omega
   exact .inl (.inr ⟨r2.mp q0,rfl⟩)
theorem Adj.symm{w p q:Int}(h:Adj w p q):Adj w q p:=by
 unfold Adj at *
 rcases h with ⟨a,b⟩ | ⟨a,b⟩ | a | a
 ·exact .inr (.inl ⟨by omega,b.symm⟩)
 ·exact .inl ⟨by omega,b.symm⟩
 ·exact .inr (.inr (.inr (by omega)))
 ·exact .inr (.inr (.inl (by omega)))
theorem length_beside(w h p:Int):(beside w h p).length≤4:=by
 unfold beside
 have:∀ (c:Prop) [Decidable c] (a:Int),(if c then [a] else []:List Int).length≤1:=fun c _ a=>by
  by_cases h:c<;>simp [h]
 have h1:=this (0<p % w) (p - 1)
 have h2:=this (p % w<w - 1) (p+1)
 have h3:=this (0<p / w) (p - w)
 have h4:=this (p / w<h - 1) (p+w)
 simp only [List.length_append]
 omega

structure IsFloor (w h:Int) (F:List Int):Prop where
 w1:1≤w
 w6:w≤6
 h1:1≤h
 h6:h≤6
 ne:F≠[]
 rise:F.Pairwise (·<·)
 inn:∀ p ∈ F,Place w h p
 conn:∀ p ∈ F,Reach (Adj w) (· ∈ F) (fun q=>F.head?=some q) p
 noh:∀ p,Place w h p->p ∉ F->Reach (Adj w) (fun q=>Place w h q/\q ∉ F) (Rim w h) p

theorem nodup_of_rise{F:List Int}(h:F.Pairwise (·<·)):F.Nodup:=h.imp fun h e=>by omega

noncomputable def places(w h:Int):List Int:=(List.range (w * h).toNat).map fun (n:Nat)=>(n:Int)
theorem mem_places{w h p:Int}:p ∈ places w h ↔ Place w h p:=by
 unfold places Place
 simp only [List.mem_map,List.mem_range]
 constructor
 ·rintro ⟨n,hn,rfl⟩;omega
 ·intro hp;exact ⟨p.toNat,by omega,by omega⟩
theorem places_rise(w h:Int):(places w h).Pairwise (·<·):=by
 unfold places
 rw [List.pairwise_map]
 exact List.pairwise_lt_range.imp fun h=>by omega

theorem filled{w h:Int}(w1:1≤w)(w6:w≤6)(h1:1≤h)(h6:h≤6){L O:Int->Prop}{a:Int}(hL:∀ p,L p->Place w h p)(ha:L a)
  (conn:∀ p,L p->Reach (Adj w) L (·=a) p)(hO:∀ p,O p ↔ Reach (Adj w) (fun q=>Place w h q/\¬ L q) (Rim w h) p)[DecidablePred O]:
  IsFloor w h ((places w h).filter fun p=>!decide (O p)):=by
 have mem:∀ p,p ∈ ((places w h).filter fun p=>!decide (O p)) ↔ Place w h p/\¬ O p:=fun p=>by
  rw [List.mem_filter,mem_places]
  simp
 have LO:∀ p,L p->¬ O p:=fun p hp ho=>((hO p).mp ho).inS.2 hp
 have hne:((places w h).filter fun p=>!decide (O p))≠[]:=fun e=>by
  have:a ∈ ((places w h).filter fun p=>!decide (O p)):=(mem a).mpr ⟨hL a ha,LO a ha⟩
  rw [e] at this;exact nomatch this
 -- within: from any field a row of fields leads left to L
 have toL:∀ (n:Nat) (p:Int),(p % w).toNat=n->Place w h p->¬ O p->¬ L p->∃ q,L q/\Reach (Adj w) (fun q=>Place w h q/\¬ O q) (·=q) p/\Reach (Adj w) (fun q=>Place w h q/\¬ O q) (·=p) q:=by
  intro n
  induction n with
  | zero=>
   intro p e hp ho hl
   refine absurd ((hO p).mpr (.start (.inl ?_) ⟨hp,hl⟩)) ho
   have:=Int.emod_nonneg p (show w≠0 by omega)
   omega
  | succ n ih=>
   intro p e hp ho hl
   have hm:0<p % w:=by omega
   obtain ⟨m1,m2⟩:=back_mod w1 hm
   have pl:Place w h (p - 1):=by
    have hp0:p≠0:=fun e=>by rw [e,Int.zero_emod] at hm;omega
    exact ⟨by have:=hp.1;omega,by have:=hp.2;omega⟩
   have e':((p - 1) % w).toNat=n:=by omega
   have adj:Adj w p (p - 1):=.inr (.inl ⟨Int.sub_add_cancel p 1,m1.symm⟩)
   by_cases hl':L (p - 1)
   ·exact ⟨p - 1,hl',.step (.start rfl ⟨pl,LO _ hl'⟩) adj.symm ⟨hp,ho⟩,.step (.start rfl ⟨hp,ho⟩) adj ⟨pl,LO _ hl'⟩⟩
   ·have ho':¬ O (p - 1):=fun z=>ho ((hO p).mpr (.step ((hO _).mp z) adj.symm ⟨hp,hl⟩))
    obtain ⟨q,hq,r1,r2⟩:=ih (p - 1) e' pl ho' hl'
    refine ⟨q,hq,.step r1 adj.symm ⟨hp,ho⟩,r2.mono (fun z e _=>?_) fun z hz=>hz.inS⟩
    rw [e]
    exact .step (.start rfl ⟨hp,ho⟩) adj ⟨pl,ho'⟩
 -- L is within one reach of a
 have mono:∀ p,L p->Reach (Adj w) (fun q=>Place w h q/\¬ O q) (·=a) p:=fun p hp=>(conn p hp).mono (fun q e s=>.start e ⟨hL q s,LO q s⟩) fun q r=>⟨hL q r.inS,LO q r.inS⟩
 have fromA:∀ p,Place w h p->¬ O p->Reach (Adj w) (fun q=>Place w h q/\¬ O q) (·=a) p:=fun p hp ho=>by
  by_cases hl:L p
  ·exact mono p hl
  ·obtain ⟨q,hq,r1,_⟩:=toL _ p rfl hp ho hl
   exact r1.mono (fun z e _=>e ▸ mono q hq) fun z r=>r.inS
 have rev:∀ (S:Int->Prop) (b p:Int),Reach (Adj w) S (·=b) p->Reach (Adj w) S (·=p) b:=fun S b p r=>by
  induction r with
  | start e s=>subst e;exact .start rfl s
  | @step p q r adj s ih=>exact ih.mono (fun z e sz=>by subst e;exact .step (.start rfl s) adj.symm sz) fun z r=>r.inS
 have cn:∀ (S:Int->Prop) (b p:Int),Reach (Adj w) S (·=a) b->Reach (Adj w) S (·=a) p->Reach (Adj w) S (·=b) p:=fun S b p rb rp=>
  rp.mono (fun z e s=>by subst e;exact rev S _ _ rb) fun z r=>r.inS
 refine ⟨w1,w6,h1,h6,hne,(places_rise w h).sublist List.filter_sublist,fun p hp=>((mem p).mp hp).1,fun p hp=>?_,fun p hp hn=>?_⟩
 ·cases hF:((places w h).filter fun p=>!decide (O p)) with
  | nil=>exact absurd hF hne
  | cons b r=>
   have hb:b ∈ ((places w h).filter fun p=>!decide (O p)):=by rw [hF];exact List.mem_cons_self
   rw [hF] at hp
   have hp':p ∈ ((places w h).filter fun p=>!decide (O p)):=by rw [hF];exact hp
   have:=cn _ b p (fromA b ((mem b).mp hb).1 ((mem b).mp hb).2) (fromA p ((mem p).mp hp').1 ((mem p).mp hp').2)
   refine this.mono (fun q e s=>.start (by subst e;rfl) ?_) fun q r=>?_
   ·rw [← hF];exact (mem q).mpr s
   ·rw [← hF];exact (mem q).mpr r.inS
 ·have ho:O p:=Classical.byContradiction fun z=>hn ((mem p).mpr ⟨hp,z⟩)
  have all:∀ q,Reach (Adj w) (fun q=>Place w h q/\¬ L q) (Rim w h) q->Place w h q/\q ∉ ((places w h).filter fun p=>!decide (O p)):=fun q r=>
   ⟨r.inS.1,fun z=>((mem q).mp z).2 ((hO q).mpr r)⟩
  exact ((hO p).mp ho).mono (fun q ri s=>.start ri (all q (.start ri s))) fun q r=>all q r
end CB
namespace CB
noncomputable abbrev Pt:=Int × Int
noncomputable def Nb(p q:Pt):Prop:=(q.1=p.1+1/\q.2=p.2)∨(q.1+1=p.1/\q.2=p.2)∨(q.1=p.1/\q.2=p.2+1)∨(q.1=p.1/\q.2+1=p.2)
noncomputable def Clo(a u:Int->Int->Int)(p:Pt):Prop:=a p.1 p.2+u (p.1+1) p.2=u p.1 p.2+a p.1 (p.2+1)
noncomputable def AcS(S:Pt->Prop)(x y:Int):Prop:=S (x,y)∨S (x,y - 1)
noncomputable def UpS(S:Pt->Prop)(x y:Int):Prop:=S (x,y)∨S (x - 1,y)
noncomputable def upd2(f:Int->Int->Int)(x y v:Int):Int->Int->Int:=fun i j=>if i=x/\j=y then v else f i j
theorem upd2_same:upd2 f x y v x y=v:=by simp [upd2]
theorem upd2_ne{f:Int->Int->Int}(h:¬ (i=x/\j=y)):upd2 f x y v i j=f i j:=by simp [upd2,h]

noncomputable def Ord(G:Pt->Prop):List Pt->Prop
 | []=>True
 | p::r=>(∃ q,Nb p q/\(q ∈ r∨¬ G q))/\p ∉ r/\Ord G r

theorem extend(G:Pt->Prop):∀ (L:List Pt) (S:Pt->Prop) (a u:Int->Int->Int),(∀ p,S p->G p)->(∀ p ∈ L,G p/\¬ S p)->Ord G L->(∀ p,S p->Clo a u p)->
  ∃ a' u',(∀ x y,AcS S x y->a' x y=a x y)/\(∀ x y,UpS S x y->u' x y=u x y)/\∀ p,(S p∨p ∈ L)->Clo a' u' p
 | [],S,a,u,_,_,_,hc=>⟨a,u,fun _ _ _=>rfl,fun _ _ _=>rfl,fun p h=>h.elim (hc p) fun z=>nomatch z⟩
 | p::L,S,a,u,hS,hL,hO,hc=>by
  obtain ⟨⟨q,nb,hq⟩,hp,hO⟩:=hO
  obtain ⟨x,y⟩:=p
  obtain ⟨i,j⟩:=q
  have qS:¬ S (i,j):=fun z=>hq.elim (fun m=>(hL _ (List.mem_cons_of_mem _ m)).2 z) fun g=>g (hS _ z)
  have pS:¬ S (x,y):=(hL _ List.mem_cons_self).2
  -- the exit's side takes what is lacking
  have key:∃ a1 u1,(∀ X Y,AcS S X Y->a1 X Y=a X Y)/\(∀ X Y,UpS S X Y->u1 X Y=u X Y)/\Clo a1 u1 (x,y):=by
   have ne:∀ X Y,S (X,Y)->¬ (X=x/\Y=y)/\¬ (X=i/\Y=j):=fun X Y z=>⟨fun e=>pS (by rw [← e.1,← e.2];exact z),fun e=>qS (by rw [← e.1,← e.2];exact z)⟩
   unfold Nb at nb
   dsimp only at nb
   rcases nb with ⟨e1,e2⟩ | ⟨e1,e2⟩ | ⟨e1,e2⟩ | ⟨e1,e2⟩
   ·refine ⟨a,upd2 u (x+1) y (u x y+a x (y+1) - a x y),fun _ _ _=>rfl,fun X Y h=>upd2_ne fun e=>?_,?_⟩
    ·unfold UpS at h
     rcases h with h | h
     ·exact (ne _ _ h).2 (by omega)
     ·exact (ne _ _ h).1 (by omega)
    ·unfold Clo;dsimp only
     rw [upd2_same,upd2_ne (by omega)];omega
   ·refine ⟨a,upd2 u x y (a x y+u (x+1) y - a x (y+1)),fun _ _ _=>rfl,fun X Y h=>upd2_ne fun e=>?_,?_⟩
    ·unfold UpS at h
     rcases h with h | h
     ·exact (ne _ _ h).1 (by omega)
     ·exact (ne _ _ h).2 (by omega)
    ·unfold Clo;dsimp only
     rw [upd2_same,upd2_ne (by omega)];omega
   ·refine ⟨upd2 a x (y+1) (a x y+u (x+1) y - u x y),u,fun X Y h=>upd2_ne fun e=>?_,fun _ _ _=>rfl,?_⟩
    ·unfold AcS at h
     rcases h with h | h
     ·exact (ne _ _ h).2 (by omega)
     ·exact (ne _ _ h).1 (by omega)
    ·unfold Clo;dsimp only
     rw [upd2_same,upd2_ne (by omega)];omega
   ·refine ⟨upd2 a x y (u x y+a x (y+1) - u (x+1) y),u,fun X Y h=>upd2_ne fun e=>?_,fun _ _ _=>rfl,?_⟩
    ·unfold AcS at h
     rcases h with h | h
     ·exact (ne _ _ h).1 (by omega)
     ·exact (ne _ _ h).2 (by omega)
    ·unfold Clo;dsimp only
     rw [upd2_same,upd2_ne (by omega)];omega
  obtain ⟨a1,u1,k1,k2,k3⟩:=key
  have clo1:∀ r,S r->Clo a1 u1 r:=fun r hr=>by
   obtain ⟨X,Y⟩:=r
   have h1:=hc _ hr
   unfold Clo at h1 ⊢
   dsimp only at h1 ⊢
   rw [k1 X Y (.inl hr),k1 X (Y+1) (.inr (by rw [show Y+1 - 1=Y by omega];exact hr)),k2 X Y (.inl hr),k2 (X+1) Y (.inr (by rw [show X+1 - 1=X by omega];exact hr))]
   exact h1
  obtain ⟨a2,u2,g1,g2,g3⟩:=extend G L (fun r=>S r∨r=(x,y)) a1 u1 (fun r h=>h.elim (hS r) fun e=>by rw [e];exact (hL _ List.mem_cons_self).1)
   (fun r hr=>⟨(hL r (List.mem_cons_of_mem _ hr)).1,fun z=>z.elim (hL r (List.mem_cons_of_mem _ hr)).2 fun e=>hp (e ▸ hr)⟩) hO (fun r h=>h.elim (clo1 r) fun e=>by rw [e];exact k3)
  refine ⟨a2,u2,fun X Y h=>?_,fun X Y h=>?_,fun r h=>?_⟩
  ·rw [g1 X Y (h.elim (fun z=>.inl (.inl z)) fun z=>.inr (.inl z)),k1 X Y h]
  ·rw [g2 X Y (h.elim (fun z=>.inl (.inl z)) fun z=>.inr (.inl z)),k2 X Y h]
  ·refine g3 r ?_
   rcases h with h | h
   ·exact .inl (.inl h)
   ·rcases List.mem_cons.mp h with h | h
    ·exact .inl (.inr h)
    ·exact .inr h

noncomputable def pt(w p:Int):Pt:=(p % w,p / w)
end CB
set_option maxHeartbeats 4000000
namespace CB
noncomputable def chain(d s:Int)(k:Nat):List Int:=(List.range k).map fun (i:Nat)=>s+i * d
theorem mem_chain:x ∈ chain d s k ↔ ∃ i:Nat,i<k/\x=s+i * d:=by
 unfold chain
 rw [List.mem_map]
 exact ⟨fun ⟨i,h,e⟩=>⟨i,List.mem_range.mp h,e.symm⟩,fun ⟨i,h,e⟩=>⟨i,List.mem_range.mpr h,e.symm⟩⟩
theorem smul(i:Nat)(d:Int):((i+1:Nat):Int) * d=i * d+d:=by rw [Int.natCast_succ,Int.add_mul,Int.one_mul]
section
variable {F:List Int} {d:Int} {stop:Int->Bool} {pre:List Int} {ps qs:List (Int × Nat)} {f:Int}
noncomputable def isStart(F:List Int)(d:Int)(stop:Int->Bool)(f:Int):Bool:=stop f || !decide (f - d ∈ F)
structure Runs0 (F:List Int) (d:Int) (stop:Int->Bool) (pre:List Int) (ps:List (Int × Nat)):Prop where
 heads:ps.map (·.1)=pre.filter (isStart F d stop)
 pos:∀ x ∈ ps,1≤x.2
 inn:∀ x ∈ ps,∀ i:Nat,i<x.2->x.1+i * d ∈ pre/\(0<i->stop (x.1+i * d)=false)
 mx:∀ x ∈ ps,x.1+x.2 * d ∈ pre->stop (x.1+x.2 * d)=true
structure Runs (F:List Int) (d:Int) (stop:Int->Bool) (pre:List Int) (ps:List (Int × Nat)):Prop extends Runs0 F d stop pre ps where
 cov:∀ f ∈ pre,∃ x ∈ ps,∃ i:Nat,i<x.2/\f=x.1+i * d
theorem Runs.start(r:Runs0 F d stop pre ps){x:Int × Nat}(hx:x ∈ ps):x.1 ∈ pre/\isStart F d stop x.1=true:=by
 have:x.1 ∈ ps.map (·.1):=List.mem_map.mpr ⟨x,hx,rfl⟩
 rw [r.heads] at this
 exact List.mem_filter.mp this
theorem Runs.same(r:Runs0 F d stop pre ps)(sub:∀ p ∈ pre,p ∈ F){x y:Int × Nat}(hx:x ∈ ps)(hy:y ∈ ps)(hi:i<x.2)(hj:j<y.2)(e:x.1+i * d=y.1+j * d):x.1=y.1:=by
 have key:∀ {x y:Int × Nat},x ∈ ps->y ∈ ps->∀ {i j:Nat},j<y.2->x.1+i * d=y.1+j * d->i<j->False:=by
  intro x y hx hy i j hj e h
  obtain ⟨m,rfl⟩:∃ m,j=i+(m+1):=⟨j - i - 1,by omega⟩
  have e1:x.1=y.1+((m+1:Nat):Int) * d:=by
   have:((i+(m+1):Nat):Int) * d=i * d+((m+1:Nat):Int) * d:=by rw [Int.natCast_add,Int.add_mul]
   omega
  have i1:=r.inn y hy (m+1) (by omega)
  have i2:=r.inn y hy m (by omega)
  have e2:x.1 - d=y.1+m * d:=by have:=smul m d;omega
  have s:=(Runs.start r hx).2
  unfold isStart at s
  rw [e2,e1,i1.2 (by omega)] at s
  simp [sub _ i2.1] at s
 rcases Nat.lt_trichotomy i j with h | h | h
 ·exact (key hx hy hj e h).elim
 ·subst h;omega
 ·exact (key hy hx hi e.symm h).elim
theorem Runs.clash(r:Runs0 F d stop pre ps)(sub:∀ p ∈ pre,p ∈ F){x y:Int × Nat}(hx:x ∈ ps)(hy:y ∈ ps)(e:x.1=y.1+((q+1:Nat):Int) * d)(hq:q+1<y.2):False:=by
 have i1:=r.inn y hy (q+1) hq
 have i2:=r.inn y hy q (by omega)
 have e2:x.1 - d=y.1+q * d:=by have:=smul q d;omega
 have s:=(Runs.start r hx).2
 unfold isStart at s
 rw [e2,e,i1.2 (by omega)] at s
 simp [sub _ i2.1] at s
theorem Runs.heads_nd(r:Runs0 F d stop pre ps)(nd:pre.Nodup):(ps.map (·.1)).Nodup:=by rw [r.heads];exact nd.filter _
theorem Runs.ix(r:Runs0 F d stop pre ps)(nd:pre.Nodup){i j:Nat}{x y:Int × Nat}(hi:ps[i]?=some x)(hj:ps[j]?=some y)(e:x.1=y.1):i=j:=by
 have h:=Runs.heads_nd r nd
 obtain ⟨l1,rfl⟩:=List.getElem?_eq_some_iff.mp hi
 obtain ⟨l2,rfl⟩:=List.getElem?_eq_some_iff.mp hj
 rcases Nat.lt_trichotomy i j with z | z | z
 ·have:=List.pairwise_iff_getElem.mp h i j (by simpa using l1) (by simpa using l2) z
  exact absurd (by simpa using e) this
 ·exact z
 ·have:=List.pairwise_iff_getElem.mp h j i (by simpa using l2) (by simpa using l1) z
  exact absurd (by simpa using e.symm) this
theorem Runs.one(r:Runs F d stop pre ps)(sub:∀ p ∈ pre,p ∈ F)(nd:pre.Nodup)(hf:f ∈ pre):∃ k,k<ps.length/\∀ j x,ps[j]?=some x->(f ∈ chain d x.1 x.2 ↔ j=k):=by
 obtain ⟨x,hx,i,hi,e⟩:=r.cov f hf
 obtain ⟨k,hk,rfl⟩:=List.getElem_of_mem hx
 refine ⟨k,hk,fun j y hj=>⟨fun h=>?_,fun h=>?_⟩⟩
 ·obtain ⟨i',hi',e'⟩:=mem_chain.mp h
  exact Runs.ix r.toRuns0 nd hj (List.getElem?_eq_getElem hk) (Runs.same r.toRuns0 sub (List.mem_of_getElem? hj) hx hi' hi (by omega))
 ·subst h
  rw [List.getElem?_eq_getElem hk] at hj
  cases hj
  exact mem_chain.mpr ⟨i,hi,e⟩
theorem Runs.nil:Runs F d stop [] []:=⟨⟨rfl,by simp,by simp,by simp⟩,by simp⟩
theorem Runs.new(r:Runs F d stop pre ps)(hd:0<d)(sub:∀ p ∈ pre,p ∈ F)(lt:∀ p ∈ pre,p<f)(hs:isStart F d stop f=true):Runs F d stop (pre++[f]) (ps++[(f,1)]):=by
 refine ⟨⟨?_,?_,?_,?_⟩,?_⟩
 ·rw [List.map_append,List.filter_append,r.heads];simp [hs]
 ·intro x hx
  rcases List.mem_append.mp hx with hx | hx
  ·exact r.pos x hx
  ·rw [List.mem_singleton.mp hx];exact Nat.le_refl _
 ·intro x hx i hi
  rcases List.mem_append.mp hx with hx | hx
  ·have:=r.inn x hx i hi
   exact ⟨List.mem_append_left _ this.1,this.2⟩
  ·rw [List.mem_singleton.mp hx] at hi ⊢
   have:i=0:=by simp at hi;exact hi
   subst this
   simp
 ·intro x hx hm
  rcases List.mem_append.mp hx with hx | hx
  ·rcases List.mem_append.mp hm with hm | hm
   ·exact r.mx x hx hm
   ·have e:=List.mem_singleton.mp hm
    have p:=r.pos x hx
    obtain ⟨m,hm'⟩:∃ m,x.2=m+1:=⟨x.2 - 1,by omega⟩
    have i1:=r.inn x hx m (by omega)
    have e2:f - d=x.1+m * d:=by rw [← e,hm'];have:=smul m d;omega
    rw [e]
    unfold isStart at hs
    rw [e2] at hs
    simpa [sub _ i1.1] using hs
  ·rw [List.mem_singleton.mp hx] at hm ⊢
   simp only [Int.natCast_one,Int.one_mul] at hm
   rcases List.mem_append.mp hm with hm | hm
   ·have:=lt _ hm;omega
   ·have:=List.mem_singleton.mp hm;omega
 ·intro g hg
  rcases List.mem_append.mp hg with hg | hg
  ·obtain ⟨x,hx,i,hi,e⟩:=r.cov g hg
   exact ⟨x,List.mem_append_left _ hx,i,hi,e⟩
  ·exact ⟨(f,1),by simp,0,by simp,by rw [List.mem_singleton.mp hg];simp⟩
theorem Runs.ext(r:Runs F d stop pre ps)(hd:0<d)(sub:∀ p ∈ pre,p ∈ F)(nd:pre.Nodup)(lt:∀ p ∈ pre,p<f)(hs:isStart F d stop f=false){a:Nat}{s:Int}{k:Nat}(ha:ps[a]?=some (s,k))(e:f=s+k * d):Runs F d stop (pre++[f]) (ps.set a (s,k+1)):=by
 obtain ⟨al,ae⟩:=List.getElem?_eq_some_iff.mp ha
 have hx:(s,k) ∈ ps:=List.mem_of_getElem? ha
 have st:stop f=false:=by unfold isStart at hs;rw [Bool.or_eq_false_iff] at hs;exact hs.1
 have cases':∀ x ∈ ps.set a (s,k+1),x=(s,k+1)∨∃ b,b≠a/\ps[b]?=some x:=by
  intro x hx
  obtain ⟨b,hb⟩:=List.mem_iff_getElem?.mp hx
  rw [List.getElem?_set] at hb
  by_cases hba:a=b
  ·rw [if_pos hba] at hb
   exact .inl (by split at hb<;>(cases hb;rfl))
  ·rw [if_neg hba] at hb
   exact .inr ⟨b,fun z=>hba z.symm,hb⟩
 refine ⟨⟨?_,?_,?_,?_⟩,?_⟩
 ·rw [List.filter_append,← r.heads,List.map_set]
  simp only [List.filter_cons,hs,Bool.false_eq_true,if_false,List.filter_nil,List.append_nil]
  refine List.ext_getElem (by simp) fun i h1 h2=>?_
  rw [List.getElem_set]
  split
  ·rename_i hia
   subst hia
   simp [ae]
  ·rfl
 ·intro x hx'
  rcases cases' x hx' with rfl | ⟨b,_,hb⟩
  ·exact Nat.succ_pos _
  ·exact r.pos x (List.mem_of_getElem? hb)
 ·intro x hx' i hi
  rcases cases' x hx' with rfl | ⟨b,_,hb⟩
  ·by_cases h:i<k
   ·have:=r.inn _ hx i h
    exact ⟨List.mem_append_left _ this.1,this.2⟩
   ·have hik:i=k:=by simp at hi;omega
    subst hik
    refine ⟨by rw [← e];simp,fun _=>by rw [← e];exact st⟩
  ·have:=r.inn x (List.mem_of_getElem? hb) i hi
   exact ⟨List.mem_append_left _ this.1,this.2⟩
 ·intro x hx' hm
  rcases cases' x hx' with rfl | ⟨b,hba,hb⟩
  ·rw [smul] at hm ⊢
   have h1:s+(k * d+d)=f+d:=by omega
   rw [h1] at hm ⊢
   rcases List.mem_append.mp hm with hm | hm
   ·have:=lt _ hm;omega
   ·have:=List.mem_singleton.mp hm;omega
  ·rcases List.mem_append.mp hm with hm | hm
   ·exact r.mx x (List.mem_of_getElem? hb) hm
   ·have e2:=List.mem_singleton.mp hm
    have hx2:=List.mem_of_getElem? hb
    have p:=r.pos x hx2
    obtain ⟨m,hm'⟩:∃ m,x.2=m+1:=⟨x.2 - 1,by omega⟩
    have pk:=r.pos _ hx
    obtain ⟨n,hn⟩:∃ n,k=n+1:=⟨k - 1,by simp at pk;omega⟩
    -- the last ones of both are f - d
    have e3:x.1+m * d=s+n * d:=by
     rw [hm'] at e2
     rw [hn] at e
     have:=smul m d
     have:=smul n d
     omega
    have same:∀ {i j:Nat} {x y:Int × Nat},ps[i]?=some x->ps[j]?=some y->x.1=y.1->i=j:=fun h1 h2 h3=>Runs.ix r.toRuns0 nd h1 h2 h3
    exfalso
    -- both heads begin,so they are one
    rcases Nat.lt_trichotomy m n with z | z | z
    ·obtain ⟨q,rfl⟩:∃ q,n=m+(q+1):=⟨n - m - 1,by omega⟩
     have e4:x.1=s+((q+1:Nat):Int) * d:=by
      have:((m+(q+1):Nat):Int) * d=m * d+((q+1:Nat):Int) * d:=by rw [Int.natCast_add,Int.add_mul]
      omega
     exact Runs.clash r.toRuns0 sub hx2 hx e4 (by rw [hn];omega)
    ·subst z
     exact hba (same hb ha (by simp;omega))
    ·obtain ⟨q,rfl⟩:∃ q,m=n+(q+1):=⟨m - n - 1,by omega⟩
     have e4:s=x.1+((q+1:Nat):Int) * d:=by
      have:((n+(q+1):Nat):Int) * d=n * d+((q+1:Nat):Int) * d:=by rw [Int.natCast_add,Int.add_mul]
      omega
     exact Runs.clash r.toRuns0 sub hx hx2 e4 (by rw [hm'];omega)
 ·intro g hg
  rcases List.mem_append.mp hg with hg | hg
  ·obtain ⟨x,hx',i,hi,e'⟩:=r.cov g hg
   obtain ⟨b,hb,rfl⟩:=List.getElem_of_mem hx'
   by_cases hba:a=b
   ·subst hba
    rw [ae] at hi e'
    exact ⟨(s,k+1),List.mem_iff_getElem?.mpr ⟨a,by rw [List.getElem?_set,if_pos rfl,if_pos al]⟩,i,by simp at hi ⊢;omega,e'⟩
   ·exact ⟨ps[b],List.mem_iff_getElem?.mpr ⟨b,by rw [List.getElem?_set,if_neg hba];exact List.getElem?_eq_getElem hb⟩,i,hi,e'⟩
  ·exact ⟨(s,k+1),List.mem_iff_getElem?.mpr ⟨a,by rw [List.getElem?_set,if_pos rfl,if_pos al]⟩,k,by simp,by rw [List.mem_singleton.mp hg];exact e⟩
end
end CB
namespace F
open PySem PySem.Spec PyProof.Rows L2
inductive PV where
 | non | bl (b:Bool) | int (i:Int) | str (x:Str) | ty (n:String)
 | tup (xs:List PV) | lst (xs:List PV)
 | fls (xs:List PV)
 | dct (ks:List Key) (vs:List PV)
 | any
 | pen (a:Addr) (ns:List Int)
 | adr (a:Addr)
 | dcT (ks:List (List Key)) (vs:List PV)
 | exc (n:Str)
noncomputable abbrev En:=List (Option PV)
noncomputable abbrev St:=L2.St
noncomputable abbrev FE:=En->Option PV
noncomputable abbrev FT:=En->Option Bool
noncomputable abbrev FA:=En->Option (List PV)
mutual
noncomputable def isData:PV->Bool
 | .lst _=>false
 | .dct _ _=>false
 | .dcT _ _=>false
 | .pen _ _=>false
 | .adr _=>false
 | .tup xs=>isDatas xs
 | .fls xs=>isDatas xs
 | _=>true
noncomputable def isDatas:List PV->Bool
 | []=>true
 | x::r=>isData x && isDatas r
end
theorem isDatas_app:∀ (xs ys:List PV),isDatas (xs++ys)=(isDatas xs && isDatas ys)
 | [],ys=>by simp [isDatas]
 | x::r,ys=>by simp [isDatas,isDatas_app r ys,Bool.and_assoc]
theorem isDatas_iff:∀ (xs:List PV),isDatas xs=true ↔ ∀ x ∈ xs,isData x=true
 | []=>by simp [isDatas]
 | x::r=>by simp [isDatas,isDatas_iff r]
theorem isDatas_map{α:Type}(f:α->PV)(h:∀ a,isData (f a)=true)(xs:List α):isDatas (xs.map f)=true:=by
 rw [isDatas_iff]
 intro x hx
 obtain ⟨a,_,rfl⟩:=List.mem_map.mp hx
 exact h a
theorem isDatas_ints(xs:List Int):isDatas (xs.map PV.int)=true:=isDatas_map _ (fun _=>by simp [isData]) xs

noncomputable def Fz(K:PySem.W.Frag)(H:Hp)(a:Addr)(xs:List V):Prop:=
 (∃ o,H a=some (.frz o (.lst xs)))∨∃ (o:Obj) (its:Array Value) (n:Nat),K.lookup a=some o/\o.cls=.type "list"/\o.dict=none/\o.data=.seq its n/\its.size≤sizeLine/\Vals xs its.toList
noncomputable def excφ(a C:Addr)(h:Heap):Prop:=∃ o,h.get? a=some o/\o.cls=.ref C
theorem Fz.seq{K:PySem.W.Frag}{H:Hp}{a:Addr}{xs:List V}(h:Fz K H a xs):SqL K H a xs:=h.elim (fun z=>.inl (.inr z)) .inr
theorem Fz.same{K:PySem.W.Frag}{H H':Hp}{a:Addr}{xs:List V}(e:Same H H')(h:Fz K H a xs):Fz K H' a xs:=h.elim (fun ⟨o,z⟩=>.inl ⟨o,e _ _ z⟩) .inr
mutual
noncomputable def Rp(K:PySem.W.Frag)(H:Hp):PV->V->List Addr->Prop
 | .non,v,A=>v=.non/\A=[]
 | .bl b,v,A=>v=.bl b/\A=[]
 | .int i,v,A=>v=.int i/\A=[]
 | .str x,v,A=>v=.str x/\A=[]
 | .ty n,v,A=>v=.ty n/\A=[]
 | .any,_,A=>A=[]
 | .pen a ns,v,A=>v=.ref a/\A=[a]/\H a=some (.lst (ns.map V.int))
 | .adr a,v,A=>v=.ref a/\A=[]
 | .exc n,v,A=>A=[]/\∃ a C,v=.ref a/\H a=some (.ext (excφ a C))/\PySem.W.nsIn K mainGlobals n=some (some (.ref C))
 | .tup ps,v,A=>∃ a xs,v=.ref a/\SqT K H a xs/\Rps K H ps xs A
 | .lst ps,v,A=>∃ a xs B,v=.ref a/\H a=some (.lst xs)/\A=a::B/\Rps K H ps xs B
 | .fls ps,v,A=>∃ a xs,v=.ref a/\Fz K H a xs/\Rps K H ps xs A
 | .dct ks ps,v,A=>∃ a xs B,v=.ref a/\H a=some (.dK (ks.zip xs))/\ks.length=ps.length/\A=a::B/\Rps K H ps xs B
 | .dcT ks ps,v,A=>∃ a xs B,v=.ref a/\H a=some (.dT (ks.zip xs))/\ks.length=ps.length/\A=a::B/\Rps K H ps xs B
noncomputable def Rps(K:PySem.W.Frag)(H:Hp):List PV->List V->List Addr->Prop
 | [],vs,A=>vs=[]/\A=[]
 | p::ps,vs,A=>∃ v r A1 A2,vs=v::r/\A=A1++A2/\Rp K H p v A1/\Rps K H ps r A2
end
section
variable {K:PySem.W.Frag} {H H':Hp}
mutual
theorem Rp.same(e:Same H H'):∀ (p:PV) {v:V} {A:List Addr},Rp K H p v A->Rp K H' p v A
 | .non,_,_,h=>by unfold Rp at h ⊢;exact h
 | .bl _,_,_,h=>by unfold Rp at h ⊢;exact h
 | .int _,_,_,h=>by unfold Rp at h ⊢;exact h
 | .str _,_,_,h=>by unfold Rp at h ⊢;exact h
 | .ty _,_,_,h=>by unfold Rp at h ⊢;exact h
 | .any,_,_,h=>by unfold Rp at h ⊢;exact h
 | .adr _,_,_,h=>by unfold Rp at h ⊢;exact h
 | .exc _,_,_,h=>by
  unfold Rp at h ⊢
  obtain ⟨h0,a,C,h1,h2,h3⟩:=h
  exact ⟨h0,a,C,h1,e _ _ h2,h3⟩
 | .pen _ _,_,_,h=>by unfold Rp at h ⊢;exact ⟨h.1,h.2.1,e _ _ h.2.2⟩
 | .tup ps,_,_,h=>by
  unfold Rp at h ⊢
  obtain ⟨a,xs,h1,h2,h3⟩:=h
  exact ⟨a,xs,h1,e.tup h2,Rps.same e ps h3⟩
 | .lst ps,_,_,h=>by
  unfold Rp at h ⊢
  obtain ⟨a,xs,B,h1,h2,h3,h4⟩:=h
  exact ⟨a,xs,B,h1,e _ _ h2,h3,Rps.same e ps h4⟩
 | .fls ps,_,_,h=>by
  unfold Rp at h ⊢
  obtain ⟨a,xs,h1,h2,h3⟩:=h
  exact ⟨a,xs,h1,h2.same e,Rps.same e ps h3⟩
 | .dct ks ps,_,_,h=>by
  unfold Rp at h ⊢
  obtain ⟨a,xs,B,h1,h2,h3,h4,h5⟩:=h
  exact ⟨a,xs,B,h1,e _ _ h2,h3,h4,Rps.same e ps h5⟩
 | .dcT ks ps,_,_,h=>by
  unfold Rp at h ⊢
  obtain ⟨a,xs,B,h1,h2,h3,h4,h5⟩:=h
  exact ⟨a,xs,B,h1,e _ _ h2,h3,h4,Rps.same e ps h5⟩
theorem Rps.same(e:Same H H'):∀ (ps:List PV) {vs:List V} {A:List Addr},Rps K H ps vs A->Rps K H' ps vs A
 | [],_,_,h=>by unfold Rps at h ⊢;exact h
 | p::ps,_,_,h=>by
  unfold Rps at h ⊢
  obtain ⟨v,r,A1,A2,h1,h2,h3,h4⟩:=h
  exact ⟨v,r,A1,A2,h1,h2,Rp.same e p h3,Rps.same e ps h4⟩
end
noncomputable def MutH(H:Hp)(a:Addr):Prop:=(∃ xs,H a=some (.lst xs))∨(∃ kvs,H a=some (.dK kvs))∨∃ kvs,H a=some (.dT kvs)
theorem MutH.tup{a b:Addr}{xs:List V}{o:HO}(m:MutH H a)(h:SqT K H b xs):SqT K (upd H a o) b xs:=by
 rcases h with (h | ⟨u,h⟩) | h
 ·have:b≠a:=by rintro rfl;rcases m with ⟨_,m⟩ | ⟨_,m⟩ | ⟨_,m⟩<;>(rw [h] at m;cases m)
  exact .inl (.inl (by rw [upd_ne this];exact h))
 ·have:b≠a:=by rintro rfl;rcases m with ⟨_,m⟩ | ⟨_,m⟩ | ⟨_,m⟩<;>(rw [h] at m;cases m)
  exact .inl (.inr ⟨u,by rw [upd_ne this];exact h⟩)
 ·exact .inr h
theorem MutH.fz(m:MutH H a)(h:Fz K H b xs):Fz K (upd H a o) b xs:=by
 rcases h with ⟨u,h⟩ | h
 ·have:b≠a:=by rintro rfl;rcases m with ⟨_,m⟩ | ⟨_,m⟩ | ⟨_,m⟩<;>(rw [h] at m;cases m)
  exact .inl ⟨u,by rw [upd_ne this];exact h⟩
 ·exact .inr h
mutual
theorem Rp.upd{a:Addr}{o:HO}(m:MutH H a):∀ (p:PV) {v:V} {A:List Addr},a ∉ A->Rp K H p v A->Rp K (L2.upd H a o) p v A
 | .non,_,_,_,h=>by unfold Rp at h ⊢;exact h
 | .bl _,_,_,_,h=>by unfold Rp at h ⊢;exact h
 | .int _,_,_,_,h=>by unfold Rp at h ⊢;exact h
 | .str _,_,_,_,h=>by unfold Rp at h ⊢;exact h
 | .ty _,_,_,_,h=>by unfold Rp at h ⊢;exact h
 | .any,_,_,_,h=>by unfold Rp at h ⊢;exact h
 | .adr _,_,_,_,h=>by unfold Rp at h ⊢;exact h
 | .exc _,_,_,_,h=>by
  unfold Rp at h ⊢
  obtain ⟨h0,b,C,h1,h2,h3⟩:=h
  refine ⟨h0,b,C,h1,?_,h3⟩
  rw [upd_ne (fun z=>by rcases m with ⟨_,m⟩ | ⟨_,m⟩ | ⟨_,m⟩<;>(rw [← z,h2] at m;cases m))]
  exact h2
 | .pen b _,_,_,n,h=>by
  unfold Rp at h ⊢
  refine ⟨h.1,h.2.1,?_⟩
  rw [upd_ne (fun z=>n (by rw [h.2.1,z];exact List.mem_cons_self))]
  exact h.2.2
 | .tup ps,_,_,n,h=>by
  unfold Rp at h ⊢
  obtain ⟨b,xs,h1,h2,h3⟩:=h
  exact ⟨b,xs,h1,m.tup h2,Rps.upd m ps n h3⟩
 | .lst ps,_,_,n,h=>by
  unfold Rp at h ⊢
  obtain ⟨b,xs,B,h1,h2,rfl,h4⟩:=h
  have nb:b≠a:=fun z=>n (z ▸ List.mem_cons_self)
  exact ⟨b,xs,B,h1,by rw [upd_ne nb];exact h2,rfl,Rps.upd m ps (fun z=>n (List.mem_cons_of_mem _ z)) h4⟩
 | .fls ps,_,_,n,h=>by
  unfold Rp at h ⊢
  obtain ⟨b,xs,h1,h2,h3⟩:=h
  exact ⟨b,xs,h1,m.fz h2,Rps.upd m ps n h3⟩
 | .dct ks ps,_,_,n,h=>by
  unfold Rp at h ⊢
  obtain ⟨b,xs,B,h1,h2,h3,rfl,h5⟩:=h
  have nb:b≠a:=fun z=>n (z ▸ List.mem_cons_self)
  exact ⟨b,xs,B,h1,by rw [upd_ne nb];exact h2,h3,rfl,Rps.upd m ps (fun z=>n (List.mem_cons_of_mem _ z)) h5⟩
 | .dcT ks ps,_,_,n,h=>by
  unfold Rp at h ⊢
  obtain ⟨b,xs,B,h1,h2,h3,rfl,h5⟩:=h
  have nb:b≠a:=fun z=>n (z ▸ List.mem_cons_self)
  exact ⟨b,xs,B,h1,by rw [upd_ne nb];exact h2,h3,rfl,Rps.upd m ps (fun z=>n (List.mem_cons_of_mem _ z)) h5⟩
theorem Rps.upd{a:Addr}{o:HO}(m:MutH H a):∀ (ps:List PV) {vs:List V} {A:List Addr},a ∉ A->Rps K H ps vs A->Rps K (L2.upd H a o) ps vs A
 | [],_,_,_,h=>by unfold Rps at h ⊢;exact h
 | p::ps,_,_,n,h=>by
  unfold Rps at h ⊢
  obtain ⟨v,r,A1,A2,h1,rfl,h3,h4⟩:=h
  exact ⟨v,r,A1,A2,h1,rfl,Rp.upd m p (fun z=>n (List.mem_append_left _ z)) h3,Rps.upd m ps (fun z=>n (List.mem_append_right _ z)) h4⟩
end
mutual
theorem Rp.mut:∀ (p:PV) {v:V} {A:List Addr},Rp K H p v A->∀ a ∈ A,MutH H a
 | .non,_,_,h=>by unfold Rp at h;rw [h.2];simp
 | .bl _,_,_,h=>by unfold Rp at h;rw [h.2];simp
 | .int _,_,_,h=>by unfold Rp at h;rw [h.2];simp
 | .str _,_,_,h=>by unfold Rp at h;rw [h.2];simp
 | .ty _,_,_,h=>by unfold Rp at h;rw [h.2];simp
 | .any,_,_,h=>by unfold Rp at h;rw [h];simp
 | .adr _,_,_,h=>by unfold Rp at h;rw [h.2];simp
 | .exc _,_,_,h=>by unfold Rp at h;rw [h.1];simp
 | .pen _ _,_,_,h=>by
  unfold Rp at h
  rw [h.2.1]
  intro b hb
  rw [List.mem_singleton.mp hb]
  exact .inl ⟨_,h.2.2⟩
 | .tup ps,_,_,h=>by
  unfold Rp at h
  obtain ⟨b,xs,h1,h2,h3⟩:=h
  exact Rps.mut ps h3
 | .lst ps,_,_,h=>by
  unfold Rp at h
  obtain ⟨b,xs,B,h1,h2,rfl,h4⟩:=h
  intro a ha
  rcases List.mem_cons.mp ha with rfl | ha
  ·exact .inl ⟨xs,h2⟩
  ·exact Rps.mut ps h4 a ha
 | .fls ps,_,_,h=>by
  unfold Rp at h
  obtain ⟨b,xs,h1,h2,h3⟩:=h
  exact Rps.mut ps h3
 | .dct ks ps,_,_,h=>by
  unfold Rp at h
  obtain ⟨b,xs,B,h1,h2,h3,rfl,h5⟩:=h
  intro a ha
  rcases List.mem_cons.mp ha with rfl | ha
  ·exact .inr (.inl ⟨_,h2⟩)
  ·exact Rps.mut ps h5 a ha
 | .dcT ks ps,_,_,h=>by
  unfold Rp at h
  obtain ⟨b,xs,B,h1,h2,h3,rfl,h5⟩:=h
  intro a ha
  rcases List.mem_cons.mp ha with rfl | ha
  ·exact .inr (.inr ⟨_,h2⟩)
  ·exact Rps.mut ps h5 a ha
theorem Rps.mut:∀ (ps:List PV) {vs:List V} {A:List Addr},Rps K H ps vs A->∀ a ∈ A,MutH H a
 | [],_,_,h=>by unfold Rps at h;rw [h.2];simp
 | p::ps,_,_,h=>by
  unfold Rps at h
  obtain ⟨v,r,A1,A2,h1,rfl,h3,h4⟩:=h
  intro a ha
  rcases List.mem_append.mp ha with ha | ha
  ·exact Rp.mut p h3 a ha
  ·exact Rps.mut ps h4 a ha
end
theorem MutH.same(h:MutH H a)(s:Same H H'):MutH H' a:=h.imp (fun ⟨x,z⟩=>⟨x,s _ _ z⟩) (Or.imp (fun ⟨x,z⟩=>⟨x,s _ _ z⟩) fun ⟨x,z⟩=>⟨x,s _ _ z⟩)
theorem MutH.some(h:MutH H a):∃ o,H a=some o:=by
 rcases h with ⟨_,h⟩ | ⟨_,h⟩ | ⟨_,h⟩<;>exact ⟨_,h⟩
theorem Rp.alloc(h:Rp K H p v A)(ha:a ∈ A):∃ o,H a=some o:=(Rp.mut p h a ha).some
mutual
theorem Rp.data:∀ (p:PV) {v:V} {A:List Addr},isData p=true->Rp K H p v A->A=[]
 | .non,_,_,_,h=>by unfold Rp at h;exact h.2
 | .bl _,_,_,_,h=>by unfold Rp at h;exact h.2
 | .int _,_,_,_,h=>by unfold Rp at h;exact h.2
 | .str _,_,_,_,h=>by unfold Rp at h;exact h.2
 | .ty _,_,_,_,h=>by unfold Rp at h;exact h.2
 | .any,_,_,_,h=>by unfold Rp at h;exact h
 | .pen _ _,_,_,d,_=>by simp [isData] at d
 | .adr _,_,_,d,_=>by simp [isData] at d
 | .exc _,_,_,_,h=>by unfold Rp at h;exact h.1
 | .tup ps,_,_,d,h=>by
  unfold Rp at h
  unfold isData at d
  obtain ⟨b,xs,h1,h2,h3⟩:=h
  exact Rps.data ps d h3
 | .lst ps,_,_,d,h=>by simp [isData] at d
 | .fls ps,_,_,d,h=>by
  unfold Rp at h
  unfold isData at d
  obtain ⟨b,xs,h1,h2,h3⟩:=h
  exact Rps.data ps d h3
 | .dct ks ps,_,_,d,h=>by simp [isData] at d
 | .dcT ks ps,_,_,d,h=>by simp [isData] at d
theorem Rps.data:∀ (ps:List PV) {vs:List V} {A:List Addr},isDatas ps=true->Rps K H ps vs A->A=[]
 | [],_,_,_,h=>by unfold Rps at h;exact h.2
 | p::ps,_,_,d,h=>by
  unfold Rps at h
  unfold isDatas at d
  rw [Bool.and_eq_true] at d
  obtain ⟨v,r,A1,A2,h1,h2,h3,h4⟩:=h
  rw [h2,Rp.data p d.1 h3,Rps.data ps d.2 h4];rfl
end
theorem Rps.length:∀ {ps:List PV} {vs:List V} {A:List Addr},Rps K H ps vs A->ps.length=vs.length
 | [],_,_,h=>by unfold Rps at h;rw [h.1];rfl
 | p::ps,_,_,h=>by
  unfold Rps at h
  obtain ⟨v,r,A1,A2,h1,h2,h3,h4⟩:=h
  rw [h1,List.length_cons,List.length_cons,Rps.length h4]
theorem Rps.get:∀ {ps:List PV} {vs:List V} {A:List Addr} {i:Nat} {p:PV},Rps K H ps vs A->ps[i]?=some p->∃ v C,vs[i]?=some v/\Rp K H p v C/\C.Sublist A
 | [],_,_,_,_,_,e=>by simp at e
 | q::ps,_,_,0,p,h,e=>by
  unfold Rps at h
  obtain ⟨v,r,A1,A2,h1,h2,h3,h4⟩:=h
  simp at e
  subst e
  exact ⟨v,A1,by rw [h1];rfl,h3,by rw [h2];exact List.sublist_append_left _ _⟩
 | q::ps,_,_,i+1,p,h,e=>by
  unfold Rps at h
  obtain ⟨v,r,A1,A2,h1,h2,h3,h4⟩:=h
  obtain ⟨w,C,g1,g2,g3⟩:=Rps.get (i:=i) h4 (by simpa using e)
  exact ⟨w,C,by rw [h1];simpa using g1,g2,by rw [h2];exact g3.trans (List.sublist_append_right _ _)⟩
theorem Rps.append:∀ {ps qs:List PV} {vs ws:List V} {A B:List Addr},Rps K H ps vs A->Rps K H qs ws B->Rps K H (ps++qs) (vs++ws) (A++B)
 | [],_,_,_,_,_,h,h'=>by unfold Rps at h;rw [h.1,h.2];exact h'
 | p::ps,qs,_,ws,_,B,h,h'=>by
  unfold Rps at h
  obtain ⟨v,r,A1,A2,h1,h2,h3,h4⟩:=h
  show Rps K H (p::(ps++qs)) _ _
  unfold Rps
  exact ⟨v,r++ws,A1,A2++B,by rw [h1];rfl,by rw [h2,List.append_assoc],h3,Rps.append h4 h'⟩
theorem Rps.nil:Rps K H [] [] []:=by unfold Rps;exact ⟨rfl,rfl⟩
theorem Rps.cons{p:PV}{ps:List PV}{v:V}{vs:List V}{A B:List Addr}(h:Rp K H p v A)(h':Rps K H ps vs B):Rps K H (p::ps) (v::vs) (A++B):=by
 unfold Rps;exact ⟨v,vs,A,B,rfl,rfl,h,h'⟩
theorem Rps.one{p:PV}{v:V}{A:List Addr}(h:Rp K H p v A):Rps K H [p] [v] A:=by
 have:=Rps.cons h (Rps.nil (K:=K) (H:=H))
 rwa [List.append_nil] at this
theorem Rps.inv(h:Rps K H (p::ps) vs A):∃ v r A1 A2,vs=v::r/\A=A1++A2/\Rp K H p v A1/\Rps K H ps r A2:=by
 unfold Rps at h;exact h
theorem Rps.inv0(h:Rps K H [] vs A):vs=[]/\A=[]:=by unfold Rps at h;exact h
theorem Rps.split:∀ {ps qs:List PV} {vs:List V} {A:List Addr},Rps K H (ps++qs) vs A->∃ v1 v2 A1 A2,vs=v1++v2/\A=A1++A2/\Rps K H ps v1 A1/\Rps K H qs v2 A2
 | [],qs,vs,A,h=>⟨[],vs,[],A,rfl,rfl,.nil,h⟩
 | p::ps,qs,vs,A,h=>by
  obtain ⟨v,r,A1,A2,h1,h2,h3,h4⟩:=Rps.inv (show Rps K H (p::(ps++qs)) vs A from h)
  obtain ⟨v1,v2,B1,B2,g1,g2,g3,g4⟩:=Rps.split h4
  exact ⟨v::v1,v2,A1++B1,B2,by rw [h1,g1];rfl,by rw [h2,g2,List.append_assoc],.cons h3 g3,g4⟩
theorem Rp.mkI(i:Int):Rp K H (.int i) (.int i) []:=by unfold Rp;exact ⟨rfl,rfl⟩
theorem Rp.mkB(b:Bool):Rp K H (.bl b) (.bl b) []:=by unfold Rp;exact ⟨rfl,rfl⟩
theorem Rp.mkS(x:Str):Rp K H (.str x) (.str x) []:=by unfold Rp;exact ⟨rfl,rfl⟩
theorem Rp.mkN:Rp K H .non .non []:=by unfold Rp;exact ⟨rfl,rfl⟩
theorem Rp.mkTy(n:String):Rp K H (.ty n) (.ty n) []:=by unfold Rp;exact ⟨rfl,rfl⟩
theorem Rp.mkT(h:SqT K H a xs)(r:Rps K H ps xs A):Rp K H (.tup ps) (.ref a) A:=by unfold Rp;exact ⟨a,xs,rfl,h,r⟩
theorem Rp.mkL(h:H a=some (.lst xs))(r:Rps K H ps xs A):Rp K H (.lst ps) (.ref a) (a::A):=by unfold Rp;exact ⟨a,xs,A,rfl,h,rfl,r⟩
theorem Rp.mkD{ks:List Key}{ps:List PV}(h:H a=some (.dK (ks.zip xs)))(l:ks.length=ps.length)(r:Rps K H ps xs A):Rp K H (.dct ks ps) (.ref a) (a::A):=by unfold Rp;exact ⟨a,xs,A,rfl,h,l,rfl,r⟩
theorem Rp.I(h:Rp K H (.int i) v A):v=.int i/\A=[]:=by unfold Rp at h;exact h
theorem Rp.B(h:Rp K H (.bl i) v A):v=.bl i/\A=[]:=by unfold Rp at h;exact h
theorem Rp.S(h:Rp K H (.str i) v A):v=.str i/\A=[]:=by unfold Rp at h;exact h
theorem Rp.N{v:V}{A:List Addr}(h:Rp K H .non v A):v=.non/\A=[]:=by unfold Rp at h;exact h
theorem Rp.Ty(h:Rp K H (.ty n) v A):v=.ty n/\A=[]:=by unfold Rp at h;exact h
theorem Rp.T(h:Rp K H (.tup ps) v A):∃ a xs,v=.ref a/\SqT K H a xs/\Rps K H ps xs A:=by unfold Rp at h;exact h
theorem Rp.L(h:Rp K H (.lst ps) v A):∃ a xs B,v=.ref a/\H a=some (.lst xs)/\A=a::B/\Rps K H ps xs B:=by unfold Rp at h;exact h
theorem Rp.Ex{n:Str}(h:Rp K H (.exc n) v A):A=[]/\∃ a C,v=.ref a/\H a=some (.ext (excφ a C))/\PySem.W.nsIn K mainGlobals n=some (some (.ref C)):=by unfold Rp at h;exact h
theorem Rp.mkEx{n:Str}{a C:Addr}(h1:H a=some (.ext (excφ a C)))(h2:PySem.W.nsIn K mainGlobals n=some (some (.ref C))):Rp K H (.exc n) (.ref a) []:=by unfold Rp;exact ⟨rfl,a,C,rfl,h1,h2⟩
theorem Rp.P{ns:List Int}(h:Rp K H (.pen a ns) v A):v=.ref a/\A=[a]/\H a=some (.lst (ns.map V.int)):=by unfold Rp at h;exact h
theorem Rp.Fl(h:Rp K H (.fls ps) v A):∃ a xs,v=.ref a/\Fz K H a xs/\Rps K H ps xs A:=by unfold Rp at h;exact h
theorem Rp.D{ks:List Key}{ps:List PV}(h:Rp K H (.dct ks ps) v A):∃ a xs B,v=.ref a/\H a=some (.dK (ks.zip xs))/\ks.length=ps.length/\A=a::B/\Rps K H ps xs B:=by unfold Rp at h;exact h
end
structure VI (K:PySem.W.Frag) (κ:Nat->Option Nat) (G:Hp) (own:Addr->Option Nat) (env:En) (σ:St) (H:Hp):Prop where
 len:env.length=σ.length
 slot:∀ i p,env[i]?=some (some p)->∃ v A,σ[i]?=some (some v)/\Rp K H p v A/\(κ i=none->∀ a ∈ A,own a=none)/\∀ l,κ i=some l->A.Nodup/\∀ a ∈ A,own a=some l
 own:∀ a l,own a=some l->G a=none/\MutH H a
 same:Same G H
theorem VI.grow{K:PySem.W.Frag}{κ:Nat->Option Nat}{G:Hp}{own:Addr->Option Nat}{env:En}{σ:St}{H H':Hp}(I:VI K κ G own env σ H)(s:Same H H'):VI K κ G own env σ H':=
 ⟨I.len,fun i p e=>let ⟨v,A,h1,h2,h3⟩:=I.slot i p e;⟨v,A,h1,Rp.same s p h2,h3⟩,fun a l e=>let ⟨h1,h2⟩:=I.own a l e;⟨h1,h2.same s⟩,I.same.trans s⟩
noncomputable def Ext(own:Addr->Option Nat)(H:Hp)(own':Addr->Option Nat)(H':Hp):Prop:=∀ b o,own b=none->H b=some o->own' b=none/\H' b=some o
theorem Ext.refl(own:Addr->Option Nat)(H:Hp):Ext own H own H:=fun _ _ h e=>⟨h,e⟩
theorem Ext.trans(a:Ext o1 H1 o2 H2)(b:Ext o2 H2 o3 H3):Ext o1 H1 o3 H3:=fun x o h e=>let ⟨h',e'⟩:=a x o h e;b x o h' e'
theorem Ext.grow(s:Same H H'):Ext own H own H':=fun b o h e=>⟨h,s b o e⟩

inductive Cat where
 | mv (L:List Nat) | sh | bo
noncomputable def Cat.ok:Cat->Hp->(Addr->Option Nat)->List Addr->Prop
 | .mv L,H,own,A=>A.Nodup/\∀ a ∈ A,H a=none∨∃ l ∈ L,own a=some l
 | .sh,_,own,A=>∀ a ∈ A,own a=none
 | .bo,_,_,_=>True
theorem Cat.nil(c:Cat)(H:Hp)(own:Addr->Option Nat):c.ok H own []:=by
 cases c with
 | mv L=>exact ⟨.nil,by simp⟩
 | sh=>show ∀ a ∈ [],own a=none;simp
 | bo=>trivial

noncomputable def tV(K:PySem.W.Frag)(κ:Nat->Option Nat)(G:Hp)(c:Cat)(f:FE):TE:=fun σ H Q=>∃ own env p,VI K κ G own env σ H/\f env=some p/\∀ v H' A,Same H H'->Rp K H' p v A->c.ok H own A->Q v H'
noncomputable def tVT(K:PySem.W.Frag)(κ:Nat->Option Nat)(G:Hp)(f:FT):TT:=fun σ H Q=>∃ own env b,VI K κ G own env σ H/\f env=some b/\∀ H',Same H H'->Q b H'
noncomputable def tVA(K:PySem.W.Frag)(κ:Nat->Option Nat)(G:Hp)(c:Cat)(f:FA):TA:=fun σ H Q=>∃ own env ps,VI K κ G own env σ H/\f env=some ps/\∀ vs H' A,Same H H'->Rps K H' ps vs A->c.ok H own A->Q vs H'
theorem tV.in{K:PySem.W.Frag}{κ:Nat->Option Nat}{G:Hp}{c:Cat}{f:FE}{σ:St}{H:Hp}{Q:VK}{own:Addr->Option Nat}{env:En}{p:PV}(I:VI K κ G own env σ H)(hf:f env=some p)(k:∀ v H' A,Same H H'->Rp K H' p v A->c.ok H own A->Q v H'):tV K κ G c f σ H Q:=⟨own,env,p,I,hf,k⟩
theorem tV.elim{K:PySem.W.Frag}{κ:Nat->Option Nat}{G:Hp}{c:Cat}{f:FE}{σ:St}{H:Hp}{Q:VK}{C:Prop}(h:tV K κ G c f σ H Q)(k:∀ own env (p:PV),VI K κ G own env σ H->f env=some p->(∀ v H' A,Same H H'->Rp K H' p v A->c.ok H own A->Q v H')->C):C:=
 let ⟨own,env,p,I,hf,q⟩:=h
 k own env p I hf q
theorem tVT.in{K:PySem.W.Frag}{κ:Nat->Option Nat}{G:Hp}{f:FT}{σ:St}{H:Hp}{Q:Bool->Hp->Prop}{own:Addr->Option Nat}{env:En}{p:Bool}(I:VI K κ G own env σ H)(hf:f env=some p)(k:∀ H',Same H H'->Q p H'):tVT K κ G f σ H Q:=⟨own,env,p,I,hf,k⟩
theorem tVT.elim{K:PySem.W.Frag}{κ:Nat->Option Nat}{G:Hp}{f:FT}{σ:St}{H:Hp}{Q:Bool->Hp->Prop}{C:Prop}(h:tVT K κ G f σ H Q)(k:∀ own env (p:Bool),VI K κ G own env σ H->f env=some p->(∀ H',Same H H'->Q p H')->C):C:=
 let ⟨own,env,p,I,hf,q⟩:=h
 k own env p I hf q
theorem tVA.in{K:PySem.W.Frag}{κ:Nat->Option Nat}{G:Hp}{c:Cat}{f:FA}{σ:St}{H:Hp}{Q:List V->Hp->Prop}{own:Addr->Option Nat}{env:En}{p:List PV}(I:VI K κ G own env σ H)(hf:f env=some p)(k:∀ vs H' A,Same H H'->Rps K H' p vs A->c.ok H own A->Q vs H'):tVA K κ G c f σ H Q:=⟨own,env,p,I,hf,k⟩
theorem tVA.elim{K:PySem.W.Frag}{κ:Nat->Option Nat}{G:Hp}{c:Cat}{f:FA}{σ:St}{H:Hp}{Q:List V->Hp->Prop}{C:Prop}(h:tVA K κ G c f σ H Q)(k:∀ own env (p:List PV),VI K κ G own env σ H->f env=some p->(∀ vs H' A,Same H H'->Rps K H' p vs A->c.ok H own A->Q vs H')->C):C:=
 let ⟨own,env,p,I,hf,q⟩:=h
 k own env p I hf q
noncomputable def VE(X:Cx)(κ:Nat->Option Nat)(G:Hp)(c:Cat)(e:Expr)(f:FE):Prop:=PE X e (tV X.K κ G c f)
noncomputable def VT(X:Cx)(κ:Nat->Option Nat)(G:Hp)(e:Expr)(f:FT):Prop:=PT X e (tVT X.K κ G f)
noncomputable def VW(X:Cx)(κ:Nat->Option Nat)(G:Hp)(e:Expr)(f:FT):Prop:=PW X e (tVT X.K κ G f)
noncomputable def VA(X:Cx)(κ:Nat->Option Nat)(G:Hp)(c:Cat)(es:List Expr)(f:FA):Prop:=PA X es (tVA X.K κ G c f)/\∀ env ps,f env=some ps->ps.length=es.length
end F
namespace L2
theorem PE.imp{t t':TE}(h:PE X e t)(i:∀ σ H Q,t' σ H Q->t σ H Q):PE X e t':=fun pins s σ H Q I hw=>h pins s σ H Q I (i _ _ _ hw)
theorem PT.imp{t t':TT}(h:PT X e t)(i:∀ σ H Q,t' σ H Q->t σ H Q):PT X e t':=fun pins s σ H Q I hw=>h pins s σ H Q I (i _ _ _ hw)
theorem PW.imp{t t':TT}(h:PW X e t)(i:∀ σ H Q,t' σ H Q->t σ H Q):PW X e t':=fun wh pins s σ H Q I hw=>h wh pins s σ H Q I (i _ _ _ hw)
theorem PA.imp{t t':TA}(h:PA X e t)(i:∀ σ H Q,t' σ H Q->t σ H Q):PA X e t':=fun pos pins s σ H Q I hw=>h pos pins s σ H Q I (i _ _ _ hw)
theorem PS.imp{t t':TS}(h:PS X e t)(i:∀ D σ H,t' D σ H->t D σ H):PS X e t':=fun pins s σ H D I hw=>h pins s σ H D I (i _ _ _ hw)
theorem PSs.imp{t t':TS}(h:PSs X e t)(i:∀ D σ H,t' D σ H->t D σ H):PSs X e t':=fun pins s σ H D I hw=>h pins s σ H D I (i _ _ _ hw)
end L2
namespace F
open PySem PySem.Spec PyProof.Rows L2
noncomputable def asBool:PV->Option Bool
 | .bl b=>some b
 | _=>none
noncomputable def fVar(i:Nat):FE:=fun env=>(env[i]?).join
noncomputable def fC(p:PV):FE:=fun _=>some p
noncomputable def fOp(g:PV->PV->Option PV)(fa fb:FE):FE:=fun env=>(fa env).bind fun x=>(fb env).bind fun y=>g x y
noncomputable def fUn(g:PV->Option PV)(fa:FE):FE:=fun env=>(fa env).bind g
noncomputable def fDat(f:FE):FE:=fun env=>(f env).bind fun p=>if isData p=true then some p else none
noncomputable def fT(f:FE):FT:=fun env=>(f env).bind asBool
noncomputable def fAnd(t u:FT):FT:=fun env=>(t env).bind fun b=>if b=true then u env else some false
noncomputable def fOr(t u:FT):FT:=fun env=>(t env).bind fun b=>if b=true then some true else u env
noncomputable def fNot(t:FT):FT:=fun env=>(t env).map fun b=>!b
noncomputable def fIf(t:FT)(a b:FE):FE:=fun env=>(t env).bind fun c=>if c=true then a env else b env
noncomputable def fNil:FA:=fun _=>some []
noncomputable def fCons(f:FE)(r:FA):FA:=fun env=>(f env).bind fun p=>(r env).map fun ps=>p::ps
noncomputable def fTup(f:FA):FE:=fun env=>(f env).map .tup
noncomputable def fLst(f:FA):FE:=fun env=>(f env).map .lst
noncomputable def fCall(Φ:List PV->Option PV)(f:FA):FE:=fun env=>(f env).bind Φ

section
variable {X:Cx} {κ:Nat->Option Nat} {G:Hp} {c c1 c2:Cat} {a b e:Expr} {es:List Expr} {fa fb f:FE} {t u:FT} {fs:FA} {pos:Pos}
theorem VE.bo(h:VE X κ G c e f):VE X κ G .bo e f:=PE.imp h fun σ H Q ⟨own,env,p,I,hf,k⟩=>(.in I hf fun v H' A s r _=>k v H' A s r trivial)
theorem fresh_sh{K:PySem.W.Frag}{own:Addr->Option Nat}{env:En}{σ:St}{H:Hp}{A:List Addr}(I:VI K κ G own env σ H)(h:∀ a ∈ A,H a=none):∀ a ∈ A,own a=none:=fun a ha=>by
 cases e:own a with
 | none=>rfl
 | some l=>obtain ⟨_,m⟩:=I.own a l e;obtain ⟨o,h'⟩:=m.some;rw [h a ha] at h';cases h'
theorem VE.sh(h:VE X κ G (.mv []) e f):VE X κ G .sh e f:=PE.imp h fun σ H Q ⟨own,env,p,I,hf,k⟩=>by
 exact (.in I hf fun v H' A s r hc=>k v H' A s r (fresh_sh I fun a ha=>(hc.2 a ha).elim id fun ⟨_,hl,_⟩=>nomatch hl))
theorem VE.data(h:VE X κ G c e f)(L:Cat):VE X κ G L e (fDat f):=PE.imp h fun σ H Q ⟨own,env,p,I,hf,k⟩=>by
 unfold fDat at hf
 cases hq:f env with
 | none=>rw [hq] at hf;cases hf
 | some q=>
  rw [hq] at hf
  dsimp only [Option.bind_some] at hf
  split at hf
  ·rename_i hd
   cases hf
   refine (.in I hq fun v H' A s r hc=>k v H' A s r ?_)
   rw [Rp.data p hd r]
   exact Cat.nil _ _ _
  ·cases hf
theorem ve_sh(i:Nat){x:Str}(hk:κ i=none)(h:PE X (.Name x pos) (tVar i)):VE X κ G .sh (.Name x pos) (fVar i):=h.imp fun σ H Q hq_=>by
 refine hq_.elim fun own env p I hf k=>?_
 have e:env[i]?=some (some p):=by
  unfold fVar at hf
  cases q:env[i]? with
  | none=>rw [q] at hf;cases hf
  | some z=>
   rw [q] at hf;have:z=some p:=by simpa using hf
   rw [this]
 obtain ⟨v,A,h1,h2,h3,_⟩:=I.slot i p e
 exact ⟨v,h1,k v H A (Same.refl _) h2 (h3 hk)⟩
theorem ve_bo(i:Nat){x:Str}(h:PE X (.Name x pos) (tVar i)):VE X κ G .bo (.Name x pos) (fVar i):=h.imp fun σ H Q hq_=>by
 refine hq_.elim fun own env p I hf k=>?_
 have e:env[i]?=some (some p):=by
  unfold fVar at hf
  cases q:env[i]? with
  | none=>rw [q] at hf;cases hf
  | some z=>
   rw [q] at hf;have:z=some p:=by simpa using hf
   rw [this]
 obtain ⟨v,A,h1,h2,h3,_⟩:=I.slot i p e
 exact ⟨v,h1,k v H A (Same.refl _) h2 trivial⟩
theorem ve_mv(i:Nat){l:Nat}{x:Str}(hk:κ i=some l)(h:PE X (.Name x pos) (tVar i)):VE X κ G (.mv [l]) (.Name x pos) (fVar i):=h.imp fun σ H Q hq_=>by
 refine hq_.elim fun own env p I hf k=>?_
 have e:env[i]?=some (some p):=by
  unfold fVar at hf
  cases q:env[i]? with
  | none=>rw [q] at hf;cases hf
  | some z=>
   rw [q] at hf;have:z=some p:=by simpa using hf
   rw [this]
 obtain ⟨v,A,h1,h2,_,h3⟩:=I.slot i p e
 exact ⟨v,h1,k v H A (Same.refl _) h2 ⟨(h3 l hk).1,fun a ha=>.inr ⟨l,List.mem_singleton.mpr rfl,(h3 l hk).2 a ha⟩⟩⟩
theorem ve_C{p:PV}{v:V}(hp:∀ K H,Rp K H p v [])(h:PE X e (tC v)):VE X κ G c e (fC p):=h.imp fun σ H Q hq_=>by
 refine hq_.elim fun own env q I hf k=>?_
 cases hf
 exact k v H [] (Same.refl _) (hp _ _) (Cat.nil _ _ _)
theorem ve_int{i j}:VE X κ G (.mv []) (.Constant (.int i) j pos) (fC (.int i)):=ve_C (fun _ _=>.mkI i) pe_int
theorem ve_bl{i j}:VE X κ G (.mv []) (.Constant (.bool i) j pos) (fC (.bl i)):=ve_C (fun _ _=>.mkB i) pe_bl
theorem ve_non{j}:VE X κ G (.mv []) (.Constant .none j pos) (fC .non):=ve_C (fun _ _=>.mkN) pe_non
theorem ve_str{i j}:VE X κ G (.mv []) (.Constant (.str i) j pos) (fC (.str i)):=ve_C (fun _ _=>.mkS i) pe_str

noncomputable def OpV(K:PySem.W.Frag)(r:R2)(g:PV->PV->Option PV):Prop:=∀ (H:Hp) (p q:PV) (x y:V) (A B:List Addr) (z:PV) (Q:VK),Rp K H p x A->Rp K H q y B->g p q=some z->
 (∀ v H' C,Same H H'->Rp K H' z v C->C.Nodup->(∀ a ∈ C,H a=none)->Q v H')->r x y H Q
theorem tOp_of{K:PySem.W.Frag}{r:R2}{g:PV->PV->Option PV}(hv:OpV K r g)(σ:St)(H:Hp)(Q:VK)(h:tV K κ G (.mv []) (fOp g fa fb) σ H Q):tOp r (tV K κ G c1 fa) (tV K κ G c2 fb) σ H Q:=by
 obtain ⟨own,env,z,I,e,k⟩:=h
 unfold fOp at e
 replace e:=Option.bind_eq_some_iff.mp e;obtain ⟨p,hp,e⟩:=e
 replace e:=Option.bind_eq_some_iff.mp e;obtain ⟨q,hq,e⟩:=e
 refine (.in I hp fun x H1 A s1 r1 _=>(.in (I.grow s1) hq fun y H2 B s2 r2 _=>?_))
 exact hv H2 p q x y A B z Q (Rp.same s2 p r1) r2 e fun v H' C s3 r3 nd fr=>k v H' C (s1.trans (s2.trans s3)) r3 ⟨nd,fun a ha=>.inl ((s1.trans s2).free (fr a ha))⟩
theorem ve_op(ho:OpR X (binaryOp op) r)(hv:OpV X.K r g)(ha:VE X κ G c1 a fa)(hb:VE X κ G c2 b fb):VE X κ G (.mv []) (.BinOp a op b pos) (fOp g fa fb):=
 (pe_op ho ha hb).imp (tOp_of hv)
theorem ve_cmp(ho:OpR X (compareOp op) r)(hv:OpV X.K r g)(ha:VE X κ G c1 a fa)(hb:VE X κ G c2 b fb)(hm:behindInMarks op b=false):VE X κ G (.mv []) (.Compare a [op] [b] pos) (fOp g fa fb):=
 (pe_cmpR ho ha hb hm).imp (tOp_of hv)
theorem tTest_of{te:TE}(h:∀ σ H Q,tV X.K κ G (.mv []) f σ H Q->te σ H Q)(σ:St)(H:Hp)(Q:Bool->Hp->Prop)(hq:tVT X.K κ G (fT f) σ H Q):tTest te σ H Q:=by
 obtain ⟨own,env,b,I,e,k⟩:=hq
 unfold fT at e
 replace e:=Option.bind_eq_some_iff.mp e;obtain ⟨p,hp,e⟩:=e
 cases p<;>first | cases e | skip
 refine h _ _ _ (.in I hp fun v H' A s r _=>?_)
 exact ⟨_,r.B.1,k H' s⟩
theorem vt_cmp(ho:OpR X (compareOp op) r)(hv:OpV X.K r g)(ha:VE X κ G c1 a fa)(hb:VE X κ G c2 b fb)(hm:behindInMarks op b=false):VT X κ G (.Compare a [op] [b] pos) (fT (fOp g fa fb)):=
 (pt_cmpR ho ha hb hm).imp (tTest_of (tOp_of hv))
noncomputable def fChain(g g':PV->PV->Option PV)(fa fb fc:FE):FE:=fun env=>(fa env).bind fun x=>(fb env).bind fun y=>(g x y).bind fun z=>(asBool z).bind fun k=>if k=true then (fc env).bind fun w=>g' y w else some (.bl false)
theorem tChain_of{K:PySem.W.Frag}{r r':R2}{g g':PV->PV->Option PV}{fc:FE}{c3:Cat}(hv:OpV K r g)(hv':OpV K r' g')(σ:St)(H:Hp)(Q:VK)(h:tV K κ G (.mv []) (fChain g g' fa fb fc) σ H Q):tChain r r' (tV K κ G c1 fa) (tV K κ G c2 fb) (tV K κ G c3 fc) σ H Q:=by
 obtain ⟨own,env,z,I,e,k⟩:=h
 unfold fChain at e
 replace e:=Option.bind_eq_some_iff.mp e;obtain ⟨p,hp,e⟩:=e
 replace e:=Option.bind_eq_some_iff.mp e;obtain ⟨q,hq,e⟩:=e
 replace e:=Option.bind_eq_some_iff.mp e;obtain ⟨d,hg,e⟩:=e
 cases d<;>first | cases e | skip
 rename_i kb
 rw [show asBool (.bl kb)=some kb from rfl,Option.bind_some] at e
 refine (.in I hp fun x H1 A s1 r1 _=>(.in (I.grow s1) hq fun y H2 B s2 r2 _=>?_))
 refine hv H2 p q x y A B _ _ (Rp.same s2 p r1) r2 hg fun v H3 C s3 r3 nd fr=>⟨kb,r3.B.1,?_⟩
 cases kb with
 | false=>
  cases e
  exact ite_ff (k _ _ [] (s1.trans (s2.trans s3)) (.mkB false) (Cat.nil _ _ _))
 | true=>
  simp only [if_true] at e
  replace e:=Option.bind_eq_some_iff.mp e;obtain ⟨w,hc,e⟩:=e
  refine ite_tt ⟨own,env,w,I.grow (s1.trans (s2.trans s3)),hc,fun y' H4 C' s4 r4 _=>?_⟩
  exact hv' H4 q w y y' B C' z Q (Rp.same (s3.trans s4) q r2) r4 e fun v H' C s5 r5 nd fr=>k v H' C (s1.trans (s2.trans (s3.trans (s4.trans s5)))) r5 ⟨nd,fun a ha=>.inl ((s1.trans (s2.trans (s3.trans s4))).free (fr a ha))⟩
theorem ve_chain(ho:OpR X (compareOp op) r)(ho':OpR X (compareOp op') r')(hv:OpV X.K r g)(hv':OpV X.K r' g')(ha:VE X κ G c1 a fa)(hb:VE X κ G c2 b fb)(hc:VE X κ G c3 cc fc)
  (hm:lastMarks [op,op'] [b,cc]=false:=by with_unfolding_all rfl):VE X κ G (.mv []) (.Compare a [op,op'] [b,cc] pos) (fChain g g' fa fb fc):=(pe_chain ho ho' ha hb hc hm).imp (tChain_of hv hv')
theorem vt_chain(ho:OpR X (compareOp op) r)(ho':OpR X (compareOp op') r')(hv:OpV X.K r g)(hv':OpV X.K r' g')(ha:VE X κ G c1 a fa)(hb:VE X κ G c2 b fb)(hc:VE X κ G c3 cc fc)
  (hm:lastMarks [op,op'] [b,cc]=false:=by with_unfolding_all rfl):VT X κ G (.Compare a [op,op'] [b,cc] pos) (fT (fChain g g' fa fb fc)):=(pt_chain ho ho' ha hb hc hm).imp (tTest_of (tChain_of hv hv'))
noncomputable def UnV(K:PySem.W.Frag)(r:V->Hp->VK->Prop)(g:PV->Option PV):Prop:=∀ (H:Hp) (p:PV) (x:V) (A:List Addr) (z:PV) (Q:VK),Rp K H p x A->g p=some z->(∀ v H' C,Same H H'->Rp K H' z v C->C.Nodup->(∀ a ∈ C,H a=none)->Q v H')->r x H Q
theorem ve_un{op:UnaryOp}{r:V->Hp->VK->Prop}{g:PV->Option PV}(ho:UnR X (unaryOp op) r)(hv:UnV X.K r g)(ha:VE X κ G c a fa):VE X κ G (.mv []) (.UnaryOp op a pos) (fUn g fa):=(pe_un ho ha).imp fun σ H Q hq_=>by
 refine hq_.elim fun own env z I e k=>?_
 unfold fUn at e
 replace e:=Option.bind_eq_some_iff.mp e;obtain ⟨p,hp,e⟩:=e
 exact (.in I hp fun x H1 A s1 r1 _=>hv H1 p x A z Q r1 e fun v H' C s2 r2 nd fr=>k v H' C (s1.trans s2) r2 ⟨nd,fun a ha=>.inl (s1.free (fr a ha))⟩)
theorem vt_not(h:VT X κ G a t):VT X κ G (.UnaryOp .Not a pos) (fNot t):=(pt_not h).imp fun σ H Q hq_=>by
 refine hq_.elim fun own env b I e k=>?_
 unfold fNot at e
 cases hp:t env with
 | none=>rw [hp] at e;cases e
 | some p=>rw [hp] at e;cases e;exact ⟨own,env,p,I,hp,k⟩
theorem vw_and1(h:VT X κ G a t):VW X κ G (.BoolOp .And [a] pos) t:=pw_and1 h
theorem vw_or1(h:VT X κ G a t):VW X κ G (.BoolOp .Or [a] pos) t:=pw_or1 h
theorem vw_and{rest:List Expr}(h:VT X κ G a t)(h2:VW X κ G (.BoolOp .And (b::rest) pos) u):VW X κ G (.BoolOp .And (a::b::rest) pos) (fAnd t u):=(pw_and h h2).imp fun σ H Q hq_=>by
 refine hq_.elim fun own env z I e k=>?_
 unfold fAnd at e
 replace e:=Option.bind_eq_some_iff.mp e;obtain ⟨p,hp,e⟩:=e
 refine (.in I hp fun H1 s1=>?_)
 cases p with
 | true=>exact ite_tt (.in (I.grow s1) (by simpa using e) fun H' s2=>k H' (s1.trans s2))
 | false=>cases e;exact ite_ff (k H1 s1)
theorem vw_or{rest:List Expr}(h:VT X κ G a t)(h2:VW X κ G (.BoolOp .Or (b::rest) pos) u):VW X κ G (.BoolOp .Or (a::b::rest) pos) (fOr t u):=(pw_or h h2).imp fun σ H Q hq_=>by
 refine hq_.elim fun own env z I e k=>?_
 unfold fOr at e
 replace e:=Option.bind_eq_some_iff.mp e;obtain ⟨p,hp,e⟩:=e
 refine (.in I hp fun H1 s1=>?_)
 cases p with
 | false=>exact ite_ff (.in (I.grow s1) (by simpa using e) fun H' s2=>k H' (s1.trans s2))
 | true=>cases e;exact ite_tt (k H1 s1)
theorem VW.vt(h:VW X κ G e t):VT X κ G e t:=PW.pt h
theorem ve_one{op}(h:VE X κ G c a fa):VE X κ G c (.BoolOp op [a] pos) fa:=pe_one h
noncomputable def fAndV(fa fb:FE):FE:=fun env=>(fa env).bind fun x=>(asBool x).bind fun k=>if k=true then fb env else some (.bl false)
noncomputable def fOrV(fa fb:FE):FE:=fun env=>(fa env).bind fun x=>(asBool x).bind fun k=>if k=true then some (.bl true) else fb env
noncomputable def fNotV(fa:FE):FE:=fun env=>(fa env).bind fun x=>(asBool x).map fun k=>.bl (!k)
theorem ve_and{rest:List Expr}(h:VE X κ G c1 a fa)(h2:VE X κ G (.mv []) (.BoolOp .And (b::rest) pos) fb):VE X κ G (.mv []) (.BoolOp .And (a::b::rest) pos) (fAndV fa fb):=(pe_and h h2).imp fun σ H Q hq_=>by
 refine hq_.elim fun own env z I e k=>?_
 unfold fAndV at e
 replace e:=Option.bind_eq_some_iff.mp e;obtain ⟨p,hp,e⟩:=e
 cases p<;>first | cases e | skip
 rename_i kb
 rw [show asBool (.bl kb)=some kb from rfl,Option.bind_some] at e
 refine (.in I hp fun x H1 A s1 r1 _=>⟨kb,r1.B.1,?_⟩)
 cases kb with
 | true=>exact ite_tt (.in (I.grow s1) (by simpa using e) fun v H' A s2 r2 h=>k v H' A (s1.trans s2) r2 ⟨h.1,fun a ha=>(h.2 a ha).elim (fun z=>.inl (s1.free z)) .inr⟩)
 | false=>cases e;exact ite_ff (k _ H1 [] s1 (.mkB false) (Cat.nil _ _ _))
theorem ve_or{rest:List Expr}(h:VE X κ G c1 a fa)(h2:VE X κ G (.mv []) (.BoolOp .Or (b::rest) pos) fb):VE X κ G (.mv []) (.BoolOp .Or (a::b::rest) pos) (fOrV fa fb):=(pe_or h h2).imp fun σ H Q hq_=>by
 refine hq_.elim fun own env z I e k=>?_
 unfold fOrV at e
 replace e:=Option.bind_eq_some_iff.mp e;obtain ⟨p,hp,e⟩:=e
 cases p<;>first | cases e | skip
 rename_i kb
 rw [show asBool (.bl kb)=some kb from rfl,Option.bind_some] at e
 refine (.in I hp fun x H1 A s1 r1 _=>⟨kb,r1.B.1,?_⟩)
 cases kb with
 | false=>exact ite_ff (.in (I.grow s1) (by simpa using e) fun v H' A s2 r2 h=>k v H' A (s1.trans s2) r2 ⟨h.1,fun a ha=>(h.2 a ha).elim (fun z=>.inl (s1.free z)) .inr⟩)
 | true=>cases e;exact ite_tt (k _ H1 [] s1 (.mkB true) (Cat.nil _ _ _))
theorem ve_not(h:VE X κ G c1 a fa):VE X κ G (.mv []) (.UnaryOp .Not a pos) (fNotV fa):=(pe_not h).imp fun σ H Q hq_=>by
 refine hq_.elim fun own env z I e k=>?_
 unfold fNotV at e
 replace e:=Option.bind_eq_some_iff.mp e;obtain ⟨p,hp,e⟩:=e
 cases p<;>first | cases e | skip
 rename_i kb
 exact (.in I hp fun x H1 A s1 r1 _=>⟨_,r1.B.1,k _ H1 [] s1 (.mkB _) (Cat.nil _ _ _)⟩)
theorem va_nil:VA X κ G c [] fNil:=⟨pa_nil.imp fun σ H Q hq_=>by
 refine hq_.elim fun own env ps I e k=>?_
 cases e
 exact k [] H [] (Same.refl _) .nil (Cat.nil _ _ _),fun env ps e=>by cases e;rfl⟩
theorem fCons_some(e:fCons f fs env=some ps):∃ p r,f env=some p/\fs env=some r/\ps=p::r:=by
 unfold fCons at e
 replace e:=Option.bind_eq_some_iff.mp e;obtain ⟨p,hp,e⟩:=e
 cases hr:fs env with
 | none=>rw [hr] at e;cases e
 | some r=>rw [hr] at e;cases e;exact ⟨p,r,hp,rfl,rfl⟩
theorem fCons_len(hr:∀ env ps,fs env=some ps->ps.length=es.length):∀ env ps,fCons f fs env=some ps->ps.length=(e::es).length:=fun env ps hf=>by
 obtain ⟨p,r,_,h2,rfl⟩:=fCons_some hf
 rw [List.length_cons,List.length_cons,hr env r h2]
theorem va_bo(h:VE X κ G c1 e f)(hr:VA X κ G .bo es fs)(hs:starEach (e::es) X.env=(false,eval e X.env)::starEach es X.env:=by rfl):VA X κ G .bo (e::es) (fCons f fs):=⟨(pa_cons h hr.1 hs).imp fun σ H Q hq_=>by
 refine hq_.elim fun own env ps I hf k=>?_
 obtain ⟨p,r,h1,h2,rfl⟩:=fCons_some hf
 exact (.in I h1 fun v H1 A s1 r1 _=>(.in (I.grow s1) h2 fun vs H2 B s2 r2 _=>k _ H2 (A++B) (s1.trans s2) (.cons (Rp.same s2 p r1) r2) trivial)),fCons_len hr.2⟩
theorem va_sh(h:VE X κ G .sh e f)(hr:VA X κ G .sh es fs)(hs:starEach (e::es) X.env=(false,eval e X.env)::starEach es X.env:=by rfl):VA X κ G .sh (e::es) (fCons f fs):=⟨(pa_cons h hr.1 hs).imp fun σ H Q hq_=>by
 refine hq_.elim fun own env ps I hf k=>?_
 obtain ⟨p,r,h1,h2,rfl⟩:=fCons_some hf
 exact (.in I h1 fun v H1 A s1 r1 c1=>(.in (I.grow s1) h2 fun vs H2 B s2 r2 c2=>k _ H2 (A++B) (s1.trans s2) (.cons (Rp.same s2 p r1) r2) fun a ha=>(List.mem_append.mp ha).elim (c1 a) (c2 a))),fCons_len hr.2⟩
theorem va_mv{L1 L2:List Nat}(h:VE X κ G (.mv L1) e f)(hr:VA X κ G (.mv L2) es fs)(hL:∀ l ∈ L1,l ∉ L2:=by decide)(hs:starEach (e::es) X.env=(false,eval e X.env)::starEach es X.env:=by rfl):VA X κ G (.mv (L1++L2)) (e::es) (fCons f fs):=⟨(pa_cons h hr.1 hs).imp fun σ H Q hq_=>by
 refine hq_.elim fun own env ps I hf k=>?_
 obtain ⟨p,r,h1,h2,rfl⟩:=fCons_some hf
 refine (.in I h1 fun v H1 A s1 r1 c1=>(.in (I.grow s1) h2 fun vs H2 B s2 r2 c2=>k _ H2 (A++B) (s1.trans s2) (.cons (Rp.same s2 p r1) r2) ⟨?_,fun a ha=>?_⟩))
 ·refine List.nodup_append.mpr ⟨c1.1,c2.1,fun a ha b hb=>?_⟩
  rintro rfl
  obtain ⟨o,ho⟩:=r1.alloc ha
  rcases c2.2 a hb with z | ⟨l,hl,z⟩
  ·rw [ho] at z;cases z
  ·rcases c1.2 a ha with z' | ⟨l',hl',z'⟩
   ·obtain ⟨_,m⟩:=I.own a l z
    obtain ⟨o',h'⟩:=m.some
    rw [z'] at h';cases h'
   ·rw [z] at z';cases z';exact hL _ hl' hl
 ·rcases List.mem_append.mp ha with ha | ha
  ·exact (c1.2 a ha).elim .inl fun ⟨l,hl,z⟩=>.inr ⟨l,List.mem_append_left _ hl,z⟩
  ·exact (c2.2 a ha).elim (fun z=>.inl (s1.free z)) fun ⟨l,hl,z⟩=>.inr ⟨l,List.mem_append_right _ hl,z⟩,fCons_len hr.2⟩
theorem Cat.push{L:List Nat}{K:PySem.W.Frag}{own:Addr->Option Nat}{env:En}{σ:St}{H H1:Hp}{A:List Addr}{p:Addr}{vs:List V}{ps:List PV}(c:Cat)(I:VI K κ G own env σ H)(s:Same H H1)(r:Rps K H1 ps vs A)(hp:H1 p=none)(h:c.ok H own A):c.ok H own (p::A):=by
 cases c with
 | mv L=>
  refine ⟨List.nodup_cons.mpr ⟨fun z=>?_,h.1⟩,fun a ha=>?_⟩
  ·obtain ⟨o,ho⟩:=(Rps.mut ps r p z).some
   rw [hp] at ho;cases ho
  ·rcases List.mem_cons.mp ha with rfl | ha
   ·exact .inl (s.free hp)
   ·exact h.2 a ha
 | sh=>
  intro a ha
  rcases List.mem_cons.mp ha with rfl | ha
  ·exact fresh_sh (A:=[a]) I (fun b hb=>by rw [List.mem_singleton.mp hb];exact s.free hp) a (List.mem_singleton.mpr rfl)
  ·exact h a ha
 | bo=>trivial
theorem ve_tup{x1}(h:VA X κ G c es fs)(hn:es.length≤100000:=by first | decide | simp):VE X κ G c (.Tuple es x1 pos) (fTup fs):=(pe_tup h.1).imp fun σ H Q hq_=>by
 refine hq_.elim fun own env z I e k=>?_
 unfold fTup at e
 cases hp:fs env with
 | none=>rw [hp] at e;cases e
 | some ps=>
  rw [hp] at e
  cases e
  have hl:=h.2 env ps hp
  refine (.in I hp fun vs H1 A s1 r1 c1=>⟨by rw [← r1.length,hl,sizeLine_eq];omega,fun p hn=>?_⟩)
  exact k _ _ A (same_upd s1 (s1.free hn)) (.mkT (SqT.of upd_same) (Rps.same (same_upd (Same.refl _) hn) ps r1)) c1
theorem ve_lst(h:VA X κ G c es fs)(hn:es.length≤100000:=by first | decide | simp):VE X κ G c (.List es pos) (fLst fs):=(pe_lst h.1).imp fun σ H Q hq_=>by
 refine hq_.elim fun own env z I e k=>?_
 unfold fLst at e
 cases hp:fs env with
 | none=>rw [hp] at e;cases e
 | some ps=>
  rw [hp] at e
  cases e
  have hl:=h.2 env ps hp
  refine (.in I hp fun vs H1 A s1 r1 c1=>⟨by rw [← r1.length,hl,sizeLine_eq];omega,fun p hn=>?_⟩)
  exact k _ _ (p::A) (same_upd s1 (s1.free hn)) (.mkL upd_same (Rps.same (same_upd (Same.refl _) hn) ps r1)) (Cat.push (L:=[]) c I s1 r1 hn c1)
end
end F
namespace F
open PySem PySem.Spec PyProof.Rows L2
inductive Out where
 | nx (e:En) | rt (p:PV) (e:En) | bk (e:En) | ct (e:En)
noncomputable abbrev FS:=En->Option Out
noncomputable def ko(O:List Nat):Nat->Option Nat:=fun i=>if i ∈ O then some i else none
theorem ko_in(h:i ∈ O):ko O i=some i:=if_pos h
theorem ko_out(h:i ∉ O):ko O i=none:=if_neg h
theorem ko_some(h:ko O i=some l):l=i:=by
 unfold ko at h
 split at h
 ·cases h;rfl
 ·cases h
noncomputable def OutK(K:PySem.W.Frag)(κ:Nat->Option Nat)(G:Hp)(own:Addr->Option Nat)(H:Hp)(D:Ends):Out->Prop
 | .nx e=>∀ own' σ' H',VI K κ G own' e σ' H'->Ext own H own' H'->D.nx σ' H'
 | .bk e=>∀ own' σ' H',VI K κ G own' e σ' H'->Ext own H own' H'->D.bk σ' H'
 | .ct e=>∀ own' σ' H',VI K κ G own' e σ' H'->Ext own H own' H'->D.ct σ' H'
 | .rt p e=>∀ v H' A own' σ',VI K κ G own' e σ' H'->Rp K H' p v A->A.Nodup->(∀ a ∈ A,G a=none/\own' a≠some 0)->D.rt v H'
theorem OutK.ext{K:PySem.W.Frag}{κ:Nat->Option Nat}{G:Hp}{own own':Addr->Option Nat}{H H':Hp}{D:Ends}{o:Out}(h:OutK K κ G own H D o)(x:Ext own H own' H'):OutK K κ G own' H' D o:=by
 cases o with
 | nx e=>exact fun o2 σ2 H2 I2 x2=>h o2 σ2 H2 I2 (x.trans x2)
 | bk e=>exact fun o2 σ2 H2 I2 x2=>h o2 σ2 H2 I2 (x.trans x2)
 | ct e=>exact fun o2 σ2 H2 I2 x2=>h o2 σ2 H2 I2 (x.trans x2)
 | rt p e=>exact h
noncomputable def tVS(K:PySem.W.Frag)(κ:Nat->Option Nat)(G:Hp)(g:FS):TS:=fun D σ H=>∃ own env o,VI K κ G own env σ H/\g env=some o/\OutK K κ G own H D o
theorem tVS.elim{K:PySem.W.Frag}{κ:Nat->Option Nat}{G:Hp}{g:FS}{D:Ends}{σ:St}{H:Hp}{C:Prop}(h:tVS K κ G g D σ H)(k:∀ own env o,VI K κ G own env σ H->g env=some o->OutK K κ G own H D o->C):C:=
 let ⟨own,env,o,I,hf,q⟩:=h
 k own env o I hf q
noncomputable def VS(X:Cx)(κ:Nat->Option Nat)(G:Hp)(st:Stmt)(g:FS):Prop:=PS X st (tVS X.K κ G g)
noncomputable def VSs(X:Cx)(κ:Nat->Option Nat)(G:Hp)(st:List Stmt)(g:FS):Prop:=PSs X st (tVS X.K κ G g)

noncomputable def fNx:FS:=fun env=>some (.nx env)
noncomputable def fBk:FS:=fun env=>some (.bk env)
noncomputable def fCt:FS:=fun env=>some (.ct env)
noncomputable def fSeq(g h:FS):FS:=fun env=>(g env).bind fun o=>match o with | .nx e=>h e | o=>some o
noncomputable def fRet(f:FE):FS:=fun env=>(f env).map fun p=>.rt p env
noncomputable def fIfS(t:FT)(g h:FS):FS:=fun env=>(t env).bind fun b=>if b=true then g env else h env
noncomputable def fSet(i:Nat)(f:FE):FS:=fun env=>(f env).map fun p=>.nx (env.set i (some p))
noncomputable def fAsg(bnd:PV->En->Option En)(f:FE):FS:=fun env=>(f env).bind fun p=>(bnd p env).map .nx
noncomputable def fFor(bnd:PV->En->Option En)(body:FS):List PV->En->Option Out
 | [],env=>some (.nx env)
 | p::ps,env=>(bnd p env).bind fun e1=>(body e1).bind fun o=>match o with | .nx e=>fFor bnd body ps e | .ct e=>fFor bnd body ps e | .bk e=>some (.nx e) | .rt p e=>some (.rt p e)
noncomputable def fForS(src:FA)(bnd:PV->En->Option En)(body:FS):FS:=fun env=>(src env).bind fun ps=>fFor bnd body ps env
noncomputable def fWh(t:FT)(body:FS):Nat->En->Option Out
 | 0,_=>none
 | n+1,env=>(t env).bind fun b=>if b=true then (body env).bind fun o=>match o with | .nx e=>fWh t body n e | .ct e=>fWh t body n e | .bk e=>some (.nx e) | .rt p e=>some (.rt p e) else some (.nx env)

section
variable {X:Cx} {κ:Nat->Option Nat} {G:Hp} {c c1 c2:Cat} {a b e:Expr} {es:List Expr} {fa fb f:FE} {t u:FT} {fs:FA} {pos:Pos} {g h:FS} {st:Stmt} {rest:List Stmt}
theorem vss_nil:VSs X κ G [] fNx:=pss_nil.imp fun D σ H hq_=>by
 refine hq_.elim fun own env o I hf k=>?_
 cases hf
 exact k own σ H I (Ext.refl _ _)
theorem vss_cons(h1:VS X κ G st g)(h2:VSs X κ G rest h):VSs X κ G (st::rest) (fSeq g h):=(pss_cons h1 h2).imp fun D σ H hq_=>by
 refine hq_.elim fun own env o I hf k=>?_
 unfold fSeq at hf
 replace hf:=Option.bind_eq_some_iff.mp hf;obtain ⟨o1,hg,hf⟩:=hf
 refine ⟨own,env,o1,I,hg,?_⟩
 cases o1 with
 | nx e1=>exact fun own' σ' H' I' x=>⟨own',e1,o,I',hf,k.ext x⟩
 | bk e1=>cases hf;exact k
 | ct e1=>cases hf;exact k
 | rt p e1=>cases hf;exact k
theorem vss_one(h1:VS X κ G st g):VSs X κ G [st] g:=(pss_cons h1 pss_nil).imp fun D σ H h=>h
theorem vs_pass:VS X κ G (.Pass pos) fNx:=ps_pass.imp fun D σ H hq_=>by
 refine hq_.elim fun own env o I hf k=>?_
 cases hf
 exact k own σ H I (Ext.refl _ _)
theorem vs_break:VS X κ G (.Break pos) fBk:=ps_break.imp fun D σ H hq_=>by
 refine hq_.elim fun own env o I hf k=>?_
 cases hf
 exact k own σ H I (Ext.refl _ _)
theorem vs_continue:VS X κ G (.Continue pos) fCt:=ps_continue.imp fun D σ H hq_=>by
 refine hq_.elim fun own env o I hf k=>?_
 cases hf
 exact k own σ H I (Ext.refl _ _)
theorem vs_doc{x j pos pos'}:VS X κ G (.Expr (.Constant (.str x) j pos) pos') fNx:=ps_doc.imp fun D σ H hq_=>by
 refine hq_.elim fun own env o I hf k=>?_
 cases hf
 exact k own σ H I (Ext.refl _ _)
noncomputable def fNever:FS:=fun _=>none
theorem vs_never:VS X κ G st fNever:=ps_never.imp fun D σ H ⟨own,env,o,I,hf,k⟩=>nomatch hf
theorem vs_ret{L:List Nat}(he:VE X κ G (.mv L) e f)(h0:0 ∉ L:=by decide):VS X κ G (.Return (some e) pos) (fRet f):=(ps_ret he).imp fun D σ H hq_=>by
 refine hq_.elim fun own env o I hf k=>?_
 unfold fRet at hf
 cases hp:f env with
 | none=>rw [hp] at hf;cases hf
 | some p=>
  rw [hp] at hf;cases hf
  refine (.in I hp fun v H' A s r hc=>k v H' A own σ (I.grow s) r hc.1 fun a ha=>?_)
  rcases hc.2 a ha with z | ⟨l,hl,z⟩
  ·refine ⟨I.same.free z,fun y=>?_⟩
   obtain ⟨o,ho⟩:=(I.own a 0 y).2.some
   rw [z] at ho;cases ho
  ·exact ⟨(I.own a l z).1,fun y=>h0 (by rw [z] at y;cases y;exact hl)⟩
noncomputable def fRetN:FS:=fun env=>some (.rt .non env)
theorem vs_retN:VS X κ G (.Return none pos) fRetN:=ps_retN.imp fun D σ H hq_=>by
 refine hq_.elim fun own env o I hf k=>?_
 cases hf
 exact k .non H [] own σ I .mkN .nil (by simp)
theorem vs_if{cc:Expr}{bs1 bs2:List Stmt}(hc:VT X κ G cc t)(h1:VSs X κ G bs1 g)(h2:VSs X κ G bs2 h):VS X κ G (.If cc bs1 bs2 pos) (fIfS t g h):=(ps_if hc h1 h2).imp fun D σ H hq_=>by
 refine hq_.elim fun own env o I hf k=>?_
 unfold fIfS at hf
 replace hf:=Option.bind_eq_some_iff.mp hf;obtain ⟨p,hp,hf⟩:=hf
 refine (.in I hp fun H1 s1=>?_)
 cases p with
 | true=>exact ite_tt ⟨own,env,o,I.grow s1,by simpa using hf,k.ext (Ext.grow s1)⟩
 | false=>exact ite_ff ⟨own,env,o,I.grow s1,by simpa using hf,k.ext (Ext.grow s1)⟩
theorem VI.set_sh{K:PySem.W.Frag}{own:Addr->Option Nat}{env:En}{σ:St}{H:Hp}{i:Nat}{p:PV}{v:V}{A:List Addr}(I:VI K κ G own env σ H)(hk:κ i=none)(r:Rp K H p v A)(hA:∀ a ∈ A,own a=none):VI K κ G own (env.set i (some p)) (σ.set i (some v)) H:=by
 refine ⟨by simp [I.len],fun j q e=>?_,I.own,I.same⟩
 rw [List.getElem?_set] at e ⊢
 by_cases hij:i=j
 ·subst hij
  rw [if_pos rfl] at e ⊢
  by_cases hl:i<env.length
  ·rw [if_pos hl] at e
   rw [if_pos (by rw [← I.len];exact hl)]
   cases e
   exact ⟨v,A,rfl,r,fun _=>hA,fun l z=>by rw [hk] at z;cases z⟩
  ·rw [if_neg hl] at e;cases e
 ·rw [if_neg hij] at e ⊢
  exact I.slot j q e
noncomputable def acq(own:Addr->Option Nat)(i:Nat)(A:List Addr):Addr->Option Nat:=fun a=>if a ∈ A then some i else if own a=some i then none else own a
theorem VI.take{O:List Nat}{K:PySem.W.Frag}{own:Addr->Option Nat}{env:En}{σ:St}{H0 H2:Hp}{i:Nat}{p:PV}{v:V}{A:List Addr}(hi:i ∈ O)(I:VI K (ko O) G own env σ H0)
  (keep:∀ j q w B,j≠i->env[j]?=some (some q)->Rp K H0 q w B->(∀ b ∈ B,own b≠some i)->Rp K H2 q w B)
  (hx:∀ b o,own b≠some i->H0 b=some o->H2 b=some o)
  (r:Rp K H2 p v A)(nd:A.Nodup)(hA:∀ a ∈ A,own a=some i∨H0 a=none):
  VI K (ko O) G (acq own i A) (env.set i (some p)) (σ.set i (some v)) H2/\Ext own H0 (acq own i A) H2:=by
 have notin:∀ b o,own b≠some i->H0 b=some o->b ∉ A:=fun b o h1 h2 hb=>by
  rcases hA b hb with z | z
  ·exact h1 z
  ·rw [h2] at z;cases z
 have stay:∀ b o,own b≠some i->H0 b=some o->acq own i A b=own b:=fun b o h1 h2=>by
  unfold acq;rw [if_neg (notin b o h1 h2),if_neg h1]
 refine ⟨⟨by simp [I.len],fun j q e=>?_,fun b l e=>?_,fun b o e=>?_⟩,fun b o h1 h2=>?_⟩
 ·rw [List.getElem?_set] at e ⊢
  by_cases hij:i=j
  ·subst hij
   rw [if_pos rfl] at e ⊢
   by_cases hl:i<env.length
   ·rw [if_pos hl] at e
    rw [if_pos (by rw [← I.len];exact hl)]
    cases e
    refine ⟨v,A,rfl,r,fun z=>(by rw [ko_in hi] at z;cases z),fun l z=>?_⟩
    rw [ko_in hi] at z;cases z
    exact ⟨nd,fun a ha=>by unfold acq;rw [if_pos ha]⟩
   ·rw [if_neg hl] at e;cases e
  ·rw [if_neg hij] at e ⊢
   obtain ⟨w,B,h1,h2,h3,h4⟩:=I.slot j q e
   have no:∀ b ∈ B,own b≠some i:=fun b hb z=>by
    cases hk:ko O j with
    | none=>rw [h3 hk b hb] at z;cases z
    | some l=>
     have:=(h4 l hk).2 b hb
     rw [z] at this
     have e1:=ko_some hk
     cases this
     exact hij e1
   refine ⟨w,B,h1,keep j q w B (fun z=>hij z.symm) e h2 no,fun hk b hb=>?_,fun l hk=>⟨(h4 l hk).1,fun b hb=>?_⟩⟩
   ·obtain ⟨o,ho⟩:=h2.alloc hb
    rw [stay b o (no b hb) ho];exact h3 hk b hb
   ·obtain ⟨o,ho⟩:=h2.alloc hb
    rw [stay b o (no b hb) ho];exact (h4 l hk).2 b hb
 ·unfold acq at e
  split at e
  ·rename_i hb
   refine ⟨?_,Rp.mut p r b hb⟩
   rcases hA b hb with z | z
   ·exact (I.own b i z).1
   ·exact I.same.free z
  ·split at e
   ·cases e
   ·rename_i hb hn
    obtain ⟨h1,h2⟩:=I.own b l e
    refine ⟨h1,?_⟩
    rcases h2 with ⟨xs,h2⟩ | ⟨xs,h2⟩ | ⟨xs,h2⟩
    ·exact .inl ⟨xs,hx b _ hn h2⟩
    ·exact .inr (.inl ⟨xs,hx b _ hn h2⟩)
    ·exact .inr (.inr ⟨xs,hx b _ hn h2⟩)
 ·have h0:=I.same b o e
  refine hx b o (fun z=>?_) h0
  rw [(I.own b i z).1] at e;cases e
 ·have hn:own b≠some i:=by rw [h1];exact fun z=>nomatch z
  exact ⟨by rw [stay b o hn h2];exact h1,hx b o hn h2⟩
theorem vs_set_sh{i:Nat}(hk:κ i=none)(h:PS X st (tAsg (tV X.K κ G .sh f) (gName i))):VS X κ G st (fSet i f):=h.imp fun D σ H hq_=>by
 refine hq_.elim fun own env o I hf k=>?_
 unfold fSet at hf
 cases hp:f env with
 | none=>rw [hp] at hf;cases hf
 | some p=>
  rw [hp] at hf;cases hf
  exact (.in I hp fun v H' A s r hc=>k own _ H' ((I.grow s).set_sh hk r hc) (Ext.grow s))
theorem vs_set_ow{O:List Nat}{i:Nat}(hi:i ∈ O)(h:PS X st (tAsg (tV X.K (ko O) G (.mv []) f) (gName i))):VS X (ko O) G st (fSet i f):=h.imp fun D σ H hq_=>by
 refine hq_.elim fun own env o I hf k=>?_
 unfold fSet at hf
 cases hp:f env with
 | none=>rw [hp] at hf;cases hf
 | some p=>
  rw [hp] at hf;cases hf
  refine (.in I hp fun v H' A s r hc=>?_)
  obtain ⟨h1,h2⟩:=I.take hi (fun j q w B _ _ z _=>Rp.same s q z) (fun b o _ z=>s b o z) r hc.1 fun a ha=>.inr ((hc.2 a ha).elim id fun ⟨_,hl,_⟩=>nomatch hl)
  exact k _ _ H' h1 h2
noncomputable def tVG(K:PySem.W.Frag)(κ:Nat->Option Nat)(G:Hp)(Bs:List Nat)(bnd:PV->En->Option En):TG:=fun v σ H Q=>∃ own env p A e,VI K κ G own env σ H/\Rp K H p v A/\(∀ a ∈ A,own a=none)/\bnd p env=some e/\∀ σ',VI K κ G own e σ' H->(∀ i,i ∉ Bs->σ'[i]?=σ[i]?)->σ'.length=σ.length->Q σ' H
noncomputable def VG(X:Cx)(κ:Nat->Option Nat)(G:Hp)(Bs:List Nat)(tg:Expr)(bnd:PV->En->Option En):Prop:=PG X tg (tVG X.K κ G Bs bnd)
noncomputable def tVGs(K:PySem.W.Frag)(κ:Nat->Option Nat)(G:Hp)(Bs:List Nat)(bnd:List PV->En->Option En):TGs:=fun vs σ H Q=>∃ own env ps A e,VI K κ G own env σ H/\Rps K H ps vs A/\(∀ a ∈ A,own a=none)/\bnd ps env=some e/\∀ σ',VI K κ G own e σ' H->(∀ i,i ∉ Bs->σ'[i]?=σ[i]?)->σ'.length=σ.length->Q σ' H
noncomputable def VGs(X:Cx)(κ:Nat->Option Nat)(G:Hp)(Bs:List Nat)(tg:List Expr)(bnd:List PV->En->Option En):Prop:=PGs X tg (tVGs X.K κ G Bs bnd)
noncomputable def bName(i:Nat):PV->En->Option En:=fun p env=>some (env.set i (some p))
noncomputable def bNil:List PV->En->Option En:=fun ps env=>match ps with | []=>some env | _=>none
noncomputable def bCons(b1:PV->En->Option En)(b2:List PV->En->Option En):List PV->En->Option En:=fun ps env=>match ps with | p::r=>(b1 p env).bind fun e=>b2 r e | []=>none
noncomputable def bTup(n:Nat)(b:List PV->En->Option En):PV->En->Option En:=fun p env=>match p with
 | .tup ps=>if ps.length=n then b ps env else none
 | .lst ps=>if ps.length=n then b ps env else none
 | _=>none
end
end F
namespace L2
theorem PG.imp{t t':TG}(h:PG X e t)(i:∀ v σ H Q,t' v σ H Q->t v σ H Q):PG X e t':=fun pins s σ H v u Q I r hw=>h pins s σ H v u Q I r (i _ _ _ _ hw)
theorem PGs.imp{t t':TGs}(h:PGs X e t)(i:∀ v σ H Q,t' v σ H Q->t v σ H Q):PGs X e t':=fun pins s σ H v u Q I r hw=>h pins s σ H v u Q I r (i _ _ _ _ hw)
theorem PG.or{t t':TG}(h:PG X e t)(h':PG X e t'):PG X e (fun v σ H Q=>t v σ H Q∨t' v σ H Q):=fun pins s σ H v u Q I r hw=>hw.elim (h pins s σ H v u Q I r) (h' pins s σ H v u Q I r)
theorem PI.imp{t t':TI}(h:PI X tg e t)(i:∀ σ H R,t' σ H R->t σ H R):PI X tg e t':=fun pins s σ H R I hw=>h pins s σ H R I (i _ _ _ hw)
end L2
namespace F
open PySem PySem.Spec PyProof.Rows L2
section
variable {X:Cx} {κ:Nat->Option Nat} {G:Hp} {c c1 c2:Cat} {a b e:Expr} {es:List Expr} {fa fb f:FE} {t u:FT} {fs:FA} {pos:Pos} {g h:FS} {st:Stmt} {rest:List Stmt} {bnd:PV->En->Option En} {bnds:List PV->En->Option En}
theorem vg_name(i:Nat)(hk:κ i=none)(h:PG X tg (gName i)):VG X κ G [i] tg (bName i):=h.imp fun v σ H Q hq_=>by
 obtain ⟨own,env,p,A,e,I,r,hA,hb,k⟩:=hq_
 cases hb
 refine k _ (I.set_sh hk r hA) (fun j hj=>?_) (by simp)
 rw [List.getElem?_set,if_neg (fun z=>hj (by simp [z]))]
theorem vgs_nil:VGs X κ G [] [] bNil:=pgs_nil.imp fun vs σ H Q hq_=>by
 obtain ⟨own,env,ps,A,e,I,r,hA,hb,k⟩:=hq_
 unfold bNil at hb
 cases ps with
 | nil=>cases hb;exact ⟨r.inv0.1,k σ I (fun _ _=>rfl) rfl⟩
 | cons p ps=>cases hb
theorem vgs_cons(h1:VG X κ G Bs1 e bnd)(h2:VGs X κ G Bs2 es bnds)(hs:(assignEach (e::es) X.env).map (·.2)=assign e X.env::(assignEach es X.env).map (·.2):=by rfl):VGs X κ G (Bs1++Bs2) (e::es) (bCons bnd bnds):=(pgs_cons h1 h2 hs).imp fun vs σ H Q hq_=>by
 obtain ⟨own,env,ps,A,e,I,r,hA,hb,k⟩:=hq_
 unfold bCons at hb
 cases ps with
 | nil=>cases hb
 | cons p ps=>
  dsimp only at hb
  obtain ⟨v,r',A1,A2,h1,h2,h3,h4⟩:=r.inv
  replace hb:=Option.bind_eq_some_iff.mp hb;obtain ⟨e1,hp,hb⟩:=hb
  subst h2
  refine ⟨v,r',h1,own,env,p,A1,e1,I,h3,fun a ha=>hA a (List.mem_append_left _ ha),hp,fun σ1 I1 q1 l1=>?_⟩
  exact ⟨own,e1,ps,A2,e,I1,h4,fun a ha=>hA a (List.mem_append_right _ ha),hb,fun σ2 I2 q2 l2=>k σ2 I2 (fun i hi=>(q2 i fun z=>hi (List.mem_append_right _ z)).trans (q1 i fun z=>hi (List.mem_append_left _ z))) (l2.trans l1)⟩
theorem vg_tup(n:Nat)(hc:X.calm=true)(h:VGs X κ G Bs es bnds)(hn:(assignEach es X.env).length=n:=by rfl)(hst:(assignEach es X.env).findIdx? (·.1)=none:=by rfl):VG X κ G Bs (.Tuple es k pos) (bTup n bnds):=
 ((pg_tup hc h hn hst).or (pg_lst hc h hn hst)).imp fun v σ H Q hq_=>by
 obtain ⟨own,env,p,A,e,I,r,hA,hb,k⟩:=hq_
 unfold bTup at hb
 cases p with
 | tup ps=>
  dsimp only at hb
  split at hb
  ·rename_i hl
   obtain ⟨a,xs,h1,h2,h3⟩:=r.T
   exact .inl ⟨a,xs,h1,h2,by rw [← h3.length];exact hl,own,env,ps,A,e,I,h3,hA,hb,k⟩
  ·cases hb
 | lst ps=>
  dsimp only at hb
  split at hb
  ·rename_i hl
   obtain ⟨a,xs,B,h1,h2,h3,h4⟩:=r.L
   subst h3
   exact .inr ⟨a,xs,h1,SqL.of h2,by rw [← h4.length];exact hl,own,env,ps,B,e,I,h4,fun a ha=>hA a (List.mem_cons_of_mem _ ha),hb,k⟩
  ·cases hb
 | _=>cases hb
theorem vs_asg{Bs:List Nat}{tg:Expr}(he:VE X κ G .sh e f)(hg:VG X κ G Bs tg bnd)(hs:swapsWithSole [tg] e pos.line X.env=pure false:=by rfl)(hw:swappedStores [tg] e X.env=pure none:=by rfl)
  (h1:(assignEach [tg] X.env).map (·.2)=[assign tg X.env]:=by rfl):VS X κ G (.Assign [tg] e pos) (fAsg bnd f):=(ps_asg he hg hs hw h1).imp fun D σ H hq_=>by
 refine hq_.elim fun own env o I hf k=>?_
 unfold fAsg at hf
 replace hf:=Option.bind_eq_some_iff.mp hf;obtain ⟨p,hp,hf⟩:=hf
 cases hb:bnd p env with
 | none=>rw [hb] at hf;cases hf
 | some e1=>
  rw [hb] at hf;cases hf
  exact (.in I hp fun v H' A s r hc=>⟨own,env,p,A,e1,I.grow s,r,hc,hb,fun σ' I' _ _=>k own σ' H' I' (Ext.grow s)⟩)
noncomputable def Stay(own:Addr->Option Nat)(H1 H2:Hp):Prop:=∀ b o,own b=none->H1 b=some o->H2 b=some o
theorem Stay.of(s:Same H1 H2):Stay own H1 H2:=fun b o _ e=>s b o e
theorem Stay.ext(s:Ext own H1 own' H2):Stay own H1 H2:=fun b o h e=>(s b o h e).2
theorem Stay.tup{K:PySem.W.Frag}{own:Addr->Option Nat}{H1 H2:Hp}{a:Addr}{xs:List V}(s:Stay own H1 H2)(hm:∀ a l,own a=some l->MutH H1 a)(h:SqT K H1 a xs):SqT K H2 a xs:=by
 have no:∀ o,H1 a=some o->(∀ z,o≠.lst z)->(∀ z,o≠.dK z)->(∀ z,o≠.dT z)->own a=none:=fun o e n1 n2 n3=>by
  cases q:own a with
  | none=>rfl
  | some l=>
   rcases hm a l q with ⟨z,m⟩ | ⟨z,m⟩ | ⟨z,m⟩
   ·rw [e] at m;exact absurd (Option.some.inj m) (n1 z)
   ·rw [e] at m;exact absurd (Option.some.inj m) (n2 z)
   ·rw [e] at m;exact absurd (Option.some.inj m) (n3 z)
 rcases h with (h | ⟨u,h⟩) | h
 ·exact .inl (.inl (s _ _ (no _ h (fun _ z=>nomatch z) (fun _ z=>nomatch z) fun _ z=>nomatch z) h))
 ·exact .inl (.inr ⟨u,s _ _ (no _ h (fun _ z=>nomatch z) (fun _ z=>nomatch z) fun _ z=>nomatch z) h⟩)
 ·exact .inr h
theorem Stay.fz{K:PySem.W.Frag}{own:Addr->Option Nat}{H1 H2:Hp}{a:Addr}{xs:List V}(s:Stay own H1 H2)(hm:∀ a l,own a=some l->MutH H1 a)(h:Fz K H1 a xs):Fz K H2 a xs:=by
 rcases h with ⟨u,h⟩ | h
 ·refine .inl ⟨u,s _ _ ?_ h⟩
  cases q:own a with
  | none=>rfl
  | some l=>rcases hm a l q with ⟨z,m⟩ | ⟨z,m⟩ | ⟨z,m⟩<;>(rw [h] at m;cases m)
 ·exact .inr h
mutual
theorem Rp.stay{K:PySem.W.Frag}{own:Addr->Option Nat}{H1 H2:Hp}(s:Stay own H1 H2)(hm:∀ a l,own a=some l->MutH H1 a):∀ (p:PV) {v:V} {A:List Addr},(∀ a ∈ A,own a=none)->Rp K H1 p v A->Rp K H2 p v A
 | .non,_,_,_,h=>by unfold Rp at h ⊢;exact h
 | .bl _,_,_,_,h=>by unfold Rp at h ⊢;exact h
 | .int _,_,_,_,h=>by unfold Rp at h ⊢;exact h
 | .str _,_,_,_,h=>by unfold Rp at h ⊢;exact h
 | .ty _,_,_,_,h=>by unfold Rp at h ⊢;exact h
 | .any,_,_,_,h=>by unfold Rp at h ⊢;exact h
 | .adr _,_,_,_,h=>by unfold Rp at h ⊢;exact h
 | .exc _,_,_,_,h=>by
  unfold Rp at h ⊢
  obtain ⟨h0,a,C,h1,h2,h3⟩:=h
  refine ⟨h0,a,C,h1,s _ _ ?_ h2,h3⟩
  cases q:own a with
  | none=>rfl
  | some l=>rcases hm a l q with ⟨z,m⟩ | ⟨z,m⟩ | ⟨z,m⟩<;>(rw [h2] at m;cases m)
 | .pen a _,_,_,hA,h=>by
  unfold Rp at h ⊢
  exact ⟨h.1,h.2.1,s _ _ (hA a (by rw [h.2.1];exact List.mem_cons_self)) h.2.2⟩
 | .tup ps,_,_,hA,h=>by
  unfold Rp at h ⊢
  obtain ⟨a,xs,h1,h2,h3⟩:=h
  exact ⟨a,xs,h1,s.tup hm h2,Rps.stay s hm ps hA h3⟩
 | .lst ps,_,_,hA,h=>by
  unfold Rp at h ⊢
  obtain ⟨a,xs,B,h1,h2,rfl,h4⟩:=h
  exact ⟨a,xs,B,h1,s _ _ (hA a List.mem_cons_self) h2,rfl,Rps.stay s hm ps (fun b hb=>hA b (List.mem_cons_of_mem _ hb)) h4⟩
 | .fls ps,_,_,hA,h=>by
  unfold Rp at h ⊢
  obtain ⟨a,xs,h1,h2,h3⟩:=h
  exact ⟨a,xs,h1,s.fz hm h2,Rps.stay s hm ps hA h3⟩
 | .dct ks ps,_,_,hA,h=>by
  unfold Rp at h ⊢
  obtain ⟨a,xs,B,h1,h2,h3,rfl,h5⟩:=h
  exact ⟨a,xs,B,h1,s _ _ (hA a List.mem_cons_self) h2,h3,rfl,Rps.stay s hm ps (fun b hb=>hA b (List.mem_cons_of_mem _ hb)) h5⟩
 | .dcT ks ps,_,_,hA,h=>by
  unfold Rp at h ⊢
  obtain ⟨a,xs,B,h1,h2,h3,rfl,h5⟩:=h
  exact ⟨a,xs,B,h1,s _ _ (hA a List.mem_cons_self) h2,h3,rfl,Rps.stay s hm ps (fun b hb=>hA b (List.mem_cons_of_mem _ hb)) h5⟩
theorem Rps.stay{K:PySem.W.Frag}{own:Addr->Option Nat}{H1 H2:Hp}(s:Stay own H1 H2)(hm:∀ a l,own a=some l->MutH H1 a):∀ (ps:List PV) {vs:List V} {A:List Addr},(∀ a ∈ A,own a=none)->Rps K H1 ps vs A->Rps K H2 ps vs A
 | [],_,_,_,h=>by unfold Rps at h ⊢;exact h
 | p::ps,_,_,hA,h=>by
  unfold Rps at h ⊢
  obtain ⟨v,r,A1,A2,h1,rfl,h3,h4⟩:=h
  exact ⟨v,r,A1,A2,h1,rfl,Rp.stay s hm p (fun a ha=>hA a (List.mem_append_left _ ha)) h3,Rps.stay s hm ps (fun a ha=>hA a (List.mem_append_right _ ha)) h4⟩
end
noncomputable def Walks(K:PySem.W.Frag)(own:Addr->Option Nat)(H1:Hp)(R:Hp->Prop)(J:It)(ps:List PV):Prop:=∀ i H2,R H2->
 (∀ p,ps[i]?=some p->J.go i H2/\∀ x H3,J.yld i H2 x H3->Same H2 H3/\∃ A,Rp K H3 p x A/\∀ a ∈ A,own a=none/\∃ o,H1 a=some o)/\(ps.length≤i->J.stop i H2)
noncomputable def tVI(K:PySem.W.Frag)(κ:Nat->Option Nat)(G:Hp)(lp:Bool)(f:FA):TI:=fun σ H R=>∃ own env ps,VI K κ G own env σ H/\f env=some ps/\∀ J H1,Same H H1->Walks K own H1 (fun H2=>if lp=true then Stay own H1 H2 else Same H1 H2) J ps->R J H1
theorem tVI.in{K:PySem.W.Frag}{κ:Nat->Option Nat}{G:Hp}{lp:Bool}{f:FA}{σ:St}{H:Hp}{R:It->Hp->Prop}{own:Addr->Option Nat}{env:En}{p:List PV}(I:VI K κ G own env σ H)(hf:f env=some p)(k:∀ J H1,Same H H1->Walks K own H1 (fun H2=>if lp=true then Stay own H1 H2 else Same H1 H2) J p->R J H1):tVI K κ G lp f σ H R:=⟨own,env,p,I,hf,k⟩
theorem tVI.elim{K:PySem.W.Frag}{κ:Nat->Option Nat}{G:Hp}{lp:Bool}{f:FA}{σ:St}{H:Hp}{R:It->Hp->Prop}{C:Prop}(h:tVI K κ G lp f σ H R)(k:∀ own env (p:List PV),VI K κ G own env σ H->f env=some p->(∀ J H1,Same H H1->Walks K own H1 (fun H2=>if lp=true then Stay own H1 H2 else Same H1 H2) J p->R J H1)->C):C:=
 let ⟨own,env,p,I,hf,q⟩:=h
 k own env p I hf q
noncomputable def VIt(X:Cx)(κ:Nat->Option Nat)(G:Hp)(lp:Bool)(tg iter:Expr)(f:FA):Prop:=PI X tg iter (tVI X.K κ G lp f)
noncomputable def seqOf:PV->Option (List PV)
 | .lst ps=>some ps
 | .fls ps=>some ps
 | .tup ps=>some ps
 | _=>none
noncomputable def fSeqOf(f:FE):FA:=fun env=>(f env).bind seqOf
noncomputable def fSeqD(f:FE):FA:=fun env=>(f env).bind fun p=>(seqOf p).bind fun ps=>if isDatas ps=true then some ps else none
theorem pi_or{t t':TI}(h:PI X tg iter t)(h':PI X tg iter t'):PI X tg iter (fun σ H R=>t σ H R∨t' σ H R):=fun pins s σ H R I hw=>hw.elim (h pins s σ H R I) (h' pins s σ H R I)
theorem walks_l{K:PySem.W.Frag}{own:Addr->Option Nat}{H1:Hp}{R:Hp->Prop}{a:Addr}{ps:List PV}{xs:List V}{A:List Addr}(h1':Rps K H1 ps xs A)(hA:∀ a ∈ A,own a=none)(hl:∀ H2,R H2->SqL K H2 a xs/\Rps K H2 ps xs A):Walks K own H1 R (Itl K a) ps:=by
 intro i H2 hR
 obtain ⟨hq,hr⟩:=hl H2 hR
 refine ⟨fun p hp=>?_,fun hi=>⟨xs,hq,by rw [← hr.length];exact hi⟩⟩
 obtain ⟨v,C,h1,h2,h3⟩:=hr.get hp
 refine ⟨⟨xs,v,hq,h1⟩,fun x H3 ⟨e,hy⟩=>?_⟩
 subst e
 have:=hy xs hq
 rw [h1] at this;cases this
 exact ⟨Same.refl _,C,h2,fun a ha=>⟨hA a (h3.subset ha),(Rps.mut _ h1' a (h3.subset ha)).some⟩⟩
theorem walks_t{K:PySem.W.Frag}{own:Addr->Option Nat}{H1:Hp}{R:Hp->Prop}{a:Addr}{ps:List PV}{xs:List V}{A:List Addr}(h1':Rps K H1 ps xs A)(hA:∀ a ∈ A,own a=none)(hl:∀ H2,R H2->SqT K H2 a xs/\Rps K H2 ps xs A):Walks K own H1 R (Itt K a) ps:=by
 intro i H2 hR
 obtain ⟨hq,hr⟩:=hl H2 hR
 refine ⟨fun p hp=>?_,fun hi=>⟨xs,hq,by rw [← hr.length];exact hi⟩⟩
 obtain ⟨v,C,h1,h2,h3⟩:=hr.get hp
 refine ⟨⟨xs,v,hq,h1⟩,fun x H3 ⟨e,hy⟩=>?_⟩
 subst e
 have:=hy xs hq
 rw [h1] at this;cases this
 exact ⟨Same.refl _,C,h2,fun a ha=>⟨hA a (h3.subset ha),(Rps.mut _ h1' a (h3.subset ha)).some⟩⟩
theorem vi_seq{tg l:Expr}(lp:Bool)(hl:VE X κ G .sh l f):VIt X κ G lp tg l (fSeqOf f):=(pi_or (pi_list hl) (pi_tup hl)).imp fun σ H R hq_=>by
 refine hq_.elim fun own env ps I hf k=>?_
 unfold fSeqOf at hf
 replace hf:=Option.bind_eq_some_iff.mp hf;obtain ⟨p,hp,hf⟩:=hf
 cases p<;>first | cases hf | skip
 ·refine .inr (.in I hp fun v H1 A s r hc=>?_)
  obtain ⟨a,xs,h1,h2,h3⟩:=r.T
  have hm:∀ a l,own a=some l->MutH H1 a:=fun a l e=>((I.grow s).own a l e).2
  refine ⟨a,h1,⟨xs,h2⟩,k _ H1 s (walks_t (xs:=xs) h3 hc fun H2 hR=>?_)⟩
  cases lp with
  | true=>exact ⟨Stay.tup hR hm h2,Rps.stay hR hm _ hc h3⟩
  | false=>exact ⟨Same.tup hR h2,Rps.same hR _ h3⟩
 ·refine .inl (.in I hp fun v H1 A s r hc=>?_)
  obtain ⟨a,xs,B,h1,h2,rfl,h3⟩:=r.L
  have hm:∀ a l,own a=some l->MutH H1 a:=fun a l e=>((I.grow s).own a l e).2
  refine ⟨a,h1,⟨xs,SqL.of h2⟩,k _ H1 s (walks_l (xs:=xs) h3 (fun b hb=>hc b (List.mem_cons_of_mem _ hb)) fun H2 hR=>?_)⟩
  cases lp with
  | true=>exact ⟨SqL.of (hR _ _ (hc a List.mem_cons_self) h2),Rps.stay hR hm _ (fun b hb=>hc b (List.mem_cons_of_mem _ hb)) h3⟩
  | false=>exact ⟨SqL.of (hR _ _ h2),Rps.same hR _ h3⟩
 ·refine .inl (.in I hp fun v H1 A s r hc=>?_)
  obtain ⟨a,xs,h1,h2,h3⟩:=r.Fl
  have hm:∀ a l,own a=some l->MutH H1 a:=fun a l e=>((I.grow s).own a l e).2
  refine ⟨a,h1,⟨xs,h2.seq⟩,k _ H1 s (walks_l (xs:=xs) h3 hc fun H2 hR=>?_)⟩
  cases lp with
  | true=>exact ⟨(Stay.fz hR hm h2).seq,Rps.stay hR hm _ hc h3⟩
  | false=>exact ⟨(h2.same hR).seq,Rps.same hR _ h3⟩
noncomputable def rngP(lo:Int)(n:Nat):List PV:=(List.range n).map fun (i:Nat)=>PV.int (lo+i)
theorem rngP_len(lo:Int)(n:Nat):(rngP lo n).length=n:=by simp [rngP]
theorem walks_r{K:PySem.W.Frag}{own:Addr->Option Nat}{H1:Hp}{R:Hp->Prop}(lo:Int)(n:Nat):Walks K own H1 R (Itr lo n) (rngP lo n):=by
 intro i H2 _
 refine ⟨fun p hp=>?_,fun hi=>by rw [rngP_len] at hi;exact hi⟩
 unfold rngP at hp
 rw [List.getElem?_map] at hp
 by_cases hi:i<n
 ·rw [List.getElem?_range hi] at hp
  cases hp
  refine ⟨hi,fun x H3 ⟨e,hx⟩=>?_⟩
  subst e
  exact ⟨Same.refl _,[],by rw [hx];exact .mkI _,by simp⟩
 ·rw [List.getElem?_eq_none (by simpa using hi)] at hp
  cases hp
noncomputable def fRng1(f:FA):FA:=fun env=>(f env).bind fun ps=>match ps with | [.int j]=>if -(2 ^ 62)≤j/\j<2 ^ 62 then some (rngP 0 j.toNat) else none | _=>none
theorem vi_rng1{tg:Expr}{p:Pos}(lp:Bool)(hg:Gl X "range")(hm:X.mg "range"=none)(ha:VA X κ G c [a] fs)(hs:starEach [a] X.env=[(false,eval a X.env)]:=by rfl):VIt X κ G lp tg (.Call (.Name "range" p) [a] [] pos) (fRng1 fs):=(pi_range1 hg hm ha.1 hs).imp fun σ H R hq_=>by
 refine hq_.elim fun own env ps I hf k=>?_
 unfold fRng1 at hf
 replace hf:=Option.bind_eq_some_iff.mp hf;obtain ⟨qs,hp,hf⟩:=hf
 refine (.in I hp fun vs H1 A s r _=>?_)
 split at hf
 ·split at hf
  ·rename_i j hj
   cases hf
   obtain ⟨v,r',A1,A2,h1,h2,h3,h4⟩:=r.inv
   exact ⟨j,by rw [h1,h4.inv0.1,h3.I.1],hj.1,hj.2,k _ H1 s (walks_r 0 j.toNat)⟩
  ·cases hf
 ·cases hf
theorem vs_for{Bs:List Nat}{tg iter:Expr}{body:List Stmt}(hp:PassesOwn (model X.prog X.w) X.A X.env X.xe)(hc:X.calm=true)(hi:VIt X κ G true tg iter fs)(hg:VG X κ G Bs tg bnd)(hb:VSs X κ G body g)
  (hs:∀ x,foldedSetIterable iter X.env x=pure x:=by intro _;rfl):VS X κ G (.For tg iter body [] pos) (fForS fs bnd g):=(ps_for hp hc hi hg hb hs).imp fun D σ H hq_=>by
 refine hq_.elim fun own env o I hf k=>?_
 unfold fForS at hf
 replace hf:=Option.bind_eq_some_iff.mp hf;obtain ⟨ps,hp,hf⟩:=hf
 refine (.in I hp fun J H1 s hw=>?_)
 have k1:=k.ext (Ext.grow s)
 refine ⟨fun i m σ2 H2=>∃ own2 e2,VI X.K κ G own2 e2 σ2 H2/\Ext own H1 own2 H2/\i≤ps.length/\m=ps.length - i/\fFor bnd g (ps.drop i) e2=some o,⟨ps.length,own,env,I.grow s,Ext.refl _ _,Nat.zero_le _,by simp,by simpa using hf⟩,?_⟩
 rintro i m σ2 H2 ⟨own2,e2,I2,x2,hi,rfl,h2⟩
 have W:=hw i H2 (by simpa using Stay.ext x2)
 by_cases hlt:i<ps.length
 ·have hpi:ps[i]?=some ps[i]:=List.getElem?_eq_getElem hlt
  obtain ⟨go,yl⟩:=W.1 _ hpi
  rw [List.drop_eq_getElem_cons hlt] at h2
  unfold fFor at h2
  replace h2:=Option.bind_eq_some_iff.mp h2;obtain ⟨e3,hb1,h2⟩:=h2
  replace h2:=Option.bind_eq_some_iff.mp h2;obtain ⟨o1,ho,h2⟩:=h2
  refine .inr ⟨go,fun σ' H'=>∃ own',∃ e',VI X.K κ G own' e' σ' H'/\Ext own H1 own' H'/\fFor bnd g (ps.drop (i+1)) e'=some o,?_,?_⟩
  ·rintro σ' H' ⟨own',e',I',x',h'⟩
   exact ⟨ps.length - (i+1),by omega,own',e',I',x',hlt,rfl,h'⟩
  ·intro x H3 hy
   obtain ⟨s3,A,r3,hA⟩:=yl x H3 hy
   have hA2:∀ a ∈ A,own2 a=none:=fun a ha=>let ⟨h1,o,h2⟩:=hA a ha;(x2 a o h1 h2).1
   refine ⟨own2,e2,ps[i],A,e3,I2.grow s3,r3,hA2,hb1,fun σ3 I3 _ _=>⟨own2,e3,o1,I3,ho,?_⟩⟩
   have x3:Ext own H1 own2 H3:=x2.trans (Ext.grow s3)
   cases o1 with
   | nx e4=>exact fun own4 σ4 H4 I4 x4=>⟨own4,e4,I4,x3.trans x4,h2⟩
   | ct e4=>exact fun own4 σ4 H4 I4 x4=>⟨own4,e4,I4,x3.trans x4,h2⟩
   | bk e4=>cases h2;exact k1.ext x3
   | rt p e4=>cases h2;exact k1.ext x3
 ·have e:i=ps.length:=by omega
  subst e
  rw [List.drop_length] at h2
  cases h2
  exact .inl ⟨W.2 (Nat.le_refl _),k1 own2 σ2 H2 I2 x2⟩
end
end F
namespace F
open PySem PySem.Spec PyProof.Rows L2
section
variable {X:Cx} {κ:Nat->Option Nat} {G:Hp} {c c1 c2:Cat} {a b e:Expr} {es:List Expr} {fa fb f:FE} {t u:FT} {fs:FA} {pos:Pos} {g h:FS} {st:Stmt} {rest:List Stmt} {bnd:PV->En->Option En} {bnds:List PV->En->Option En}
theorem vs_while(n:Nat)(hp:PassesOwn (model X.prog X.w) X.A X.env X.xe)(hc:VT X κ G cc t)(hb:VSs X κ G body g):VS X κ G (.While cc body [] pos) (fWh t g n):=(ps_while hp hc hb).imp fun D σ H hq_=>by
 refine hq_.elim fun own env o I hf k=>?_
 refine ⟨fun m σ2 H2=>∃ own2 e2,VI X.K κ G own2 e2 σ2 H2/\Ext own H own2 H2/\fWh t g m e2=some o,⟨n,own,env,I,Ext.refl _ _,hf⟩,?_⟩
 rintro m σ2 H2 ⟨own2,e2,I2,x2,h2⟩
 cases m with
 | zero=>cases h2
 | succ m=>
  unfold fWh at h2
  replace h2:=Option.bind_eq_some_iff.mp h2;obtain ⟨b,ht,h2⟩:=h2
  refine ⟨own2,e2,b,I2,ht,fun H3 s3=>?_⟩
  have x3:Ext own H own2 H3:=x2.trans (Ext.grow s3)
  cases b with
  | false=>
   simp only [Bool.false_eq_true,if_false] at h2
   cases h2
   exact ite_ff (k own2 σ2 H3 (I2.grow s3) x3)
  | true=>
   simp only [if_true] at h2
   replace h2:=Option.bind_eq_some_iff.mp h2;obtain ⟨o1,ho,h2⟩:=h2
   refine ite_tt ⟨fun σ' H'=>∃ own',∃ e',VI X.K κ G own' e' σ' H'/\Ext own H own' H'/\fWh t g m e'=some o,fun σ' H' ⟨own',e',I',x',h'⟩=>⟨m,Nat.lt_succ_self m,own',e',I',x',h'⟩,own2,e2,o1,I2.grow s3,ho,?_⟩
   cases o1 with
   | nx e4=>exact fun own4 σ4 H4 I4 x4=>⟨own4,e4,I4,x3.trans x4,h2⟩
   | ct e4=>exact fun own4 σ4 H4 I4 x4=>⟨own4,e4,I4,x3.trans x4,h2⟩
   | bk e4=>cases h2;exact k.ext x3
   | rt p e4=>cases h2;exact k.ext x3
noncomputable def cE(n:Nat)(js:List Nat)(env:En):En:=List.replicate n none++js.map fun j=>(env[j]?).join
noncomputable def cK(n:Nat)(js:List Nat)(κ:Nat->Option Nat):Nat->Option Nat:=fun i=>if i<n then none else match js[i - n]? with | some j=>κ j | none=>none
noncomputable def fComp(bnd:PV->En->Option En)(t:FT)(f:FE):List PV->En->Option (List PV)
 | [],_=>some []
 | p::ps,env=>(bnd p env).bind fun e=>(t e).bind fun b=>if b=true then (f e).bind fun q=>(fComp bnd t f ps env).map fun r=>q::r else fComp bnd t f ps env
noncomputable def fLC(src:FA)(n:Nat)(js:List Nat)(bnd:PV->En->Option En)(t:FT)(f:FE):FE:=fun env=>(src env).bind fun ps=>if ps.length≤100000 then (fComp bnd t f ps (cE n js env)).map .lst else none
theorem VI.block{K:PySem.W.Frag}{own:Addr->Option Nat}{env:En}{σ:St}{H:Hp}{ow:List Str}{js:List Nat}(I:VI K κ G own env σ H):VI K (cK ow.length js κ) G own (cE ow.length js env) (cS ow js σ) H:=by
 refine ⟨by simp [cE,cS],fun i p e=>?_,I.own,I.same⟩
 unfold cE at e
 unfold cS cK
 by_cases hi:i<ow.length
 ·rw [List.getElem?_append_left (by simpa using hi),List.getElem?_replicate,if_pos hi] at e
  cases e
 ·have hi':ow.length≤i:=Nat.le_of_not_lt hi
  rw [List.getElem?_append_right (by simpa using hi'),List.getElem?_map,List.length_replicate] at e
  rw [List.getElem?_append_right (by simpa using hi'),List.getElem?_map,List.length_map,if_neg hi]
  cases q:js[i - ow.length]? with
  | none=>rw [q] at e;cases e
  | some j=>
   rw [q] at e
   have e':(env[j]?).join=some p:=Option.some.inj e
   have e2:env[j]?=some (some p):=by
    cases z:env[j]? with
    | none=>rw [z] at e';cases e'
    | some w=>
     rw [z] at e';have:w=some p:=by simpa using e'
     rw [this]
   obtain ⟨v,A,h1,h2,h3⟩:=I.slot j p e2
   exact ⟨v,A,by simp [h1],h2,h3⟩
theorem VI.again{K:PySem.W.Frag}{own:Addr->Option Nat}{env:En}{σ σ':St}{H:Hp}{n:Nat}{js:List Nat}{Bs:List Nat}(I:VI K (cK n js κ) G own (cE n js env) σ H)(hB:∀ i ∈ Bs,i<n)(hs:∀ i,i ∉ Bs->σ'[i]?=σ[i]?)(hl:σ'.length=σ.length):VI K (cK n js κ) G own (cE n js env) σ' H:=by
 refine ⟨I.len.trans hl.symm,fun i p e=>?_,I.own,I.same⟩
 have hi:¬ i<n:=fun hi=>by
  unfold cE at e
  rw [List.getElem?_append_left (by simpa using hi),List.getElem?_replicate,if_pos hi] at e
  cases e
 obtain ⟨v,A,h1,h2⟩:=I.slot i p e
 exact ⟨v,A,(hs i fun z=>hi (hB i z)).trans h1,h2⟩
noncomputable def VTs(X:Cx)(κ:Nat->Option Nat)(G:Hp)(ifs:List Expr)(t:FT):Prop:=PTs X ifs (tVT X.K κ G t)
noncomputable def fYes:FT:=fun _=>some true
theorem vts_nil:VTs X κ G [] fYes:=fun pins s σ H Q I ⟨own,env,b,I',e,k⟩=>by
 cases e
 exact pts_nil pins s σ H Q I (k H (Same.refl _))
theorem vts_one(h:VT X κ G e t):VTs X κ G [e] t:=pts_one h
noncomputable def markD(own:Addr->Option Nat)(D:Addr):Addr->Option Nat:=fun a=>if a=D then some 1000000 else own a
theorem markD_none{own:Addr->Option Nat}{D a:Addr}(h:markD own D a=none):a≠D/\own a=none:=by
 unfold markD at h
 split at h
 ·cases h
 ·rename_i n;exact ⟨n,h⟩
theorem markD_ne{own:Addr->Option Nat}{D a:Addr}(h:a≠D):markD own D a=own a:=if_neg h
theorem VI.mark{K:PySem.W.Frag}{own:Addr->Option Nat}{env:En}{σ:St}{H1 H2:Hp}{D:Addr}{ys:List V}(I:VI K κ G own env σ H1)(hD:H1 D=none)(s:Same H1 H2)(hy:H2 D=some (.lst ys)):VI K κ G (markD own D) env σ H2:=by
 have J:=I.grow s
 refine ⟨I.len,fun i p e=>?_,fun a l e=>?_,J.same⟩
 ·obtain ⟨v,A,h1,h2,h3,h4⟩:=I.slot i p e
  have ne:∀ a ∈ A,a≠D:=fun a ha z=>by
   obtain ⟨o,ho⟩:=h2.alloc ha
   rw [z,hD] at ho;cases ho
  exact ⟨v,A,h1,Rp.same s p h2,fun hk a ha=>(markD_ne (ne a ha)).trans (h3 hk a ha),fun l hk=>⟨(h4 l hk).1,fun a ha=>(markD_ne (ne a ha)).trans ((h4 l hk).2 a ha)⟩⟩
 ·unfold markD at e
  split at e
  ·rename_i z
   rw [z]
   exact ⟨I.same.free hD,.inl ⟨ys,hy⟩⟩
  ·exact J.own a l e
section
variable {ow:List Str} {js Bs:List Nat} {tg elt iter:Expr} {ifs:List Expr} {scope:Scope}
theorem tComp_of{K:PySem.W.Frag}{cc:Cat}(hcc:cc=.mv []∨cc=.sh)(hB:∀ i ∈ Bs,i<ow.length)(σ:St)(H:Hp)(Q:VK)
  (hq:tV K κ G cc (fLC fs ow.length js bnd t f) σ H Q):
  tComp (tVI K κ G false fs) ow js (fun _ _ _ _=>tVG K (cK ow.length js κ) G Bs bnd) (fun _ _ _ _=>tVT K (cK ow.length js κ) G t) (fun _ _ _ _=>tV K (cK ow.length js κ) G cc f) σ H Q:=by
 refine Classical.byContradiction fun hno=>?_
 obtain ⟨own,env,z,I,e,k⟩:=hq
 unfold fLC at e
 replace e:=Option.bind_eq_some_iff.mp e;obtain ⟨ps,hp,e⟩:=e
 split at e
 case isFalse=>cases e
 rename_i hlen
 cases hr:fComp bnd t f ps (cE ow.length js env) with
 | none=>rw [hr] at e;cases e
 | some rs=>
  rw [hr] at e;cases e
  refine hno (.in I hp fun J H1 s1 hw C s₀ H₀ fp D hD=>?_)
  clear hno
  have I1:VI K (cK ow.length js κ) G own (cE ow.length js env) (cS ow js σ) H1:=(I.grow s1).block
  have sD:Same H1 (upd H1 D (.lst [])):=same_upd (Same.refl _) hD
  refine ⟨fun i m σ1 H2=>∃ ys qs B r2,VI K (cK ow.length js κ) G own (cE ow.length js env) σ1 H1/\Same H1 H2/\H2 D=some (.lst ys)/\Rps K H2 qs ys B/\cc.ok H1 own B/\D ∉ B/\i≤ps.length/\ys.length≤i/\m=ps.length - i/\fComp bnd t f (ps.drop i) (cE ow.length js env)=some r2/\rs=qs++r2,
   ⟨ps.length,[],[],[],rs,I1,sD,upd_same,.nil,Cat.nil _ _ _,by simp,Nat.zero_le _,Nat.le_refl _,by simp,by simpa using hr,rfl⟩,?_⟩
  intro i m σ1 H2 hI
  refine Classical.byContradiction fun hno=>?_
  obtain ⟨ys,qs,B,r2,I2,s2,hy,ry,cB,nB,hi,hyl,rfl,h2,hrs⟩:=hI
  have Wk:=hw i H2 (by simpa using s2)
  by_cases hlt:i<ps.length
  ·have hpi:ps[i]?=some ps[i]:=List.getElem?_eq_getElem hlt
   obtain ⟨go,yl⟩:=Wk.1 _ hpi
   refine hno (.inr ⟨go,fun x H3 hyl'=>?_⟩)
   clear hno
   refine Classical.byContradiction fun hno=>?_
   obtain ⟨s3,A,r3,hA⟩:=yl x H3 hyl'
   rw [List.drop_eq_getElem_cons hlt] at h2
   unfold fComp at h2
   replace h2:=Option.bind_eq_some_iff.mp h2;obtain ⟨e3,hb1,h2⟩:=h2
   replace h2:=Option.bind_eq_some_iff.mp h2;obtain ⟨bb,ht,h2⟩:=h2
   have neA:∀ a ∈ A,a≠D:=fun a ha z=>by
    obtain ⟨_,o,ho⟩:=hA a ha
    rw [z,hD] at ho;cases ho
   refine hno ⟨markD own D,_,ps[i],A,e3,I2.mark hD (s2.trans s3) (s3 _ _ hy),r3,fun a ha=>(markD_ne (neA a ha)).trans (hA a ha).1,hb1,fun σ3 I3 q3 l3=>?_⟩
   have I3':=I2.again hB q3 l3
   refine ⟨markD own D,e3,bb,I3,ht,fun H5 s5=>?_⟩
   have s25:Same H2 H5:=s3.trans s5
   have hy5:=s25 _ _ hy
   cases bb with
   | false=>
    simp only [Bool.false_eq_true,if_false] at h2
    refine ite_ff ⟨ps.length - (i+1),by omega,ys,qs,B,r2,I3',s2.trans s25,hy5,Rps.same s25 qs ry,cB,nB,hlt,by omega,rfl,h2,hrs⟩
   | true=>
    simp only [if_true] at h2
    replace h2:=Option.bind_eq_some_iff.mp h2;obtain ⟨q,hf,h2⟩:=h2
    cases hr2:fComp bnd t f (ps.drop (i+1)) (cE ow.length js env) with
    | none=>rw [hr2] at h2;cases h2
    | some r4=>
     rw [hr2] at h2;cases h2
     refine ite_tt ⟨markD own D,e3,q,I3.grow s5,hf,fun y H6 C6 s6 r6 c6=>?_⟩
     have s26:Same H2 H6:=s25.trans s6
     have hy6:=s26 _ _ hy
     have nC:D ∉ C6:=fun z=>by
      rcases hcc with rfl | rfl
      ·rcases c6.2 D z with w | ⟨_,w,_⟩
       ·rw [hy5] at w;cases w
       ·cases w
      ·exact (markD_none (c6 D z)).1 rfl
     refine ⟨ys,hy6,by rw [sizeLine_eq];omega,ps.length - (i+1),by omega,ys++[y],qs++[q],B++C6,r4,I3',same_upd (s2.trans s26) hD,upd_same,?_,?_,?_,hlt,by rw [List.length_append,List.length_singleton];omega,rfl,hr2,by rw [hrs,List.append_assoc];rfl⟩
     ·exact (Rps.upd (.inl ⟨ys,hy6⟩) qs nB (Rps.same s26 qs ry)).append (Rps.one (Rp.upd (.inl ⟨ys,hy6⟩) q nC r6))
     ·rcases hcc with rfl | rfl
      ·refine ⟨List.nodup_append.mpr ⟨cB.1,c6.1,fun x hx y' hy' hxy=>?_⟩,fun x hx=>?_⟩
       ·subst hxy
        rcases c6.2 x hy' with w | ⟨_,w,_⟩
        ·obtain ⟨o,ho⟩:=(Rps.mut qs (Rps.same s25 qs ry) x hx).some
         rw [ho] at w;cases w
        ·cases w
       ·rcases List.mem_append.mp hx with hx | hx
        ·exact cB.2 x hx
        ·exact (c6.2 x hx).elim (fun w=>.inl ((s2.trans s25).free w)) fun ⟨_,w,_⟩=>nomatch w
      ·intro x hx
       rcases List.mem_append.mp hx with hx | hx
       ·exact cB x hx
       ·exact (markD_none (c6 x hx)).2
     ·exact fun z=>(List.mem_append.mp z).elim nB nC
  ·have ei:i=ps.length:=by omega
   subst ei
   rw [List.drop_length] at h2
   cases h2
   refine hno (.inl ⟨Wk.2 (Nat.le_refl _),?_⟩)
   rw [List.append_nil] at hrs
   subst hrs
   refine k (.ref D) H2 (D::B) (s1.trans s2) (.mkL hy ry) ?_
   have hDH:H D=none:=s1.free hD
   rcases hcc with rfl | rfl
   ·refine ⟨List.nodup_cons.mpr ⟨nB,cB.1⟩,fun a ha=>?_⟩
    rcases List.mem_cons.mp ha with rfl | ha
    ·exact .inl hDH
    ·exact (cB.2 a ha).elim (fun w=>.inl (s1.free w)) .inr
   ·intro a ha
    rcases List.mem_cons.mp ha with rfl | ha
    ·exact fresh_sh (A:=[a]) I (fun b hb=>by rw [List.mem_singleton.mp hb];exact hDH) a (List.mem_singleton.mpr rfl)
    ·exact cB a ha
variable {wi:TI}
theorem ve_lc(cc:Cat)(hcc:cc=.mv []∨cc=.sh)(hB:∀ i ∈ Bs,i<ow.length)(hc:X.calm=true)(hi:VIt X κ G false tg iter fs)(hg:∀ C s₀ H₀ fp,VG (compCx X ow js scope C s₀ H₀ fp) (cK ow.length js κ) G Bs tg bnd)
  (ht:∀ C s₀ H₀ fp,VTs (compCx X ow js scope C s₀ H₀ fp) (cK ow.length js κ) G ifs t)(he:∀ C s₀ H₀ fp,VE (compCx X ow js scope C s₀ H₀ fp) (cK ow.length js κ) G cc elt f)
  (ok:compB js scope X.env.kindOf X.N=true:=by first | rfl | decide +kernel)(hs:∀ x,foldedSetIterable iter X.env x=pure x:=by intro _;rfl):
  VE X κ G cc (.ListComp elt [⟨tg,iter,ifs,0⟩] scope pos) (fLC fs ow.length js bnd t f):=
 (pe_lc (own:=ow) (js:=js) hc hi hg ht he ok hs).imp fun σ H Q h=>tComp_of hcc hB σ H Q h
theorem ps_lc{py spos:Pos}(cc:Cat)(hN:X.N.Nodup)(hi':X.N[i]?=some y)(hx:Loc X.env.scope y)(hcc:cc=.mv []∨cc=.sh)(hB:∀ i ∈ Bs,i<ow.length)(hc:X.calm=true)(hi:VIt X κ G false tg iter fs)(hg:∀ C s₀ H₀ fp,VG (compCx X ow js scope C s₀ H₀ fp) (cK ow.length js κ) G Bs tg bnd)
  (ht:∀ C s₀ H₀ fp,VTs (compCx X ow js scope C s₀ H₀ fp) (cK ow.length js κ) G ifs t)(he:∀ C s₀ H₀ fp,VE (compCx X ow js scope C s₀ H₀ fp) (cK ow.length js κ) G cc elt f)
  (ok:compB js scope X.env.kindOf X.N=true:=by first | rfl | decide +kernel)(hs:∀ x,foldedSetIterable iter X.env x=pure x:=by intro _;rfl)
  (hsw:swapsWith (.ListComp elt [⟨tg,iter,ifs,0⟩] scope pos) (some (.Name y py)) spos.line X.env=pure true:=by rfl)(hf:X.fn y=true∨X.env.scope.names.lookup y=some .local:=by first | exact .inl rfl | exact .inr rfl | assumption):
  PS X (.Assign [.Name y py] (.ListComp elt [⟨tg,iter,ifs,0⟩] scope pos) spos) (tAsg (tV X.K κ G cc (fLC fs ow.length js bnd t f)) (gName i)):=
 (ps_setC (own:=ow) (js:=js) hN hi' hx hc hi hg ht he ok hs hsw hf).imp fun D σ H h=>tComp_of hcc hB σ H _ h
end
theorem ps_shC(h:PS X st (tAsg (tV X.K κ G (.mv []) f) tg)):PS X st (tAsg (tV X.K κ G .sh f) tg):=h.imp fun D σ H hq_=>by
 refine hq_.elim fun own env p I hf k=>?_
 exact (.in I hf fun v H' A s r hc=>k v H' A s r (fresh_sh I fun a ha=>(hc.2 a ha).elim id fun ⟨_,hl,_⟩=>nomatch hl))
noncomputable def spV(K:PySem.W.Frag)(n:Nat)(Φ:List PV->Option PV):Sp:=fun vs H Q _=>∃ ps A z,Rps K H ps vs A/\ps.length=n/\Φ ps=some z/\∀ v H' C,Same H H'->Rp K H' z v C->C.Nodup->(∀ a ∈ C,H a=none)->Q v H'
theorem ve_call(hF:Fn X.prog X.w X.K X.mg X.base x k ps (spV X.K n Φ))(hr:Room k X.A)(hg:Gl X x)(ha:VA X κ G c (e::es) fs)(hl:(e::es).length=n:=by rfl)
  (hdb:(x == ("__debug__":Str))=false:=by decide)(he:starEach (e::es) X.env=(false,eval e X.env)::starEach es X.env:=by rfl)(hpl:(backTo pos (starEach es X.env)).any (·.1)=false:=by rfl):
  VE X κ G (.mv []) (.Call (.Name x p) (e::es) [] pos) (fCall Φ fs):=(pe_fn hF hr hg ha.1 hdb he hpl).imp fun σ H Q hq_=>by
 refine hq_.elim fun own env z I hf k=>?_
 unfold fCall at hf
 replace hf:=Option.bind_eq_some_iff.mp hf;obtain ⟨qs,hp,hf⟩:=hf
 refine (.in I hp fun vs H1 A s1 r1 _=>⟨qs,A,z,by rw [List.append_nil];exact r1,(ha.2 env qs hp).trans hl,hf,fun v H' C s2 r2 nd fr=>k v H' C (s1.trans s2) r2 ⟨nd,fun a ha=>.inl (s1.free (fr a ha))⟩⟩)
noncomputable def fnV(m:Nat)(g:FS):List PV->Option PV:=fun ps=>(g (ps.map some++List.replicate (m - ps.length) none)).bind fun o=>match o with | .rt p _=>some p | .nx _=>some .non | _=>none
theorem VI.start{K:PySem.W.Frag}{H:Hp}{N:List Str}{ps:List PV}{vs:List V}{A:List Addr}(hk:∀ i,i<ps.length->κ i=none)(r:Rps K H ps vs A):VI K κ H (fun _=>none) (ps.map some++List.replicate (N.length - ps.length) none) (L2.start N vs) H:=by
 have hl:=r.length
 refine ⟨by simp [L2.start,hl],fun i p e=>?_,(fun _ _ z=>nomatch z),Same.refl _⟩
 by_cases hi:i<ps.length
 ·rw [List.getElem?_append_left (by simpa using hi),List.getElem?_map] at e
  cases q:ps[i]? with
  | none=>rw [q] at e;cases e
  | some p'=>
   rw [q] at e
   have:p'=p:=by simpa using e
   subst this
   obtain ⟨v,C,h1,h2,h3⟩:=r.get q
   refine ⟨v,C,?_,h2,fun _ _ _=>rfl,fun l z=>?_⟩
   ·unfold L2.start
    rw [List.getElem?_append_left (by rw [List.length_map,← hl];exact hi),List.getElem?_map,h1];rfl
   ·rw [hk i hi] at z;cases z
 ·rw [List.getElem?_append_right (by simpa using hi),List.getElem?_replicate] at e
  split at e<;>cases e
theorem fn_V{P:Program}{w:World}{K:PySem.W.Frag}{mg:Str->Option Value}{base:Heap}{x qual:Str}{st:Stmt}{f:Addr}{fd:FuncData}{N ps:List Str}{k n m:Nat}(O:List Nat)(hn:ps.length=n)(hm:N.length=m)(hO:∀ i ∈ O,n≤i)(hF:Fun K x qual st f fd)(S:FnScope N ps (defScope st))
  (body:∀ (cdv:Value) (A:Around) (outer:List PySem.Env) (s:Shared) (H:Hp) (E:XK),Room k (A.deeper (envOfC qual (defScope st) s.heap.objs.size f cdv))->VSs (cxOf CX0 P w K mg base N qual (defScope st) f cdv A outer s H E).nox (ko O) H (defBody st) g):
  FnOk P w K mg base CX0 (k+1) f fd ps (spV K n (fnV m g)):=by
 subst hn hm
 refine hF.ok S (fun vs H Q E ⟨qs,A,z,r,hl,_⟩=>by rw [← r.length,hl]) fun cdv A outer s H vs Q E hr ⟨qs,B,z,r,hl,hΦ,k⟩=>⟨_,body cdv A outer s H E hr,?_⟩
 unfold fnV at hΦ
 replace hΦ:=Option.bind_eq_some_iff.mp hΦ;obtain ⟨o,ho,hΦ⟩:=hΦ
 refine ⟨fun _=>none,_,o,VI.start (N:=N) (fun i hi=>ko_out fun z=>absurd (hO i z) (by omega)) r,ho,?_⟩
 cases o with
 | rt p e=>cases hΦ;exact fun v H' C own' σ' I' r' nd fr=>k v H' C I'.same r' nd fun a ha=>(fr a ha).1
 | nx e=>cases hΦ;exact fun own' σ' H' I' _=>k .non H' [] I'.same .mkN .nil (by simp)
 | bk e=>cases hΦ
 | ct e=>cases hΦ
end
end F
namespace L2
open PySem PySem.Spec PyProof.Rows
noncomputable def rCatT0(K:PySem.W.Frag):R2:=fun x y H Q=>∃ a b ys,x=.ref a/\y=.ref b/\SqT K H a []/\SqT K H b ys/\Q (.ref b) H
theorem cat_tup0{s:Shared}{us:List Value}{Q:Value->Shared->Prop}(ht:IsTup s.heap t #[])(hb:IsTup s.heap b us.toArray)(k:Q (.ref b) s):wpAny (model prog w) A (binaryOp .Add (.ref t) (.ref b)) Q E s:=by
 obtain ⟨⟨c1,o1,a1,z1⟩,g1,hc1,n1,hd1⟩:=id ht
 obtain ⟨⟨c2,o2,a2,z2⟩,g2,hc2,n2,hd2⟩:=id hb
 simp only at hc1 hd1 hc2 hd2
 subst hc1 hd1 hc2 hd2
 exact concat_meets ⟨_,g1,rfl⟩ ⟨_,g2,rfl⟩ noFill_tuple_add seq_tuple_add PySem.F.slot_tuple_add PySem.F.entry_tuple_add (PySem.F.args_tuple_add_2 _ _) (tuple_addW0 t b #[] us.toArray n1 n2 o1 o2 z1 z2 rfl) ⟨g1,g2,k⟩
theorem op_catT0{X:Cx}:OpR X (binaryOp .Add) (rCatT0 X.K):=by
 intro pins s σ H x y v u Q I rx ry h
 obtain ⟨a,b,ys,rfl,rfl,ha,hb,q⟩:=h
 cases rx
 cases ry
 obtain ⟨its,r1,p1,_⟩:=I.tuple ha
 obtain ⟨its2,r2,p2,_⟩:=I.tuple hb
 have:=r1.nil_iff.mpr rfl
 subst this
 exact cat_tup0 p1 p2 ⟨.ref b,H,I,rfl,q⟩
end L2
namespace F
open PySem PySem.Spec PyProof.Rows L2
noncomputable def vAdd:PV->PV->Option PV
 | .int i,.int j=>some (.int (i+j))
 | .str x,.str y=>if x.length+y.length≤100000 then some (.str (x++y)) else none
 | .tup xs,.tup ys=>if (isDatas xs && isDatas ys && decide (xs.length+ys.length≤100000))=true then some (.tup (xs++ys)) else none
 | .lst xs,.lst ys=>if (isDatas xs && isDatas ys && decide (xs.length+ys.length≤100000))=true then some (.lst (xs++ys)) else none
 | _,_=>none
noncomputable def vSub:PV->PV->Option PV
 | .int i,.int j=>some (.int (i - j))
 | _,_=>none
instance (a b:Int):Decidable (IntMulOk a b):=by unfold IntMulOk;infer_instance
noncomputable def vMul:PV->PV->Option PV
 | .int i,.int j=>if IntMulOk i j then some (.int (i * j)) else none
 | .lst xs,.int k=>if (isDatas xs=true/\-(2 ^ 63)≤k/\k<2 ^ 63/\xs.length * k.toNat≤100000) then some (.lst (List.replicate k.toNat xs).flatten) else none
 | _,_=>none
noncomputable def vFdiv:PV->PV->Option PV
 | .int i,.int j=>if 0<j/\j<1073741824 then some (.int (i / j)) else none
 | _,_=>none
noncomputable def vMod:PV->PV->Option PV
 | .int i,.int j=>if 0<j then some (.int (i % j)) else none
 | _,_=>none
noncomputable def vPow:PV->PV->Option PV
 | .int i,.int j=>if 0≤j/\j≤1000000/\i.natAbs<2 ^ 64 then some (.int (i ^ j.toNat)) else none
 | _,_=>none
noncomputable def vLt:PV->PV->Option PV
 | .int i,.int j=>some (.bl (decide (i<j)))
 | _,_=>none
noncomputable def vLe:PV->PV->Option PV
 | .int i,.int j=>some (.bl (decide (i≤j)))
 | _,_=>none
noncomputable def vGt:PV->PV->Option PV
 | .int i,.int j=>some (.bl (decide (j<i)))
 | _,_=>none
noncomputable def vGe:PV->PV->Option PV
 | .int i,.int j=>some (.bl (decide (j≤i)))
 | _,_=>none
noncomputable def vNeg:PV->Option PV
 | .int i=>some (.int (-i))
 | _=>none
mutual
noncomputable def toPy:PV->PyData
 | .non=>.none
 | .bl b=>.bool b
 | .int i=>.int i
 | .str x=>.str x
 | .ty _=>.none
 | .any=>.none
 | .pen _ _=>.none
 | .adr _=>.none
 | .exc _=>.none
 | .tup xs=>.tuple (toPys xs)
 | .lst xs=>.list (toPys xs)
 | .fls xs=>.list (toPys xs)
 | .dct _ _=>.none
 | .dcT _ _=>.none
noncomputable def toPys:List PV->List PyData
 | []=>[]
 | x::r=>toPy x::toPys r
end
mutual
noncomputable def okPy:PV->Bool
 | .ty _=>false
 | .any=>false
 | .pen _ _=>false
 | .adr _=>false
 | .exc _=>false
 | .dct _ _=>false
 | .dcT _ _=>false
 | .tup xs=>okPys xs
 | .lst xs=>okPys xs
 | .fls xs=>okPys xs
 | _=>true
noncomputable def okPys:List PV->Bool
 | []=>true
 | x::r=>okPy x && okPys r
end
noncomputable def eqOk(p:PV):Bool:=okPy p && (toPy p).canLay0 && decide ((toPy p).depth≤64)
noncomputable def eqP(p q:PV):Bool:=PyData.eqv (toPy p) (toPy q)
noncomputable def vEq(p q:PV):Option PV:=if (eqOk p && eqOk q)=true then some (.bl (eqP p q)) else none
noncomputable def vNe(p q:PV):Option PV:=if (eqOk p && eqOk q)=true then some (.bl (!eqP p q)) else none
section
variable {K:PySem.W.Frag} {H:Hp}
mutual
theorem Rp.rep:∀ (p:PV) {v:V} {A:List Addr},okPy p=true->Rp K H p v A->Rep K H v (toPy p)
 | .non,_,_,_,h=>by rw [h.N.1];unfold toPy;exact .non
 | .bl b,_,_,_,h=>by rw [h.B.1];unfold toPy;exact .bl b
 | .int i,_,_,_,h=>by rw [h.I.1];unfold toPy;exact .int i
 | .str x,_,_,_,h=>by rw [h.S.1];unfold toPy;exact .str x
 | .ty _,_,_,d,_=>by simp [okPy] at d
 | .any,_,_,d,_=>by simp [okPy] at d
 | .pen _ _,_,_,d,_=>by simp [okPy] at d
 | .adr _,_,_,d,_=>by simp [okPy] at d
 | .exc _,_,_,d,_=>by simp [okPy] at d
 | .dct _ _,_,_,d,_=>by simp [okPy] at d
 | .dcT _ _,_,_,d,_=>by simp [okPy] at d
 | .tup ps,_,_,d,h=>by
  unfold okPy at d
  obtain ⟨a,xs,rfl,h2,h3⟩:=h.T
  unfold toPy
  exact .tuple h2 (Rps.rep ps d h3)
 | .lst ps,_,_,d,h=>by
  unfold okPy at d
  obtain ⟨a,xs,B,rfl,h2,rfl,h3⟩:=h.L
  unfold toPy
  exact .list (SqL.of h2) (Rps.rep ps d h3)
 | .fls ps,_,_,d,h=>by
  unfold okPy at d
  obtain ⟨a,xs,rfl,h2,h3⟩:=h.Fl
  unfold toPy
  exact .list h2.seq (Rps.rep ps d h3)
theorem Rps.rep:∀ (ps:List PV) {vs:List V} {A:List Addr},okPys ps=true->Rps K H ps vs A->Reps K H vs (toPys ps)
 | [],_,_,_,h=>by rw [h.inv0.1];unfold toPys;exact .nil
 | p::ps,_,_,d,h=>by
  unfold okPys at d
  rw [Bool.and_eq_true] at d
  obtain ⟨v,r,A1,A2,rfl,h2,h3,h4⟩:=h.inv
  unfold toPys
  exact .cons (Rp.rep p d.1 h3) (Rps.rep ps d.2 h4)
end
end
noncomputable def flatP:PV->Bool
 | .non=>true
 | .bl _=>true
 | .int _=>true
 | .str _=>true
 | _=>false
noncomputable def eqS:PV->PV->Bool
 | .non,.non=>true
 | .bl a,.bl b=>a == b
 | .bl a,.int b=>(if a then 1 else 0) == b
 | .int a,.bl b=>a == (if b then 1 else 0)
 | .int a,.int b=>a == b
 | .str a,.str b=>a == b
 | _,_=>false
noncomputable def inP(p:PV)(xs:List PV):Bool:=xs.any fun y=>eqS y p
noncomputable def hasK(ks:List Key)(k:Key):Bool:=ks.any fun x=>decide (x=k)
theorem hasK_iff(ks:List Key)(k:Key):hasK ks k=true ↔ k ∈ ks:=by
 unfold hasK
 rw [List.any_eq_true]
 constructor
 ·rintro ⟨x,hx,e⟩
  rw [← of_decide_eq_true e];exact hx
 ·intro h;exact ⟨k,h,by simp⟩
noncomputable def vIn(p:PV):PV->Option Bool
 | .lst xs=>if (flatP p && xs.all flatP)=true then some (inP p xs) else none
 | .fls xs=>if (flatP p && xs.all flatP)=true then some (inP p xs) else none
 | .tup xs=>if (flatP p && xs.all flatP)=true then some (inP p xs) else none
 | .dct ks _=>match p with | .non=>some false | .int i=>some (hasK ks (.inl i)) | .str x=>some (hasK ks (.inr x)) | _=>none
 | _=>none
noncomputable def vInE(p q:PV):Option PV:=(vIn p q).map .bl
noncomputable def vNotIn(p q:PV):Option PV:=(vIn p q).map fun b=>.bl (!b)
section
variable {X:Cx} {K:PySem.W.Frag}
theorem OpV.int{r:R2}{g:PV->PV->Option PV}(h:∀ p q z,g p q=some z->∃ i j,p=.int i/\q=.int j/\∃ w,(∀ K H,Rp K H z w [])/\∀ H Q,Q w H->r (.int i) (.int j) H Q):OpV K r g:=by
 intro H p q x y A B z Q r1 r2 e k
 obtain ⟨i,j,rfl,rfl,w,hw,hr⟩:=h p q z e
 rw [r1.I.1,r2.I.1]
 exact hr H Q (k w H [] (Same.refl _) (hw _ _) .nil (by simp))
theorem ov_sub:OpV K (rI0 fun i j=>.int (i - j)) vSub:=OpV.int fun p q z e=>by
 unfold vSub at e
 split at e
 case h_2=>cases e
 cases e
 exact ⟨_,_,rfl,rfl,_,fun _ _=>.mkI _,fun H Q h=>⟨_,_,rfl,rfl,h⟩⟩
theorem ov_fdiv:OpV K (rI CDiv fun i j=>.int (i / j)) vFdiv:=OpV.int fun p q z e=>by
 unfold vFdiv at e
 split at e
 case h_2=>cases e
 split at e
 ·rename_i hc;cases e
  exact ⟨_,_,rfl,rfl,_,fun _ _=>.mkI _,fun H Q h=>⟨_,_,rfl,rfl,hc,h⟩⟩
 ·cases e
theorem ov_mod:OpV K (rI (fun _ j=>0<j) fun i j=>.int (i % j)) vMod:=OpV.int fun p q z e=>by
 unfold vMod at e
 split at e
 case h_2=>cases e
 split at e
 ·rename_i hc;cases e
  exact ⟨_,_,rfl,rfl,_,fun _ _=>.mkI _,fun H Q h=>⟨_,_,rfl,rfl,hc,h⟩⟩
 ·cases e
theorem ov_pow:OpV K (rI CPow fun i j=>.int (i ^ j.toNat)) vPow:=OpV.int fun p q z e=>by
 unfold vPow at e
 split at e
 case h_2=>cases e
 split at e
 ·rename_i hc;cases e
  exact ⟨_,_,rfl,rfl,_,fun _ _=>.mkI _,fun H Q h=>⟨_,_,rfl,rfl,hc,h⟩⟩
 ·cases e
theorem ov_lt:OpV K (rI0 fun i j=>.bl (decide (i<j))) vLt:=OpV.int fun p q z e=>by
 unfold vLt at e
 split at e
 case h_2=>cases e
 cases e
 exact ⟨_,_,rfl,rfl,_,fun _ _=>.mkB _,fun H Q h=>⟨_,_,rfl,rfl,h⟩⟩
theorem ov_le:OpV K (rI0 fun i j=>.bl (decide (i≤j))) vLe:=OpV.int fun p q z e=>by
 unfold vLe at e
 split at e
 case h_2=>cases e
 cases e
 exact ⟨_,_,rfl,rfl,_,fun _ _=>.mkB _,fun H Q h=>⟨_,_,rfl,rfl,h⟩⟩
theorem ov_gt:OpV K (rI0 fun i j=>.bl (decide (j<i))) vGt:=OpV.int fun p q z e=>by
 unfold vGt at e
 split at e
 case h_2=>cases e
 cases e
 exact ⟨_,_,rfl,rfl,_,fun _ _=>.mkB _,fun H Q h=>⟨_,_,rfl,rfl,h⟩⟩
theorem ov_ge:OpV K (rI0 fun i j=>.bl (decide (j≤i))) vGe:=OpV.int fun p q z e=>by
 unfold vGe at e
 split at e
 case h_2=>cases e
 cases e
 exact ⟨_,_,rfl,rfl,_,fun _ _=>.mkB _,fun H Q h=>⟨_,_,rfl,rfl,h⟩⟩
theorem uv_neg:UnV K (rU fun i=>.int (-i)) vNeg:=by
 intro H p x A z Q r e k
 cases p<;>first | cases e | skip
 exact ⟨_,r.I.1,k _ H [] (Same.refl _) (.mkI _) .nil (by simp)⟩
theorem new_lst{H:Hp}{z:PV}{Q:VK}(hd:isDatas ps=true)(r:Rps K H ps xs A)(k:∀ v H' C,Same H H'->Rp K H' (.lst ps) v C->C.Nodup->(∀ a ∈ C,H a=none)->Q v H'):∀ p,H p=none->Q (.ref p) (upd H p (.lst xs)):=fun p hp=>by
 have e:=Rps.data ps hd r
 subst e
 have s:Same H (upd H p (.lst xs)):=same_upd (Same.refl _) hp
 exact k _ _ [p] s (.mkL upd_same (Rps.same s ps r)) (by simp) (by simpa using hp)
theorem new_tup{H:Hp}{z:PV}{Q:VK}(hd:isDatas ps=true)(r:Rps K H ps xs A)(k:∀ v H' C,Same H H'->Rp K H' (.tup ps) v C->C.Nodup->(∀ a ∈ C,H a=none)->Q v H'):∀ p,H p=none->Q (.ref p) (upd H p (.tup xs)):=fun p hp=>by
 have e:=Rps.data ps hd r
 subst e
 have s:Same H (upd H p (.tup xs)):=same_upd (Same.refl _) hp
 exact k _ _ [] s (.mkT (SqT.of upd_same) (Rps.same s ps r)) (by simp) (by simp)
theorem or_add:OpR X (binaryOp .Add) (fun x y H Q=>(rI0 fun i j=>.int (i+j)) x y H Q∨(rCat x y H Q∨(rCatT X.K x y H Q∨(rCatT0 X.K x y H Q∨∃ i j,x=.str i/\y=.str j/\i.length+j.length≤sizeLine/\Q (.str (i++j)) H)))):=op_add.or (op_cat.or (op_catT.or (op_catT0.or op_add_str)))
theorem ov_add:OpV K (fun x y H Q=>(rI0 fun i j=>.int (i+j)) x y H Q∨(rCat x y H Q∨(rCatT K x y H Q∨(rCatT0 K x y H Q∨∃ i j,x=.str i/\y=.str j/\i.length+j.length≤sizeLine/\Q (.str (i++j)) H)))) vAdd:=by
 intro H p q x y A B z Q r1 r2 e k
 unfold vAdd at e
 split at e
 case h_5=>cases e
 ·cases e
  exact .inl ⟨_,_,r1.I.1,r2.I.1,k _ H [] (Same.refl _) (.mkI _) .nil (by simp)⟩
 ·split at e
  ·rename_i hc;cases e
   exact .inr (.inr (.inr (.inr ⟨_,_,r1.S.1,r2.S.1,by rw [sizeLine_eq];omega,k _ H [] (Same.refl _) (.mkS _) .nil (by simp)⟩)))
  ·cases e
 ·split at e
  ·rename_i hc;cases e
   simp only [Bool.and_eq_true,decide_eq_true_eq] at hc
   obtain ⟨⟨d1,d2⟩,hl⟩:=hc
   obtain ⟨a,xs,e1,h1,g1⟩:=r1.T
   obtain ⟨b,ys,e2,h2,g2⟩:=r2.T
   have l1:=g1.length
   have l2:=g2.length
   by_cases hx0:xs=[]
   ·subst hx0
    rename_i ps qs
    have:ps=[]:=by cases ps with | nil=>rfl | cons _ _=>simp at l1
    subst this
    rw [List.nil_append] at k
    have e:=Rps.data qs d2 g2
    subst e
    exact .inr (.inr (.inr (.inl ⟨a,b,ys,e1,e2,h1,h2,k _ H [] (Same.refl _) (.mkT h2 g2) .nil (by simp)⟩)))
   refine .inr (.inr (.inl ⟨a,b,xs,ys,e1,e2,h1,h2,hx0,by rw [sizeLine_eq];omega,fun z=>?_,fun _=>?_⟩))
   ·subst z
    rename_i ps qs
    have:qs=[]:=by cases qs with | nil=>rfl | cons _ _=>simp at l2
    subst this
    rw [List.append_nil] at k
    have e:=Rps.data ps d1 g1
    subst e
    exact k _ H [] (Same.refl _) (.mkT h1 g1) .nil (by simp)
   ·exact new_tup (by rw [isDatas_app,d1,d2];rfl) (g1.append g2) k (z:=.non)
  ·cases e
 ·split at e
  ·rename_i hc;cases e
   simp only [Bool.and_eq_true,decide_eq_true_eq] at hc
   obtain ⟨⟨d1,d2⟩,hl⟩:=hc
   obtain ⟨a,xs,B1,e1,h1,_,g1⟩:=r1.L
   obtain ⟨b,ys,B2,e2,h2,_,g2⟩:=r2.L
   have l1:=g1.length
   have l2:=g2.length
   exact .inr (.inl ⟨a,b,xs,ys,e1,e2,h1,h2,by rw [sizeLine_eq];omega,new_lst (by rw [isDatas_app,d1,d2];rfl) (g1.append g2) k (z:=.non)⟩)
  ·cases e
theorem or_mul:OpR X (binaryOp .Mult) (fun x y H Q=>(rI IntMulOk fun i j=>.int (i * j)) x y H Q∨rRep x y H Q):=op_mulB.or op_rep
theorem Rps.rep_{H:Hp}{ps:List PV}{xs:List V}(r:Rps K H ps xs []):∀ k:Nat,Rps K H (List.replicate k ps).flatten (List.replicate k xs).flatten []
 | 0=>.nil
 | k+1=>by
  rw [List.replicate_succ,List.replicate_succ,List.flatten_cons,List.flatten_cons]
  exact r.append (Rps.rep_ r k)
theorem isDatas_rep{ps:List PV}(h:isDatas ps=true):∀ k:Nat,isDatas (List.replicate k ps).flatten=true
 | 0=>rfl
 | k+1=>by rw [List.replicate_succ,List.flatten_cons,isDatas_app,h,isDatas_rep h k];rfl
theorem ov_mul:OpV K (fun x y H Q=>(rI IntMulOk fun i j=>.int (i * j)) x y H Q∨rRep x y H Q) vMul:=by
 intro H p q x y A B z Q r1 r2 e k
 unfold vMul at e
 split at e
 case h_3=>cases e
 ·split at e
  ·rename_i hc;cases e
   exact .inl ⟨_,_,r1.I.1,r2.I.1,hc,k _ H [] (Same.refl _) (.mkI _) .nil (by simp)⟩
  ·cases e
 ·split at e
  ·rename_i hc;cases e
   obtain ⟨d,h1,h2,h3⟩:=hc
   obtain ⟨a,xs,B1,e1,g0,_,g1⟩:=r1.L
   have e:=Rps.data _ d g1
   subst e
   have l1:=g1.length
   exact .inr ⟨a,_,xs,e1,r2.I.1,g0,h1,h2,by rw [sizeLine_eq,← l1];omega,new_lst (isDatas_rep d _) (Rps.rep_ g1 _) k (z:=.non)⟩
  ·cases e
theorem ov_eq:OpV K (fun x y H Q=>∃ d e,Rep K H x d/\Rep K H y e/\d.canLay0=true/\e.canLay0=true/\d.depth≤64/\Q (.bl (PyData.eqv d e)) H) vEq:=by
 intro H p q x y A B z Q r1 r2 e k
 unfold vEq at e
 split at e
 ·rename_i hc;cases e
  unfold eqOk at hc
  simp only [Bool.and_eq_true,decide_eq_true_eq] at hc
  obtain ⟨⟨⟨a1,a2⟩,a3⟩,⟨b1,b2⟩,b3⟩:=hc
  exact ⟨_,_,Rp.rep p a1 r1,Rp.rep q b1 r2,a2,b2,a3,k _ H [] (Same.refl _) (.mkB _) .nil (by simp)⟩
 ·cases e
theorem flat_of(h:flatP p=true)(r:Rp K H p v A):flatV v=true:=by
 cases p<;>first | (simp [flatP] at h;done) | skip
 ·rw [r.N.1];rfl
 ·rw [r.B.1];rfl
 ·rw [r.I.1];rfl
 ·rw [r.S.1];rfl
theorem eq_of(h:flatP p=true)(h':flatP q=true)(r:Rp K H p v A)(r':Rp K H q w B):eqV v w=eqS p q:=by
 cases p<;>cases q<;>first | (simp [flatP] at h;done) | (simp [flatP] at h';done) | skip
 all_goals first
  | rw [r.N.1,r'.N.1];rfl
  | rw [r.N.1,r'.B.1];rfl
  | rw [r.N.1,r'.I.1];rfl
  | rw [r.N.1,r'.S.1];rfl
  | rw [r.B.1,r'.N.1];rfl
  | rw [r.B.1,r'.B.1];rfl
  | rw [r.B.1,r'.I.1];rfl
  | rw [r.B.1,r'.S.1];rfl
  | rw [r.I.1,r'.N.1];rfl
  | rw [r.I.1,r'.B.1];rfl
  | rw [r.I.1,r'.I.1];rfl
  | rw [r.I.1,r'.S.1];rfl
  | rw [r.S.1,r'.N.1];rfl
  | rw [r.S.1,r'.B.1];rfl
  | rw [r.S.1,r'.I.1];rfl
  | rw [r.S.1,r'.S.1];rfl
theorem in_of{H:Hp}{p:PV}{v:V}{A:List Addr}(h:flatP p=true)(r:Rp K H p v A):∀ {ps:List PV} {xs:List V} {B:List Addr},ps.all flatP=true->Rps K H ps xs B->xs.all flatV=true/\inV v xs=inP p ps
 | [],_,_,_,g=>by rw [g.inv0.1];exact ⟨rfl,rfl⟩
 | q::ps,_,_,hq,g=>by
  obtain ⟨w,r',A1,A2,rfl,_,h3,h4⟩:=g.inv
  rw [List.all_cons,Bool.and_eq_true] at hq
  obtain ⟨i1,i2⟩:=in_of h r hq.2 h4
  refine ⟨by rw [List.all_cons,flat_of hq.1 h3,i1];rfl,?_⟩
  unfold inV inP at i2 ⊢
  rw [List.any_cons,List.any_cons,eq_of hq.1 h h3 r,i2]
theorem zip_val:∀ {ks:List Key} {xs:List V} (h:ks.length=xs.length) (k:Key),(valV (ks.zip xs) k).isSome=hasK ks k
 | [],[],_,_=>rfl
 | [],_::_,h,_=>by simp at h
 | _::_,[],h,_=>by simp at h
 | k'::ks,x::xs,h,k=>by
  have ih:=zip_val (ks:=ks) (xs:=xs) (by simpa using h) k
  rw [← valV_any] at ih ⊢
  unfold hasK at ih ⊢
  rw [List.zip_cons_cons,List.any_cons,List.any_cons,ih]
noncomputable def rInA(K:PySem.W.Frag)(neg:Bool):R2:=fun x y H Q=>∃ b,(InBy K H y x b∨∃ a kvs,x=.non/\y=.ref a/\H a=some (.dK kvs)/\b=false)/\Q (.bl (if neg then !b else b)) H
theorem or_in(hu:X.A.units+1<cLine):OpR X (compareOp .In) (rInA X.K false):=by
 intro pins s σ H x y v u Q I rx ry h
 obtain ⟨b,h | ⟨a,kvs,rfl,rfl,h,rfl⟩,q⟩:=h
 ·exact op_in_any hu pins s σ H x y v u Q I rx ry ⟨b,h,q⟩
 ·exact op_in_dictN hu pins s σ H _ _ v u Q I rx ry ⟨a,rfl,.inr ⟨kvs,rfl,h,q⟩⟩
theorem or_notIn(hu:X.A.units+1<cLine):OpR X (compareOp .NotIn) (rInA X.K true):=by
 intro pins s σ H x y v u Q I rx ry h
 obtain ⟨b,h | ⟨a,kvs,rfl,rfl,h,rfl⟩,q⟩:=h
 ·exact op_notIn_any hu pins s σ H x y v u Q I rx ry ⟨b,h,q⟩
 ·cases ry
  cases rx
  obtain ⟨z,hd,vs,rel,dd⟩:=dk_of I.hok h
  exact wpAny_notIn_of (knd:=optKind X.prog X.w) (k:=none) rfl hd (map_none dd.mapOf) ⟨.bl true,H,I.tok _,rfl,q⟩
theorem in_by{H:Hp}(r1:Rp K H p x A)(r2:Rp K H q y B)(e:vIn p q=some b):InBy K H y x b∨∃ a kvs,x=.non/\y=.ref a/\H a=some (.dK kvs)/\b=false:=by
 cases q<;>first | (cases e;done) | skip
 ·simp only [vIn] at e
  split at e
  ·rename_i hc;cases e
   rw [Bool.and_eq_true] at hc
   obtain ⟨a,xs,e1,g0,g1⟩:=r2.T
   obtain ⟨i1,i2⟩:=in_of hc.1 r1 hc.2 g1
   exact .inl (.inl ⟨a,xs,e1,.inr g0,flat_of hc.1 r1,i1,i2.symm⟩)
  ·cases e
 ·simp only [vIn] at e
  split at e
  ·rename_i hc;cases e
   rw [Bool.and_eq_true] at hc
   obtain ⟨a,xs,B1,e1,g0,_,g1⟩:=r2.L
   obtain ⟨i1,i2⟩:=in_of hc.1 r1 hc.2 g1
   exact .inl (.inl ⟨a,xs,e1,.inl (SqL.of g0),flat_of hc.1 r1,i1,i2.symm⟩)
  ·cases e
 ·simp only [vIn] at e
  split at e
  ·rename_i hc;cases e
   rw [Bool.and_eq_true] at hc
   obtain ⟨a,xs,e1,g0,g1⟩:=r2.Fl
   obtain ⟨i1,i2⟩:=in_of hc.1 r1 hc.2 g1
   exact .inl (.inl ⟨a,xs,e1,.inl g0.seq,flat_of hc.1 r1,i1,i2.symm⟩)
  ·cases e
 ·obtain ⟨a,xs,B1,e1,g0,gl,_,g1⟩:=r2.D
  have hl:=g1.length
  cases p<;>first | (cases e;done) | skip
  ·cases e
   exact .inr ⟨a,_,r1.N.1,e1,g0,rfl⟩
  ·cases e
   refine .inl (.inr ⟨a,_,e1,by rw [r1.I.1];exact DGet.k (k:=Sum.inl _) g0,?_⟩)
   rw [zip_val (by omega)]
  ·cases e
   refine .inl (.inr ⟨a,_,e1,by rw [r1.S.1];exact DGet.k (k:=Sum.inr _) g0,?_⟩)
   rw [zip_val (by omega)]
theorem ov_in:OpV K (rInA K false) vInE:=by
 intro H p q x y A B z Q r1 r2 e k
 unfold vInE at e
 cases hb:vIn p q with
 | none=>rw [hb] at e;cases e
 | some b=>rw [hb] at e;cases e;exact ⟨b,in_by r1 r2 hb,k _ H [] (Same.refl _) (.mkB _) .nil (by simp)⟩
theorem ov_notIn:OpV K (rInA K true) vNotIn:=by
 intro H p q x y A B z Q r1 r2 e k
 unfold vNotIn at e
 cases hb:vIn p q with
 | none=>rw [hb] at e;cases e
 | some b=>rw [hb] at e;cases e;exact ⟨b,in_by r1 r2 hb,k _ H [] (Same.refl _) (.mkB _) .nil (by simp)⟩
end
end F
namespace L2
theorem PE.or{t t':TE}(h:PE X e t)(h':PE X e t'):PE X e (fun σ H Q=>t σ H Q∨t' σ H Q):=fun pins s σ H Q I hw=>hw.elim (h pins s σ H Q I) (h' pins s σ H Q I)
theorem PS.or{t t':TS}(h:PS X e t)(h':PS X e t'):PS X e (fun D σ H=>t D σ H∨t' D σ H):=fun pins s σ H D I hw=>hw.elim (h pins s σ H D I) (h' pins s σ H D I)
end L2
namespace F
open PySem PySem.Spec PyProof.Rows L2
noncomputable def dGet(ks:List Key)(vs:List PV)(k:Key):Option PV:=((ks.zip vs).find? fun kv=>decide (kv.1=k)).map (·.2)
noncomputable def vIx:PV->PV->Option PV
 | .lst xs,.int i=>atI xs i
 | .fls xs,.int i=>atI xs i
 | .tup xs,.int i=>atI xs i
 | .str z,.int i=>if z.length≤100000 then (atI z.cps.toList i).map fun c=>.str ⟨#[c]⟩ else none
 | .dct ks vs,.int i=>dGet ks vs (.inl i)
 | .dct ks vs,.str x=>dGet ks vs (.inr x)
 | _,_=>none
theorem Cat.sub{c:Cat}{A C:List Addr}(h:c.ok H own A)(s:C.Sublist A):c.ok H own C:=by
 cases c with
 | mv L=>exact ⟨h.1.sublist s,fun a ha=>h.2 a (s.subset ha)⟩
 | sh=>exact fun a ha=>h a (s.subset ha)
 | bo=>trivial
section
variable {K:PySem.W.Frag} {H:Hp}
theorem Rps.atI(r:Rps K H ps xs A)(h:L2.atI ps i=some p):∃ v C,L2.atI xs i=some v/\Rp K H p v C/\C.Sublist A:=by
 unfold L2.atI at h ⊢
 rw [← r.length]
 cases e:ixN ps.length i with
 | none=>rw [e] at h;cases h
 | some j=>
  rw [e] at h
  exact r.get h
theorem zip_get:∀ {ks:List Key} {ps:List PV} {xs:List V} {A:List Addr} {k:Key} {p:PV},Rps K H ps xs A->dGet ks ps k=some p->∃ v C,valV (ks.zip xs) k=some v/\Rp K H p v C/\C.Sublist A
 | [],_,_,_,_,_,_,h=>by simp [dGet] at h
 | k'::ks,[],_,_,_,_,_,h=>by simp [dGet] at h
 | k'::ks,q::ps,_,_,k,p,r,h=>by
  obtain ⟨w,r',A1,A2,rfl,rfl,h3,h4⟩:=r.inv
  unfold dGet at h
  rw [List.zip_cons_cons,List.find?_cons] at h
  by_cases hk:k'=k
  ·subst hk
   simp at h
   subst h
   exact ⟨w,A1,by rw [List.zip_cons_cons];exact valV_pos rfl,h3,List.sublist_append_left _ _⟩
  ·have:decide (k'=k)=false:=decide_eq_false hk
   rw [show decide ((k',q).1=k)=false from this] at h
   obtain ⟨v,C,g1,g2,g3⟩:=zip_get (ks:=ks) h4 h
   refine ⟨v,C,?_,g2,g3.trans (List.sublist_append_right _ _)⟩
   rw [List.zip_cons_cons]
   unfold valV at g1 ⊢
   rw [List.find?_cons,show decide ((k',w).1=k)=false from this]
   exact g1
end
section
variable {X:Cx} {κ:Nat->Option Nat} {G:Hp} {c c1 c2:Cat} {a b e:Expr} {es:List Expr} {fa fb f:FE} {t u:FT} {fs:FA} {pos:Pos} {g h:FS} {st:Stmt} {rest:List Stmt}
theorem fOp_some{gg:PV->PV->Option PV}(e:fOp gg fa fb env=some z):∃ p q,fa env=some p/\fb env=some q/\gg p q=some z:=by
 unfold fOp at e
 replace e:=Option.bind_eq_some_iff.mp e;obtain ⟨p,hp,e⟩:=e
 replace e:=Option.bind_eq_some_iff.mp e;obtain ⟨q,hq,e⟩:=e
 exact ⟨p,q,hp,hq,e⟩
theorem ve_ix(hu:X.A.units+1<cLine)(ha:VE X κ G c a fa)(hb:VE X κ G c2 b fb)(hs:PlainIx b):VE X κ G c (.Subscript a b pos) (fOp vIx fa fb):=
 ((pe_ix ix_seq ha hb hs).or (pe_dget hu ha hb hs)).imp fun σ H Q hq_=>by
 refine hq_.elim fun own env z I e k=>?_
 obtain ⟨p,q,hp,hq,e⟩:=fOp_some e
 have go:∀ x H1 A,Same H H1->Rp X.K H1 p x A->c.ok H own A->∀ (R:V->Hp->Prop),(∀ y H2 B,Same H1 H2->Rp X.K H2 q y B->R y H2)->tV X.K κ G c2 fb σ H1 R:=fun x H1 A s1 r1 _ R hR=>(.in (I.grow s1) hq fun y H2 B s2 r2 _=>hR y H2 B s2 r2)
 unfold vIx at e
 split at e
 ·refine .inl (.in I hp fun x H1 A s1 r1 c1=>go x H1 A s1 r1 c1 _ fun y H2 B s2 r2=>.inl ?_)
  obtain ⟨ad,xs,B1,e1,h1,rfl,g1⟩:=(Rp.same s2 _ r1).L
  obtain ⟨v,C,h3,h4,h5⟩:=g1.atI e
  exact ⟨ad,xs,_,v,e1,r2.I.1,SqL.of h1,h3,k v H2 C (s1.trans s2) h4 (Cat.sub c1 (h5.trans (List.sublist_cons_self _ _)))⟩
 ·refine .inl (.in I hp fun x H1 A s1 r1 c1=>go x H1 A s1 r1 c1 _ fun y H2 B s2 r2=>.inl ?_)
  obtain ⟨ad,xs,e1,h1,g1⟩:=(Rp.same s2 _ r1).Fl
  obtain ⟨v,C,h3,h4,h5⟩:=g1.atI e
  exact ⟨ad,xs,_,v,e1,r2.I.1,h1.seq,h3,k v H2 C (s1.trans s2) h4 (Cat.sub c1 h5)⟩
 ·refine .inl (.in I hp fun x H1 A s1 r1 c1=>go x H1 A s1 r1 c1 _ fun y H2 B s2 r2=>.inr (.inl ?_))
  obtain ⟨ad,xs,e1,h1,g1⟩:=(Rp.same s2 _ r1).T
  obtain ⟨v,C,h3,h4,h5⟩:=g1.atI e
  exact ⟨ad,xs,_,v,e1,r2.I.1,h1,h3,k v H2 C (s1.trans s2) h4 (Cat.sub c1 h5)⟩
 ·rename_i zz ii
  split at e
  case isFalse=>cases e
  rename_i hl
  cases hc:atI zz.cps.toList ii with
  | none=>rw [hc] at e;cases e
  | some ch=>
   rw [hc] at e
   have ez:z=.str ⟨#[ch]⟩:=(Option.some.inj e).symm
   refine .inl (.in I hp fun x H1 A s1 r1 c1=>go x H1 A s1 r1 c1 _ fun y H2 B s2 r2=>.inr (.inr ?_))
   exact ⟨_,_,ch,r1.S.1,r2.I.1,by rw [sizeLine_eq];omega,hc,k _ H2 [] (s1.trans s2) (by rw [ez];exact .mkS _) (Cat.nil _ _ _)⟩
 ·refine .inr (.in I hp fun x H1 A s1 r1 c1=>go x H1 A s1 r1 c1 _ fun y H2 B s2 r2=>?_)
  obtain ⟨ad,xs,B1,e1,h1,hl,rfl,g1⟩:=(Rp.same s2 _ r1).D
  obtain ⟨v,C,h3,h4,h5⟩:=zip_get g1 e
  exact ⟨ad,v,e1,by rw [r2.I.1,← h3];exact DGet.k (k:=Sum.inl _) h1,k v H2 C (s1.trans s2) h4 (Cat.sub c1 (h5.trans (List.sublist_cons_self _ _)))⟩
 ·refine .inr (.in I hp fun x H1 A s1 r1 c1=>go x H1 A s1 r1 c1 _ fun y H2 B s2 r2=>?_)
  obtain ⟨ad,xs,B1,e1,h1,hl,rfl,g1⟩:=(Rp.same s2 _ r1).D
  obtain ⟨v,C,h3,h4,h5⟩:=zip_get g1 e
  exact ⟨ad,v,e1,by rw [r2.S.1,← h3];exact DGet.k (k:=Sum.inr _) h1,k v H2 C (s1.trans s2) h4 (Cat.sub c1 (h5.trans (List.sublist_cons_self _ _)))⟩
 ·cases e
noncomputable def CallV(K:PySem.W.Frag)(r:List V->Hp->VK->Prop)(gg:List PV->Option PV):Prop:=∀ (H:Hp) (ps:List PV) (vs:List V) (A:List Addr) (z:PV) (Q:VK),Rps K H ps vs A->gg ps=some z->
 (∀ v H' C,Same H H'->Rp K H' z v C->C.Nodup->(∀ a ∈ C,H a=none)->Q v H')->r vs H Q
theorem tCB_of{K:PySem.W.Frag}{r:List V->Hp->VK->Prop}{gg:List PV->Option PV}(hv:CallV K r gg)(σ:St)(H:Hp)(Q:VK)(h:tV K κ G (.mv []) (fCall gg fs) σ H Q):tCB r (tVA K κ G c fs) σ H Q:=by
 obtain ⟨own,env,z,I,hf,k⟩:=h
 unfold fCall at hf
 replace hf:=Option.bind_eq_some_iff.mp hf;obtain ⟨qs,hp,hf⟩:=hf
 exact (.in I hp fun vs H1 A s1 r1 _=>hv H1 qs vs A z Q r1 hf fun v H' C s2 r2 nd fr=>k v H' C (s1.trans s2) r2 ⟨nd,fun a ha=>.inl (s1.free (fr a ha))⟩)
theorem ve_callB{x:Str}{p:Pos}{id:String}{r:List V->Hp->VK->Prop}{gg:List PV->Option PV}(hv:CallV X.K r gg)(hc:CallR X (.builtin id) r)(hg:Gl X x)(hm:X.mg x=none)(hb:bootBuiltins x=some (.builtin id))(ha:VA X κ G c (e::es) fs)(hn:x≠"__name__":=by decide)(hdb:(x == ("__debug__":Str))=false:=by decide)
  (he:starEach (e::es) X.env=(false,eval e X.env)::starEach es X.env:=by rfl)(hpl:(backTo pos (starEach es X.env)).any (·.1)=false:=by rfl):VE X κ G (.mv []) (.Call (.Name x p) (e::es) [] pos) (fCall gg fs):=(pe_callB hc hg hm hb ha.1 hn hdb he hpl).imp (tCB_of hv)
theorem ve_callTy(hv:CallV X.K r gg)(hc:CallR X (.type T) r)(hg:Gl X x)(hm:X.mg x=none)(hb:bootBuiltins x=some (.type T))(ha:VA X κ G c (e::es) fs)(hn:x≠"__name__":=by decide)(hdb:(x == ("__debug__":Str))=false:=by decide)
  (he:starEach (e::es) X.env=(false,eval e X.env)::starEach es X.env:=by rfl)(hpl:(backTo pos (starEach es X.env)).any (·.1)=false:=by rfl):VE X κ G (.mv []) (.Call (.Name x p) (e::es) [] pos) (fCall gg fs):=(pe_callTy hc hg hm hb ha.1 hn hdb he hpl).imp (tCB_of hv)
noncomputable def vLen:List PV->Option PV
 | [.lst xs]=>some (.int xs.length)
 | [.fls xs]=>some (.int xs.length)
 | [.tup xs]=>some (.int xs.length)
 | [.dct ks _]=>some (.int ks.length)
 | [.str z]=>if z.length≤100000 then some (.int z.length) else none
 | _=>none
theorem cr_len:CallR X (.builtin "len") (fun xs H Q=>(∃ p ys,xs=[.ref p]/\(SqL X.K H p ys∨SqT X.K H p ys)/\Q (.int ys.length) H)∨((∃ a kvs,xs=[V.ref a]/\H a=some (.dK kvs)/\Q (.int kvs.length) H)∨∃ z,xs=[.str z]/\z.length≤sizeLine/\Q (.int z.length) H)):=call_len_seq.or (call_lenD.or call_len_str)
theorem one_of{K:PySem.W.Frag}{H:Hp}{p:PV}{vs:List V}{A:List Addr}(r:Rps K H [p] vs A):∃ v,vs=[v]/\Rp K H p v A:=by
 obtain ⟨v,r',A1,A2,h1,h2,h3,h4⟩:=r.inv
 obtain ⟨h5,h6⟩:=h4.inv0
 exact ⟨v,by rw [h1,h5],by rw [h2,h6,List.append_nil];exact h3⟩
theorem two_of{K:PySem.W.Frag}{H:Hp}{p q:PV}{vs:List V}{A:List Addr}(r:Rps K H [p,q] vs A):∃ v w A1 A2,vs=[v,w]/\A=A1++A2/\Rp K H p v A1/\Rp K H q w A2:=by
 obtain ⟨v,r',A1,A2,h1,h2,h3,h4⟩:=r.inv
 obtain ⟨w,h5,h6⟩:=one_of h4
 exact ⟨v,w,A1,A2,by rw [h1,h5],h2,h3,h6⟩
theorem cv_len{K:PySem.W.Frag}:CallV K (fun xs H Q=>(∃ p ys,xs=[.ref p]/\(SqL K H p ys∨SqT K H p ys)/\Q (.int ys.length) H)∨((∃ a kvs,xs=[V.ref a]/\H a=some (.dK kvs)/\Q (.int kvs.length) H)∨∃ z,xs=[.str z]/\z.length≤sizeLine/\Q (.int z.length) H)) vLen:=by
 intro H ps vs A z Q r e k
 have fin:∀ n:Int,z=.int n->Q (.int n) H:=fun n e=>k _ H [] (Same.refl _) (by rw [e];exact .mkI n) .nil (by simp)
 unfold vLen at e
 split at e
 ·rename_i xs
  obtain ⟨v,rfl,rr⟩:=one_of r
  obtain ⟨a,ys,B,e1,h1,_,g⟩:=rr.L
  exact .inl ⟨a,ys,by rw [e1],.inl (SqL.of h1),fin _ (by rw [← g.length];exact (Option.some.inj e).symm)⟩
 ·rename_i xs
  obtain ⟨v,rfl,rr⟩:=one_of r
  obtain ⟨a,ys,e1,h1,g⟩:=rr.Fl
  exact .inl ⟨a,ys,by rw [e1],.inl h1.seq,fin _ (by rw [← g.length];exact (Option.some.inj e).symm)⟩
 ·rename_i xs
  obtain ⟨v,rfl,rr⟩:=one_of r
  obtain ⟨a,ys,e1,h1,g⟩:=rr.T
  exact .inl ⟨a,ys,by rw [e1],.inr h1,fin _ (by rw [← g.length];exact (Option.some.inj e).symm)⟩
 ·rename_i ks xs
  obtain ⟨v,rfl,rr⟩:=one_of r
  obtain ⟨a,ys,B,e1,h1,hl,_,g⟩:=rr.D
  refine .inr (.inl ⟨a,_,by rw [e1],h1,fin _ ?_⟩)
  rw [List.length_zip,← g.length,← hl,Nat.min_self]
  exact (Option.some.inj e).symm
 ·rename_i y
  obtain ⟨v,rfl,rr⟩:=one_of r
  split at e
  ·rename_i hl
   exact .inr (.inr ⟨y,by rw [rr.S.1],by rw [sizeLine_eq];omega,fin _ (Option.some.inj e).symm⟩)
  ·cases e
 ·cases e
noncomputable def vList:List PV->Option PV
 | [.lst xs]=>if isDatas xs=true then some (.lst xs) else none
 | [.fls xs]=>if isDatas xs=true then some (.lst xs) else none
 | [.tup xs]=>if isDatas xs=true then some (.lst xs) else none
 | [.dct ks _]=>some (.lst (ks.map fun k=>match k with | .inl i=>.int i | .inr x=>.str x))
 | _=>none
noncomputable def vTuple:List PV->Option PV
 | [.lst xs]=>if isDatas xs=true then some (.tup xs) else none
 | [.fls xs]=>if isDatas xs=true then some (.tup xs) else none
 | [.tup xs]=>if isDatas xs=true then some (.tup xs) else none
 | _=>none
theorem keys_rps{K:PySem.W.Frag}{H:Hp}:∀ (ks:List Key),Rps K H (ks.map fun k=>match k with | .inl i=>.int i | .inr x=>.str x) (ks.map kV) []
 | []=>.nil
 | .inl i::ks=>by
  have:=Rps.cons (K:=K) (H:=H) (.mkI i) (keys_rps ks)
  exact this
 | .inr x::ks=>by
  have:=Rps.cons (K:=K) (H:=H) (.mkS x) (keys_rps ks)
  exact this
theorem cr_list(hc:X.calm=true):CallR X (.type "list") (fun xs H Q=>(∃ p ys,xs=[.ref p]/\(SqL X.K H p ys∨SqT X.K H p ys)/\∀ l,H l=none->Q (.ref l) (upd H l (.lst ys)))∨∃ p kvs,xs=[.ref p]/\H p=some (.dK kvs)/\∀ l,H l=none->Q (.ref l) (upd H l (.lst (kvs.map fun kv=>kV kv.1)))):=call_list_of.or (call_list_dict hc)
theorem cv_list{K:PySem.W.Frag}:CallV K (fun xs H Q=>(∃ p ys,xs=[.ref p]/\(SqL K H p ys∨SqT K H p ys)/\∀ l,H l=none->Q (.ref l) (upd H l (.lst ys)))∨∃ p kvs,xs=[.ref p]/\H p=some (.dK kvs)/\∀ l,H l=none->Q (.ref l) (upd H l (.lst (kvs.map fun kv=>kV kv.1)))) vList:=by
 intro H ps vs A z Q r e k
 unfold vList at e
 split at e
 ·rename_i xs
  obtain ⟨v,rfl,rr⟩:=one_of r
  split at e
  ·rename_i hd;cases e
   obtain ⟨a,ys,B,e1,h1,_,g⟩:=rr.L
   exact .inl ⟨a,ys,by rw [e1],.inl (SqL.of h1),new_lst hd g k (z:=.non)⟩
  ·cases e
 ·rename_i xs
  obtain ⟨v,rfl,rr⟩:=one_of r
  split at e
  ·rename_i hd;cases e
   obtain ⟨a,ys,e1,h1,g⟩:=rr.Fl
   exact .inl ⟨a,ys,by rw [e1],.inl h1.seq,new_lst hd g k (z:=.non)⟩
  ·cases e
 ·rename_i xs
  obtain ⟨v,rfl,rr⟩:=one_of r
  split at e
  ·rename_i hd;cases e
   obtain ⟨a,ys,e1,h1,g⟩:=rr.T
   exact .inl ⟨a,ys,by rw [e1],.inr h1,new_lst hd g k (z:=.non)⟩
  ·cases e
 ·rename_i ks xs
  obtain ⟨v,rfl,rr⟩:=one_of r
  obtain ⟨a,ys,B,e1,h1,hl,_,g⟩:=rr.D
  cases e
  refine .inr ⟨a,_,by rw [e1],h1,?_⟩
  have e2:(ks.zip ys).map (fun kv=>kV kv.1)=ks.map kV:=by
   have:(ks.zip ys).map (fun kv=>kV kv.1)=((ks.zip ys).map Prod.fst).map kV:=by rw [List.map_map];rfl
   rw [this,List.map_fst_zip (by rw [← g.length,hl];exact Nat.le_refl _)]
  rw [e2]
  exact new_lst (isDatas_map _ (fun k=>by cases k<;>rfl) ks) (keys_rps ks) k (z:=.non)
 ·cases e
theorem cv_tuple{K:PySem.W.Frag}:CallV K (fun xs H Q=>∃ p ys,xs=[.ref p]/\((SqL K H p ys/\∀ l,H l=none->Q (.ref l) (upd H l (.tup ys)))∨(SqT K H p ys/\Q (.ref p) H))) vTuple:=by
 intro H ps vs A z Q r e k
 unfold vTuple at e
 split at e
 ·rename_i xs
  obtain ⟨v,rfl,rr⟩:=one_of r
  split at e
  ·rename_i hd;cases e
   obtain ⟨a,ys,B,e1,h1,_,g⟩:=rr.L
   exact ⟨a,ys,by rw [e1],.inl ⟨SqL.of h1,new_tup hd g k (z:=.non)⟩⟩
  ·cases e
 ·rename_i xs
  obtain ⟨v,rfl,rr⟩:=one_of r
  split at e
  ·rename_i hd;cases e
   obtain ⟨a,ys,e1,h1,g⟩:=rr.Fl
   exact ⟨a,ys,by rw [e1],.inl ⟨h1.seq,new_tup hd g k (z:=.non)⟩⟩
  ·cases e
 ·rename_i xs
  obtain ⟨v,rfl,rr⟩:=one_of r
  split at e
  ·rename_i hd;cases e
   obtain ⟨a,ys,e1,h1,g⟩:=rr.T
   have:=Rps.data xs hd g
   subst this
   exact ⟨a,ys,by rw [e1],.inr ⟨h1,k _ H [] (Same.refl _) (.mkT h1 g) .nil (by simp)⟩⟩
  ·cases e
 ·cases e
noncomputable def vInt:List PV->Option PV
 | [.int i]=>some (.int i)
 | [.bl b]=>some (.int (if b then 1 else 0))
 | _=>none
noncomputable def cutP(xs:List PV)(lo hi:Option Int):List PV:=(xs.drop (HT.sIx xs.length 0 lo)).take (HT.sIx xs.length xs.length hi - HT.sIx xs.length 0 lo)
noncomputable def vSl:PV->Option Int->Option Int->Option PV
 | .lst xs,lo,hi=>if isDatas xs=true then some (.lst (cutP xs lo hi)) else none
 | .fls xs,lo,hi=>if isDatas xs=true then some (.lst (cutP xs lo hi)) else none
 | .tup xs,lo,hi=>if isDatas xs=true then some (.tup (cutP xs lo hi)) else none
 | _,_,_=>none
noncomputable abbrev FO:=En->Option (Option Int)
noncomputable def fNoPart:FO:=fun _=>some none
noncomputable def fPart(f:FE):FO:=fun env=>(f env).bind fun p=>match p with | .int i=>some (some i) | _=>none
noncomputable def tVO(K:PySem.W.Frag)(κ:Nat->Option Nat)(G:Hp)(f:FO):TO:=fun σ H Q=>∃ own env o,VI K κ G own env σ H/\f env=some o/\∀ H',Same H H'->Q o H'
theorem tVO.in{K:PySem.W.Frag}{κ:Nat->Option Nat}{G:Hp}{f:FO}{σ:St}{H:Hp}{Q:Option Int->Hp->Prop}{own:Addr->Option Nat}{env:En}{p:Option Int}(I:VI K κ G own env σ H)(hf:f env=some p)(k:∀ H',Same H H'->Q p H'):tVO K κ G f σ H Q:=⟨own,env,p,I,hf,k⟩
theorem tVO.elim{K:PySem.W.Frag}{κ:Nat->Option Nat}{G:Hp}{f:FO}{σ:St}{H:Hp}{Q:Option Int->Hp->Prop}{C:Prop}(h:tVO K κ G f σ H Q)(k:∀ own env (p:Option Int),VI K κ G own env σ H->f env=some p->(∀ H',Same H H'->Q p H')->C):C:=
 let ⟨own,env,p,I,hf,q⟩:=h
 k own env p I hf q
noncomputable def VO(X:Cx)(κ:Nat->Option Nat)(G:Hp)(e:Option Expr)(f:FO):Prop:=PO X e (tVO X.K κ G f)
theorem vo_none:VO X κ G none fNoPart:=fun pins s σ H Q I ⟨own,env,o,I',e,k⟩=>by
 cases e
 exact po_none pins s σ H Q I (k H (Same.refl _))
theorem vo_some(h:VE X κ G c e f):VO X κ G (some e) (fPart f):=fun pins s σ H Q I ⟨own,env,o,I',hf,k⟩=>by
 refine po_some h pins s σ H Q I ?_
 unfold fPart at hf
 replace hf:=Option.bind_eq_some_iff.mp hf;obtain ⟨p,hp,hf⟩:=hf
 refine (.in I' hp fun v H' A s r _=>?_)
 cases p<;>first | (cases hf;done) | skip
 cases hf
 exact ⟨_,r.I.1,k H' s⟩
theorem Rps.take_{K:PySem.W.Frag}{H:Hp}:∀ {ps:List PV} {xs:List V} (n:Nat),Rps K H ps xs []->Rps K H (ps.take n) (xs.take n) []
 | _,_,0,_=>by simpa using Rps.nil
 | [],_,n+1,r=>by rw [r.inv0.1];simpa using Rps.nil
 | p::ps,_,n+1,r=>by
  obtain ⟨v,r',A1,A2,rfl,h2,h3,h4⟩:=r.inv
  obtain ⟨rfl,rfl⟩:=List.append_eq_nil_iff.mp h2.symm
  exact Rps.cons h3 (Rps.take_ n h4)
theorem Rps.drop_{K:PySem.W.Frag}{H:Hp}:∀ {ps:List PV} {xs:List V} (n:Nat),Rps K H ps xs []->Rps K H (ps.drop n) (xs.drop n) []
 | _,_,0,r=>r
 | [],_,n+1,r=>by rw [r.inv0.1];simpa using Rps.nil
 | p::ps,_,n+1,r=>by
  obtain ⟨v,r',A1,A2,rfl,h2,h3,h4⟩:=r.inv
  obtain ⟨rfl,rfl⟩:=List.append_eq_nil_iff.mp h2.symm
  exact Rps.drop_ n h4
theorem Rps.cut{K:PySem.W.Frag}{H:Hp}{ps:List PV}{xs:List V}{lo hi:Option Int}(r:Rps K H ps xs []):Rps K H (cutP ps lo hi) (cutV xs lo hi) []:=by
 unfold cutP cutV
 rw [r.length]
 exact Rps.take_ _ (Rps.drop_ _ r)
theorem isDatas_sub(h:isDatas xs=true)(s:∀ y ∈ ys,y ∈ xs):isDatas ys=true:=by
 rw [isDatas_iff] at h ⊢
 exact fun y hy=>h y (s y hy)
theorem cutP_mem{xs:List PV}{lo hi:Option Int}:∀ y ∈ cutP xs lo hi,y ∈ xs:=fun y hy=>List.mem_of_mem_drop (List.mem_of_mem_take hy)
noncomputable def fSl(f:FE)(l h:FO):FE:=fun env=>(f env).bind fun p=>(l env).bind fun lo=>(h env).bind fun hi=>vSl p lo hi
theorem ve_slice{lo hi:Option Expr}{fl fh:FO}{p2:Pos}(he:VE X κ G c e f)(hl:VO X κ G lo fl)(hh:VO X κ G hi fh):VE X κ G (.mv []) (.Subscript e (.Slice lo hi none p2) pos) (fSl f fl fh):=
 (pe_slice (sl_list.or sl_tupA) he hl hh).imp fun σ H Q hq_=>by
 refine hq_.elim fun own env z I e k=>?_
 unfold fSl at e
 replace e:=Option.bind_eq_some_iff.mp e;obtain ⟨p,hp,e⟩:=e
 replace e:=Option.bind_eq_some_iff.mp e;obtain ⟨l,h1,e⟩:=e
 replace e:=Option.bind_eq_some_iff.mp e;obtain ⟨u,h2,e⟩:=e
 refine (.in I hp fun x H1 A s1 r1 _=>(.in (I.grow s1) h1 fun H2 s2=>(.in (I.grow (s1.trans s2)) h2 fun H3 s3=>?_)))
 have sA:=s1.trans (s2.trans s3)
 have k':∀ v H' C,Same H3 H'->Rp X.K H' z v C->C.Nodup->(∀ a ∈ C,H3 a=none)->Q v H':=fun v H' C s r nd fr=>k v H' C (sA.trans s) r ⟨nd,fun a ha=>.inl (sA.free (fr a ha))⟩
 have r3:=Rp.same (s2.trans s3) p r1
 unfold vSl at e
 split at e
 ·split at e
  case isFalse=>cases e
  rename_i hd
  cases e
  obtain ⟨a,xs,B1,e1,g0,_,g1⟩:=r3.L
  have:=Rps.data _ hd g1
  subst this
  exact .inl ⟨a,xs,e1,SqL.of g0,new_lst (isDatas_sub hd cutP_mem) g1.cut k' (z:=.non)⟩
 ·split at e
  case isFalse=>cases e
  rename_i hd
  cases e
  obtain ⟨a,xs,e1,g0,g1⟩:=r3.Fl
  have:=Rps.data _ hd g1
  subst this
  exact .inl ⟨a,xs,e1,g0.seq,new_lst (isDatas_sub hd cutP_mem) g1.cut k' (z:=.non)⟩
 ·split at e
  case isFalse=>cases e
  rename_i hd
  cases e
  obtain ⟨a,xs,e1,g0,g1⟩:=r3.T
  have:=Rps.data _ hd g1
  subst this
  refine .inr ⟨a,xs,e1,g0,fun hw=>?_,new_tup (isDatas_sub hd cutP_mem) g1.cut k' (z:=.non)⟩
  have gc:=g1.cut (lo:=l) (hi:=u)
  rw [hw] at gc
  exact k' _ H3 [] (Same.refl _) (.mkT g0 gc) .nil (by simp)
 ·cases e
end
end F
namespace F
open PySem PySem.Spec PyProof.Rows L2
section
variable {X:Cx} {κ:Nat->Option Nat} {G:Hp} {c c1 c2:Cat} {a b e:Expr} {es:List Expr} {fa fb f:FE} {t u:FT} {fs:FA} {pos:Pos} {g h:FS} {st:Stmt} {rest:List Stmt} {O:List Nat}
theorem fVar_some{env:En}(hf:fVar i env=some p):env[i]?=some (some p):=by
 unfold fVar at hf
 cases q:env[i]? with
 | none=>rw [q] at hf;cases hf
 | some z=>
  rw [q] at hf;have:z=some p:=by simpa using hf
  rw [this]
theorem set_same{σ:St}(h:σ[i]?=some (some v)):σ.set i (some v)=σ:=by
 apply List.ext_getElem?
 intro j
 rw [List.getElem?_set]
 by_cases hij:i=j
 ·subst hij
  rw [if_pos rfl,if_pos (List.getElem?_eq_some_iff.mp h).1,h]
 ·rw [if_neg hij]
theorem VI.turn{K:PySem.W.Frag}{own:Addr->Option Nat}{env:En}{σ:St}{H0 H1:Hp}{i:Nat}{p:PV}{a:Addr}{o:HO}{B:List Addr}(hi:i ∈ O)(I:VI K (ko O) G own env σ H0)(s:Same H0 H1)(hσ:σ[i]?=some (some (.ref a)))(ho:own a=some i)
  (hm:MutH H0 a)(r:Rp K (upd H1 a o) p (.ref a) (a::B))(nd:(a::B).Nodup)(hB:∀ b ∈ B,own b=some i∨H0 b=none):
  VI K (ko O) G (acq own i (a::B)) (env.set i (some p)) σ (upd H1 a o)/\Ext own H0 (acq own i (a::B)) (upd H1 a o):=by
 have:=I.take (H2:=upd H1 a o) (v:=.ref a) hi (fun j q w C hj _ z hC=>Rp.upd (hm.same s) q (fun z'=>hC a z' ho) (Rp.same s q z)) (fun b u hb z=>by
  rw [upd_ne (by rintro rfl;exact hb ho)];exact s b u z) r nd (fun b hb=>(List.mem_cons.mp hb).elim (fun z=>.inl (z ▸ ho)) (hB b))
 rw [set_same hσ] at this
 exact this
noncomputable def fAppend(i:Nat)(f:FE):FS:=fun env=>(fVar i env).bind fun l=>(f env).bind fun q=>match l with | .lst ps=>if ps.length<100000 then some (.nx (env.set i (some (.lst (ps++[q]))))) else none | _=>none
theorem bm_own{K:PySem.W.Frag}{own:Addr->Option Nat}{env:En}{σ:St}{H:Hp}{i:Nat}{ps:List PV}(hi:i ∈ O)(I:VI K (ko O) G own env σ H)(hf:fVar i env=some (.lst ps)):
  ∃ a xs B,σ[i]?=some (some (.ref a))/\H a=some (.lst xs)/\Rps K H ps xs B/\(a::B).Nodup/\own a=some i/\∀ b ∈ B,own b=some i:=by
 obtain ⟨v,A,h1,h2,_,h3⟩:=I.slot i _ (fVar_some hf)
 obtain ⟨nd,ho⟩:=h3 i (ko_in hi)
 obtain ⟨a,xs,B,rfl,h4,rfl,h5⟩:=h2.L
 exact ⟨a,xs,B,h1,h4,h5,nd,ho a List.mem_cons_self,fun b hb=>ho b (List.mem_cons_of_mem _ hb)⟩
theorem vs_append(i:Nat)(hi:i ∈ O)(hp:PS X st (tDrop (tBM X.K "list" rAppend (tVar i) (tCons (tV X.K (ko O) G (.mv []) f) tNil)))):VS X (ko O) G st (fAppend i f):=hp.imp fun D σ H hq_=>by
 refine hq_.elim fun own env o I hf k=>?_
 unfold fAppend at hf
 replace hf:=Option.bind_eq_some_iff.mp hf;obtain ⟨l,hl,hf⟩:=hf
 replace hf:=Option.bind_eq_some_iff.mp hf;obtain ⟨q,hq,hf⟩:=hf
 cases l<;>first | (cases hf;done) | skip
 rename_i ps
 dsimp only at hf
 split at hf
 case isFalse=>cases hf
 rename_i hlen
 cases hf
 obtain ⟨a,xs,B,hσ,ha,hr,nd,ho,hB⟩:=bm_own hi I hl
 refine ⟨.ref a,hσ,.inl ⟨rfl,xs,SqL.of ha⟩,.in I hq fun y H1 C s1 r1 c1=>⟨a,xs,y,rfl,rfl,s1 _ _ ha,by rw [← hr.length,sizeLine_eq];omega,?_⟩⟩
 have fr:∀ b ∈ C,H b=none:=fun b hb=>(c1.2 b hb).elim id fun ⟨_,z,_⟩=>nomatch z
 have nC:a ∉ C:=fun z=>by rw [fr a z] at ha;cases ha
 have nB:a ∉ B:=(List.nodup_cons.mp nd).1
 have m1:MutH H1 a:=.inl ⟨xs,s1 _ _ ha⟩
 have hnd:(a::(B++C)).Nodup:=by
  rw [← List.cons_append]
  refine List.nodup_append.mpr ⟨nd,c1.1,fun x hx y' hy' hxy=>?_⟩
  subst hxy
  have hn:=fr x hy'
  rcases List.mem_cons.mp hx with rfl | hx
  ·exact nC hy'
  ·obtain ⟨o,ho⟩:=(Rps.mut ps hr x hx).some
   rw [hn] at ho;cases ho
 have hBC:∀ b ∈ B++C,own b=some i∨H b=none:=by
  intro b hb
  rcases List.mem_append.mp hb with hb | hb
  ·exact .inl (hB b hb)
  ·exact .inr (fr b hb)
 obtain ⟨h1,h2⟩:=I.turn (p:=.lst (ps++[q])) (o:=.lst (xs++[y])) (B:=B++C) hi s1 hσ ho (.inl ⟨xs,ha⟩)
  (.mkL upd_same ((Rps.upd m1 ps nB (Rps.same s1 ps hr)).append (Rps.one (Rp.upd m1 q nC r1)))) hnd hBC
 exact k _ _ _ h1 h2
noncomputable def fPop(k i:Nat):FS:=fun env=>(fVar i env).bind fun l=>match l with | .lst ps=>(ps.getLast?).bind fun q=>if isDatas ps=true then some (.nx ((env.set i (some (.lst ps.dropLast))).set k (some q))) else none | _=>none
theorem Rps.dropLast{K:PySem.W.Frag}{H:Hp}:∀ {ps:List PV} {xs:List V},Rps K H ps xs []->Rps K H ps.dropLast xs.dropLast []
 | [],_,r=>by rw [r.inv0.1];exact .nil
 | [p],_,r=>by
  obtain ⟨v,h1,_⟩:=one_of r
  rw [h1];exact .nil
 | p::q::ps,_,r=>by
  obtain ⟨v,r',A1,A2,rfl,h2,h3,h4⟩:=r.inv
  obtain ⟨rfl,rfl⟩:=List.append_eq_nil_iff.mp h2.symm
  obtain ⟨w,r'',_,_,rfl,_,_,_⟩:=id h4.inv
  exact Rps.cons h3 (Rps.dropLast h4)
theorem vs_pop(k i:Nat)(hi:i ∈ O)(hk:k ∉ O)(hp:PS X st (tAsg (tBM0 X.K "list" rPop (tVar i)) (gName k))):VS X (ko O) G st (fPop k i):=hp.imp fun D σ H hq_=>by
 refine hq_.elim fun own env o I hf kk=>?_
 unfold fPop at hf
 replace hf:=Option.bind_eq_some_iff.mp hf;obtain ⟨l,hl,hf⟩:=hf
 cases l<;>first | (cases hf;done) | skip
 rename_i ps
 dsimp only at hf
 replace hf:=Option.bind_eq_some_iff.mp hf;obtain ⟨q,hq,hf⟩:=hf
 split at hf
 case isFalse=>cases hf
 rename_i hd
 cases hf
 obtain ⟨a,xs,B,hσ,ha,hr,nd,ho,hB⟩:=bm_own hi I hl
 have eB:=Rps.data ps hd hr
 subst eB
 have hq':ps[xs.length - 1]?=some q:=by rw [← hr.length,← hq,List.getLast?_eq_getElem?]
 obtain ⟨y,C,hy,r1,hC⟩:=hr.get hq'
 have eC:C=[]:=List.sublist_nil.mp hC
 subst eC
 have m1:MutH H a:=.inl ⟨xs,ha⟩
 refine ⟨.ref a,hσ,.inl ⟨rfl,xs,SqL.of ha⟩,a,xs,y,rfl,rfl,ha,hy,?_⟩
 obtain ⟨h1,h2⟩:=I.turn (p:=.lst ps.dropLast) (o:=.lst xs.dropLast) (B:=[]) hi (Same.refl _) hσ ho m1 (.mkL upd_same (Rps.upd m1 _ (by simp) hr.dropLast)) (by simp) (by simp)
 exact kk _ _ _ (h1.set_sh (ko_out hk) (Rp.upd m1 q (by simp) r1) (by simp)) h2
theorem Rps.reverse{K:PySem.W.Frag}{H:Hp}:∀ {ps:List PV} {xs:List V},Rps K H ps xs []->Rps K H ps.reverse xs.reverse []
 | [],_,r=>by rw [r.inv0.1];exact .nil
 | p::ps,_,r=>by
  obtain ⟨v,r',A1,A2,rfl,h2,h3,h4⟩:=r.inv
  obtain ⟨rfl,rfl⟩:=List.append_eq_nil_iff.mp h2.symm
  rw [List.reverse_cons,List.reverse_cons]
  exact (Rps.reverse h4).append (Rps.one h3)
noncomputable def dPut{α:Type}(ks:List Key)(vs:List α)(k:Key)(p:α):List Key × List α:=if hasK ks k=true then (ks,List.zipWith (fun k' v=>if k'=k then p else v) ks vs) else (ks++[k],vs++[p])
theorem dPut_zip{ks:List Key}{xs:List V}(hl:ks.length=xs.length)(k:Key)(v:V):putK (ks.zip xs) k v=(dPut ks xs k v).1.zip (dPut ks xs k v).2:=by
 have h:=zip_val hl k
 rw [← valV_any] at h
 unfold putK dPut
 by_cases hk:hasK ks k=true
 ·rw [if_pos hk,h,hk,if_pos rfl]
  clear h hk
  induction ks generalizing xs with
  | nil=>simp
  | cons k' ks ih=>
   cases xs with
   | nil=>simp at hl
   | cons x xs=>
    simp only [List.zip_cons_cons,List.map_cons,List.zipWith_cons_cons]
    rw [ih (by simpa using hl)]
    by_cases e:k'=k<;>simp [e]
 ·rw [if_neg hk,h,if_neg hk]
  show ks.zip xs++[(k,v)]=(ks++[k]).zip (xs++[v])
  rw [List.zip_append hl]
  rfl
theorem dPut_len{α:Type}{ks:List Key}{vs:List α}(hl:ks.length=vs.length)(k:Key)(p:α):(dPut ks vs k p).1.length=(dPut ks vs k p).2.length:=by
 unfold dPut
 split
 ·simp [hl]
 ·simp [hl]
theorem dPut_keys{α β:Type}{ks:List Key}{vs:List α}{ws:List β}(k:Key)(p:α)(q:β):(dPut ks vs k p).1=(dPut ks ws k q).1:=by
 unfold dPut
 split<;>rfl
theorem dPut_rps{K:PySem.W.Frag}{H:Hp}{ks:List Key}{k:Key}{p:PV}{v:V}(rp:Rp K H p v []):∀ {ps:List PV} {xs:List V},Rps K H ps xs []->Rps K H (dPut ks ps k p).2 (dPut ks xs k v).2 []:=by
 intro ps xs r
 unfold dPut
 split
 ·rename_i hk
  clear hk
  induction ks generalizing ps xs with
  | nil=>exact .nil
  | cons k' ks ih=>
   cases ps with
   | nil=>rw [r.inv0.1];exact .nil
   | cons q ps=>
    obtain ⟨w,r',A1,A2,rfl,h2,h3,h4⟩:=r.inv
    obtain ⟨rfl,rfl⟩:=List.append_eq_nil_iff.mp h2.symm
    simp only [List.zipWith_cons_cons]
    by_cases e:k'=k
    ·rw [if_pos e,if_pos e];exact Rps.cons rp (ih h4)
    ·rw [if_neg e,if_neg e];exact Rps.cons h3 (ih h4)
 ·exact r.append (Rps.one rp)
noncomputable def vSetI(l:PV)(k q:PV):Option PV:=match l,k with
 | .lst ps,.int i=>if (isDatas ps && isData q)=true then (ixN ps.length i).map fun j=>.lst (ps.set j q) else none
 | .dct ks vs,.int i=>if (isDatas vs && isData q && decide (ks.length<100000))=true then some (.dct (dPut ks vs (.inl i) q).1 (dPut ks vs (.inl i) q).2) else none
 | .dct ks vs,.str x=>if (isDatas vs && isData q && decide (ks.length<100000))=true then some (.dct (dPut ks vs (.inr x) q).1 (dPut ks vs (.inr x) q).2) else none
 | _,_=>none
noncomputable def fSetI(i:Nat)(fk f:FE):FS:=fun env=>(f env).bind fun q=>(fVar i env).bind fun l=>(fk env).bind fun k=>(vSetI l k q).map fun l'=>.nx (env.set i (some l'))
theorem Rps.set_{K:PySem.W.Frag}{H:Hp}{q:PV}{y:V}(rq:Rp K H q y []):∀ {ps:List PV} {xs:List V} (j:Nat),Rps K H ps xs []->Rps K H (ps.set j q) (xs.set j y) []
 | [],_,_,r=>by rw [r.inv0.1];exact .nil
 | p::ps,_,0,r=>by
  obtain ⟨v,r',A1,A2,rfl,h2,h3,h4⟩:=r.inv
  obtain ⟨rfl,rfl⟩:=List.append_eq_nil_iff.mp h2.symm
  exact Rps.cons rq h4
 | p::ps,_,j+1,r=>by
  obtain ⟨v,r',A1,A2,rfl,h2,h3,h4⟩:=r.inv
  obtain ⟨rfl,rfl⟩:=List.append_eq_nil_iff.mp h2.symm
  exact Rps.cons h3 (Rps.set_ rq j h4)
theorem bd_own{K:PySem.W.Frag}{own:Addr->Option Nat}{env:En}{σ:St}{H:Hp}{i:Nat}{ks:List Key}{ps:List PV}(hi:i ∈ O)(I:VI K (ko O) G own env σ H)(hf:fVar i env=some (.dct ks ps)):
  ∃ a xs B,σ[i]?=some (some (.ref a))/\H a=some (.dK (ks.zip xs))/\ks.length=ps.length/\Rps K H ps xs B/\(a::B).Nodup/\own a=some i/\∀ b ∈ B,own b=some i:=by
 obtain ⟨v,A,h1,h2,_,h3⟩:=I.slot i _ (fVar_some hf)
 obtain ⟨nd,ho⟩:=h3 i (ko_in hi)
 obtain ⟨a,xs,B,rfl,h4,hl,rfl,h5⟩:=h2.D
 exact ⟨a,xs,B,h1,h4,hl,h5,nd,ho a List.mem_cons_self,fun b hb=>ho b (List.mem_cons_of_mem _ hb)⟩
theorem vs_seti(i:Nat)(hi:i ∈ O){fk:FE}(hp:PS X st (tAsg (tV X.K (ko O) G c f) (gSub (tVar i) (tV X.K (ko O) G c2 fk) rSetL)))(hd:PS X st (sDPut (tVar i) (tV X.K (ko O) G c2 fk) (tV X.K (ko O) G c f))):VS X (ko O) G st (fSetI i fk f):=(hp.or hd).imp fun D σ H hq_=>by
 refine hq_.elim fun own env o I hf k=>?_
 unfold fSetI at hf
 replace hf:=Option.bind_eq_some_iff.mp hf;obtain ⟨q,hq,hf⟩:=hf
 replace hf:=Option.bind_eq_some_iff.mp hf;obtain ⟨l,hl,hf⟩:=hf
 replace hf:=Option.bind_eq_some_iff.mp hf;obtain ⟨kk,hk,hf⟩:=hf
 cases hv:vSetI l kk q with
 | none=>rw [hv] at hf;cases hf
 | some l'=>
  rw [hv] at hf;cases hf
  unfold vSetI at hv
  have dput:∀ (ks:List Key) (ps:List PV) (key:Key),l=.dct ks ps->(∀ (H2:Hp) (y:V) (B:List Addr),Rp X.K H2 kk y B->y=kV key)->(isDatas ps && isData q && decide (ks.length<100000))=true->l'=.dct (dPut ks ps key q).1 (dPut ks ps key q).2->sDPut (tVar i) (tV X.K (ko O) G c2 fk) (tV X.K (ko O) G c f) D σ H:=by
   rintro ks ps key rfl hy hc rfl
   simp only [Bool.and_eq_true,decide_eq_true_eq] at hc
   obtain ⟨⟨d1,d2⟩,hlen⟩:=hc
   obtain ⟨a,xs,B,hσ,ha,hkl,hr,nd,ho,hB⟩:=bd_own hi I hl
   have eB:=Rps.data ps d1 hr
   subst eB
   refine (.in I hq fun v H1 A s1 r1 _=>⟨.ref a,hσ,.in (I.grow s1) hk fun y H2 B s2 r2 _=>?_⟩)
   have eA:=Rp.data q d2 r1
   subst eA
   have s12:=s1.trans s2
   have hxl:=hr.length
   refine ⟨a,_,rfl,by rw [hy H2 y B r2];exact DPut.k (s12 _ _ ha) (by rw [List.length_zip,sizeLine_eq];omega),?_⟩
   rw [dPut_zip (by omega)]
   have m0:MutH H a:=.inr (.inl ⟨_,ha⟩)
   have m2:=m0.same s12
   have rq:=Rp.same s2 q r1
   obtain ⟨h1,h2⟩:=I.turn (p:=.dct (dPut ks ps key q).1 (dPut ks ps key q).2) (o:=.dK ((dPut ks xs key v).1.zip (dPut ks xs key v).2)) (B:=[]) hi s12 hσ ho m0
    (.mkD (by rw [dPut_keys (ws:=xs) key q v];exact upd_same) (dPut_len hkl key q) (Rps.upd m2 _ (by simp) (dPut_rps rq (Rps.same s12 ps hr)))) (by simp) (by simp)
   exact k _ _ _ h1 h2
  split at hv
  ·rename_i ps j
   split at hv
   case isFalse=>cases hv
   rename_i hc
   rw [Bool.and_eq_true] at hc
   obtain ⟨a,xs,B,hσ,ha,hr,nd,ho,hB⟩:=bm_own hi I hl
   have eB:=Rps.data ps hc.1 hr
   subst eB
   cases hj:ixN ps.length j with
   | none=>rw [hj] at hv;cases hv
   | some jn=>
    rw [hj] at hv;cases hv
    refine .inl (.in I hq fun v H1 A s1 r1 _=>⟨.ref a,hσ,.in (I.grow s1) hk fun y H2 B s2 r2 _=>?_⟩)
    have eA:=Rp.data q hc.2 r1
    subst eA
    have s12:=s1.trans s2
    refine ⟨a,xs,j,jn,rfl,r2.I.1,s12 _ _ ha,by rw [← hr.length];exact hj,?_⟩
    have m0:MutH H a:=.inl ⟨_,ha⟩
    have m2:=m0.same s12
    obtain ⟨h1,h2⟩:=I.turn (p:=.lst (ps.set jn q)) (o:=.lst (xs.set jn v)) (B:=[]) hi s12 hσ ho m0 (.mkL upd_same (Rps.upd m2 _ (by simp) (Rps.set_ (Rp.same s2 q r1) jn (Rps.same s12 ps hr)))) (by simp) (by simp)
    exact k _ _ _ h1 h2
  ·split at hv
   case isFalse=>cases hv
   rename_i hc
   cases hv
   exact .inr (dput _ _ (Sum.inl _) rfl (fun H2 y B r=>r.I.1) hc rfl)
  ·split at hv
   case isFalse=>cases hv
   rename_i hc
   cases hv
   exact .inr (dput _ _ (Sum.inr _) rfl (fun H2 y B r=>r.S.1) hc rfl)
  ·cases hv
noncomputable def fDict0:FE:=fun _=>some (.dct [] [])
theorem ve_dict0(h:PE X e tDNewK):VE X κ G (.mv []) e fDict0:=h.imp fun σ H Q hq_=>by
 refine hq_.elim fun own env z I hf k=>?_
 cases hf
 intro p hp
 exact k _ _ [p] (same_upd (Same.refl _) hp) (.mkD (by simpa using upd_same) rfl .nil) ⟨by simp,fun a ha=>.inl (by rw [List.mem_singleton.mp ha];exact hp)⟩
noncomputable def truth:PV->Option Bool
 | .non=>some false
 | .bl b=>some b
 | .int i=>some (i != 0)
 | .str y=>if y.length≤100000 then some ((y.length:Int) != 0) else none
 | .lst xs=>some (!xs.isEmpty)
 | .fls xs=>some (!xs.isEmpty)
 | .tup xs=>some (!xs.isEmpty)
 | .dct ks _=>some (!ks.isEmpty)
 | .ty _=>none
 | .any=>none
 | .pen _ _=>none
 | .adr _=>none
 | .exc _=>none
 | .dcT _ _=>none
noncomputable def fTru(f:FE):FT:=fun env=>(f env).bind truth
theorem empty_of{K:PySem.W.Frag}{H:Hp}{ps:List PV}{xs:List V}{A:List Addr}(r:Rps K H ps xs A):(!ps.isEmpty)=!xs.isEmpty:=by
 have:=r.length
 cases ps<;>cases xs<;>simp_all
theorem vt_truth(ha:VE X κ G c a fa)(he:∀ whole,isTrue a X.env whole=(do let v ← whole;standAt a.pos;holding [v] (truthy v))):VT X κ G a (fTru fa):=(pt_truth ha he).imp fun σ H Q hq_=>by
 refine hq_.elim fun own env z I hf k=>?_
 unfold fTru at hf
 replace hf:=Option.bind_eq_some_iff.mp hf;obtain ⟨p,hp,hf⟩:=hf
 refine (.in I hp fun x H1 A s1 r1 _=>⟨z,?_,k H1 s1⟩)
 cases p
 case non=>cases hf;rw [r1.N.1];exact rfl
 case bl=>cases hf;rw [r1.B.1];exact rfl
 case int=>cases hf;rw [r1.I.1];exact rfl
 case str=>
  simp only [truth] at hf
  split at hf
  ·rename_i hl;cases hf;rw [r1.S.1];exact ⟨by rw [sizeLine_eq];omega,rfl⟩
  ·cases hf
 case ty=>cases hf
 case any=>cases hf
 case pen=>cases hf
 case adr=>cases hf
 case exc=>cases hf
 case dcT=>cases hf
 case tup=>cases hf;obtain ⟨a,xs,e1,h1,g⟩:=r1.T;rw [e1];exact .inr (.inl ⟨xs,h1,empty_of g⟩)
 case lst=>cases hf;obtain ⟨a,xs,B,e1,h1,_,g⟩:=r1.L;rw [e1];exact .inl ⟨xs,SqL.of h1,empty_of g⟩
 case fls=>cases hf;obtain ⟨a,xs,e1,h1,g⟩:=r1.Fl;rw [e1];exact .inl ⟨xs,h1.seq,empty_of g⟩
 case dct ks ps=>
  cases hf;obtain ⟨a,xs,B,e1,h1,hl,_,g⟩:=r1.D;rw [e1];refine .inr (.inr ⟨_,h1,?_⟩)
  have:=g.length
  cases ks<;>cases ps<;>cases xs<;>simp_all
end
end F
namespace L2
open PySem PySem.Spec PyProof.Rows
section
variable {X:Cx}
theorem ext_tup(l:Addr)(items:Array Value)(n:Nat)(b:Addr)(items2:Array Value)(n2:Nat)(dd:Option Addr)(sl:Array (Option Value))(hs0:¬(!items.isEmpty && Builtin.List.listTooLong (items.size+items2.size))=true)(hs1:items.size≤sizeLine)(hs2:items.size+items2.size≤sizeLine+1):
  Meets (Builtin.«list.extend» ⟨[.ref l,.ref b],[]⟩) (fun _ R s=>s.heap.get? l=some { cls:=.type "list",dict:=none,data:=.seq items n,slots:=#[] }/\s.heap.get? b=some { cls:=.type "tuple",dict:=dd,data:=.seq items2 n2,slots:=sl }/\R (.ok (.ret Value.none)) { s with heap:=s.heap.update l (Obj.mapSeq fun x=>x++items2),toks:=s.toks }):=
 .of_wp fun prog w A R s h=>by
  obtain ⟨hp,g,d,tk,os⟩:=s;obtain ⟨hl,hb,h⟩:=h;have f1:=AutoSeq1.idx_int;have f2:=AutoSeq1.sub_tuple_tuple;have f3:=AutoSeq1.sub_list_list;have f4:=AutoSeq1.sub_tuple_list;have f5:=AutoSeq1.sub_list_tuple;
  have hz':(items++items2).size≤sizeLine+1:=Nat.le_trans (Nat.le_of_eq Array.size_append) hs2
  wp_walk using (wpAny_updateSeq hl rfl (hz:=hs1) (_hz':=hz')),AutoSeq1.wpAny_loadPart' hl,AutoSeq1.wpAny_loadPart' hb;exact ⟨_,rfl,h⟩
noncomputable def rExtendT(K:PySem.W.Frag):V->List V->Hp->VK->Prop:=fun x vs H Q=>∃ l b xs zs,x=.ref l/\vs=[.ref b]/\H l=some (.lst xs)/\SqT K H b zs/\xs.length+zs.length≤sizeLine/\Q .non (upd H l (.lst (xs++zs)))
theorem mt_extendT:MtM X "list.extend" (rExtendT X.K):=by
 intro pins s σ H x vs v us Q I rx rv h
 obtain ⟨l,b,xs,zs,rfl,rfl,hH,hB,hz,q⟩:=h
 cases rx
 obtain ⟨u,rfl,ru⟩:=rv.one
 cases ru
 obtain ⟨z,its,n,r,hl,e⟩:=I.lstM hH
 obtain ⟨its2,r2,⟨⟨cls,dd,dat,sl⟩,e2,hc,n2,hd⟩,z2⟩:=I.tuple hB
 simp only at hc hd
 subst hc hd
 have hl2:=r2.length
 have hsz:its.toArray.size+its2.toArray.size≤sizeLine:=by rw [List.size_toArray,List.size_toArray];omega
 have hlong:¬ (!its.toArray.isEmpty && Builtin.List.listTooLong (its.toArray.size+its2.toArray.size))=true:=by
  rw [notLongL hsz,Bool.and_false]
  exact Bool.false_ne_true
 refine call_meets F.slot_list_extend ⟨_,e,rfl⟩ F.entry_list_extend (F.args_list_extend_2 _ _)
  (ext_tup l its.toArray n b its2.toArray n2 dd sl hlong (by rw [List.size_toArray];omega) (by omega)) ⟨e,e2,?_⟩
 refine ⟨.non,_,I.lset (its':=its++its2) hH e (by simp) (r.append r2) ?_,rfl,q⟩
 rw [List.length_append]
 omega
theorem MtM.or{id:String}{r r':V->List V->Hp->VK->Prop}(h:MtM X id r)(h':MtM X id r'):MtM X id (fun x xs H Q=>r x xs H Q∨r' x xs H Q):=fun pins s σ H x xs v us Q I rx rs q=>q.elim (h pins s σ H x xs v us Q I rx rs) (h' pins s σ H x xs v us Q I rx rs)
theorem mt_extendA:MtM X "list.extend" (fun x xs H Q=>rExtend x xs H Q∨rExtendT X.K x xs H Q):=mt_extend.or mt_extendT
inductive TyR (K:PySem.W.Frag) (H:Hp):V->String->Prop where
 | non:TyR K H .non "NoneType"
 | bl (x:Bool):TyR K H (.bl x) "bool"
 | int (i:Int):TyR K H (.int i) "int"
 | str (x:Str):TyR K H (.str x) "str"
 | lst {a:Addr} {xs:List V} (e:SqL K H a xs):TyR K H (.ref a) "list"
 | tup {a:Addr} {xs:List V} (e:SqT K H a xs):TyR K H (.ref a) "tuple"
 | dct {a:Addr} {kvs:List (Key × V)} (e:H a=some (.dK kvs)):TyR K H (.ref a) "dict"
theorem cr_isinst1:CallR X (.builtin "isinstance") (fun xs H Q=>∃ x n t b,xs=[x,.ty n]/\TyR X.K H x t/\PySem.W.kitOne X.K (.type t) (.type n)=some b/\Q (.bl b) H):=by
 intro pins s σ H xs us Q I r h
 obtain ⟨x,n,t,b,rfl,ty,e,q⟩:=h
 obtain ⟨u,w',rfl,rx,r2⟩:=vals2 r
 cases r2
 have fin:∀ tk,EP X pins σ Q (.bool b) { s with toks:=tk }:=fun tk=>⟨.bl b,H,I.tok tk,rfl,q⟩
 cases ty with
 | non=>cases (show u=Value.none from rx);exact PySem.W.kia_one PySem.W.kitx_none I.kIn True.intro e (fun z=>nomatch z) fin
 | bl y=>cases (show u=Value.bool y from rx);exact PySem.W.kia_one PySem.W.kitx_bool I.kIn True.intro e (fun z=>nomatch z) fin
 | int i=>obtain ⟨t,q⟩:=(show ∃ t,u=Value.int i t from rx);cases q;exact PySem.W.kia_one PySem.W.kitx_int I.kIn True.intro e (fun z=>nomatch z) fin
 | str y=>obtain ⟨t,q⟩:=(show ∃ t,u=Value.str y t from rx);cases q;exact PySem.W.kia_one PySem.W.kitx_str I.kIn True.intro e (fun z=>nomatch z) fin
 | @lst a xs ea=>
  cases (show u=Value.ref a from rx)
  obtain ⟨its,_,⟨o,n,e1,e2,_,_⟩,_⟩:=I.list ea
  exact PySem.W.kia_one PySem.W.kitx_list I.kIn ⟨o,e1,e2⟩ e (fun z=>nomatch z) fin
 | @tup a xs ea=>
  cases (show u=Value.ref a from rx)
  obtain ⟨its,_,⟨o,e1,e2,_⟩,_⟩:=I.tuple ea
  exact PySem.W.kia_one PySem.W.kitx_tuple I.kIn ⟨o,e1,e2⟩ e (fun z=>nomatch z) fin
 | @dct a kvs ea=>
  cases (show u=Value.ref a from rx)
  obtain ⟨_,_,vs,_,p⟩:=(show ObjOk X.prog X.w H s.heap a (.dK kvs) from I.hok a _ ea)
  obtain ⟨o,es,ep,h1,h2,_⟩:=p
  exact PySem.W.kia_one PySem.W.kitx_dict I.kIn ⟨o,h1,h2.1⟩ e (fun z=>nomatch z) fin
theorem cr_isinstT:CallR X (.builtin "isinstance") (fun xs H Q=>∃ x p,∃ ns:List String,∃ t b,xs=[x,.ref p]/\SqT X.K H p (ns.map V.ty)/\TyR X.K H x t/\PySem.W.kitAny X.K (.type t) (ns.map Value.type)=some b/\Q (.bl b) H):=by
 intro pins s σ H xs us Q I r h
 obtain ⟨x,p,ns,t,b,rfl,hp,ty,e,q⟩:=h
 obtain ⟨u,w',rfl,rx,r2⟩:=vals2 r
 cases r2
 obtain ⟨its,rv,⟨⟨cls,dd,dat,sl⟩,h1,h2,n,h3⟩,_⟩:=I.tuple hp
 simp only at h2 h3
 subst h2 h3
 have hi:=vals_ty rv
 subst hi
 have fin:∀ tk,EP X pins σ Q (.bool b) { s with toks:=tk }:=fun tk=>⟨.bl b,H,I.tok tk,rfl,q⟩
 cases ty with
 | non=>cases (show u=Value.none from rx);exact PySem.W.kia_tup PySem.W.kitx_none I.kIn True.intro h1 e (fun z=>nomatch z) fin
 | bl y=>cases (show u=Value.bool y from rx);exact PySem.W.kia_tup PySem.W.kitx_bool I.kIn True.intro h1 e (fun z=>nomatch z) fin
 | int i=>obtain ⟨t,q⟩:=(show ∃ t,u=Value.int i t from rx);cases q;exact PySem.W.kia_tup PySem.W.kitx_int I.kIn True.intro h1 e (fun z=>nomatch z) fin
 | str y=>obtain ⟨t,q⟩:=(show ∃ t,u=Value.str y t from rx);cases q;exact PySem.W.kia_tup PySem.W.kitx_str I.kIn True.intro h1 e (fun z=>nomatch z) fin
 | @lst a xs ea=>
  cases (show u=Value.ref a from rx)
  obtain ⟨its,_,⟨o,n,e1,e2,_,_⟩,_⟩:=I.list ea
  exact PySem.W.kia_tup PySem.W.kitx_list I.kIn ⟨o,e1,e2⟩ h1 e (fun z=>nomatch z) fin
 | @tup a xs ea=>
  cases (show u=Value.ref a from rx)
  obtain ⟨its,_,⟨o,e1,e2,_⟩,_⟩:=I.tuple ea
  exact PySem.W.kia_tup PySem.W.kitx_tuple I.kIn ⟨o,e1,e2⟩ h1 e (fun z=>nomatch z) fin
 | @dct a kvs ea=>
  cases (show u=Value.ref a from rx)
  obtain ⟨_,_,vs,_,p⟩:=(show ObjOk X.prog X.w H s.heap a (.dK kvs) from I.hok a _ ea)
  obtain ⟨o,es,ep,h1',h2,_⟩:=p
  exact PySem.W.kia_tup PySem.W.kitx_dict I.kIn ⟨o,h1',h2.1⟩ h1 e (fun z=>nomatch z) fin
end
end L2
namespace F
open PySem PySem.Spec PyProof.Rows L2
noncomputable def seqOw:PV->Option (List PV)
 | .lst ps=>some ps
 | .tup ps=>some ps
 | _=>none
noncomputable def fExtendA(i:Nat)(f:FE):FS:=fun env=>(fVar i env).bind fun l=>(f env).bind fun q=>match l with
 | .lst ps=>(seqOw q).bind fun qs=>if (isDatas qs=true/\ps.length+qs.length≤100000) then some (.nx (env.set i (some (.lst (ps++qs))))) else none
 | _=>none
theorem vs_extendA{X:Cx}{G:Hp}{O:List Nat}{st:Stmt}{f:FE}(i:Nat)(hi:i ∈ O)(hp:PS X st (tDrop (tBM X.K "list" (fun x xs H Q=>rExtend x xs H Q∨rExtendT X.K x xs H Q) (tVar i) (tCons (tV X.K (ko O) G (.mv []) f) tNil)))):VS X (ko O) G st (fExtendA i f):=hp.imp fun D σ H hq_=>by
 refine hq_.elim fun own env o I hf k=>?_
 unfold fExtendA at hf
 replace hf:=Option.bind_eq_some_iff.mp hf;obtain ⟨l,hl,hf⟩:=hf
 replace hf:=Option.bind_eq_some_iff.mp hf;obtain ⟨q,hq,hf⟩:=hf
 split at hf
 case h_2=>cases hf
 rename_i ps
 replace hf:=Option.bind_eq_some_iff.mp hf;obtain ⟨qs,hs,hf⟩:=hf
 split at hf
 case isFalse=>cases hf
 rename_i hc
 have hf:=(Option.some.inj hf).symm
 subst hf
 obtain ⟨a,xs,B,hσ,ha,hr,nd,ho,hB⟩:=bm_own hi I hl
 refine ⟨.ref a,hσ,.inl ⟨rfl,xs,SqL.of ha⟩,.in I hq fun y H1 C s1 r1 c1=>?_⟩
 have nB:a ∉ B:=(List.nodup_cons.mp nd).1
 have m1:MutH H1 a:=.inl ⟨xs,s1 _ _ ha⟩
 have fin:∀ (zs:List V),Rps X.K H1 qs zs []->D.nx σ (upd H1 a (.lst (xs++zs))):=fun zs g1=>by
  obtain ⟨h1,h2⟩:=I.turn (p:=.lst (ps++qs)) (o:=.lst (xs++zs)) (B:=B++[]) hi s1 hσ ho (.inl ⟨xs,ha⟩)
   (.mkL upd_same ((Rps.upd m1 ps nB (Rps.same s1 ps hr)).append (Rps.upd m1 qs (by simp) g1))) (by simpa using nd) (by simpa using fun b hb=>Or.inl (hB b hb))
  exact k _ _ _ h1 h2
 unfold seqOw at hs
 split at hs
 ·have hs:=Option.some.inj hs
  subst hs
  obtain ⟨b,zs,C1,rfl,hb,rfl,g1⟩:=r1.L
  have e1:=Rps.data _ hc.1 g1
  subst e1
  exact .inl ⟨a,b,xs,zs,rfl,rfl,s1 _ _ ha,hb,by rw [← hr.length,← g1.length,sizeLine_eq];omega,fin zs g1⟩
 ·have hs:=Option.some.inj hs
  subst hs
  obtain ⟨b,zs,rfl,hb,g1⟩:=r1.T
  have e1:=Rps.data _ hc.1 g1
  subst e1
  exact .inr ⟨a,b,xs,zs,rfl,rfl,s1 _ _ ha,hb,by rw [← hr.length,← g1.length,sizeLine_eq];omega,fin zs g1⟩
 ·cases hs
noncomputable def tyP:PV->Option String
 | .non=>some "NoneType"
 | .bl _=>some "bool"
 | .int _=>some "int"
 | .str _=>some "str"
 | .lst _=>some "list"
 | .fls _=>some "list"
 | .tup _=>some "tuple"
 | .dct _ _=>some "dict"
 | .ty _=>none
 | .any=>none
 | .pen _ _=>none
 | .adr _=>none
 | .exc _=>none
 | .dcT _ _=>none
theorem TyR.of{K:PySem.W.Frag}{H:Hp}{p:PV}{v:V}{A:List Addr}{t:String}(h:tyP p=some t)(r:Rp K H p v A):TyR K H v t:=by
 cases p<;>cases h
 ·rw [r.N.1];exact .non
 ·rw [r.B.1];exact .bl _
 ·rw [r.I.1];exact .int _
 ·rw [r.S.1];exact .str _
 ·obtain ⟨a,xs,rfl,h,_⟩:=r.T;exact .tup h
 ·obtain ⟨a,xs,B,rfl,h,_⟩:=r.L;exact .lst (SqL.of h)
 ·obtain ⟨a,xs,rfl,h,_⟩:=r.Fl;exact .lst h.seq
 ·obtain ⟨a,xs,B,rfl,h,_⟩:=r.D;exact .dct h
noncomputable def kinds:List String:=["NoneType","bool","int","str","list","tuple","dict"]
noncomputable def isSub(t n:String):Bool:=t == n || (t == "bool" && n == "int")
theorem kit_ok(K:PySem.W.Frag):∀ t ∈ kinds,∀ n ∈ ["int","bool","str","list","tuple","dict"],PySem.W.kitOne K (.type t) (.type n)=some (isSub t n):=by
 intro t ht n hn
 simp only [kinds,List.mem_cons,List.not_mem_nil,or_false] at ht hn
 rcases ht with rfl | rfl | rfl | rfl | rfl | rfl | rfl<;>rcases hn with rfl | rfl | rfl | rfl | rfl | rfl<;>rfl
noncomputable def tyNames:List PV->Option (List String)
 | []=>some []
 | .ty n::r=>(tyNames r).map fun ns=>n::ns
 | _::_=>none
noncomputable def okTy(n:String):Bool:=["int","bool","str","list","tuple","dict"].contains n
noncomputable def vIsInst:List PV->Option PV
 | [p,.ty n]=>if okTy n=true then (tyP p).map fun t=>.bl (isSub t n) else none
 | [p,.tup ts]=>(tyNames ts).bind fun ns=>if ns.all okTy=true then (tyP p).map fun t=>.bl (ns.any fun n=>isSub t n) else none
 | _=>none
theorem tyP_kinds(h:tyP p=some t):t ∈ kinds:=by
 cases p<;>cases h<;>simp [kinds]
theorem okTy_mem(h:okTy n=true):n ∈ ["int","bool","str","list","tuple","dict"]:=by
 unfold okTy at h
 exact List.contains_iff_mem.mp h
theorem kitAny_ok(K:PySem.W.Frag){t:String}(ht:t ∈ kinds):∀ ns:List String,ns.all okTy=true->PySem.W.kitAny K (.type t) (ns.map Value.type)=some (ns.any fun n=>isSub t n)
 | [],_=>rfl
 | n::ns,h=>by
  rw [List.all_cons,Bool.and_eq_true] at h
  rw [List.map_cons]
  unfold PySem.W.kitAny
  rw [kit_ok K t ht n (okTy_mem h.1),List.any_cons]
  cases hs:isSub t n with
  | true=>rfl
  | false=>rw [Bool.false_or];exact kitAny_ok K ht ns h.2
theorem tyNames_rps{K:PySem.W.Frag}{H:Hp}:∀ {ts:List PV} {ns:List String} {xs:List V} {A:List Addr},tyNames ts=some ns->Rps K H ts xs A->xs=ns.map V.ty
 | [],ns,xs,A,h,r=>by
  cases h
  rw [r.inv0.1];rfl
 | p::ts,ns,xs,A,h,r=>by
  obtain ⟨v,r',A1,A2,rfl,h2,h3,h4⟩:=r.inv
  cases p<;>first | (simp [tyNames] at h;done) | skip
  simp only [tyNames] at h
  cases hq:tyNames ts with
  | none=>rw [hq] at h;cases h
  | some ms=>
   rw [hq] at h
   have h:_::ms=ns:=Option.some.inj h
   subst h
   rw [List.map_cons,tyNames_rps hq h4,h3.Ty.1]
section
variable {X:Cx}
theorem cr_isinst:CallR X (.builtin "isinstance") (fun xs H Q=>(∃ x n t b,xs=[x,.ty n]/\TyR X.K H x t/\PySem.W.kitOne X.K (.type t) (.type n)=some b/\Q (.bl b) H)∨
  ∃ x p,∃ ns:List String,∃ t b,xs=[x,.ref p]/\SqT X.K H p (ns.map V.ty)/\TyR X.K H x t/\PySem.W.kitAny X.K (.type t) (ns.map Value.type)=some b/\Q (.bl b) H):=cr_isinst1.or cr_isinstT
theorem cv_isinst{K:PySem.W.Frag}:CallV K (fun xs H Q=>(∃ x n t b,xs=[x,.ty n]/\TyR K H x t/\PySem.W.kitOne K (.type t) (.type n)=some b/\Q (.bl b) H)∨
  ∃ x p,∃ ns:List String,∃ t b,xs=[x,.ref p]/\SqT K H p (ns.map V.ty)/\TyR K H x t/\PySem.W.kitAny K (.type t) (ns.map Value.type)=some b/\Q (.bl b) H) vIsInst:=by
 intro H ps vs A z Q r e k
 unfold vIsInst at e
 split at e
 ·rename_i p n
  split at e
  case isFalse=>cases e
  rename_i ho
  obtain ⟨v,w,A1,A2,rfl,_,r1,r2⟩:=two_of r
  cases ht:tyP p with
  | none=>rw [ht] at e;cases e
  | some t=>
   rw [ht] at e
   have e:PV.bl (isSub t n)=z:=Option.some.inj e
   subst e
   exact .inl ⟨v,n,t,_,by rw [r2.Ty.1],TyR.of ht r1,kit_ok K t (tyP_kinds ht) n (okTy_mem ho),k _ H [] (Same.refl _) (.mkB _) .nil (by simp)⟩
 ·rename_i p ts
  obtain ⟨v,w,A1,A2,rfl,_,r1,r2⟩:=two_of r
  replace e:=Option.bind_eq_some_iff.mp e;obtain ⟨ns,hn,e⟩:=e
  split at e
  case isFalse=>cases e
  rename_i ho
  cases ht:tyP p with
  | none=>rw [ht] at e;cases e
  | some t=>
   rw [ht] at e
   have e:PV.bl (ns.any fun n=>isSub t n)=z:=Option.some.inj e
   subst e
   obtain ⟨a,xs,rfl,h1,g⟩:=r2.T
   have hx:=tyNames_rps hn g
   subst hx
   exact .inr ⟨v,a,ns,t,_,rfl,h1,TyR.of ht r1,kitAny_ok K (tyP_kinds ht) ns ho,k _ H [] (Same.refl _) (.mkB _) .nil (by simp)⟩
 ·cases e
end
end F
namespace L2
open PySem PySem.Spec PyProof.Rows
section
variable {X:Cx} {pins:List (Addr × Obj)} {σ:List (Option V)} {H:Hp} {s:Shared} {h':Heap}
end
noncomputable def ContAt(h:Heap)(b:Bool)(c:Addr)(its:Array Value):Prop:=if b=true then h.IsList c its else h.IsTuple c its
noncomputable def IterAt(h:Heap)(b:Bool)(it c:Addr)(i:Nat):Prop:=if b=true then h.IsListIter it c i else h.IsTupleIter it c i
section
variable {prog:Program} {w:World} {A:Around} {E:Value->Shared->Prop} {s:Shared} {h h₂:Heap} {b:Bool} {it c:Addr} {i:Nat} {its:Array Value}
theorem ContAt.keep(x:ContAt h b c its)(k:∀ o,h.get? c=some o->h₂.get? c=some o):ContAt h₂ b c its:=by
 cases b with
 | true=>obtain ⟨o,ho,r⟩:=x;exact ⟨o,k o ho,r⟩
 | false=>obtain ⟨o,ho,r⟩:=x;exact ⟨o,k o ho,r⟩
theorem IterAt.keep(x:IterAt h b it c i)(k:∀ o,h.get? it=some o->h₂.get? it=some o):IterAt h₂ b it c i:=by
 cases b with
 | true=>obtain ⟨o,ho,r⟩:=x;exact ⟨o,k o ho,r⟩
 | false=>obtain ⟨o,ho,r⟩:=x;exact ⟨o,k o ho,r⟩
theorem IterAt.has(x:IterAt h b it c i):∃ o,h.get? it=some o/\∀ v,o.data≠.cell v:=by
 cases b with
 | true=>obtain ⟨o,ho,_,d⟩:=x;exact ⟨o,ho,fun v z=>by rw [d] at z;cases z⟩
 | false=>obtain ⟨o,ho,_,d⟩:=x;exact ⟨o,ho,fun v z=>by rw [d] at z;cases z⟩
theorem IterAt.lt(x:IterAt h b it c i):it<h.objs.size:=let ⟨_,e,_⟩:=x.has;Heap.lt_size e
end
section
variable {prog:Program} {w:World} {A:Around} {E:Value->Shared->Prop} {s:Shared} {b1 b2:Bool} {z TI TO i1 i2 l1 l2:Addr} {k1 k2:Nat} {xs ys:Array Value} {x y p q:Value}
end
noncomputable def Sq(K:PySem.W.Frag)(H:Hp)(b:Bool)(a:Addr)(xs:List V):Prop:=if b=true then SqL K H a xs else SqT K H a xs
section
variable {X:Cx} {pins:List (Addr × Obj)} {σ:St} {H:Hp} {s:Shared}
theorem Sq.at{b:Bool}{a:Addr}{xs:List V}(I:Inv X pins σ H s)(h:Sq X.K H b a xs):∃ its:List Value,Vals xs its/\ContAt s.heap b a its.toArray:=by
 cases b with
 | true=>obtain ⟨its,r,p,_⟩:=I.list h;exact ⟨its,r,p.isList⟩
 | false=>obtain ⟨its,r,p,_⟩:=I.tuple h;exact ⟨its,r,p⟩
theorem Sq.inj{b:Bool}{a:Addr}{xs ys:List V}(I:Inv X pins σ H s)(h:Sq X.K H b a xs)(h':Sq X.K H b a ys):xs=ys:=by
 cases b with
 | true=>exact I.list_inj h h'
 | false=>exact I.tuple_inj h h'
theorem Sq.ne{b:Bool}{a it:Addr}{xs:List V}(I:Inv X pins σ H s)(h:Sq X.K H b a xs)(hf:FpOk X pins H it):a≠it:=by
 rintro rfl
 have nb:∀ o,X.K.lookup a=some o->False:=fun o ho=>by
  obtain ⟨u,hu⟩:=I.ok.mod.kin a o ho |> fun e=>(⟨o,e⟩:∃ u,X.base.get? a=some u)
  rcases hf.2.2.2.1 with z | z
  ·exact I.ok.noex a u hu z
  ·exact absurd (Nat.lt_of_lt_of_le (Heap.lt_size hu) (Nat.le_trans I.ok.bsz z)) (Nat.lt_irrefl _)
 cases b with
 | true=>
  rcases h with (h | ⟨u,h⟩) | ⟨o,_,_,h,_⟩
  ·rw [hf.1] at h;cases h
  ·rw [hf.1] at h;cases h
  ·exact nb o h
 | false=>
  rcases h with (h | ⟨u,h⟩) | ⟨o,_,_,h,_⟩
  ·rw [hf.1] at h;cases h
  ·rw [hf.1] at h;cases h
  ·exact nb o h
end
structure ZApart (z TI TO i1 i2:Addr):Prop where
 a1:TI≠z
 a2:TO≠z
 a3:i1≠z
 a4:i2≠z
 a5:TI≠TO
 a6:TI≠i1
 a7:TI≠i2
 a8:TO≠i1
 a9:TO≠i2
 a10:i1≠i2
end L2
namespace F
open PySem L2
noncomputable def fZip(f:FA):FA:=fun env=>(f env).bind fun ps=>match ps with | [p,q]=>(seqOf p).bind fun xs=>(seqOf q).bind fun ys=>some ((List.zip xs ys).map fun z=>PV.tup [z.1,z.2]) | _=>none
end F
namespace F
open PySem PySem.Spec PyProof.Rows L2
section
variable {X:Cx} {κ:Nat->Option Nat} {G:Hp} {c c1 c2:Cat} {a b e:Expr} {es:List Expr} {fa fb f:FE} {t u:FT} {fs:FA} {pos:Pos} {g h:FS} {st:Stmt} {rest:List Stmt} {O:List Nat}
end
end F
namespace L2
open PySem PySem.Spec PyProof.Rows
section
variable {X:Cx}
end
end L2
namespace F
open PySem PySem.Spec PyProof.Rows L2
section
variable {X:Cx} {κ:Nat->Option Nat} {G:Hp} {c:Cat} {a b e:Expr} {fs:FA} {pos:Pos}
noncomputable def fLstR(f:FA):FE:=fun env=>(f env).bind fun ps=>if ps.length≤100000 then some (.lst ps) else none
end
end F
namespace F
open PySem PySem.Spec PyProof.Rows L2
theorem VI.free{K:PySem.W.Frag}{κ:Nat->Option Nat}{G:Hp}{own:Addr->Option Nat}{env:En}{σ:St}{H:Hp}(I:VI K κ G own env σ H):VI K (ko []) G (fun _=>none) env σ H:=
 ⟨I.len,fun i p e=>let ⟨v,A,h1,h2,_⟩:=I.slot i p e;⟨v,A,h1,h2,fun _ _ _=>rfl,fun l z=>absurd z (by simp [ko])⟩,fun a l e=>(nomatch e),I.same⟩
theorem tV_free{K:PySem.W.Frag}{κ:Nat->Option Nat}{G:Hp}{f:FE}{σ:St}{H:Hp}{Q:VK}(h:tV K κ G (.mv []) f σ H Q):tV K (ko []) G (.mv []) f σ H Q:=by
 obtain ⟨own,env,p,I,hf,k⟩:=h
 exact ⟨fun _=>none,env,p,I.free,hf,fun v H' A s r hc=>k v H' A s r ⟨hc.1,fun a ha=>(hc.2 a ha).imp id fun ⟨_,z,_⟩=>nomatch z⟩⟩
theorem ve_free(h:VE X (ko []) G (.mv []) e f):VE X κ G (.mv []) e f:=h.imp fun σ H Q q=>tV_free q
theorem ps_free{X:Cx}{κ:Nat->Option Nat}{G:Hp}{st:Stmt}{f:FE}{tg:TG}(h:PS X st (tAsg (tV X.K (ko []) G (.mv []) f) tg)):PS X st (tAsg (tV X.K κ G (.mv []) f) tg):=h.imp fun D σ H q=>tV_free q
end F
namespace L2
open PySem PySem.Spec PyProof.Rows
section
variable {X:Cx}
end
end L2
namespace F
open PySem PySem.Spec PyProof.Rows L2
noncomputable def intsOf:List PV->Option (List Int)
 | []=>some []
 | .int i::r=>(intsOf r).map fun ns=>i::ns
 | _=>none
@[simp] theorem intsOf_map:∀ (ns:List Int),intsOf (ns.map PV.int)=some ns
 | []=>rfl
 | n::ns=>by rw [List.map_cons,intsOf,intsOf_map ns];rfl
end F
namespace L2
open PySem PySem.Spec PyProof.Rows
section
variable {X:Cx}
end
end L2
namespace F
open PySem PySem.Spec PyProof.Rows L2
noncomputable def bools:List PV->Option (List Bool)
 | []=>some []
 | .bl b::r=>(bools r).map fun bs=>b::bs
 | _=>none
@[simp] theorem bools_map:∀ (bs:List Bool),bools (bs.map PV.bl)=some bs
 | []=>rfl
 | b::bs=>by rw [List.map_cons,bools,bools_map bs];rfl
end F
namespace F
open PySem PySem.Spec PyProof.Rows L2
section
variable {X:Cx} {κ:Nat->Option Nat} {G:Hp} {c c2:Cat} {f fk fm:FE} {st:Stmt} {O:List Nat}
end
end F
namespace L2
open PySem PySem.Spec PyProof.Rows
end L2
namespace F
open PySem PySem.Spec PyProof.Rows L2
end F
namespace L2
open PySem PySem.Spec PyProof.Rows
section
variable {X:Cx}
end
end L2
namespace F
open PySem PySem.Spec PyProof.Rows L2
end F
namespace F
open PySem PySem.Spec PyProof.Rows L2
noncomputable def keyOf:PV->Option Key | .int i=>some (.inl i) | .str x=>some (.inr x) | _=>none
theorem keyOf_v{K:PySem.W.Frag}{H:Hp}{p:PV}{v:V}{A:List Addr}{k:Key}(h:keyOf p=some k)(r:Rp K H p v A):v=kV k:=by
 cases p<;>first | (cases h;done) | skip
 ·cases h;exact r.I.1
 ·cases h;exact r.S.1
section
variable {X:Cx} {κ:Nat->Option Nat} {G:Hp} {c c1 c2:Cat} {o e f:Expr} {fd fk fx:FE} {apos cpos:Pos}
end
end F
namespace L2
open PySem PySem.Spec PyProof.Rows
end L2
namespace F
open PySem PySem.Spec PyProof.Rows L2
end F
namespace L2
open PySem PySem.Spec PyProof.Rows
section
variable {X:Cx} {pins:List (Addr × Obj)} {σ:St} {H:Hp} {s:Shared} {a:Addr} {kvs:List (Key × V)} {k:Key} {z:V} {u r:Value} {A:Around} {E:Value->Shared->Prop}
end
end L2
namespace F
open PySem PySem.Spec PyProof.Rows L2
section
variable {X:Cx} {κ:Nat->Option Nat} {G:Hp} {c c1 c2:Cat} {f fk fx fd:FE} {st:Stmt} {O:List Nat}
noncomputable def fDisp1(fk f:FE):FE:=fun env=>(fk env).bind fun k=>(f env).bind fun q=>(keyOf k).map fun key=>.dct [key] [q]
theorem ve_disp1(hk:VE X κ G c ek fk)(hv:VE X κ G (.mv []) ev f):VE X κ G (.mv []) (.Dict [some ek] [ev] pos) (fDisp1 fk f):=
 (pe_disp (pps_cons hk hv pps_nil) rfl rfl (by simp) (by simp)).imp fun σ H Q hq_=>by
 refine hq_.elim fun own env p I hf k=>?_
 unfold fDisp1 at hf
 replace hf:=Option.bind_eq_some_iff.mp hf;obtain ⟨kk,hkk,hf⟩:=hf
 replace hf:=Option.bind_eq_some_iff.mp hf;obtain ⟨q,hq,hf⟩:=hf
 cases hkey:keyOf kk with
 | none=>rw [hkey] at hf;cases hf
 | some key=>
  rw [hkey] at hf
  cases hf
  intro a ha
  have s0:Same H (upd H a (.dK [])):=same_upd (Same.refl _) ha
  refine (.in (I.grow s0) hkk fun y H1 A1 s1 r1 _=>(.in ((I.grow s0).grow s1) hq fun v H2 A2 s2 r2 c2=>?_))
  have h2a:H2 a=some (.dK []):=s2 _ _ (s1 _ _ upd_same)
  have hy:=keyOf_v hkey r1
  refine ⟨h2a,[(key,v)],by rw [hy];rfl,by simp,?_⟩
  have e:mergeK [] [(key,v)]=[key].zip [v]:=rfl
  rw [e]
  have fr:∀ d ∈ A2,H1 d=none:=fun d hd=>(c2.2 d hd).elim id fun ⟨_,z,_⟩=>nomatch z
  have nA:a ∉ A2:=fun z=>by have:=fr a z;rw [s1 _ _ upd_same] at this;cases this
  have m2:MutH H2 a:=.inr (.inl ⟨_,h2a⟩)
  have sH:Same H (upd H2 a (.dK ([key].zip [v]))):=fun b o hb=>by
   rw [upd_ne (by rintro rfl;rw [ha] at hb;cases hb)]
   exact s2 _ _ (s1 _ _ (s0 _ _ hb))
  refine k _ _ (a::A2) sH (.mkD upd_same rfl (Rps.one (Rp.upd m2 q nA r2))) ⟨List.nodup_cons.mpr ⟨nA,c2.1⟩,fun d hd=>.inl ?_⟩
  rcases List.mem_cons.mp hd with rfl | hd
  ·exact ha
  ·exact s0.free (s1.free (fr d hd))
end
end F
namespace F
open PySem PySem.Spec PyProof.Rows L2
section
variable {K:PySem.W.Frag} {H:Hp}
end
section
variable {X:Cx} {G:Hp} {c:Cat} {fs:FA} {fk:FE} {O:List Nat} {pos:Pos} {tg elt iter:Expr} {scope:Scope} {xn:Str} {st:Stmt}
theorem Rps.rev{K:PySem.W.Frag}{H:Hp}:∀ {ps:List PV} {xs:List V} {A:List Addr},Rps K H ps xs A->∃ A',Rps K H ps.reverse xs.reverse A'/\A'.Perm A
 | [],_,_,r=>by rw [r.inv0.1,r.inv0.2];exact ⟨[],.nil,.refl _⟩
 | p::ps,_,_,r=>by
  obtain ⟨v,r',A1,A2,rfl,rfl,h3,h4⟩:=r.inv
  obtain ⟨A',g1,g2⟩:=Rps.rev h4
  rw [List.reverse_cons,List.reverse_cons]
  exact ⟨A'++A1,g1.append (Rps.one h3),(List.perm_append_comm).trans (g2.append_left A1)⟩
end
end F
namespace L2
open PySem PySem.Spec PyProof.Rows
end L2
namespace F
open PySem PySem.Spec PyProof.Rows L2
end F
namespace L2
open PySem PySem.Spec PyProof.Rows
end L2
namespace F
open PySem PySem.Spec PyProof.Rows L2
noncomputable def keyInts:List Key->Option (List Int)
 | []=>some []
 | .inl n::r=>(keyInts r).map fun ns=>n::ns
 | _=>none
@[simp] theorem keyInts_map:∀ ns:List Int,keyInts (ns.map Sum.inl)=some ns
 | []=>rfl
 | n::ns=>by rw [List.map_cons,keyInts,keyInts_map ns];rfl
section
variable {X:Cx} {G:Hp} {f:FE} {st:Stmt} {O:List Nat}
end
end F
namespace L2
open PySem PySem.Spec PyProof.Rows
end L2
namespace F
open PySem PySem.Spec PyProof.Rows L2
section
variable {X:Cx} {O:List Nat} {G:Hp} {st:Stmt}
end
end F
namespace F
open PySem PySem.Spec PyProof.Rows L2
section
variable {X:Cx} {O:List Nat} {G:Hp} {st:Stmt} {f:FE}
end
section
variable {X:Cx} {κ:Nat->Option Nat} {G:Hp} {c:Cat} {e:Expr} {f:FE} {pos:Pos}
end
end F
namespace F
open PySem PySem.Spec PyProof.Rows L2
section
variable {X:Cx} {O:List Nat} {G:Hp} {st:Stmt} {f fk:FE}
end
end F
namespace F
open PySem PySem.Spec PyProof.Rows L2
section
variable {X:Cx} {κ:Nat->Option Nat} {G:Hp} {c c1:Cat} {o e:Expr} {fd fk:FE} {apos cpos:Pos}
end
end F
namespace F
open PySem PySem.Spec PyProof.Rows L2
section
variable {X:Cx} {κ:Nat->Option Nat} {G:Hp} {O:List Nat} {st:Stmt} {c c1 c2:Cat} {f fk fa fb:FE} {a b e:Expr} {es:List Expr} {pos:Pos}
noncomputable def ExtL(l:Nat)(own:Addr->Option Nat)(H:Hp)(own':Addr->Option Nat)(H':Hp):Prop:=∀ b o,own b≠some l->H b=some o->own' b=own b/\H' b=some o
theorem ExtL.trans(a:ExtL l o1 H1 o2 H2)(b:ExtL l o2 H2 o3 H3):ExtL l o1 H1 o3 H3:=fun x o h e=>by
 obtain ⟨h1,h2⟩:=a x o h e
 obtain ⟨h3,h4⟩:=b x o (by rw [h1];exact h) h2
 exact ⟨h3.trans h1,h4⟩
theorem ExtL.grow(s:Same H H'):ExtL l own H own H':=fun b o _ e=>⟨rfl,s b o e⟩
theorem ExtL.ext(h:ExtL l own H own' H'):Ext own H own' H':=fun b o z e=>by
 obtain ⟨h1,h2⟩:=h b o (by rw [z];exact fun y=>nomatch y) e
 exact ⟨h1.trans z,h2⟩
noncomputable abbrev FM:=En->Option (PV × En)
open Classical in
noncomputable def tVm(K:PySem.W.Frag)(κ:Nat->Option Nat)(G:Hp)(l:Nat)(f:FM):TE:=fun σ H Q=>∃ own env p e',VI K κ G own env σ H/\f env=some (p,e')/\∀ v H' own' C,VI K κ G own' e' σ H'->ExtL l own H own' H'->Rp K H' p v C->C.Nodup->(∀ b ∈ C,H b=none/\own' b=none)->Q v H'
noncomputable def VEm(X:Cx)(κ:Nat->Option Nat)(G:Hp)(l:Nat)(e:Expr)(f:FM):Prop:=PE X e (tVm X.K κ G l f)
noncomputable abbrev FI:=En->Option (Int × En)
noncomputable def tVi(K:PySem.W.Frag)(κ:Nat->Option Nat)(G:Hp)(l:Nat)(f:FI):TE:=fun σ H Q=>∃ own env i e',VI K κ G own env σ H/\f env=some (i,e')/\∀ H' own',VI K κ G own' e' σ H'->ExtL l own H own' H'->Q (.int i) H'
noncomputable def VEi(X:Cx)(κ:Nat->Option Nat)(G:Hp)(l:Nat)(e:Expr)(f:FI):Prop:=PE X e (tVi X.K κ G l f)
theorem tVi.in{K:PySem.W.Frag}{l:Nat}{σ:St}{H:Hp}{Q:VK}{f:FI}{own:Addr->Option Nat}{env e':En}{i:Int}(I:VI K κ G own env σ H)(hf:f env=some (i,e'))(k:∀ H' own',VI K κ G own' e' σ H'->ExtL l own H own' H'->Q (.int i) H'):tVi K κ G l f σ H Q:=⟨own,env,i,e',I,hf,k⟩
theorem tVi.elim{K:PySem.W.Frag}{l:Nat}{σ:St}{H:Hp}{Q:VK}{f:FI}{C:Prop}(h:tVi K κ G l f σ H Q)(k:∀ own env i e',VI K κ G own env σ H->f env=some (i,e')->(∀ H' own',VI K κ G own' e' σ H'->ExtL l own H own' H'->Q (.int i) H')->C):C:=
 let ⟨own,env,i,e',I,hf,q⟩:=h
 k own env i e' I hf q
theorem tOpL{K:PySem.W.Frag}{l:Nat}{r:R2}{g:PV->PV->Option PV}{fa:FI}{Q:VK}{σ:St}{H:Hp}{own:Addr->Option Nat}{env e':En}{i j:Int}{z:PV}(hv:OpV K r g)(I:VI K κ G own env σ H)(hx:fa env=some (i,e'))(hy:fb e'=some (.int j))(hz:g (.int i) (.int j)=some z)
  (k:∀ v H' own',VI K κ G own' e' σ H'->ExtL l own H own' H'->(∃ C,Rp K H' z v C)->Q v H'):tOp r (tVi K κ G l fa) (tV K κ G c fb) σ H Q:=by
 refine tVi.in I hx fun H1 own1 I1 x1=>.in I1 hy fun v H2 A s1 r1 _=>?_
 obtain ⟨rfl,rfl⟩:=r1.I
 exact hv H2 (.int i) (.int j) _ _ [] [] z Q (.mkI i) (.mkI j) hz fun v H' C s2 r2 nd fr=>k v H' own1 (I1.grow (s1.trans s2)) (x1.trans (ExtL.grow (s1.trans s2))) ⟨C,r2⟩
noncomputable abbrev FB:=En->Option (Bool × En)
noncomputable def tVTi(K:PySem.W.Frag)(κ:Nat->Option Nat)(G:Hp)(l:Nat)(f:FB):TT:=fun σ H Q=>∃ own env b e',VI K κ G own env σ H/\f env=some (b,e')/\∀ H' own',VI K κ G own' e' σ H'->ExtL l own H own' H'->Q b H'
noncomputable def VTi(X:Cx)(κ:Nat->Option Nat)(G:Hp)(l:Nat)(e:Expr)(f:FB):Prop:=PT X e (tVTi X.K κ G l f)
noncomputable def fCmpL(g:PV->PV->Option PV)(fa:FI)(fb:FE):FB:=fun env=>(fa env).bind fun x=>(fb x.2).bind fun y=>match y with
 | .int j=>(g (.int x.1) (.int j)).bind fun z=>match z with | .bl r=>some (r,x.2) | _=>none
 | _=>none
theorem vti_cmpL{l:Nat}{op:CmpOp}{r:R2}{g:PV->PV->Option PV}{fa:FI}(ho:OpR X (compareOp op) r)(hv:OpV X.K r g)(ha:VEi X κ G l a fa)(hb:VE X κ G c b fb)(hm:behindInMarks op b=false):VTi X κ G l (.Compare a [op] [b] pos) (fCmpL g fa fb):=(pt_cmpR ho ha hb hm).imp fun σ H Q hq_=>by
 obtain ⟨own,env,z,e',I,hf,k⟩:=hq_
 unfold fCmpL at hf
 replace hf:=Option.bind_eq_some_iff.mp hf;obtain ⟨x,hx,hf⟩:=hf
 replace hf:=Option.bind_eq_some_iff.mp hf;obtain ⟨y,hy,hf⟩:=hf
 split at hf
 case h_2=>cases hf
 replace hf:=Option.bind_eq_some_iff.mp hf;obtain ⟨w,hw,hf⟩:=hf
 split at hf
 case h_2=>cases hf
 cases hf
 refine tOpL hv I hx hy hw fun v H' own' I' x' r'=>?_
 obtain ⟨C,r2⟩:=r'
 exact ⟨_,r2.B.1,k H' own' I' x'⟩
end
end F
namespace F
open PySem PySem.Spec PyProof.Rows L2
section
variable {X:Cx} {κ:Nat->Option Nat} {G:Hp} {O:List Nat} {fs:FA} {bnd:PV->En->Option En} {t:FB} {f:FE} {ow:List Str} {js Bs:List Nat} {tg elt iter e:Expr} {ifs:List Expr} {scope:Scope} {pos:Pos}
end
end F
namespace F
open PySem PySem.Spec PyProof.Rows L2
section
variable {X:Cx} {κ:Nat->Option Nat} {G:Hp} {O:List Nat} {st:Stmt} {fs:FA} {bnd:PV->En->Option En} {t:FB} {f:FE} {ow:List Str} {js Bs:List Nat} {tg elt iter e:Expr} {ifs:List Expr} {scope:Scope} {pos:Pos}
end
end F
namespace F
open PySem PySem.Spec PyProof.Rows L2
section
variable {X:Cx} {κ:Nat->Option Nat} {G:Hp} {e:Expr} {es:List Expr} {f:FE} {fs:FA} {pos:Pos}
end
end F
namespace F
open PySem
namespace Tab
noncomputable def round(mask:Nat):Nat->Nat->Nat
 | 0,i=>i
 | n+1,i=>round mask n ((i * 5+1) % (mask+1))
theorem round_add(mask:Nat):∀ (a b i:Nat),round mask (a+b) i=round mask b (round mask a i)
 | 0,b,i=>by rw [Nat.zero_add];rfl
 | a+1,b,i=>by rw [Nat.succ_add];exact round_add mask a b _
noncomputable def Full(mask:Nat):Prop:=round mask (mask+1) 0=0/\∀ j,j≤mask->∃ a,a≤mask/\round mask a 0=j
noncomputable def orbit(mask:Nat):Nat->Nat->List Nat
 | 0,_=>[]
 | n+1,i=>i::orbit mask n ((i * 5+1) % (mask+1))
theorem mem_orbit(mask:Nat):∀ (n i j:Nat),j ∈ orbit mask n i->∃ a,a<n/\round mask a i=j
 | 0,i,j,h=>by cases h
 | n+1,i,j,h=>by
  rcases List.mem_cons.mp h with rfl | h
  ·exact ⟨0,Nat.succ_pos _,rfl⟩
  ·obtain ⟨a,ha,e⟩:=mem_orbit mask n _ j h
   exact ⟨a+1,Nat.succ_lt_succ ha,e⟩
theorem full_of(h1:round mask (mask+1) 0=0)(h2:((List.range (mask+1)).all fun j=>(orbit mask (mask+1) 0).contains j)=true):Full mask:=by
 refine ⟨h1,fun j hj=>?_⟩
 have:=List.all_eq_true.mp h2 j (List.mem_range.mpr (Nat.lt_succ_of_le hj))
 obtain ⟨a,ha,e⟩:=mem_orbit mask (mask+1) 0 j (List.contains_iff_mem.mp this)
 exact ⟨a,Nat.le_of_lt_succ ha,e⟩
theorem full7:Full 7:=full_of (by decide +kernel) (by decide +kernel)
theorem Full.to(F:Full mask)(hi:i≤mask)(hj:j≤mask):∃ m,m≤mask/\round mask m i=j:=by
 obtain ⟨a,ha,ea⟩:=F.2 i hi
 obtain ⟨b,hb,eb⟩:=F.2 j hj
 by_cases h:a≤b
 ·refine ⟨b - a,by omega,?_⟩
  rw [← ea,← round_add,show a+(b - a)=b by omega,eb]
 ·refine ⟨mask+1+b - a,by omega,?_⟩
  rw [← ea,← round_add,show a+(mask+1+b - a)=mask+1+b by omega,round_add,F.1,eb]
theorem runEnd_le(hi:i≤mask):i≤SetTable.runEnd mask i/\SetTable.runEnd mask i≤mask/\SetTable.runEnd mask i≤i+9:=by
 unfold SetTable.runEnd
 split<;>omega
structure Laid (mask:Nat) (owner:Array (Option Nat)) (k:Nat):Prop where
 size:owner.size=mask+1
 perm:(owner.toList.filterMap id).Perm (List.range k).reverse
noncomputable def Rise(xs:Array Nat):Prop:=xs.toList.Pairwise (·<·)
structure Good (t:SetTable) (n:Nat) (led:Bool):Prop where
 full:Full t.mask
 size:t.place.size=n
 room:n≤t.mask
 dm:t.dummies=#[]
 rise:Rise t.place
 le:∀ j ∈ t.place.toList,j≤t.mask
 led:t.led=led
 plain:t.plain=true
theorem below_go{xs:Array Nat}(hr:Rise xs):∀ (fuel lo hi:Nat),lo≤hi->hi≤xs.size->hi - lo≤fuel->(∀ i x,i<lo->xs[i]?=some x->x<j)->(∀ i x,hi≤i->xs[i]?=some x->j≤x)->
  SetTable.below.go xs j fuel lo hi≤xs.size/\(∀ i x,i<SetTable.below.go xs j fuel lo hi->xs[i]?=some x->x<j)/\∀ i x,SetTable.below.go xs j fuel lo hi≤i->xs[i]?=some x->j≤x:=by
 have mono:∀ a b x y,a<b->xs[a]?=some x->xs[b]?=some y->x<y:=fun a b x y hab ha hb=>by
  rw [← Array.getElem?_toList] at ha hb
  obtain ⟨h1,e1⟩:=List.getElem?_eq_some_iff.mp ha
  obtain ⟨h2,e2⟩:=List.getElem?_eq_some_iff.mp hb
  rw [← e1,← e2]
  exact List.pairwise_iff_getElem.mp hr a b h1 h2 hab
 intro fuel
 induction fuel with
 | zero=>
  intro lo hi h1 h2 h3 h4 h5
  unfold SetTable.below.go
  obtain rfl:lo=hi:=by omega
  exact ⟨h2,h4,h5⟩
 | succ fuel ih=>
  intro lo hi h1 h2 h3 h4 h5
  unfold SetTable.below.go
  by_cases hlt:lo<hi
  ·rw [if_pos hlt]
   dsimp only
   have hm:(lo+hi) / 2<xs.size:=by omega
   have hg:xs[(lo+hi) / 2]?=some (xs.getD ((lo+hi) / 2) j):=by
    rw [Array.getD_eq_getD_getElem?,getElem?_pos xs _ hm];rfl
   generalize hx:xs.getD ((lo+hi) / 2) j=x at hg
   split
   ·rename_i hc
    exact ih _ _ (by omega) h2 (by omega) (fun i y hi' hy=>by
     by_cases e:i=(lo+hi) / 2
     ·rw [e,hg] at hy;cases hy;exact hc
     ·exact Nat.lt_trans (mono i _ y x (by omega) hy hg) hc) h5
   ·rename_i hc
    exact ih _ _ (by omega) (by omega) (by omega) h4 (fun i y hi' hy=>by
     by_cases e:i=(lo+hi) / 2
     ·rw [e,hg] at hy;cases hy;omega
     ·have:=mono _ i x y (by omega) hg hy;omega)
  ·rw [if_neg hlt]
   obtain rfl:lo=hi:=by omega
   exact ⟨h2,h4,h5⟩
theorem below_ok{xs:Array Nat}(hr:Rise xs)(j:Nat):SetTable.below xs j≤xs.size/\(∀ i x,i<SetTable.below xs j->xs[i]?=some x->x<j)/\∀ i x,SetTable.below xs j≤i->xs[i]?=some x->j≤x:=
 below_go hr _ 0 xs.size (Nat.zero_le _) (Nat.le_refl _) (by omega) (fun i x h=>absurd h (Nat.not_lt_zero _)) fun i x h e=>by
  rw [getElem?_neg xs i (by omega)] at e;cases e
theorem insert_rise{xs:Array Nat}(hr:Rise xs)(hj:xs[SetTable.below xs j]?≠some j):Rise (SetTable.insertAt xs (SetTable.below xs j) j):=by
 obtain ⟨b1,b2,b3⟩:=below_ok hr j
 unfold Rise
 rw [SetTable.toList_insertAt,List.pairwise_append,List.pairwise_cons]
 refine ⟨hr.sublist (List.take_sublist _ _),⟨fun y hy=>?_,hr.sublist (List.drop_sublist _ _)⟩,fun x hx y hy=>?_⟩
 ·obtain ⟨i,hi⟩:=List.mem_iff_getElem?.mp hy
  rw [List.getElem?_drop,Array.getElem?_toList] at hi
  have h1:=b3 _ _ (Nat.le_add_right _ _) hi
  by_cases e:y=j
  ·subst e
   cases i with
   | zero=>exact absurd hi hj
   | succ i=>
    have hb:SetTable.below xs y<xs.size:=by
     have:=(Array.getElem?_eq_some_iff.mp hi).1;omega
    have h2:=b3 _ _ (Nat.le_refl _) (getElem?_pos xs _ hb)
    have h3:=List.pairwise_iff_getElem.mp hr (SetTable.below xs y) (SetTable.below xs y+(i+1)) (by rw [Array.length_toList];exact hb) (by rw [Array.length_toList];exact (Array.getElem?_eq_some_iff.mp hi).1) (by omega)
    rw [Array.getElem_toList,Array.getElem_toList] at h3
    have h4:=(Array.getElem?_eq_some_iff.mp hi).2
    omega
  ·omega
 ·have hxj:x<j:=by
   obtain ⟨i,hi⟩:=List.mem_iff_getElem?.mp hx
   rw [List.getElem?_take] at hi
   split at hi
   ·rename_i h;rw [Array.getElem?_toList] at hi;exact b2 i x h hi
   ·cases hi
  rcases List.mem_cons.mp hy with rfl | hy
  ·exact hxj
  ·obtain ⟨i,hi⟩:=List.mem_iff_getElem?.mp hy
   rw [List.getElem?_drop,Array.getElem?_toList] at hi
   have h1:=b3 _ _ (Nat.le_add_right _ _) hi
   omega
theorem slot_out{t:SetTable}(h:t.slot j=.empty):t.place[SetTable.below t.place j]?≠some j:=fun e=>by
 unfold SetTable.slot at h
 dsimp only at h
 rw [if_pos (beq_iff_eq.mpr e)] at h
 cases h
section
variable {t:SetTable} {hashAt:Nat->Int} {h:Int}
end
theorem put_ok{t:SetTable}(g:Good t n led)(hn:n+1≤t.mask)(hs:t.slot j=.empty)(hj:j≤t.mask):Good (t.put j).1 (n+1) led/\(t.put j).1.mask=t.mask:=by
 have hd:(t.put j).1.dummies=#[]:=by
  unfold SetTable.put
  dsimp only
  rw [g.dm];rfl
 refine ⟨⟨g.full,?_,hn,hd,insert_rise g.rise (slot_out hs),fun k hk=>?_,g.led,g.plain⟩,rfl⟩
 ·show (SetTable.insertAt t.place (SetTable.below t.place j) j).size=n+1
  have:=(SetTable.insertAt_perm t.place (SetTable.below t.place j) j).length_eq
  rw [Array.length_toList,Array.length_toList,Array.size_push,g.size] at this
  exact this
 ·have hk':k ∈ (SetTable.insertAt t.place (SetTable.below t.place j) j).toList:=hk
  rw [(SetTable.insertAt_perm t.place (SetTable.below t.place j) j).mem_iff,Array.toList_push] at hk'
  rcases List.mem_append.mp hk' with h | h
  ·exact g.le k h
  ·rw [List.mem_singleton.mp h];exact hj
end Tab
end F
namespace F
open PySem PySem.Spec PyProof.Rows
noncomputable def elN(e:Int × Value):Int:=numOf e.2
structure SetTb (prog:Program) (w:World) (es:Array (Int × Value)) (t:SetTable) (L:List Int) (led:Bool):Prop where
 el:ElemsOf (intKind prog w) es.toList
 perm:(es.toList.map elN).Perm L
 good:Tab.Good t es.size led
 mask:t.mask=7∨t.mask=31∨t.mask=127
 nf:es.size * 5<t.mask * 3
noncomputable def SetI(prog:Program)(w:World)(h:Heap)(a:Addr)(L:List Int)(led:Bool):Prop:=∃ o es ep t,h.get? a=some o/\o.ExactSet/\o.data=.set es ep t/\SetTb prog w es t L led
section
variable {prog:Program} {w:World} {A:Around} {E:Value->Shared->Prop} {s:Shared}
theorem is_iff{e:Int × Value}(h:(∃ k,(intKind prog w).is k e.2=true/\e.1=(intKind prog w).hash k)/\e.2.scannable=true):(intKind prog w).is k e.2=true ↔ elN e=k:=by
 obtain ⟨⟨k',h1,_⟩,_⟩:=h
 obtain ⟨t,e1⟩:=Value.isInt_shape h1
 constructor
 ·intro h2
  obtain ⟨t',e2⟩:=Value.isInt_shape h2
  unfold elN;rw [e2];rfl
 ·intro h2
  unfold elN at h2
  rw [e1] at h2 ⊢
  have:k'=k:=h2
  subst this
  exact intKind_is _ _ _ _
theorem SetTb.size{es:Array (Int × Value)}{L:List Int}(b:SetTb prog w es t L led):es.size=L.length:=by
 have:=b.perm.length_eq
 rw [List.length_map,Array.length_toList] at this
 exact this
theorem SetTb.mem{es:Array (Int × Value)}(b:SetTb prog w es t L led)(k:Int):k ∈ L ↔ ∃ e ∈ es.toList,(intKind prog w).is k e.2=true:=by
 rw [← b.perm.mem_iff,List.mem_map]
 exact ⟨fun ⟨e,h1,h2⟩=>⟨e,h1,(is_iff (b.el e h1)).mpr h2⟩,fun ⟨e,h1,h2⟩=>⟨e,h1,(is_iff (b.el e h1)).mp h2⟩⟩
theorem SetI.keep{h h':Heap}(x:SetI prog w h a L led)(k:∀ o,h.get? a=some o->h'.get? a=some o):SetI prog w h' a L led:=by
 obtain ⟨o,es,ep,t,ho,r⟩:=x
 exact ⟨o,es,ep,t,k o ho,r⟩
theorem SetI.fresh{h:Heap}(ho:h.get? a=some { cls:=.type "set",dict:=none,data:=.set #[] 0 (.fresh 0 0 led) }):SetI prog w h a [] led:=
 ⟨_,#[],0,_,ho,⟨rfl,rfl,rfl⟩,rfl,fun e he=>by simp at he,.refl _,⟨Tab.full7,rfl,Nat.zero_le _,rfl,List.Pairwise.nil,fun j hj=>by simp [SetTable.fresh] at hj,rfl,rfl⟩,.inl rfl,by show 0 * 5<7 * 3;decide⟩
end
end F
namespace F
open PySem PySem.Spec PyProof.Rows PySem.W
noncomputable def IsSI(h:Heap)(it a:Addr)(slot i n ep:Nat):Prop:=∃ o,h.get? it=some o/\o.cls=.type "set_iterator"/\o.data=.fields #[.int slot 0,.int i 0,.ref a,.int n 0,.int ep 0]
noncomputable def SetAt(h:Heap)(a:Addr)(es:Array (Int × Value))(ep:Nat)(t:SetTable):Prop:=∃ o,h.get? a=some o/\o.ExactSet/\o.data=.set es ep t
section
variable {prog:Program} {w:World} {A:Around} {E:Value->Shared->Prop} {s:Shared} {a:Addr} {es:Array (Int × Value)} {ep:Nat} {t:SetTable}
end
end F
namespace F
open PySem PySem.Spec PyProof.Rows PySem.W
section
variable {prog:Program} {w:World} {A:Around} {E:Value->Shared->Prop} {s:Shared} {a:Addr} {es:Array (Int × Value)} {ep:Nat} {t:SetTable}
theorem IsSI.typeIs(x:IsSI s.heap it a slot i n ep):s.TypeIs (.ref it) "set_iterator":=let ⟨o,ho,hc,_⟩:=x;⟨o,ho,hc⟩
theorem SetAt.at{h h':Heap}(x:SetAt h a es ep t)(e:∀ o,h.get? a=some o->h'.get? a=some o):SetAt h' a es ep t:=let ⟨o,ho,r⟩:=x;⟨o,e _ ho,r⟩
theorem IsSI.at{h h':Heap}(x:IsSI h it a slot i n ep)(e:∀ o,h.get? it=some o->h'.get? it=some o):IsSI h' it a slot i n ep:=let ⟨o,ho,r⟩:=x;⟨o,e _ ho,r⟩
end
end F
namespace L2
open PySem PySem.Spec PyProof.Rows F
end L2
namespace F
open PySem PySem.Spec PyProof.Rows L2
end F
namespace L2
open PySem PySem.Spec PyProof.Rows PySem.W
end L2
namespace F
open PySem PySem.Spec PyProof.Rows L2
end F
namespace F
open PySem PySem.Spec PyProof.Rows L2
section
variable {X:Cx} {κ:Nat->Option Nat} {G:Hp} {c:Cat} {f:FE} {st:Stmt}
end
end F
namespace F
open PySem PySem.Spec PyProof.Rows L2
noncomputable def GC(K:PySem.W.Frag)(mg:Str->Option Value)(x:Str)(p:PV):Prop:=∃ a,mg x=some (.ref a)/\∀ H,Rp K H p (.ref a) []
theorem ve_gc{X:Cx}(hg:Gl X x)(h:GC X.K X.mg x p)(hd:(x == ("__debug__":Str))=false:=by decide):VE X κ G (.mv []) (.Name x pos) (fC p):=by
 obtain ⟨a,hm,hr⟩:=h
 refine (pe_glob hg hm (v:=.ref a) rfl hd).imp fun σ H Q hq_=>?_
 refine hq_.elim fun own env q I hf k=>?_
 cases hf
 exact k _ H [] (Same.refl _) (hr H) (Cat.nil _ _ _)
end F
namespace HT
open PySem PySem.Spec PyProof.Rows
section
variable {prog:Program} {w:World} {A:Around} {E:Value->Shared->Prop} {s:Shared}
end
end HT
namespace L2
open PySem PySem.Spec PyProof.Rows
end L2
namespace F
open PySem PySem.Spec PyProof.Rows L2
end F
namespace F
open PySem PySem.Spec PyProof.Rows L2
section
variable {X:Cx} {κ:Nat->Option Nat} {G:Hp} {O:List Nat} {st:Stmt} {es:List Expr} {pos:Pos}
theorem VI.bare{K:PySem.W.Frag}{σ:St}{H:Hp}{n:Nat}(hn:n=σ.length)(s:Same G H):VI K κ G (fun _=>none) (List.replicate n none) σ H:=
 ⟨by rw [List.length_replicate];exact hn,fun i p e=>(by rw [List.getElem?_replicate] at e;split at e<;>cases e),(fun _ _ z=>nomatch z),s⟩
noncomputable def dropO(O':List Nat)(own:Addr->Option Nat):Addr->Option Nat:=fun a=>(own a).bind fun l=>if l ∈ O' then some l else none
theorem VI.drop{O':List Nat}{K:PySem.W.Frag}{own:Addr->Option Nat}{env:En}{σ:St}{H:Hp}(hO:∀ i ∈ O',i ∈ O)(I:VI K (ko O) G own env σ H):VI K (ko O') G (dropO O' own) env σ H:=by
 refine ⟨I.len,fun i p e=>?_,fun a l e=>?_,I.same⟩
 ·obtain ⟨v,A,h1,h2,h3,h4⟩:=I.slot i p e
  refine ⟨v,A,h1,h2,fun hk a ha=>?_,fun l hk=>?_⟩
  ·have ni:i ∉ O':=fun z=>by rw [ko_in z] at hk;cases hk
   unfold dropO
   by_cases hi:i ∈ O
   ·rw [(h4 i (ko_in hi)).2 a ha,Option.bind_some,if_neg ni]
   ·rw [h3 (ko_out hi) a ha];rfl
  ·have hl:=ko_some hk
   subst hl
   have hi:l ∈ O':=by
    unfold ko at hk
    split at hk
    ·assumption
    ·cases hk
   obtain ⟨nd,hA⟩:=h4 l (ko_in (hO l hi))
   refine ⟨nd,fun a ha=>?_⟩
   unfold dropO
   rw [hA a ha,Option.bind_some,if_pos hi]
 ·unfold dropO at e
  obtain ⟨l',h1,h2⟩:=Option.bind_eq_some_iff.mp e
  split at h2
  ·cases h2;exact I.own a _ h1
  ·cases h2
end
end F
namespace F
open PySem PySem.Spec PyProof.Rows L2 PySem.W
inductive Df (K:PySem.W.Frag) (x:Str) (st:Stmt):Prop
 | mk {f:Addr} {oc:Value} {od:Option Addr} {kV dc pm:Value} {an:Option Addr} {cd ct:Value} {sl:Array (Option Value)} (a:nsIn K mainGlobals x=some (some (.ref f))) (l:K.lookup f=some ⟨oc,od,.func (fnOf x x (defArgs st) (defBody st) (defScope st) .none kV dc pm an cd ct),sl⟩) (c:codeIn K cd x=true) (k:keepIn K (.ref f)=true):Df K x st
theorem Df.fn{P:Program}{w:World}{K:PySem.W.Frag}{h:Heap}{mg:Str->Option Value}{base:Heap}{x:Str}{st:Stmt}{k:Nat}{ps:List Str}{sp:Sp}(d:Df K x st)(X:K.In h)(G:h.Ns mainGlobals mg)(ok:∀ f fd,Fun K x x st f fd->FnOk P w K mg base CX0 k f fd ps sp)
  (hb:∀ (kV doc pm:Value) (an:Option Addr) (cdv ct:Value) (us:List Value),us.length=ps.length->bindArgs (PySem.W.fnOf x x (defArgs st) (defBody st) (defScope st) .none kV doc pm an cdv ct) ⟨us,[]⟩=pure (ps.zip us)):Fn P w K mg base x k ps sp:=by
 obtain ⟨a,l,c,k⟩:=d
 have F:=fun_mk (st:=st) l c k
 exact ⟨_,_,ok _ _ F,mg_of X G a,k,F.binds hb⟩
end F
namespace L2
open PySem PySem.Spec PyProof.Rows
theorem pe_fn0{X:Cx}(F:Fn X.prog X.w X.K X.mg X.base x k ps sp)(hr:Room k X.A)(hg:Gl X x)(hdb:(x == ("__debug__":Str))=false:=by decide):
  PE X (.Call (.Name x p) [] [] pos) (tCall sp [] E0 tNil):=by
 obtain ⟨f,fd,F,hm,hk,hb⟩:=F.ex
 exact pe_call0 F hr hg hm hk hb .nil pass0 hdb
end L2
namespace F
open PySem PySem.Spec PyProof.Rows L2
theorem ve_call0{X:Cx}(hF:Fn X.prog X.w X.K X.mg X.base x k ps (spV X.K 0 Φ))(hr:Room k X.A)(hg:Gl X x)(hdb:(x == ("__debug__":Str))=false:=by decide):
  VE X κ G (.mv []) (.Call (.Name x p) [] [] pos) (fCall Φ fNil):=(pe_fn0 hF hr hg hdb).imp fun σ H Q hq_=>by
 refine hq_.elim fun own env z I hf k=>?_
 have hf':Φ []=some z:=hf
 exact ⟨[],[],z,by unfold Rps;exact ⟨rfl,rfl⟩,rfl,hf',fun v H' C s2 r2 nd fr=>k v H' C s2 r2 ⟨nd,fun a ha=>.inl (fr a ha)⟩⟩
end F
namespace F
open PySem PySem.W PyProof.Rows
section
variable {O:KeyOrd} {key:Nat->O.α} {n:Nat} {α β:Type}
noncomputable def Ans(key:Nat->O.α)(n:Nat):KasT α->(α->Prop)->Prop
 | .ret a,P=>P a
 | .ask i j k,P=>(i<n/\j<n/\i≠j)/\Ans key n (k (O.blt (key i) (key j))) P
theorem Ans.bind{f:α->KasT β}{P:β->Prop}:∀ {t:KasT α},Ans key n t (fun a=>Ans key n (f a) P)->Ans key n (t.bind f) P
 | .ret _,h=>h
 | .ask i j k,h=>⟨h.1,Ans.bind (t:=k _) h.2⟩
theorem Ans.imp{P Q:α->Prop}:∀ {t:KasT α},Ans key n t P->(∀ a,P a->Q a)->Ans key n t Q
 | .ret _,h,k=>k _ h
 | .ask i j f,h,k=>⟨h.1,Ans.imp (t:=f _) h.2 k⟩
theorem Ans.run{cmp:Nat->Nat->(Bool->Shared->Prop)->Shared->Prop}{R:Shared->Prop}{P:α->Prop}{Q:α->Shared->Prop}(hc:∀ i j C s,i<n->j<n->i≠j->R s->(∀ s',R s'->C (O.blt (key i) (key j)) s')->cmp i j C s)(hq:∀ a s,P a->R s->Q a s):∀ {t:KasT α} {s:Shared},Ans key n t P->R s->t.kasWp cmp Q s
 | .ret a,s,h,r=>hq a s h r
 | .ask i j k,s,h,r=>hc i j _ s h.1.1 h.1.2.1 h.1.2.2 r fun s' r'=>Ans.run hc hq (t:=k _) h.2 r'
noncomputable def Kp(key:Nat->O.α)(p:Array Nat)(i:Nat):O.α:=key (p.getD i 0)
noncomputable def Up(key:Nat->O.α)(p:Array Nat)(k:Nat):Prop:=∀ i j,i≤j->j<k->O.kle (Kp key p i) (Kp key p j)
noncomputable def Dn(key:Nat->O.α)(p:Array Nat)(k:Nat):Prop:=∀ i j,i≤j->j<k->O.kle (Kp key p j) (Kp key p i)
structure Pm (n:Nat) (p:Array Nat):Prop where
 sz:p.size=n
 pm:p.toList.Perm (List.range n)
theorem Pm.lt{p:Array Nat}(h:Pm n p)(hi:i<n):p.getD i 0<n:=by
 have hs:i<p.size:=by rw [h.sz];exact hi
 have e:p.getD i 0=p[i]:=by simp [Array.getD,hs]
 rw [e]
 exact List.mem_range.mp (h.pm.mem_iff.mp (by simp))
theorem Pm.ask{p:Array Nat}(h:Pm n p)(hi:i<n)(hj:j<n)(hne:i≠j):p.getD i 0<n/\p.getD j 0<n/\p.getD i 0≠p.getD j 0:=by
 refine ⟨h.lt hi,h.lt hj,fun e=>hne ?_⟩
 have si:i<p.size:=by rw [h.sz];exact hi
 have sj:j<p.size:=by rw [h.sz];exact hj
 have ei:p.getD i 0=p.toList[i]'(by simpa using si):=by simp [Array.getD,si]
 have ej:p.getD j 0=p.toList[j]'(by simpa using sj):=by simp [Array.getD,sj]
 rw [ei,ej] at e
 have nd:=List.pairwise_iff_getElem.mp (List.nodup_iff_pairwise_ne.mp (h.pm.nodup_iff.mpr List.nodup_range))
 rcases Nat.lt_trichotomy i j with z | z | z
 ·exact absurd e (nd i j _ _ z)
 ·exact z
 ·exact absurd e.symm (nd j i _ _ z)
theorem Pm.of{p q:Array Nat}(h:Pm n p)(hp:q.Perm p)(hs:q.size=p.size):Pm n q:=⟨hs.trans h.sz,(Array.perm_iff_toList_perm.mp hp).trans h.pm⟩
theorem Pm.rev(h:Pm n p)(i j:Nat):Pm n (kas_rev p i j):=h.of (mirror_perm _ _ _ _) (mirror_size _ _ _ _)
theorem Up.one{p:Array Nat}:Up key p 1:=fun i j h1 h2=>by
 obtain rfl:i=j:=by omega
 exact KeyOrd.kle_refl _
theorem Up.more(h:Up key p k)(h0:1≤k)(hl:O.kle (Kp key p (k - 1)) (Kp key p k)):Up key p (k+1):=fun i j h1 h2=>by
 rcases Nat.lt_or_ge j k with c | c
 ·exact h i j h1 c
 ·obtain rfl:j=k:=by omega
  rcases Nat.lt_or_ge i j with d | d
  ·exact KeyOrd.kle_trans (h i (j - 1) (by omega) (by omega)) hl
  ·obtain rfl:i=j:=by omega
   exact KeyOrd.kle_refl _
theorem Dn.more(h:Dn key p k)(h0:1≤k)(hl:O.kle (Kp key p k) (Kp key p (k - 1))):Dn key p (k+1):=fun i j h1 h2=>by
 rcases Nat.lt_or_ge j k with c | c
 ·exact h i j h1 c
 ·obtain rfl:j=k:=by omega
  rcases Nat.lt_or_ge i j with d | d
  ·exact KeyOrd.kle_trans hl (h i (j - 1) (by omega) (by omega))
  ·obtain rfl:i=j:=by omega
   exact KeyOrd.kle_refl _
structure Fall (key:Nat->O.α) (n r:Nat) (x:Array Nat × Nat × Nat):Prop where
 pm:Pm n x.1
 lo:1≤x.2.1
 hi:x.2.1≤r
 dn:Dn key x.1 x.2.1
 q:x.2.2+1≤x.2.1
 eq:∀ i,x.2.1 - (x.2.2+1)≤i->i<x.2.1->Kp key x.1 i=Kp key x.1 (x.2.1 - 1)
theorem Fall.zero(hp:Pm n p)(h1:1≤m)(hm:m≤r)(d:Dn key p m):Fall key n r (p,m,0):=
 ⟨hp,h1,hm,d,h1,fun i a b=>by
  have a':m - 1≤i:=a
  have b':i<m:=b
  obtain rfl:i=m - 1:=by omega
  rfl⟩
end
end F
namespace HT
open PySem PySem.Spec PyProof.Rows
open PySem.AutoSeq1 (wpAny_loadPart')
open PySem.MeetsSeq PySem.MeetsSeq2 PySem.MeetsSeq3
end HT
namespace HT
open PySem PySem.Spec PyProof.Rows
open PySem.AutoSeq1 (wpAny_loadPart')
open PySem.MeetsSeq PySem.MeetsSeq2 PySem.MeetsSeq3
section
variable {prog:Program} {w:World} {A:Around} {E:Value->Shared->Prop} {s:Shared}
end
end HT
namespace F
open PySem PySem.Spec PySem.W PyProof.Rows
structure Heads (h:Heap) (a:Addr) (vs:List Value) (hs:List Int):Prop where
 len:vs.length=hs.length
 at':∀ i,i<vs.length->∃ l items t m,vs.getD i Value.none=.ref l/\l≠a/\h.get? l=some { cls:=.type "list",dict:=none,data:=.seq items m,slots:=#[] }/\items[0]?=some (.int (hs.getD i 0) t)
 nd:hs.Nodup
theorem Heads.other{h h':Heap}(x:Heads h a vs hs)(k:∀ l o,l≠a->h.get? l=some o->h'.get? l=some o):Heads h' a vs hs:=
 ⟨x.len,fun i hi=>let ⟨l,its,t,m,e1,e2,e3,e4⟩:=x.at' i hi;⟨l,its,t,m,e1,e2,k l _ e2 e3,e4⟩,x.nd⟩
section
variable {prog:Program} {w:World} {A:Around} {E:Value->Shared->Prop} {s:Shared}
end
end F
namespace L2
open PySem PySem.Spec PySem.W PyProof.Rows
structure HeadsV (H:Hp) (xs:List V) (hs:List Int):Prop where
 len:xs.length=hs.length
 at':∀ i,i<xs.length->∃ l r,xs[i]?=some (.ref l)/\H l=some (.lst (.int (hs.getD i 0)::r))
 nd:hs.Nodup
section
variable {X:Cx}
end
end L2
namespace F
open PySem PySem.Spec PyProof.Rows L2
section
variable {X:Cx} {κ:Nat->Option Nat} {G:Hp} {a b e:Expr} {fa fb:FE} {fs:FA} {pos p1:Pos}
end
end F
namespace HT
open PySem PySem.Spec PySem.W PyProof.Rows
open PySem.AutoSeq1 (wpAny_loadPart')
section
variable {prog:Program} {w:World} {K:Type} [DecidableEq K]
end
section
variable {prog:Program} {w:World} {A:Around} {E:Value->Shared->Prop} {s:Shared}
end
section
variable {prog:Program} {w:World} {K:Type} [DecidableEq K] {knd:KeyKind prog w K} {A:Around} {E:Value->Shared->Prop} {s:Shared}
end
end HT
namespace L2
open PySem PySem.Spec PySem.W PyProof.Rows
section
variable {X:Cx} {pins:List (Addr × Obj)} {σ:St} {H:Hp} {s:Shared}
end
end L2
namespace F
open PySem PySem.Spec PyProof.Rows L2
end F
namespace L2
open PySem PySem.Spec PySem.W PyProof.Rows
section
variable {X:Cx}
open PySem.SeqAt in
open PySem.SeqAt in
end
end L2
namespace F
open PySem PySem.Spec PyProof.Rows L2
end F
namespace F
open PySem PySem.Spec PyProof.Rows
namespace Tab
noncomputable def adv(t:SetTable):Nat->SetTable.Probe->SetTable.Probe
 | 0,P=>P
 | n+1,P=>adv t n (t.advance P)
noncomputable def In(t:SetTable)(P:SetTable.Probe):Prop:=P.j+P.more≤t.mask/\P.dummy=none
theorem In.next{t:SetTable}(h:In t P):In t (t.advance P):=by
 unfold SetTable.advance
 split
 ·rename_i hm
  exact ⟨by show P.j+1+(P.more - 1)≤t.mask;have:=h.1;omega,h.2⟩
 ·have hi:(SetTable.leap t.mask P.i P.perturb).1≤t.mask:=Nat.le_of_lt_succ (Nat.mod_lt _ (Nat.succ_pos _))
  have hr:=runEnd_le hi
  exact ⟨by show (SetTable.leap t.mask P.i P.perturb).1+(SetTable.runEnd t.mask (SetTable.leap t.mask P.i P.perturb).1 - (SetTable.leap t.mask P.i P.perturb).1)≤t.mask;omega,h.2⟩
theorem In.start(t:SetTable)(h:Int):In t (t.probeStart h):=by
 have hi:SetTable.bits h % (t.mask+1)≤t.mask:=Nat.le_of_lt_succ (Nat.mod_lt _ (Nat.succ_pos _))
 have hr:=runEnd_le hi
 exact ⟨by show SetTable.bits h % (t.mask+1)+(SetTable.runEnd t.mask (SetTable.bits h % (t.mask+1)) - SetTable.bits h % (t.mask+1))≤t.mask;omega,rfl⟩
section
variable {t:SetTable} {h:Int}
inductive Meet (t:SetTable) (m:Nat) (P:SetTable.Probe):Option SetTable.Met->Prop
 | empty (j:Nat):t.slot j=.empty->j≤t.mask->Meet t m P (some (.empty j none))
 | cand (j i k:Nat) (next:SetTable.Probe):t.slot j=.live i->k<m->In t next->t.slot (adv t k next).j=.empty->Meet t m P (some (.candidate j i next))
theorem slot_live(g:Good t n led)(h:t.slot j=.live i):i<n:=by
 unfold SetTable.slot at h
 dsimp only at h
 split at h
 ·rename_i hc
  cases h
  have e:=beq_iff_eq.mp hc
  obtain ⟨h1,_⟩:=Array.getElem?_eq_some_iff.mp e
  rw [← g.size];exact h1
 ·split at h<;>cases h
end
end Tab
noncomputable def ElT(prog:Program)(w:World)(h:Heap)(e:Int × Value):Prop:=∃ b k,e.2=.ref b/\IsTupleKey (intKind prog w) h k b/\e.1=tupleKeyHash (intKind prog w) k
section
variable {prog:Program} {w:World} {A:Around} {E:Value->Shared->Prop} {s:Shared}
end
end F
namespace F
open PySem PySem.Spec PyProof.Rows
structure SetTt (prog:Program) (w:World) (h:Heap) (es:Array (Int × Value)) (t:SetTable) (L:List Value) (led:Bool):Prop where
 el:∀ e ∈ es.toList,ElT prog w h e
 perm:(es.toList.map (·.2)).Perm L
 good:Tab.Good t es.size led
 mask:t.mask=7∨t.mask=31∨t.mask=127
 nf:es.size * 5<t.mask * 3
noncomputable def SetV(prog:Program)(w:World)(h:Heap)(a:Addr)(L:List Value)(led:Bool):Prop:=∃ o es ep t,h.get? a=some o/\o.ExactSet/\o.data=.set es ep t/\SetTt prog w h es t L led
section
variable {prog:Program} {w:World} {A:Around} {E:Value->Shared->Prop} {s:Shared}
theorem SetTt.size{es:Array (Int × Value)}{L:List Value}(b:SetTt prog w h es t L led):es.size=L.length:=by
 have:=b.perm.length_eq
 rw [List.length_map,Array.length_toList] at this
 exact this
theorem tup_keep{h h':Heap}(hk:IsTupleKey (intKind prog w) h k b)(e:∀ o,h.get? b=some o->h'.get? b=some o):IsTupleKey (intKind prog w) h' k b:=by
 obtain ⟨o,items,n,ho,r⟩:=hk
 exact ⟨o,items,n,e o ho,r⟩
theorem SetV.keep{h h':Heap}(x:SetV prog w h a L led)(k:∀ o,h.get? a=some o->h'.get? a=some o)(kk:∀ b,Value.ref b ∈ L->∀ o,h.get? b=some o->h'.get? b=some o):SetV prog w h' a L led:=by
 obtain ⟨o,es,ep,t,ho,hx,hd,B⟩:=x
 refine ⟨o,es,ep,t,k o ho,hx,hd,fun e he=>?_,B.perm,B.good,B.mask,B.nf⟩
 obtain ⟨b,c,e1,e2,e3⟩:=B.el e he
 exact ⟨b,c,e1,tup_keep e2 (kk b (by rw [← e1];exact B.perm.mem_iff.mp (List.mem_map.mpr ⟨e,he,rfl⟩))),e3⟩
theorem SetV.fresh{h:Heap}(ho:h.get? a=some { cls:=.type "set",dict:=none,data:=.set #[] 0 (.fresh 0 0 led) }):SetV prog w h a [] led:=
 ⟨_,#[],0,_,ho,⟨rfl,rfl,rfl⟩,rfl,fun e he=>by simp at he,.refl _,⟨Tab.full7,rfl,Nat.zero_le _,rfl,List.Pairwise.nil,fun j hj=>by simp [SetTable.fresh] at hj,rfl,rfl⟩,.inl rfl,by show 0 * 5<7 * 3;decide⟩
structure Tups (prog:Program) (w:World) (h0:Heap) (n:Nat) (ad:Nat->Addr) (key:Nat->List Int) (wr:List Addr):Prop where
 at':∀ i,i<n->IsTupleKey (intKind prog w) h0 (key i) (ad i)
 out:∀ i,i<n->ad i ∉ wr
 ne:∀ i j,i<j->j<n->key i≠key j
noncomputable def tl(ad:Nat->Addr)(n:Nat):List Value:=(List.range n).map fun j=>.ref (ad j)
end
end F
namespace F
open PySem PySem.Spec PyProof.Rows
section
variable {prog:Program} {w:World} {A:Around} {E:Value->Shared->Prop} {s:Shared}
end
end F
namespace F
open PySem PySem.Spec PySem.W PyProof.Rows
noncomputable def plt(a b:Int × Int):Prop:=a.1<b.1∨a.1=b.1/\a.2<b.2
instance (a b:Int × Int):Decidable (plt a b):=by unfold plt;infer_instance
structure PairsAt (h:Heap) (a:Addr) (vs:List Value) (ks:List (Int × Int)):Prop where
 len:vs.length=ks.length
 at':∀ i,i<vs.length->∃ l o items m t u,vs.getD i Value.none=.ref l/\l≠a/\h.get? l=some o/\o.cls=.type "tuple"/\o.data=.seq items m/\items.toList=[.int (ks.getD i (0,0)).1 t,.int (ks.getD i (0,0)).2 u]
 nd:ks.Nodup
theorem PairsAt.other{h h':Heap}(x:PairsAt h a vs ks)(k:∀ l o,l≠a->h.get? l=some o->h'.get? l=some o):PairsAt h' a vs ks:=
 ⟨x.len,fun i hi=>let ⟨l,o,its,m,t,u,e1,e2,e3,e4⟩:=x.at' i hi;⟨l,o,its,m,t,u,e1,e2,k l _ e2 e3,e4⟩,x.nd⟩
section
variable {prog:Program} {w:World} {A:Around} {E:Value->Shared->Prop} {s:Shared}
end
end F
namespace F
end F
namespace L2
open PySem PySem.Spec PySem.W PyProof.Rows F
end L2
namespace F
open PySem PySem.Spec PyProof.Rows L2
end F
namespace F
open PySem PySem.Spec PyProof.Rows L2
section
variable {X:Cx} {G:Hp} {O O':List Nat} {pos:Pos} {bnd:PV->En->Option En} {g:FS}
end
end F
namespace F
open PySem PySem.Spec PyProof.Rows L2
namespace Tab
noncomputable def GoodN(t:SetTable)(n:Nat)(led:Bool):Prop:=Good { t with plain:=true } n led
section
variable {t:SetTable} {n:Nat} {led:Bool}
theorem GoodN.dm(g:GoodN t n led):t.dummies=#[]:=Good.dm (t:={ t with plain:=true }) g
theorem GoodN.size(g:GoodN t n led):t.place.size=n:=Good.size (t:={ t with plain:=true }) g
theorem GoodN.live(g:GoodN t n led)(h:t.slot j=.live i):i<n:=slot_live (t:={ t with plain:=true }) g h
theorem GoodN.put(g:GoodN t n led)(hn:n+1≤t.mask)(hs:t.slot j=.empty)(hj:j≤t.mask):GoodN (t.put j).1 (n+1) led/\(t.put j).1.mask=t.mask:=put_ok (t:={ t with plain:=true }) g hn hs hj
end
end Tab
noncomputable def ElM(prog:Program)(w:World)(h:Heap)(e:Int × Value):Prop:=∃ b k,e.2=.ref b/\IsTupleKey (mixKind prog w) h k b/\e.1=tupleKeyHash (mixKind prog w) k
section
variable {prog:Program} {w:World} {A:Around} {E:Value->Shared->Prop} {s:Shared}
structure SetTm (prog:Program) (w:World) (h:Heap) (es:Array (Int × Value)) (t:SetTable) (L:List Value) (led:Bool):Prop where
 el:∀ e ∈ es.toList,ElM prog w h e
 perm:(es.toList.map (·.2)).Perm L
 good:Tab.GoodN t es.size led
 mask:t.mask=7∨t.mask=31∨t.mask=127
 nf:es.size * 5<t.mask * 3
noncomputable def SetM(prog:Program)(w:World)(h:Heap)(a:Addr)(L:List Value)(led:Bool):Prop:=∃ o es ep t,h.get? a=some o/\o.ExactSet/\o.data=.set es ep t/\SetTm prog w h es t L led
theorem SetTm.size{es:Array (Int × Value)}{L:List Value}(b:SetTm prog w h es t L led):es.size=L.length:=by
 have:=b.perm.length_eq
 rw [List.length_map,Array.length_toList] at this
 exact this
theorem tupM_keep{h h':Heap}(hk:IsTupleKey (mixKind prog w) h k b)(e:∀ o,h.get? b=some o->h'.get? b=some o):IsTupleKey (mixKind prog w) h' k b:=by
 obtain ⟨o,items,n,ho,r⟩:=hk
 exact ⟨o,items,n,e o ho,r⟩
theorem SetM.keep{h h':Heap}(x:SetM prog w h a L led)(k:∀ o,h.get? a=some o->h'.get? a=some o)(kk:∀ b,Value.ref b ∈ L->∀ o,h.get? b=some o->h'.get? b=some o):SetM prog w h' a L led:=by
 obtain ⟨o,es,ep,t,ho,hx,hd,B⟩:=x
 refine ⟨o,es,ep,t,k o ho,hx,hd,fun e he=>?_,B.perm,B.good,B.mask,B.nf⟩
 obtain ⟨b,c,e1,e2,e3⟩:=B.el e he
 exact ⟨b,c,e1,tupM_keep e2 (kk b (by rw [← e1];exact B.perm.mem_iff.mp (List.mem_map.mpr ⟨e,he,rfl⟩))),e3⟩
theorem SetM.fresh{h:Heap}(ho:h.get? a=some { cls:=.type "set",dict:=none,data:=.set #[] 0 (.fresh 0 0 led) }):SetM prog w h a [] led:=
 ⟨_,#[],0,_,ho,⟨rfl,rfl,rfl⟩,rfl,fun e he=>by simp at he,.refl _,⟨Tab.full7,rfl,Nat.zero_le _,rfl,List.Pairwise.nil,fun j hj=>by simp [SetTable.fresh] at hj,rfl,rfl⟩,.inl rfl,by show 0 * 5<7 * 3;decide⟩
structure TupsM (prog:Program) (w:World) (h0:Heap) (n:Nat) (ad:Nat->Addr) (key:Nat->List Key) (wr:List Addr):Prop where
 at':∀ i,i<n->IsTupleKey (mixKind prog w) h0 (key i) (ad i)
 out:∀ i,i<n->ad i ∉ wr
 ne:∀ i j,i<j->j<n->key i≠key j
end
end F
namespace F
open PySem PySem.Spec PyProof.Rows PySem.W
section
variable {prog:Program} {w:World} {A:Around} {E:Value->Shared->Prop} {s:Shared} {a:Addr} {es:Array (Int × Value)} {ep:Nat} {t:SetTable}
noncomputable def IsSD(h:Heap)(it tp a:Addr)(i n ep:Nat):Prop:=∃ o,h.get? it=some o/\o.cls=.type "set_iterator"/\o.data=.fields #[.ref tp,.int i 0,.ref a,.int n 0,.int ep 0]
noncomputable def OrdAt(h:Heap)(tp:Addr)(ord:List Nat):Prop:=∃ o k,h.get? tp=some o/\o.data=.seq (ord.map fun (i:Nat)=>rawInt i).toArray k
theorem IsSD.typeIs(x:IsSD s.heap it tp a i n ep):s.TypeIs (.ref it) "set_iterator":=let ⟨o,ho,hc,_⟩:=x;⟨o,ho,hc⟩
theorem IsSD.at{h h':Heap}(x:IsSD h it tp a i n ep)(e:∀ o,h.get? it=some o->h'.get? it=some o):IsSD h' it tp a i n ep:=let ⟨o,ho,r⟩:=x;⟨o,e _ ho,r⟩
theorem OrdAt.at{h h':Heap}(x:OrdAt h tp ord)(e:∀ o,h.get? tp=some o->h'.get? tp=some o):OrdAt h' tp ord:=let ⟨o,k,ho,r⟩:=x;⟨o,k,e _ ho,r⟩
end
end F
namespace F
open PySem PySem.Spec PyProof.Rows PySem.W
section
variable {prog:Program} {w:World} {A:Around} {E:Value->Shared->Prop} {s:Shared} {a:Addr} {es:Array (Int × Value)} {ep:Nat} {t:SetTable}
end
end F
namespace F
open PySem PySem.Spec PySem.W PyProof.Rows
noncomputable def dS:Str:=⟨#[]⟩
noncomputable def qlt(a b:Int × Str):Prop:=a.1<b.1∨a.1=b.1/\a.2.cps.toList<b.2.cps.toList
instance (a b:Int × Str):Decidable (qlt a b):=by unfold qlt;infer_instance
structure PairsQ (h:Heap) (a:Addr) (vs:List Value) (ks:List (Int × Str)):Prop where
 len:vs.length=ks.length
 at':∀ i,i<vs.length->∃ l o items m t u,vs.getD i Value.none=.ref l/\l≠a/\h.get? l=some o/\o.cls=.type "tuple"/\o.data=.seq items m/\items.toList=[.int (ks.getD i (0,dS)).1 t,.str (ks.getD i (0,dS)).2 u]
 nd:ks.Nodup
theorem PairsQ.other{h h':Heap}(x:PairsQ h a vs ks)(k:∀ l o,l≠a->h.get? l=some o->h'.get? l=some o):PairsQ h' a vs ks:=
 ⟨x.len,fun i hi=>let ⟨l,o,its,m,t,u,e1,e2,e3,e4⟩:=x.at' i hi;⟨l,o,its,m,t,u,e1,e2,k l _ e2 e3,e4⟩,x.nd⟩
section
variable {prog:Program} {w:World} {A:Around} {E:Value->Shared->Prop} {s:Shared}
end
end F
namespace F
open PySem PySem.Spec PyProof.Rows L2
section
variable {prog:Program} {w:World} {A:Around} {E:Value->Shared->Prop} {s:Shared}
end
end F
namespace F
open PySem PySem.Spec PyProof.Rows PySem.W
section
variable {prog:Program} {w:World} {A:Around} {E:Value->Shared->Prop} {s:Shared} {a:Addr} {es:Array (Int × Value)} {ep:Nat} {t:SetTable}
end
end F
namespace F
end F
namespace L2
open PySem PySem.Spec PySem.W PyProof.Rows F
end L2
namespace F
open PySem PySem.Spec PyProof.Rows L2
end F
namespace L2
open PySem PySem.Spec PySem.W PyProof.Rows F
section
variable {X:Cx}
end
end L2
namespace F
open PySem PySem.Spec PyProof.Rows L2
section
variable {X:Cx} {κ:Nat->Option Nat} {G:Hp} {c:Cat} {e:Expr} {fs:FA} {pos p1:Pos}
end
end F
namespace F
open PySem PySem.Spec PyProof.Rows L2
section
variable {X:Cx} {κ:Nat->Option Nat} {G:Hp} {fs:FA} {st:Stmt}
end
end F
namespace TS
open PySem PyProof.Rows
section
variable {prog:Program} {w:World} {A:Around} {E:Value->Shared->Prop} {s:Shared} {O:KeyOrd} {key:Keyed->O.α} {L:List Keyed} {κ:SortKind} {st:SortSt}
noncomputable def Step(p:Nat->Bool)(n:Nat):Prop:=∀ i j,i≤j->j<n->p j=true->p i=true
theorem Step.no{p:Nat->Bool}(h:Step p n)(hij:i≤j)(hj:j<n)(e:p i=false):p j=false:=by
 cases c:p j with
 | false=>rfl
 | true=>rw [h i j hij hj c] at e;cases e
end
end TS
namespace TS
open PySem PyProof.Rows
section
variable {prog:Program} {w:World} {A:Around} {E:Value->Shared->Prop} {s:Shared} {O:KeyOrd} {key:Keyed->O.α} {L T out X Y X1 X2:List Keyed} {κ:SortKind} {st st' st'':SortSt}
noncomputable def Srt(key:Keyed->O.α)(l:List Keyed):Prop:=l.Pairwise fun x y=>O.kle (key x) (key y)
structure Inv (key:Keyed->O.α) (T out X Y:List Keyed):Prop where
 perm:(out++(X++Y)).Perm T
 srt:Srt key out
 cut:∀ x ∈ out,∀ y ∈ X++Y,O.kle (key x) (key y)
theorem Inv.fin(h:Inv key T out X Y)(h1:Srt key X)(h2:Srt key Y)(hc:∀ x ∈ X,∀ y ∈ Y,O.kle (key x) (key y)):(out++X++Y).Perm T/\Srt key (out++X++Y):=by
 rw [List.append_assoc]
 exact ⟨h.perm,List.pairwise_append.mpr ⟨h.srt,List.pairwise_append.mpr ⟨h1,h2,hc⟩,h.cut⟩⟩
noncomputable def Sm(st st':SortSt):Prop:=∃ g,st'=SortSt.mk' (kindOf st) (arrOf st) (pendingOf st) g (failedOf st)
theorem Sm.refl(st:SortSt):Sm st st:=⟨gallopOf st,rfl⟩
theorem Sm.trans(h:Sm st st')(k:Sm st' st''):Sm st st'':=by
 obtain ⟨g,rfl⟩:=h;obtain ⟨g',rfl⟩:=k;exact ⟨g',rfl⟩
theorem Sm.kind(h:Sm st st'):kindOf st'=kindOf st:=by obtain ⟨g,rfl⟩:=h;rfl
theorem Srt.drop(h:Srt key X)(i:Nat):Srt key (X.drop i):=List.Pairwise.sublist (List.drop_sublist i X) h
theorem Srt.at{a:Array Keyed}(h:Srt key a.toList){i j:Nat}{x y:Keyed}(hi:a[i]?=some x)(hj:a[j]?=some y)(hij:i≤j):O.kle (key x) (key y):=by
 rcases Nat.lt_or_ge i j with c | c
 ·obtain ⟨hi',ei⟩:=Array.getElem?_eq_some_iff.mp hi
  obtain ⟨hj',ej⟩:=Array.getElem?_eq_some_iff.mp hj
  have:=List.pairwise_iff_getElem.mp h i j (by simpa using hi') (by simpa using hj') c
  simpa [ei,ej] using this
 ·obtain rfl:i=j:=by omega
  rw [hi] at hj;cases hj;exact KeyOrd.kle_refl _
structure Lo (key:Keyed->O.α) (st:SortSt) (a b:Array Keyed) (m:Nat) (out:Array Keyed) (ia ib:Nat) (st':SortSt):Prop where
 sm:Sm st st'
 inv:Inv key (a.toList++b.toList) out.toList (a.toList.drop ia) (b.toList.drop ib)
 ha:ia+2≤a.size
 hb:ib+1≤b.size
 hm:m≤out.size
end
end TS
namespace TS
open PySem PyProof.Rows
section
variable {prog:Program} {w:World} {A:Around} {E:Value->Shared->Prop} {s:Shared} {O:KeyOrd} {key:Keyed->O.α} {L T R X Y X1 X2:List Keyed} {κ:SortKind} {st st' st'':SortSt}
structure InvH (key:Keyed->O.α) (T R X Y:List Keyed):Prop where
 perm:(X++Y++R).Perm T
 srt:Srt key R
 cut:∀ x ∈ X++Y,∀ y ∈ R,O.kle (key x) (key y)
theorem InvH.fin(h:InvH key T R X Y)(h1:Srt key X)(h2:Srt key Y)(hc:∀ x ∈ X,∀ y ∈ Y,O.kle (key x) (key y)):(X++Y++R).Perm T/\Srt key (X++Y++R):=
 ⟨h.perm,List.pairwise_append.mpr ⟨List.pairwise_append.mpr ⟨h1,h2,hc⟩,h.srt,h.cut⟩⟩
theorem Srt.take(h:Srt key X)(i:Nat):Srt key (X.take i):=List.Pairwise.sublist (List.take_sublist i X) h
structure Hi (key:Keyed->O.α) (st:SortSt) (a b:Array Keyed) (m:Nat) (out:Array Keyed) (na nb:Nat) (st':SortSt):Prop where
 sm:Sm st st'
 inv:InvH key (a.toList++b.toList) out.toList.reverse (a.toList.take na) (b.toList.take nb)
 ha:1≤na/\na≤a.size
 hb:2≤nb/\nb≤b.size
 hm:m≤out.size
end
end TS
namespace TS
open PySem PyProof.Rows
section
variable {prog:Program} {w:World} {A:Around} {E:Value->Shared->Prop} {s:Shared} {O:KeyOrd} {key:Keyed->O.α} {L P X Y S:List Keyed} {κ:SortKind} {st st' st'':SortSt}
end
end TS
namespace TS
open PySem PyProof.Rows
section
variable {prog:Program} {w:World} {A:Around} {E:Value->Shared->Prop} {s:Shared} {O:KeyOrd} {key:Keyed->O.α} {L:List Keyed} {κ:SortKind} {st st' st'':SortSt} {xs ys zs:Array Keyed} {lo n m:Nat}
noncomputable def Kx(key:Keyed->O.α)(xs:Array Keyed)(i:Nat):O.α:=key (xs.getD i (Value.none,Value.none))
structure Ch (lo:Nat) (xs ys:Array Keyed):Prop where
 pm:ys.Perm xs
 fx:∀ i,i<lo->ys[i]?=xs[i]?
theorem Ch.refl(lo:Nat)(xs:Array Keyed):Ch lo xs xs:=⟨.refl _,fun _ _=>rfl⟩
theorem Ch.trans(h:Ch lo xs ys)(k:Ch lo ys zs):Ch lo xs zs:=⟨k.pm.trans h.pm,fun i hi=>(k.fx i hi).trans (h.fx i hi)⟩
theorem Ch.size(h:Ch lo xs ys):ys.size=xs.size:=h.pm.size_eq
structure Cs (κ:SortKind) (L:List Keyed) (lo:Nat) (st st':SortSt):Prop where
 k:kindOf st'=κ
 f:failedOf st'=none
 p:pendingOf st'=pendingOf st
 c:Ch lo (arrOf st) (arrOf st')
 l:∀ x ∈ (arrOf st').toList,x ∈ L
theorem Cs.size(h:Cs κ L lo st st'):(arrOf st').size=(arrOf st).size:=h.c.size
noncomputable def Up(key:Keyed->O.α)(xs:Array Keyed)(lo n:Nat):Prop:=∀ i j,i≤j->j<n->O.kle (Kx key xs (lo+i)) (Kx key xs (lo+j))
noncomputable def Dn(key:Keyed->O.α)(xs:Array Keyed)(lo n:Nat):Prop:=∀ i j,i≤j->j<n->O.kle (Kx key xs (lo+j)) (Kx key xs (lo+i))
theorem Up.one:Up key xs lo 1:=fun i j h1 h2=>by
 obtain rfl:i=j:=by omega
 exact KeyOrd.kle_refl _
theorem Up.more(h:Up key xs lo n)(h0:1≤n)(hl:O.kle (Kx key xs (lo+n - 1)) (Kx key xs (lo+n))):Up key xs lo (n+1):=fun i j h1 h2=>by
 rcases Nat.lt_or_ge j n with c | c
 ·exact h i j h1 c
 ·obtain rfl:j=n:=by omega
  rcases Nat.lt_or_ge i j with d | d
  ·have:=h i (j - 1) (by omega) (by omega)
   rw [show lo+(j - 1)=lo+j - 1 by omega] at this
   exact KeyOrd.kle_trans this hl
  ·obtain rfl:i=j:=by omega
   exact KeyOrd.kle_refl _
theorem Dn.more(h:Dn key xs lo n)(h0:1≤n)(hl:O.kle (Kx key xs (lo+n)) (Kx key xs (lo+n - 1))):Dn key xs lo (n+1):=fun i j h1 h2=>by
 rcases Nat.lt_or_ge j n with c | c
 ·exact h i j h1 c
 ·obtain rfl:j=n:=by omega
  rcases Nat.lt_or_ge i j with d | d
  ·have:=h i (j - 1) (by omega) (by omega)
   rw [show lo+(j - 1)=lo+j - 1 by omega] at this
   exact KeyOrd.kle_trans hl this
  ·obtain rfl:i=j:=by omega
   exact KeyOrd.kle_refl _
structure Fall (κ:SortKind) (L:List Keyed) (key:Keyed->O.α) (st:SortSt) (lo nrem m q:Nat) (st':SortSt):Prop where
 cs:Cs κ L lo st st'
 hm:m≤nrem
 dn:Dn key (arrOf st') lo m
 hq:q+1≤m
 eq:∀ i,lo+m - (q+1)≤i->i<lo+m->Kx key (arrOf st') i=Kx key (arrOf st') (lo+m - 1)
theorem Fall.zero(h:Cs κ L lo st st')(hm:m≤nrem)(h1:1≤m)(d:Dn key (arrOf st') lo m):Fall κ L key st lo nrem m 0 st':=
 ⟨h,hm,d,h1,fun i a b=>by rw [show i=lo+m - 1 by omega]⟩
end
end TS
namespace TS
open PySem PyProof.Rows
section
variable {prog:Program} {w:World} {A:Around} {E:Value->Shared->Prop} {s:Shared} {O:KeyOrd} {key:Keyed->O.α} {L T V:List Keyed} {κ:SortKind} {st st' st'':SortSt} {xs ys zs:Array Keyed} {lo n m:Nat}
noncomputable def Runs(key:Keyed->O.α):List (Nat × Nat × Nat)->Nat->List Keyed->Prop
 | [],_,U=>U=[]
 | t::r,off,U=>t.1=off/\1≤t.2.1/\∃ X V,U=X++V/\X.length=t.2.1/\Srt key X/\Runs key r (off+t.2.1) V
theorem Runs.split:∀ {p q:List (Nat × Nat × Nat)} {off:Nat} {U:List Keyed},Runs key (p++q) off U->∃ U1 U2,U=U1++U2/\Runs key p off U1/\Runs key q (off+U1.length) U2
 | [],q,off,U,h=>⟨[],U,rfl,rfl,h⟩
 | t::p,q,off,U,h=>by
  obtain ⟨h1,h0,X,V,rfl,h3,h4,h5⟩:=h
  obtain ⟨U1,U2,rfl,g1,g2⟩:=Runs.split h5
  refine ⟨X++U1,U2,by simp,⟨h1,h0,X,U1,rfl,h3,h4,g1⟩,?_⟩
  rw [List.length_append,h3,← Nat.add_assoc];exact g2
theorem Runs.join:∀ {p q:List (Nat × Nat × Nat)} {off:Nat} {U1 U2:List Keyed},Runs key p off U1->Runs key q (off+U1.length) U2->Runs key (p++q) off (U1++U2)
 | [],q,off,U1,U2,h,k=>by
  have:U1=[]:=h
  subst this;exact k
 | t::p,q,off,U1,U2,h,k=>by
  obtain ⟨h1,h0,X,V,rfl,h3,h4,h5⟩:=h
  refine ⟨h1,h0,X,V++U2,by simp,h3,h4,Runs.join h5 ?_⟩
  rw [List.length_append,h3,← Nat.add_assoc] at k;exact k
theorem Runs.len:∀ {p:List (Nat × Nat × Nat)} {off:Nat} {U:List Keyed},Runs key p off U->p.length≤U.length
 | [],off,U,h=>Nat.zero_le _
 | t::p,off,U,h=>by
  obtain ⟨h1,h0,X,V,rfl,h3,h4,h5⟩:=h
  have:=Runs.len h5
  rw [List.length_append,List.length_cons];omega
structure RI (κ:SortKind) (L:List Keyed) (key:Keyed->O.α) (T V:List Keyed) (st:SortSt):Prop where
 k:kindOf st=κ
 f:failedOf st=none
 l:∀ x ∈ (arrOf st).toList,x ∈ L
 pm:(arrOf st).toList.Perm T
 r:∃ U,(arrOf st).toList=U++V/\Runs key (pendingOf st).toList 0 U
theorem RI.len(R:RI κ L key T V st):∀ {U:List Keyed},(arrOf st).toList=U++V->U.length+V.length=T.length:=fun {U} e=>by
 rw [← R.pm.length_eq,e,List.length_append]
end
end TS
namespace F
open PySem PySem.Spec PySem.W PyProof.Rows L2
noncomputable def shp(k:List Key):List Bool:=k.map Sum.isLeft
section
variable {prog:Program} {w:World} {A:Around} {E:Value->Shared->Prop} {s:Shared} {Q:Bool->Shared->Prop}
theorem ItemsM.len{k:List Key}{vs:List Value}(h:PySem.ItemsAre (mixKind prog w) k vs):vs.length=k.length:=by
 induction h with
 | nil=>rfl
 | cons _ _ ih=>rw [List.length_cons,List.length_cons,ih]
open Classical in
structure TupsX (prog:Program) (w:World) (h:Heap) (a:Addr) (vs:List Value) (ks:List (List Key)):Prop where
 len:vs.length=ks.length
 at':∀ i,i<vs.length->∃ l,vs.getD i Value.none=.ref l/\l≠a/\IsTupleKey (mixKind prog w) h (ks.getD i []) l
 alike:∀ i j,i<ks.length->j<ks.length->shp (ks.getD i [])=shp (ks.getD j [])
 ne:∀ i,i<ks.length->ks.getD i []≠[]
theorem TupsX.other{h h':Heap}(x:TupsX prog w h a vs ks)(k:∀ l o,l≠a->h.get? l=some o->h'.get? l=some o):TupsX prog w h' a vs ks:=
 ⟨x.len,fun i hi=>let ⟨l,e1,e2,e3⟩:=x.at' i hi;⟨l,e1,e2,tupM_keep e3 fun o ho=>k l o e2 ho⟩,x.alike,x.ne⟩
end
end F
namespace F
open PySem PySem.Spec PySem.W PyProof.Rows L2
section
variable {prog:Program} {w:World} {A:Around} {E:Value->Shared->Prop} {s:Shared}
end
end F
namespace L2
open PySem PySem.Spec PySem.W PyProof.Rows F
section
variable {X:Cx}
end
end L2
namespace F
open PySem PySem.Spec PyProof.Rows L2
section
variable {X:Cx} {κ:Nat->Option Nat} {G:Hp} {c:Cat} {e:Expr} {fs:FA} {pos p1:Pos}
end
end F
namespace L2
open PySem PySem.Spec PySem.W PyProof.Rows F
end L2
namespace F
open PySem PySem.Spec PyProof.Rows L2
end F
namespace F
open PySem PySem.Spec PySem.W PyProof.Rows PySem.Calls
section
variable {prog:Program} {w:World} {A:Around} {E:Value->Shared->Prop} {s:Shared} {it l:Addr} {items:Array Value}
end
end F
namespace L2
open PySem PySem.Spec PySem.W PyProof.Rows F
end L2
namespace F
open PySem PySem.Spec PyProof.Rows L2
end F
namespace F
open PySem PySem.Spec PyProof.Rows L2
section
variable {X:Cx} {κ:Nat->Option Nat} {G:Hp} {b:Expr} {pos p':Pos}
end
end F
namespace F
open PySem PySem.Spec PyProof.Rows L2
section
variable {X:Cx} {κ:Nat->Option Nat} {G:Hp} {c1:Cat} {e:Expr} {f:FE} {pos:Pos}
theorem va1(h:VE X κ G c1 e f)(hs:starEach [e] X.env=[(false,eval e X.env)]:=by rfl):VA X κ G .bo [e] (fCons f fNil):=va_bo h va_nil hs
theorem psI(i:Nat)(hN:X.N.Nodup)(he:PE X e te)(hi:X.N[i]?=some x:=by rfl)(hx:Loc X.env.scope x:=by first | exact .inl rfl | exact .inr rfl)(hs:swapsWith e (some (.Name x pos')) pos.line X.env=pure false:=by rfl)(hf:X.fn x=true∨X.env.scope.names.lookup x=some .local:=by first | exact .inl rfl | exact .inr rfl | assumption):
  PS X (.Assign [.Name x pos'] e pos) (tAsg te (gName i)):=ps_set hN hi hx he hs hf
theorem vgI(i:Nat)(hN:X.N.Nodup)(hk:κ i=none:=by rfl)(hi:X.N[i]?=some x:=by rfl)(hx:Loc X.env.scope x:=by first | exact .inl rfl | exact .inr rfl)(hf:X.fn x=true∨X.env.scope.names.lookup x=some .local:=by first | exact .inl rfl | exact .inr rfl | assumption):VG X κ G [i] (.Name x pos) (bName i):=vg_name i hk (pg_name hN hi hx hf)
theorem vx(i:Nat)(h:PE X (.Name x pos) (tVar i))(hk:κ i=none:=by rfl):VE X κ G .sh (.Name x pos) (fVar i):=ve_sh i hk h
end
end F
namespace F
open PySem PySem.Spec PyProof.Rows L2
section
noncomputable def tgN1:Expr->List Str
 | .Name x _=>[x]
 | _=>[]
noncomputable def tgN2:Expr->List Str
 | .Name x _=>[x]
 | .Tuple es _ _=>es.flatMap tgN1
 | _=>[]
noncomputable def tgN:Expr->List Str
 | .Name x _=>[x]
 | .Tuple es _ _=>es.flatMap tgN2
 | _=>[]
variable {X:Cx} {κ:Nat->Option Nat} {G:Hp} {c c1:Cat} {e:Expr} {es:List Expr} {f:FE} {fs:FA} {pos:Pos}
theorem vs_retT(he:VE X κ G (.mv L) e f)(h0:0 ∉ L):VS X κ G (.Return (some e) pos) (fRet f):=vs_ret he h0
theorem va_mvT(h:VE X κ G (.mv L1) e f)(hr:VA X κ G (.mv L2) es fs)(hL:∀ l ∈ L1,l ∉ L2)(hs:starEach (e::es) X.env=(false,eval e X.env)::starEach es X.env:=by rfl):VA X κ G (.mv (L1++L2)) (e::es) (fCons f fs):=va_mv h hr hL hs
noncomputable def OpT(X:Cx)(op:CmpOp)(g:PV->PV->Option PV):Prop:=∃ r,OpR X (compareOp op) r/\OpV X.K r g
noncomputable def OpB(X:Cx)(op:Operator)(g:PV->PV->Option PV):Prop:=∃ r,OpR X (binaryOp op) r/\OpV X.K r g
variable {a b d:Expr} {fa fb fd:FE} {c2 c3:Cat} {g g':PV->PV->Option PV}
theorem ve_opT(h:OpB X op g)(ha:VE X κ G c1 a fa)(hb:VE X κ G c2 b fb):VE X κ G (.mv []) (.BinOp a op b pos) (fOp g fa fb):=h.elim fun _ h=>ve_op h.1 h.2 ha hb
theorem ve_cmpT(h:OpT X op g)(ha:VE X κ G c1 a fa)(hb:VE X κ G c2 b fb)(hm:behindInMarks op b=false:=by first | exact nomark _ | with_unfolding_all rfl):VE X κ G (.mv []) (.Compare a [op] [b] pos) (fOp g fa fb):=h.elim fun _ h=>ve_cmp h.1 h.2 ha hb hm
theorem vt_cmpT(h:OpT X op g)(ha:VE X κ G c1 a fa)(hb:VE X κ G c2 b fb)(hm:behindInMarks op b=false:=by first | exact nomark _ | with_unfolding_all rfl):VT X κ G (.Compare a [op] [b] pos) (fT (fOp g fa fb)):=h.elim fun _ h=>vt_cmp h.1 h.2 ha hb hm
theorem vt_chainT(h:OpT X op g)(h':OpT X op' g')(ha:VE X κ G c1 a fa)(hb:VE X κ G c2 b fb)(hd:VE X κ G c3 d fd)(hm:lastMarks [op,op'] [b,d]=false:=by rfl):VT X κ G (.Compare a [op,op'] [b,d] pos) (fT (fChain g g' fa fb fd)):=h.elim fun _ h=>h'.elim fun _ h'=>vt_chain h.1 h'.1 h.2 h'.2 ha hb hd hm
theorem ve_chainT(h:OpT X op g)(h':OpT X op' g')(ha:VE X κ G c1 a fa)(hb:VE X κ G c2 b fb)(hd:VE X κ G c3 d fd)(hm:lastMarks [op,op'] [b,d]=false:=by rfl):VE X κ G (.mv []) (.Compare a [op,op'] [b,d] pos) (fChain g g' fa fb fd):=h.elim fun _ h=>h'.elim fun _ h'=>ve_chain h.1 h'.1 h.2 h'.2 ha hb hd hm
theorem vti_cmpLT{l:Nat}{op:CmpOp}{fa:FI}(h:OpT X op g)(ha:VEi X κ G l a fa)(hb:VE X κ G c b fb)(hm:behindInMarks op b=false:=by exact nomark _):VTi X κ G l (.Compare a [op] [b] pos) (fCmpL g fa fb):=h.elim fun _ h=>vti_cmpL h.1 h.2 ha hb hm
variable {n:Nat} {js Bs:List Nat} {scope:Scope} {elt tg iter:Expr} {ifs:List Expr} {bnd:PV->En->Option En} {t:FT}
theorem ve_lcT(hi:VIt X (ko []) G false tg iter fs)(hg:∀ C s₀ H₀ fp,VG (compCx X (tgN tg) js scope C s₀ H₀ fp) (cK n js (ko [])) G Bs tg bnd)(ht:∀ C s₀ H₀ fp,VTs (compCx X (tgN tg) js scope C s₀ H₀ fp) (cK n js (ko [])) G ifs t)
  (he:∀ C s₀ H₀ fp,VE (compCx X (tgN tg) js scope C s₀ H₀ fp) (cK n js (ko [])) G (.mv []) elt f)(hB:∀ i ∈ Bs,i<n)(hn:(tgN tg).length=n:=by rfl)(hc:X.calm=true:=by rfl)(ok:compB js scope X.env.kindOf X.N=true:=by first | rfl | decide +kernel)(hs:∀ x,foldedSetIterable iter X.env x=pure x:=by intro _;rfl):
  VE X κ G (.mv []) (.ListComp elt [⟨tg,iter,ifs,0⟩] scope pos) (fLC fs n js bnd t f):=by
 subst hn
 exact ve_free (ve_lc (.mv []) (.inl rfl) hB hc hi hg ht he ok hs)
theorem ps_lcT{py spos:Pos}(hN:X.N.Nodup)(hi:VIt X (ko []) G false tg iter fs)(hg:∀ C s₀ H₀ fp,VG (compCx X (tgN tg) js scope C s₀ H₀ fp) (cK n js (ko [])) G Bs tg bnd)(ht:∀ C s₀ H₀ fp,VTs (compCx X (tgN tg) js scope C s₀ H₀ fp) (cK n js (ko [])) G ifs t)
  (he:∀ C s₀ H₀ fp,VE (compCx X (tgN tg) js scope C s₀ H₀ fp) (cK n js (ko [])) G (.mv []) elt f)(hB:∀ i ∈ Bs,i<n)(hi':X.N[i]?=some y:=by rfl)(hx:Loc X.env.scope y:=by first | exact .inl rfl | exact .inr rfl)(hn:(tgN tg).length=n:=by rfl)(hc:X.calm=true:=by rfl)(ok:compB js scope X.env.kindOf X.N=true:=by first | rfl | decide +kernel)(hs:∀ x,foldedSetIterable iter X.env x=pure x:=by intro _;rfl)
  (hsw:swapsWith (.ListComp elt [⟨tg,iter,ifs,0⟩] scope pos) (some (.Name y py)) spos.line X.env=pure true:=by rfl)(hf:X.fn y=true∨X.env.scope.names.lookup y=some .local:=by first | exact .inl rfl | exact .inr rfl | assumption):
  PS X (.Assign [.Name y py] (.ListComp elt [⟨tg,iter,ifs,0⟩] scope pos) spos) (tAsg (tV X.K κ G (.mv []) (fLC fs n js bnd t f)) (gName i)):=by
 subst hn
 exact ps_free (ps_lc (.mv []) hN hi' hx (.inl rfl) hB hc hi hg ht he ok hs hsw hf)
variable {O:List Nat} {st:Stmt}
end
end F
namespace F
open PySem PySem.Spec PyProof.Rows L2
namespace Tab
noncomputable def Way(t:SetTable)(h:Int)(p:Nat):Prop:=∃ c,(adv t c (t.probeStart h)).j=p/\∀ m,m<c->t.slot (adv t m (t.probeStart h)).j≠.empty
section
variable {t t':SetTable} {h:Int}
theorem adv_mask(e:t.mask=t'.mask):∀ (m:Nat) (P:SetTable.Probe),adv t m P=adv t' m P
 | 0,P=>rfl
 | m+1,P=>by
  have:t.advance P=t'.advance P:=by unfold SetTable.advance;rw [e]
  show adv t m (t.advance P)=adv t' m (t'.advance P)
  rw [this];exact adv_mask e m _
theorem start_mask(e:t.mask=t'.mask)(h:Int):t.probeStart h=t'.probeStart h:=by unfold SetTable.probeStart;rw [e]
theorem Way.mono{p:Nat}(w:Way t h p)(e:t.mask=t'.mask)(ne:∀ j,t.slot j≠.empty->t'.slot j≠.empty):Way t' h p:=by
 obtain ⟨c,h1,h2⟩:=w
 refine ⟨c,by rw [← h1,← start_mask e,← adv_mask e],fun m hm=>?_⟩
 rw [← start_mask e,← adv_mask e]
 exact ne _ (h2 m hm)
inductive Met3 (t:SetTable) (hashAt:Nat->Int) (h:Int) (m:Nat) (P:SetTable.Probe):Option SetTable.Met->Prop
 | empty (k:Nat):k≤m->t.slot (adv t k P).j=.empty->(adv t k P).j≤t.mask->(∀ m',m'<k->∃ i,t.slot (adv t m' P).j=.live i/\hashAt i≠h)->Met3 t hashAt h m P (some (.empty (adv t k P).j none))
 | cand (k i:Nat):k<m->t.slot (adv t k P).j=.live i->(∀ m',m'<k->∃ i,t.slot (adv t m' P).j=.live i/\hashAt i≠h)->Met3 t hashAt h m P (some (.candidate (adv t k P).j i (adv t (k+1) P)))
noncomputable def Ways(t:SetTable)(es:Array (Int × Value)):Prop:=∀ q ∈ es.toList.zip t.place.toList,Way t q.1.1 q.2
end
end Tab
end F
namespace F
open PySem PySem.Spec PyProof.Rows L2
section
variable {prog:Program} {w:World} {A:Around} {E:Value->Shared->Prop} {s:Shared}
structure SetTd (prog:Program) (w:World) (h:Heap) (es:Array (Int × Value)) (t:SetTable) (L:List Value) (led:Bool):Prop where
 el:∀ e ∈ es.toList,ElM prog w h e
 perm:(es.toList.map (·.2)).Perm L
 good:Tab.GoodN t es.size led
 mask:t.mask=7∨t.mask=31∨t.mask=127∨t.mask=511
 nf:es.size * 5<t.mask * 3
 ways:Tab.Ways t es
noncomputable def SetD(prog:Program)(w:World)(h:Heap)(a:Addr)(L:List Value)(led:Bool):Prop:=∃ o es ep t,h.get? a=some o/\o.ExactSet/\o.data=.set es ep t/\SetTd prog w h es t L led
theorem SetTd.size{h:Heap}{es:Array (Int × Value)}{t:SetTable}{L:List Value}{led:Bool}(b:SetTd prog w h es t L led):es.size=L.length:=by
 have:=b.perm.length_eq
 rw [List.length_map,Array.length_toList] at this
 exact this
theorem SetD.keep{h h':Heap}{a:Addr}{L:List Value}{led:Bool}(x:SetD prog w h a L led)(k:∀ o,h.get? a=some o->h'.get? a=some o)(kk:∀ b,Value.ref b ∈ L->∀ o,h.get? b=some o->h'.get? b=some o):SetD prog w h' a L led:=by
 obtain ⟨o,es,ep,t,ho,hx,hd,B⟩:=x
 refine ⟨o,es,ep,t,k o ho,hx,hd,fun e he=>?_,B.perm,B.good,B.mask,B.nf,B.ways⟩
 obtain ⟨b,c,e1,e2,e3⟩:=B.el e he
 exact ⟨b,c,e1,tupM_keep e2 (kk b (by rw [← e1];exact B.perm.mem_iff.mp (List.mem_map.mpr ⟨e,he,rfl⟩))),e3⟩
theorem SetD.fresh{h:Heap}{a:Addr}{led:Bool}(ho:h.get? a=some { cls:=.type "set",dict:=none,data:=.set #[] 0 (.fresh 0 0 led) }):SetD prog w h a [] led:=
 ⟨_,#[],0,_,ho,⟨rfl,rfl,rfl⟩,rfl,fun e he=>by simp at he,.refl _,⟨Tab.full7,rfl,Nat.zero_le _,rfl,List.Pairwise.nil,fun j hj=>by simp [SetTable.fresh] at hj,rfl,rfl⟩,.inl rfl,by show 0 * 5<7 * 3;decide,fun q hq=>by simp at hq⟩
end
end F
namespace F
open PySem PySem.Spec PyProof.Rows L2
structure TupsD (prog:Program) (w:World) (h0:Heap) (n:Nat) (ad:Nat->Addr) (key:Nat->List Key) (wr:List Addr):Prop where
 at':∀ i,i<n->IsTupleKey (mixKind prog w) h0 (key i) (ad i)
 out:∀ i,i<n->ad i ∉ wr
section
variable {prog:Program} {w:World} {A:Around} {E:Value->Shared->Prop} {s:Shared}
end
end F
namespace F
open PySem PySem.Spec PyProof.Rows L2
section
variable {prog:Program} {w:World} {A:Around} {E:Value->Shared->Prop} {s:Shared}
end
end F
namespace L2
open PySem PySem.Spec PySem.W PyProof.Rows F
end L2
namespace F
open PySem PySem.Spec PyProof.Rows L2
end F
namespace F
open PySem L2
section
variable {X:Cx} {κ:Nat->Option Nat} {G:Hp} {O:List Nat} {c c2:Cat} {a e:Expr} {es:List Expr} {fa f:FE} {fs:FA} {st:Stmt}
end
end F
namespace L2
open PySem PySem.Spec PyProof.Rows
section
variable {X:Cx}
noncomputable def SplitOk(x y:Str):Prop:=(y.length == 0)=false/\x.length≤sizeLine/\(Builtin.Str.partsBetween x (Builtin.Str.occurrences x y 0 x.length (x.length+1)) y.length).length≤sizeLine/\(Txt.split x y).length≤sizeLine
instance (x y:Str):Decidable (SplitOk x y):=by unfold SplitOk;infer_instance
end
end L2
namespace F
open PySem L2
section
variable {X:Cx} {κ:Nat->Option Nat} {G:Hp} {c c2:Cat} {e:Expr} {f:FE} {fs:FA}
end
end F
namespace L2
open PySem PySem.Spec PyProof.Rows
section
variable {X:Cx} {tg:Expr}
end
end L2
namespace F
open PySem L2
section
variable {X:Cx} {κ:Nat->Option Nat} {G:Hp} {c:Cat} {f:FE} {K:PySem.W.Frag}
end
noncomputable def inS(i j:Str):Bool:=!(Builtin.Str.occurrences j i 0 j.length 1).isEmpty
end F
namespace L2
open PySem PySem.Spec PyProof.Rows
section
variable {X:Cx} {pins:List (Addr × Obj)} {σ:St} {H:Hp} {s:Shared}
end
end L2
namespace F
open PySem L2
section
variable {X:Cx} {κ:Nat->Option Nat} {G:Hp} {c c2:Cat} {a b e:Expr} {fa fb f:FE}
noncomputable def PPv(K:PySem.W.Frag)(H:Hp):List (List Key × PV)->List (List Key × V)->Prop:=Paired fun x y=>x.1=y.1/\Rp K H x.2 y.2 []
theorem PPv.same{K:PySem.W.Frag}{H H':Hp}{l:List (List Key × PV)}{m:List (List Key × V)}(s:Same H H')(h:PPv K H l m):PPv K H' l m:=Paired.mapP h fun x y z=>⟨z.1,Rp.same s _ z.2⟩
end
end F
namespace F
open PySem PySem.Spec PySem.W PyProof.Rows PySem.Calls
section
variable {prog:Program} {w:World} {A:Around} {E:Value->Shared->Prop} {s:Shared}
structure Gat (h0 h:Heap) (S e it base:Addr) (P:Nat->Value->Prop) (i:Nat) (acc:Array Value) (c:Nat):Prop where
 lst:h.get? S=some { cls:=.type "list",dict:=none,data:=.seq acc c,slots:=#[] }
 size:acc.size=i
 tup:∀ j,j<i->acc[j]?=some (.ref (base+j))/\∃ tk x,P j x/\h.get? (base+j)=some { cls:=.type "tuple",data:=.seq #[.int j tk,x] }
 fr:∀ b o,b≠S->b≠e->b≠it->h0.get? b=some o->h.get? b=some o
end
end F
namespace F
open PySem PySem.Spec PySem.W PyProof.Rows PySem.Calls
section
variable {prog:Program} {w:World} {A:Around} {E:Value->Shared->Prop} {s:Shared}
end
end F
namespace L2
open PySem PySem.Spec PySem.W PyProof.Rows F
section
variable {X:Cx} {pins:List (Addr × Obj)} {σ:St} {H H':Hp} {s:Shared} {h':Heap}
theorem Inv.more(I:Inv X pins σ H s)(k:∀ b u,s.heap.get? b=some u->h'.get? b=some u)(sm:Same H H')(fr:∀ b,b<s.heap.objs.size->H b=none->H' b=none)
  (new:∀ b u,H' b=some u->H b=none->ObjOk X.prog X.w H' h' b u)(t':Nat):Inv X pins σ H' { s with heap:=h',toks:=t' }:=by
 refine I.un ⟨fun b u q _ _ _=>k b u q,fun b u q _ _ _=>⟨u.slots,k b u q⟩,fun b u q n _=>fr b (Heap.lt_size q) n,fun b u q _=>⟨u,k b u q⟩,fun b xs q=>sm _ _ q,fun b u xs q=>sm _ _ q,fun b ps q=>⟨#[],by rw [sm _ _ q];simp⟩⟩ fun b u e=>?_
 cases q:H b with
 | none=>exact new b u e q
 | some v=>
  have:=sm _ _ q
  rw [this] at e
  cases e
  exact (I.hok b _ q).stay (fun c v _ q=>k c v q) (fun c q=>sm _ _ q) fun c xs q=>sm _ _ q
end
end L2
namespace F
open PySem PySem.Spec PyProof.Rows L2
section
variable {X:Cx} {κ:Nat->Option Nat} {G:Hp} {c c2:Cat} {o e:Expr} {f:FE} {fs:FA} {apos cpos:Pos}
end
end F
namespace F
open PySem PySem.Spec PyProof.Rows L2
section
variable {X:Cx} {G:Hp} {O O':List Nat} {pos:Pos} {bnd:PV->En->Option En} {g:Addr->List Str->FS}
end
end F
namespace F
open PySem PySem.Spec PyProof.Rows L2
@[irreducible] noncomputable def VSz(X:Cx)(κ:Nat->Option Nat)(G:Hp)(sts:List Stmt)(g:FS):Prop:=VSs X κ G sts g
section
variable {X:Cx} {κ:Nat->Option Nat} {G:Hp} {st:Stmt} {rest:List Stmt} {g h:FS}
end
end F
namespace L2
open PySem PySem.Spec PyProof.Rows PySem.W
theorem ObjOk.there{P:Program}{w:World}{H:Hp}{h:Heap}{a:Addr}{o:HO}(x:ObjOk P w H h a o):∃ ob,h.get? a=some ob:=by
 cases o with
 | lst xs=>obtain ⟨_,_,_,_,e⟩:=x;exact ⟨_,e⟩
 | tup xs=>obtain ⟨_,_,_,ob,e,_⟩:=x;exact ⟨_,e⟩
 | dK kvs=>obtain ⟨_,_,_,_,o,_,_,e,_⟩:=x;exact ⟨_,e⟩
 | dT kvs=>obtain ⟨_,_,_,_,o,_,_,e,_⟩:=x;exact ⟨_,e⟩
 | set S n=>obtain ⟨o,_,_,_,e,_⟩:=x;exact ⟨_,e⟩
 | ins C dx fs=>obtain ⟨_,_,_,e,_⟩:=x;exact ⟨_,e⟩
 | own y=>exact x
 | xd fs=>obtain ⟨_,⟨_,_,_,e,_⟩,_⟩:=x;exact ⟨_,e⟩
 | rng lo hi=>obtain ⟨_,_,_,e⟩:=x;exact ⟨_,e⟩
 | frz ob u=>obtain ⟨e,_⟩:=x;exact ⟨_,e⟩
 | tbl ps=>exact ⟨_,(show h.get? a=some _ from x)⟩
 | met f y=>exact ⟨_,(show h.get? a=some _ from x)⟩
 | ext φ=>obtain ⟨_,z,_⟩:=x;exact z
structure Flies (P:Program) (w:World) (outer:List Env) (H:Hp) (s:Shared) (a C:Addr) (a0:Value) (H':Hp) (B:Heap) (s':Shared):Prop where
 os:s'.os=s.os
 bare:AllBare s'.gens
 un:Un (frs outer) [] H H' s.heap s'.heap
 same:Same H H'
 hok:HOk P w H' s'.heap
 fly:Heap.FlyingW B outer a (.ref C) a0 s'.heap
 tr:∀ b o,s'.heap.get? b=some o->H' b≠none->B.get? b=some o
 old:∀ b o,s.heap.get? b=some o->H b=none->b ∉ frs outer->B.get? b=some o
noncomputable def CXe(P:Program)(w:World):CXT:=fun outer H s E e s'=>∃ (a C:Addr) (a0:Value) (H':Hp) (B:Heap),e=.ref a/\Flies P w outer H s a C a0 H' B s'/\E (.ref C) none H'
section
variable {P:Program} {w:World} {outer:List Env} {H H':Hp} {s s':Shared} {a C:Addr} {a0:Value} {B:Heap}
theorem Flies.new(F:Flies P w outer H s a C a0 H' B s'):s.heap.get? a=none:=by
 cases q:s.heap.get? a with
 | none=>rfl
 | some o=>
  obtain ⟨oe,vs,T,oT,ts,he,_,hd,_⟩:=F.fly.2.2.2
  by_cases hf:a ∈ frs outer
  ·obtain ⟨_,o',ho',hn⟩:=F.fly.2.2.1.mem hf
   rw [he] at ho';cases ho'
   exact absurd hd (hn vs)
  ·cases hH:H a with
   | none=>have:=F.old a o q hH hf;rw [F.fly.2.1] at this;cases this
   | some u=>have:=F.tr a oe he (by rw [F.same _ _ hH];exact Option.some_ne_none u);rw [F.fly.2.1] at this;cases this
theorem Flies.none(F:Flies P w outer H s a C a0 H' B s'):H' a=none:=by
 cases q:H' a with
 | none=>rfl
 | some u=>
  obtain ⟨ob,e⟩:=(F.hok a u q).there
  have:=F.tr a ob e (by rw [q];exact Option.some_ne_none u)
  rw [F.fly.2.1] at this;cases this
theorem Flies.on{h2:Heap}(F:Flies P w outer H s a C a0 H' B s')(st:B.StaysIn h2)(up:s'.heap.UpToSlots h2):Un (frs outer) [] H H' s.heap h2/\HOk P w H' h2:=by
 have slot:∀ b o,b ∈ frs outer->s'.heap.get? b=some o->∃ sl,h2.get? b=some { o with slots:=sl }:=fun b o hb e=>by
  obtain ⟨_,o',ho',hn⟩:=F.fly.2.2.1.mem hb
  rw [e] at ho';cases ho'
  exact up b o e hn
 refine ⟨⟨fun b o e n hb hx=>st b o (F.old b o e n hb),fun b o e n hb hx=>?_,F.un.free,fun b o e hx=>?_,F.un.tups,F.un.frzs,F.un.tbls⟩,fun b u e=>(F.hok b u e).stay (fun c v hc q=>st c v (F.tr c v q ?_)) (fun _ q=>q) fun _ _ q=>q⟩
 ·obtain ⟨sl,e1⟩:=F.un.slot b o e n hb hx
  obtain ⟨sl2,e2⟩:=slot b _ hb e1
  exact ⟨sl2,e2⟩
 ·by_cases hb:b ∈ frs outer
  ·obtain ⟨o',e1⟩:=F.un.there b o e hx
   obtain ⟨sl,e2⟩:=slot b _ hb e1
   exact ⟨_,e2⟩
  ·cases q:H b with
   | none=>exact ⟨o,st b o (F.old b o e q hb)⟩
   | some u=>
    obtain ⟨o',e1⟩:=F.un.there b o e hx
    exact ⟨o',st b o' (F.tr b o' e1 (by rw [F.same _ _ q];exact Option.some_ne_none u))⟩
 ·rcases hc with rfl | hc
  ·rw [e];exact Option.some_ne_none u
  ·rw [hc];exact Option.some_ne_none _
end
section
variable {P:Program} {w:World} {K:PySem.W.Frag} {mg:Str->Option Value} {base:Heap} {N:List Str} {qual:Str} {scope:Scope} {f:Addr} {cd:Value} {A:Around} {outer:List Env} {s:Shared} {H H2:Hp} {E:XK} {pins:List (Addr × Obj)} {σ:St} {s2:Shared} {C:Addr}
theorem made_leaves(I:Inv (cxOf (CXe P w) P w K mg base N qual scope f cd A outer s H E) pins σ H2 s2)(sm:Same H H2)(hE:E (.ref C) none H2){h3:Heap}{a:Addr}{args:List Value}(hm:Heap.MadeExcOf s2.heap h3 a (.ref C) args):
  (cxOf (CXe P w) P w K mg base N qual scope f cd A outer s H E).xe (.ref a) { s2 with heap:=h3 }:=by
 have hin:∀ env ∈ (envOfC qual scope s.heap.objs.size f cd::outer),∀ b,env.frame=some b->b ∈ frs (envOfC qual scope s.heap.objs.size f cd::outer):=fun env he b hb=>List.mem_filterMap.mpr ⟨env,he,hb⟩
 have stk:=I.stack
 have tf:∀ b,H2 b≠none->b ∉ frs (envOfC qual scope s.heap.objs.size f cd::outer):=fun b hb hf=>hb (I.stkFree b hf)
 have lf:∀ b,b ∉ frs outer->b<s.heap.objs.size->b ∉ frs (envOfC qual scope s.heap.objs.size f cd::outer):=fun b hb hl hf=>by
  have:b ∈ (s.heap.objs.size:Addr)::frs outer:=hf
  rcases List.mem_cons.mp this with e | e
  ·exact absurd hl (by rw [e];exact Nat.lt_irrefl _)
  ·exact hb e
 have ad:(A.deeper (envOfC qual scope s.heap.objs.size f cd)).frames=some (envOfC qual scope s.heap.objs.size f cd::outer):=I.ok.frames
 refine wpAny_leaves_madeW (base:=hideAll s2.heap (frs (envOfC qual scope s.heap.objs.size f cd::outer))) (h:=s2.heap) ad rfl (fun b o q=>of_hideAll _ q) (funFrames_hide stk hin) hm fun h' t fl htup hb up=>?_
 have oldK:∀ b o,s.heap.get? b=some o->H b=none->b ∉ frs outer->(hideAll s2.heap (frs (envOfC qual scope s.heap.objs.size f cd::outer))).get? b=some o:=fun b o e n hb=>
  hideAll_get _ (I.base.keep b o e n hb (by exact fun z=>nomatch z)) (lf b hb (Heap.lt_size e))
 have slot:∀ b o,b ∈ frs (envOfC qual scope s.heap.objs.size f cd::outer)->s2.heap.get? b=some o->∃ sl,h'.get? b=some { o with slots:=sl }:=fun b o hb e=>by
  obtain ⟨_,o',ho',hn⟩:=stk.mem hb
  rw [e] at ho';cases ho'
  exact up b o (hm.keeps _ _ e) hn
 have sub:∀ b,b ∈ frs outer->b ∈ frs (envOfC qual scope s.heap.objs.size f cd::outer):=fun b hb=>List.mem_cons_of_mem _ hb
 refine ⟨a,C,.ref t,H2,hideAll s2.heap (frs (envOfC qual scope s.heap.objs.size f cd::outer)),rfl,⟨I.os,I.bare,⟨fun b o e n hb hx=>fl.1 b o (oldK b o e n hb),fun b o e n hb hx=>?_,fun b o e n hx=>I.base.free b o e n (by exact fun z=>nomatch z),fun b o e hx=>?_,I.base.tups,I.base.frzs,I.base.tbls⟩,sm,?_,fl,?_,oldK⟩,hE⟩
 ·obtain ⟨sl,e1⟩:=I.base.slot b o e n hb (by exact fun z=>nomatch z)
  obtain ⟨sl2,e2⟩:=slot b _ (sub b hb) e1
  exact ⟨sl2,e2⟩
 ·obtain ⟨o',e1⟩:=I.base.there b o e (by exact fun z=>nomatch z)
  by_cases hb:b ∈ frs (envOfC qual scope s.heap.objs.size f cd::outer)
  ·obtain ⟨sl,e2⟩:=slot b _ hb e1
   exact ⟨_,e2⟩
  ·exact ⟨o',fl.1 b o' (hideAll_get _ e1 hb)⟩
 ·refine fun b u e=>(I.hok b u e).stay (fun c v hc q=>fl.1 c v (hideAll_get _ q (tf c ?_))) (fun _ q=>q) fun _ _ q=>q
  rcases hc with rfl | hc
  ·rw [e];exact Option.some_ne_none u
  ·rw [hc];exact Option.some_ne_none _
 ·intro b o e hb
  cases q:H2 b with
  | none=>exact absurd q hb
  | some u=>
   obtain ⟨ob,e2⟩:=(I.hok b u q).there
   have e3:=hideAll_get _ e2 (tf b hb)
   have e4:=fl.1 b ob e3
   have e:h'.get? b=some o:=e
   rw [e] at e4
   cases e4
   exact e3
end
end L2
namespace L2
open PySem PySem.Spec PyProof.Rows PySem.W
noncomputable abbrev bmV:List Value:=[.type "ValueError",.type "Exception",.type "BaseException",.type "object"]
theorem exc_obj{K:PySem.W.Frag}{h:Heap}{C:Addr}{bmB:List Value}{newId:String}(X:K.In h)(q:excIn K C bmB newId=true):
  ∃ tl N nm qn bs hd sn sub ab col dd k0 k1 k2 k3 k5,∃ mN:Str->Option Value,h.get? C=some (excClassObj nm qn C N bs tl hd sn sub ab col dd k0 k1 k2 k3 k5 newId)/\h.Ns N mN/\mN "__init__"=none/\OwnTail h bmB tl:=by
 unfold excIn at q
 split at q
 case h_2=>cases q
 rename_i dd cl sl ho
 split at q
 case h_2=>cases q
 rename_i C1 tl k0 k1 k2 k3 n1 k5 e1 e2
 obtain ⟨nm,bs,mro,ns,qn,hd,sn,sub,ab,col,del⟩:=cl
 obtain ⟨sls⟩:=sl
 simp only [Bool.and_eq_true,beq_iff_eq,Bool.not_eq_true'] at q
 obtain ⟨⟨⟨⟨⟨z1,z2⟩,z3⟩,z4⟩,z5⟩,z6⟩:=q
 dsimp only at e1 e2 z3 z5 z6
 subst z1 z2 z3 e1 e2
 exact ⟨tl,ns,nm,qn,bs,hd,sn,sub,ab,col,dd,k0,k1,k2,k3,k5,_,X _ _ ho,.of_isNs (isNs_of_in X z5),nsMap_none_of_in X z5 z6,tail_of_in X z4⟩
section
variable {X:Cx} {pins:List (Addr × Obj)} {σ:St} {H:Hp} {s:Shared} {x:Str} {C:Addr} {e:Expr} {es:List Expr} {t:TA} {np cpos pos:Pos} {Q:Flow->Shared->Prop}
theorem raise_at(ha:PA X (e::es) t)(I:Inv X pins σ H s)(hc:X.calm=true)(hg:Gl X x)(hm:X.mg x=some (.ref C))(hq:excIn X.K C bmV "ValueError.__new__"=true)
  (ht:t σ H fun vs H1=>vs.length≤sizeLine/\∀ s1 h' a us,Inv X pins σ H1 s1->Heap.MadeExcOf s1.heap h' a (.ref C) us->X.xe (.ref a) { s1 with heap:=h' })
  (hd:(x == ("__debug__":Str))=false:=by decide)(he:starEach (e::es) X.env=(false,eval e X.env)::starEach es X.env:=by rfl)(hpl:(backTo cpos (starEach es X.env)).any (·.1)=false:=by rfl):
  wpAny (model X.prog X.w) X.A (exec (.Raise (some (.Call (.Name x np) (e::es) [] cpos)) none pos) X.env) Q X.xe s:=by
 obtain ⟨tl,NN,nm,qn,bs,hd1,sn,sub,ab,col,dd,k0,k1,k2,k3,k5,mN,cObj,cNs,cNi,cT⟩:=exc_obj I.mod.kin hq
 refine wpAny_Raise_call_subT (C:=C) (N:=NN) (bm:=tl) (nm:=nm) (q:=qn) (bs:=bs) (hdct:=hd1) (sn:=sn) (sub:=sub) (ab:=ab) (col:=col) (dd:=dd) (k0:=k0) (k1:=k1) (k2:=k2) (k3:=k3) (k5:=k5) PySem.F.excBase_ValueError (mN:=mN) (cT.hasType PySem.F.excBase_ValueError.hasBase) (I.ok.hd hc)
  (by rw [he];show (false || (backTo cpos (starEach es X.env)).any (·.1))=false;rw [hpl];rfl) cNi (ld_glob I hg hm ⟨rfl,?_⟩ hd)
 have h1:=ha cpos pins s σ H _ I ht
 rw [he] at h1 ⊢
 refine Calls.evalArgs_plain (thn h1 fun us s1 ⟨vs,H1,I1,r,z,k⟩=>⟨rfl,?_,I1.bk _ _ cObj,cNs.keeps I1.bk,cT.keeps I1.bk,fun h' a hm=>k s1 h' a us I1 hm⟩)
 show us.length≤_
 rw [← r.length];exact z
end
section
variable {X:Cx} {pins:List (Addr × Obj)} {σ:St} {H:Hp} {s:Shared} {M:Model} {A:Around} {E:Value->Shared->Prop}
theorem goes_ok{i:Nat}{n:Str}{pos:Pos}{Q:Unit->Shared->Prop}(I:Inv X pins σ H s)(hN:X.N.Nodup)(hi:X.N[i]?=some n)(hl:X.env.kindOf n=some .local)
  (h:∀ s',Inv X pins (σ.set i none) H s'->Q () s'):wpAny M A (do bindName X.env n .none;unbindBehindTheSuite X.env n pos) Q E s:=by
 have hcls:(X.env.scope.kind == .class || (X.env.scope.kind == .module && X.env.locals != X.env.globals))=false:=by rw [I.ok.kind];rfl
 refine wpAny_bind (wpAny_bindName (store_ok I hN hi (.inl hl) (show RelV .non .none from rfl) (fun s1 I1=>?_) (.inr hl)))
 obtain ⟨m,hn,hlk⟩:=id I1.loc
 unfold unbindBehindTheSuite
 refine wpAny_onRaise ?_
 unfold unbindName
 refine wpAny_bind (wpAny_point (wpAny_bind ?_))
 unfold deleteName
 simp only [hl,hcls]
 rw [if_neg (by decide)]
 have hm:m n=some .none:=by
  obtain ⟨u,r,q⟩:=hlk i n .non hi (by rw [List.getElem?_set_self (by rw [I.len];exact (List.getElem?_eq_some_iff.mp hi).1)]) (.inl hl)
  rcases q with ⟨_,e⟩ | ⟨k,_⟩
  ·rw [e];exact congrArg some r
  ·rw [hl] at k;rcases k with k | k<;>cases k
 refine wpAny_bind (wpAny_nsDel_keeps hn fun h2 v hn2 hs=>?_)
 rw [hm]
 simp only [if_true,Option.isSome_some,Bool.not_true,Bool.false_eq_true,if_false]
 refine wpAny_pure (wpAny_point (h _ ?_))
 have cne:=I1.cne
 obtain ⟨oL,_,_,hoL,_⟩:=id hn
 refine ⟨I1.ok,I1.os,I1.bare,⟨fun b o e n hb hx=>?_,fun b o e n hb hx=>?_,I1.base.free,fun b o e hx=>?_,I1.base.tups,I1.base.frzs,I1.base.tbls⟩,⟨_,hn2,fun j y v' e1 e2 e3=>?_⟩,fun y c e=>?_,I1.free,I1.freeC,fun p hp=>?_,fun b ob e=>(I1.hok b ob e).stay (fun c w' hc q=>(hs.2 c ?_).trans q) (fun _ q=>q) fun _ _ q=>q,by rw [List.length_set];have:=I1.len;rwa [List.length_set] at this⟩
 ·exact (hs.2 b (Nat.ne_of_lt (Nat.lt_of_lt_of_le (Heap.lt_size e) I1.ok.above))).trans (I1.base.keep b o e n hb hx)
 ·obtain ⟨sl,e1⟩:=I1.base.slot b o e n hb hx
  exact ⟨sl,(hs.2 b (Nat.ne_of_lt (Nat.lt_of_lt_of_le (Heap.lt_size e) I1.ok.above))).trans e1⟩
 ·obtain ⟨o',e1⟩:=I1.base.there b o e hx
  exact ⟨o',(hs.2 b (Nat.ne_of_lt (Nat.lt_of_lt_of_le (Heap.lt_size e) I1.ok.above))).trans e1⟩
 ·have hj:j≠i:=fun e=>by
   subst e
   rw [List.getElem?_set] at e2
   split at e2
   ·split at e2<;>cases e2
   ·rename_i q;exact q rfl
  rw [List.getElem?_set_ne (Ne.symm hj)] at e2
  obtain ⟨u',r',q⟩:=hlk j y v' e1 (by rw [List.getElem?_set_ne (Ne.symm hj)];exact e2) e3
  refine ⟨u',r',?_⟩
  rcases q with ⟨k,e⟩ | ⟨k,c,e,z⟩
  ·refine .inl ⟨k,?_⟩
   have:y≠n:=fun e=>hj (nodup_ix hN e1 (e ▸ hi))
   show (if y=n then v else m y)=_
   rw [if_neg this];exact e
  ·exact .inr ⟨k,c,e,z.sameBut hs (cne y c e)⟩
 ·obtain ⟨w',z⟩:=I1.cell y c e
  exact ⟨w',z.sameBut hs (cne y c e)⟩
 ·obtain ⟨e,n,ne,nf,d⟩:=I1.pin p hp
  exact ⟨(hs.2 p.1 ne).trans e,n,ne,nf,d⟩
 ·rintro rfl
  have hfree:=I1.free
  rcases hc with z | z
  ·rw [← z,hfree] at e;cases e
  ·rw [hfree] at z;cases z
end
noncomputable abbrev Cx.inX(X:Cx)(a:Addr)(E:Value->Shared->Prop):Cx:={ X with A:=X.A.mark (some (.ref a)),calm:=false,xe:=E }
section
variable {X:Cx} {pins:List (Addr × Obj)} {σ:St} {H H':Hp} {s s':Shared} {a C CB:Addr} {a0:Value} {B:Heap}
theorem Inv.inX(I:Inv X pins σ H s)(a:Addr)(E:Value->Shared->Prop):Inv (X.inX a E) pins σ H s:=
 ⟨⟨I.ok.mod,I.ok.kind,I.ok.glob,I.ok.blt,I.ok.above,I.ok.inj,I.ok.has,I.ok.cab,(fun z=>nomatch z),I.ok.frames,I.ok.stk,I.ok.exf,I.ok.bs,I.ok.bsz,I.ok.noex,I.ok.exfs,I.ok.funs,I.ok.frf⟩,I.os,I.bare,I.base,I.loc,I.cell,I.free,I.freeC,I.pin,I.hok,I.len⟩
theorem Inv.outX{E:Value->Shared->Prop}(I:Inv (X.inX a E) pins σ H s)(ok:X.Ok):Inv X pins σ H s:=⟨ok,I.os,I.bare,I.base,I.loc,I.cell,I.free,I.freeC,I.pin,I.hok,I.len⟩
theorem Flies.trk{P:Program}{w:World}{outer:List Env}{h6:Heap}(fl:Flies P w outer H s a C a0 H' B s')(un:Un (frs outer) [] H H' s.heap h6)(hok:HOk P w H' h6)(ht:∃ ob,h6.get? a=some ob/\ob.cls=.ref C):
  Un (frs outer) [] H (upd H' a (.ext (_root_.F.excφ a C))) s.heap h6/\HOk P w (upd H' a (.ext (_root_.F.excφ a C))) h6:=by
 have hn:=fl.none
 have nw:=fl.new
 have ne:∀ b o,s.heap.get? b=some o->b≠a:=fun b o e z=>by rw [z,nw] at e;cases e
 have ne2:∀ b u,H' b=some u->b≠a:=fun b u e z=>by rw [z,hn] at e;cases e
 refine ⟨⟨un.keep,un.slot,fun b o e n hx=>by rw [upd_ne (ne b o e)];exact un.free b o e n hx,un.there,fun b xs e=>?_,fun b o u e=>?_,fun b ps e=>?_⟩,fun b u e=>?_⟩
 ·have:=un.tups b xs e;rw [upd_ne (ne2 b _ this)];exact this
 ·have:=un.frzs b o u e;rw [upd_ne (ne2 b _ this)];exact this
 ·obtain ⟨more,this⟩:=un.tbls b ps e;exact ⟨more,by rw [upd_ne (ne2 b _ this)];exact this⟩
 ·by_cases hb:b=a
  ·subst hb
   rw [upd_same] at e
   cases e
   obtain ⟨ob,h1,h2⟩:=ht
   exact ⟨⟨ob,h1,h2⟩,⟨ob,h1⟩,fun g1 g2 ⟨o,z1,z2⟩ kk=>⟨o,kk o z1,z2⟩⟩
  ·rw [upd_ne hb] at e
   exact (hok b u e).stay (fun c v _ q=>q) (fun c q=>by rw [upd_ne (ne2 c _ q)];exact q) fun c xs q=>by rw [upd_ne (ne2 c _ q)];exact q
theorem caught_at{i j:Nat}{n y xB:Str}{np yp spos pos bp:Pos}{D:Ends}(I:Inv X pins σ H s)(fl:Flies X.prog X.w X.stack H s a C a0 H' B s')(hst:X.stack=X.env::X.outer/\X.env.frame=some X.env.locals)
  (hN:X.N.Nodup)(hi:X.N[i]?=some n)(hj:X.N[j]?=some y)(hl:X.env.kindOf n=some .local)(hy:X.env.kindOf y=some .local)(hg:Gl X xB)(hm:X.mg xB=some (.ref CB))(hx:exmOne X.K (.ref C) (.ref CB)=some true)
  (k:D.nx (((σ.set i (some (.ref a))).set j (some (.ref a))).set i none) (upd H' a (.ext (_root_.F.excφ a C))))
  (hnd:(n == ("__debug__":Str))=false:=by decide)(hncd:(n == ("__classdict__":Str))=false:=by decide)(hbd:(xB == ("__debug__":Str))=false:=by decide)(hs:swapsWith (.Name n np) (some (.Name y yp)) spos.line X.env=pure false:=by rfl):
  wpAny (model X.prog X.w) X.A (noteFrame (.ref a) X.env) (fun _ s2=>wpAny (model X.prog X.w) X.A (setFlight (.ref a) none) (fun _ s3=>
   wpAny (model X.prog X.w) X.A (handleBy (.ref a) X.env [.ExceptHandler (some (.Name xB bp)) (some n) [.Assign [.Name y yp] (.Name n np) spos] pos]) (SP X pins D) X.xe s3) X.xe s2) X.xe s':=by
 have fr:X.A.frames=some (X.env::X.outer):=by rw [← hst.1];exact I.ok.frames
 have fly:Heap.FlyingW B (X.env::X.outer) a (.ref C) a0 s'.heap:=hst.1 ▸ fl.fly
 refine wpAny_looks_onW fr hst.2 fly fun h4 held4 up4=>?_
 refine wpAny_landsW held4 fun h5 fly5 up5=>?_
 have up5:=up4.trans up5
 obtain ⟨un5,hok5⟩:=fl.on fly5.1 up5
 have J5:Inv X pins σ H' { s' with heap:=h5 }:=I.call' (s':={ s' with heap:=h5 }) (ch:=[]) fl.os un5 hok5 fl.bare (fun b z=>nomatch z)
 obtain ⟨ob,e5,c5⟩:=fly5.there
 refine wpAny_handleBy_cons (codeAny_handlers_test (ld_glob (X:=X.inX a X.xe) (J5.inX a X.xe) hg hm ?_ hbd)) (by intro q;cases q)
 have LT:Looks (model X.prog X.w) h5 (typeOf (.ref a)) (.ref C):=by rw [← c5];exact (Looks.ld e5).andThen .now
 refine (exm_one (K:=X.K) (h:=h5) J5.kIn LT hx).here ?_
 show codeAny _ _ (.handlers (.ref a) [.ExceptHandler none (some n) _ pos] X.env) _ _
 refine codeAny_handlers_suite_as (lands_againW fly5 fun h6 fly6 up6=>?_)
 obtain ⟨un6,hok6⟩:=fl.on fly6.1 (up5.trans up6)
 obtain ⟨un7,hok7⟩:=fl.trk un6 hok6 fly6.there
 have J6:Inv X pins σ (upd H' a (.ext (_root_.F.excφ a C))) { s' with heap:=h6 }:=I.call' (s':={ s' with heap:=h6 }) (ch:=[]) fl.os un7 hok7 fl.bare (fun b z=>nomatch z)
 refine store_ok (s:={ s' with heap:=h6 }) J6 hN hi (.inl hl) (show RelV (.ref a) (.ref a) from rfl) (fun s7 J7=>?_) (.inr hl)
 have hiσ:i<σ.length:=by rw [I.len];exact (List.getElem?_eq_some_iff.mp hi).1
 refine wpAny_mono (pss_one (X:=X.inX a fun x s3=>_) (ps_set (i:=j) hN hj (.inl hy) (pe_var (i:=i) hi (.inl hl) hnd hncd) hs (.inr hy)) pins s7 _ _ { nx:=fun σ' H2=>σ'=(σ.set i (some (.ref a))).set j (some (.ref a))/\H2=upd H' a (.ext (_root_.F.excφ a C)),rt:=fun _ _=>False } (J7.inX a _) ⟨.ref a,by rw [List.getElem?_set_self hiσ],rfl,rfl⟩) (fun f s8 h8=>?_) fun x s8 h8=>h8
 cases f with
 | next=>
  obtain ⟨σ8,H8,J8,rfl,rfl⟩:=h8
  exact goes_ok (J8.outX I.ok) hN hi hl fun s9 J9=>⟨_,_,J9,k⟩
 | brk=>obtain ⟨_,_,_,z⟩:=h8;exact z.elim
 | cont=>obtain ⟨_,_,_,z⟩:=h8;exact z.elim
 | ret u=>obtain ⟨_,_,_,_,_,z⟩:=h8;exact z.elim
end
end L2
namespace L2
open PySem PySem.Spec PyProof.Rows PySem.W
section
variable {prog:Program} {w:World} {A:Around} {E:Value->Shared->Prop} {s:Shared} {K:PySem.W.Frag} {x C:Addr} {ox:Obj}
theorem exc_cget{R:Result->Shared->Prop}{tp:Value}(X:K.In s.heap)(L0:Looks (model prog w) s.heap (typeOf (.ref x)) (.ref C))(hm:mroIn K C (.type "object")=some true)(hq:R (.ok (.ret (.ref C))) s):
  codeAny (model prog w) A (.call (.builtin "getset_descriptor.__get__") ⟨[.builtin "object.__class__",.ref x,tp],[]⟩) R s:=by
 obtain ⟨hh,g,d,t,os⟩:=s
 have L6:=looks_mroIn (M:=model prog w) X hm
 refine codeAny_call_builtin KF.slot_gs.plain KF.entry_gs (KF.slot_gs.check _ _ _ _ _ _ _ _ KF.type_class (KF.args_gs _ _ _) (?_:wpAny _ _ _ _ _ _))
 unfold Builtin.«getset_descriptor.__get__» Builtin.Getset_descriptor.descrGet;rw [dga_obj]
 refine wpAny_bind (wpAny_pure ?_);unfold Builtin.Getset_descriptor.descrGetter Builtin.Getset_descriptor.descrCheckInstance Builtin.Getset_descriptor.descrNameAndClass isInstance;simp only [KF.owner_class]
 repeat lk
 refine ⟨Code.quiet_builtin _ (by decide +kernel),codeAny_builtin KF.entry_class ?_⟩;unfold Builtin.«object.__class__» shownTypeOf;skip
 repeat lk
 exact hq
theorem exc_class{Q:Option Value->Shared->Prop}(X:K.In s.heap)(L0:Looks (model prog w) s.heap (typeOf (.ref x)) (.ref C))(hga:findIn K (.ref C) "__getattribute__"=some (some (.builtin "BaseException.__getattribute__")))(hgn:findIn K (.ref C) "__getattr__"=some none)
  (hcl:findIn K (.ref C) "__class__"=some (some (.builtin "object.__class__")))(hsb:subIn K (.ref C) (.type "BaseException")=some true)(hm:mroIn K C (.type "object")=some true)(h:Q (some (.ref C)) { s with toks:=s.toks+1 }):
  wpAny (model prog w) A (getAttr? (.ref x) "__class__") Q E s:=by
 obtain ⟨hh,g,d,t,os⟩:=s
 have L1:=looks_findIn (M:=model prog w) X hga
 have L2:=looks_findIn (M:=model prog w) X hgn
 have L3:=looks_findIn (M:=model prog w) X hcl
 have L4:Looks (model prog w) hh (isSubtype (.ref C) (.type "BaseException")) true:=looks_subIn X hsb
 have f3:=PySem.F.attrBase_ValueError.ga.bind (.ref x)
 unfold getAttr? getAttrBy? getAttrBy
 refine wpAny_bind (wpAny_mkText (wpAny_bind (wpAny_attempt (wpAny_holding (wpAny_bind (L0.at (wpAny_bind (L1.at ?_))))))))
 have hx2:(Value.builtin "BaseException.__getattribute__" == Value.builtin "object.__getattribute__")=false:=by decide +kernel
 dsimp only
 rw [if_neg (by rw [hx2,Bool.and_false];exact Bool.false_ne_true)]
 unfold getAttrByItsOwn hookBefore callGetattribute
 repeat (any_goals (first | assumption | with_reducible refine L2.at ?_ | wp_step))
 have bk:builtinKind "BaseException.__getattribute__"=some .slot:=by decide +kernel
 have bs:splitId "BaseException.__getattribute__"=some ("BaseException","__getattribute__"):=by decide +kernel
 have ba:=PySem.F.args_bexc_ga (.ref x) (.str "__class__" t)
 refine codeAny_call_builtin PySem.F.attrBase_ValueError.ga.plain PySem.F.entry_bexc_ga ?_
 simp only [checkBuiltinCall,bk,bs]
 have L5:Looks (model prog w) hh (isInstance (.ref x) (.type "BaseException")) true:=L0.andThen L4
 have f5:=PySem.F.typeOf_object_class
 have f6:=PySem.F.slot_gs_get.lookup
 have f7:=PySem.F.slot_gs_set.lookup
 refine wpAny_bind (L5.at ?_)
 rw [if_neg (by decide)]
 repeat (any_goals (first | assumption | with_reducible refine L0.at ?_ | with_reducible refine L3.at ?_ | wp_step))
 refine exc_cget (s:=⟨hh,g,d,t+1,os⟩) X L0 hm ?_
 repeat (any_goals (first | assumption | wp_step))
end
structure ExF (K:PySem.W.Frag) (C:Addr):Prop where
 inn:excIn K C bmV "ValueError.__new__"=true
 ga:findIn K (.ref C) "__getattribute__"=some (some (.builtin "BaseException.__getattribute__"))
 gn:findIn K (.ref C) "__getattr__"=some none
 cl:findIn K (.ref C) "__class__"=some (some (.builtin "object.__class__"))
 sb:subIn K (.ref C) (.type "BaseException")=some true
 mr:mroIn K C (.type "object")=some true
 cd:(clsIn K C).isSome=true
theorem kitx_exc{K:PySem.W.Frag}{x C:Addr}(f:ExF K C):KitX K (.ref x) (.ref C) (_root_.F.excφ x C) where
 ty:=fun M h _ p=>by
  obtain ⟨o,e,c⟩:=p
  rw [← c]
  exact (Looks.ld e).andThen .now
 it:=fun M h X _=>by
  obtain ⟨cd,hcd⟩:=Option.isSome_iff_exists.mp f.cd
  unfold clsIn at hcd
  split at hcd
  case h_2=>cases hcd
  rename_i c1 d1 cd1 sl1 ho
  intro A1 Q1 E1 s1 k q
  unfold isType loadHead;exact wpAny_bind (wpAny_loadPart (k _ _ (X _ _ ho)) (wpAny_pure q))
 ne:=fun h tp dd its n sl X htp=>by
  refine Bool.eq_false_iff.mpr fun q=>?_
  obtain rfl:C=tp:=Value.ref.inj (beq_iff_eq.mp q)
  obtain ⟨cd,hcd⟩:=Option.isSome_iff_exists.mp f.cd
  unfold clsIn at hcd
  split at hcd
  case h_2=>cases hcd
  rename_i c1 d1 cd1 sl1 ho
  have z:=(X _ _ ho).symm.trans htp
  cases z
 ca:=fun X p k=>by
  refine exc_class X ?_ f.ga f.gn f.cl f.sb f.mr k
  obtain ⟨o,e,c⟩:=p
  rw [← c]
  exact (Looks.ld e).andThen .now
inductive TyX (K:PySem.W.Frag) (H:Hp):V->Value->Prop where
 | non:TyX K H .non (.type "NoneType")
 | exc {a C:Addr} (e:H a=some (.ext (_root_.F.excφ a C))) (f:ExF K C):TyX K H (.ref a) (.ref C)
theorem isinstX_ok{X:Cx}{pins:List (Addr × Obj)}{σ:St}{H:Hp}{s:Shared}{A:Around}{E:Value->Shared->Prop}{Q:Value->Shared->Prop}{c t u:Value}{x:V}{b:Bool}(I:Inv X pins σ H s)(rx:RelV x u)(ty:TyX X.K H x t)(e:kitOne X.K t c=some b)(h:∀ tk,Q (.bool b) { s with toks:=tk }):
  wpAny (model X.prog X.w) A (call (.builtin "isinstance") [u,c]) Q E s:=by
 cases ty with
 | non=>cases (show u=Value.none from rx);exact kia_one kitx_none I.kIn True.intro e (fun z=>nomatch z) h
 | @exc a C ea f=>
  cases (show u=Value.ref a from rx)
  obtain ⟨p,_⟩:=(show ObjOk X.prog X.w H s.heap a (.ext (_root_.F.excφ a C)) from I.hok a _ ea)
  exact kia_one (kitx_exc f) I.kIn p e (fun z=>nomatch z) h
theorem call_isinstX{X:Cx}:CallR X (.builtin "isinstance") (fun xs H Q=>(∃ x c t b,xs=[x,.ref c]/\TyX X.K H x t/\kitOne X.K t (.ref c)=some b/\Q (.bl b) H)∨∃ x n t b,xs=[x,.ty n]/\TyX X.K H x t/\kitOne X.K t (.type n)=some b/\Q (.bl b) H):=by
 intro pins s σ H xs us Q I r h
 rcases h with ⟨x,c,t,b,rfl,ty,e,q⟩ | ⟨x,c,t,b,rfl,ty,e,q⟩ <;>
 ·obtain ⟨u,w',rfl,r1,r2⟩:=vals2 r
  cases r2
  exact isinstX_ok I r1 ty e fun tk=>⟨.bl b,H,I.tok tk,rfl,q⟩
noncomputable def exNames:List Str:=["BraceError","NoFloor","Apart","Hollow","NoText","NoRow","NoField","NoDeed"]
noncomputable def xsub(n m:Str):Bool:=n == m || m == "BraceError"
noncomputable def exC(K:PySem.W.Frag)(n:Str):Option Addr:=match nsIn K mainGlobals n with
 | some (some (.ref C))=>some C
 | _=>none
noncomputable def exOne(K:PySem.W.Frag)(n:Str)(C CB:Addr):Bool:=
 excIn K C bmV "ValueError.__new__" && findIn K (.ref C) "__getattribute__" == some (some (.builtin "BaseException.__getattribute__")) && findIn K (.ref C) "__getattr__" == some none && findIn K (.ref C) "__class__" == some (some (.builtin "object.__class__")) &&
 subIn K (.ref C) (.type "BaseException") == some true && mroIn K C (.type "object") == some true && (clsIn K C).isSome && kitOne K (.ref C) (.type "ValueError") == some true && kitOne K (.type "NoneType") (.ref C) == some false && exmOne K (.ref C) (.ref CB) == some true &&
 exNames.all fun m=>(exC K m).any fun D=>kitOne K (.ref C) (.ref D) == some (xsub n m)
noncomputable def exOk(K:PySem.W.Frag):Bool:=kitOne K (.type "NoneType") (.type "ValueError") == some false && (exC K "BraceError").any fun CB=>exNames.all fun n=>(exC K n).any fun C=>exOne K n C CB
theorem exC_ns{K:PySem.W.Frag}{n:Str}{C:Addr}(h:exC K n=some C):nsIn K mainGlobals n=some (some (.ref C)):=by
 unfold exC at h
 split at h
 ·rename_i q;cases h;exact q
 ·cases h
structure ExK (K:PySem.W.Frag):Prop where
 cls:∀ n ∈ exNames,∃ C,nsIn K mainGlobals n=some (some (.ref C))/\ExF K C/\kitOne K (.ref C) (.type "ValueError")=some true/\kitOne K (.type "NoneType") (.ref C)=some false
 exm:∀ n ∈ exNames,∀ C CB,nsIn K mainGlobals n=some (some (.ref C))->nsIn K mainGlobals "BraceError"=some (some (.ref CB))->exmOne K (.ref C) (.ref CB)=some true
 sub:∀ n ∈ exNames,∀ m ∈ exNames,∀ C D,nsIn K mainGlobals n=some (some (.ref C))->nsIn K mainGlobals m=some (some (.ref D))->kitOne K (.ref C) (.ref D)=some (xsub n m)
 non:kitOne K (.type "NoneType") (.type "ValueError")=some false
theorem ExK.of{K:PySem.W.Frag}(h:exOk K=true):ExK K:=by
 unfold exOk at h
 simp only [Bool.and_eq_true,beq_iff_eq,Option.any_eq_true] at h
 obtain ⟨h0,CB,hB,h⟩:=h
 have one:∀ n ∈ exNames,∃ C,exC K n=some C/\exOne K n C CB=true:=fun n hn=>by
  have:=List.all_eq_true.mp h n hn
  obtain ⟨C,h1,h2⟩:=(Option.any_eq_true ..).mp this
  exact ⟨C,h1,h2⟩
 have uni:∀ n C D,exC K n=some C->nsIn K mainGlobals n=some (some (.ref D))->D=C:=fun n C D h1 h2=>by
  have:=exC_ns h1
  rw [h2] at this
  cases this;rfl
 refine ⟨fun n hn=>?_,fun n hn C CB' h1 h2=>?_,fun n hn m hm C D h1 h2=>?_,h0⟩
 ·obtain ⟨C,e,q⟩:=one n hn
  unfold exOne at q
  simp only [Bool.and_eq_true,beq_iff_eq] at q
  obtain ⟨⟨⟨⟨⟨⟨⟨⟨⟨⟨q1,q2⟩,q3⟩,q4⟩,q5⟩,q6⟩,q7⟩,q8⟩,q9⟩,q10⟩,q11⟩:=q
  exact ⟨C,exC_ns e,⟨q1,q2,q3,q4,q5,q6,q7⟩,q8,q9⟩
 ·obtain ⟨C0,e,q⟩:=one n hn
  rw [uni n C0 C e h1,uni _ CB CB' hB h2]
  unfold exOne at q
  simp only [Bool.and_eq_true,beq_iff_eq] at q
  exact q.1.2
 ·obtain ⟨C0,e,q⟩:=one n hn
  rw [uni n C0 C e h1]
  unfold exOne at q
  simp only [Bool.and_eq_true] at q
  have:=List.all_eq_true.mp q.2 m hm
  obtain ⟨D0,e2,q2⟩:=(Option.any_eq_true ..).mp this
  rw [uni m D0 D e2 h2]
  exact beq_iff_eq.mp q2
end L2
namespace L2
open PySem PySem.Spec PyProof.Rows PySem.W
theorem PS.nox{X:Cx}{st:Stmt}{t:TS}(h:PS X.nox st t):PS X st t:=fun pins s σ H D I hw=>
 wpAny_mono (h pins s σ H D (I.wish _) hw) (fun _ _ q=>q.unwish) fun _ _ z=>False.elim z
theorem PA.nox{X:Cx}{es:List Expr}{t:TA}(h:PA X.nox es t):PA X es t:=fun pos pins s σ H Q I hw=>
 wpAny_mono (h pos pins s σ H Q (I.wish _) hw) (fun _ _ ⟨v,H',I',r,q⟩=>⟨v,H',I'.unwish,r,q⟩) fun _ _ z=>False.elim z
section
variable {P:Program} {w:World} {K:PySem.W.Frag} {mg:Str->Option Value} {base:Heap} {N:List Str} {qual:Str} {scope:Scope} {f:Addr} {cd:Value} {A:Around} {outer:List Env} {s:Shared} {H H1 H2:Hp} {E:XK} {pins:List (Addr × Obj)} {σ:St} {s1 s2:Shared} {a C:Addr} {a0:Value} {B:Heap}
theorem pass_leaves(I:Inv (cxOf (CXe P w) P w K mg base N qual scope f cd A outer s H E) pins σ H1 s1)(fl:Flies P w (envOfC qual scope s.heap.objs.size f cd::outer) H1 s1 a C a0 H2 B s2)(sm:Same H H2)(hE:E (.ref C) none H2):
  (cxOf (CXe P w) P w K mg base N qual scope f cd A outer s H E).xe (.ref a) s2:=by
 have lf:∀ b,b ∉ frs outer->b<s.heap.objs.size->b ∉ frs (envOfC qual scope s.heap.objs.size f cd::outer):=fun b hb hl hf=>by
  have:b ∈ (s.heap.objs.size:Addr)::frs outer:=hf
  rcases List.mem_cons.mp this with e | e
  ·exact absurd hl (by rw [e];exact Nat.lt_irrefl _)
  ·exact hb e
 have ad:(A.deeper (envOfC qual scope s.heap.objs.size f cd)).frames=some (envOfC qual scope s.heap.objs.size f cd::outer):=I.ok.frames
 have sub:∀ b,b ∈ frs outer->b ∈ frs (envOfC qual scope s.heap.objs.size f cd::outer):=fun b hb=>List.mem_cons_of_mem _ hb
 have nx:∀ b,b ∉ ([]:List Addr):=fun b z=>nomatch z
 refine wpAny_leaves_onW ad rfl fl.fly fun h' fly up=>?_
 obtain ⟨un,hok⟩:=fl.on fly.1 up
 have b0:=I.base
 refine ⟨a,C,a0,H2,B,rfl,⟨fl.os.trans I.os,fl.bare,⟨fun b o e n hb hx=>un.keep b o (b0.keep b o e n hb (nx b)) (b0.free b o e n (nx b)) (lf b hb (Heap.lt_size e)) hx,fun b o e n hb hx=>?_,fun b o e n hx=>let ⟨o1,e1⟩:=b0.there b o e (nx b);un.free b o1 e1 (b0.free b o e n (nx b)) hx,fun b o e hx=>?_,fun b xs e=>un.tups b xs (b0.tups b xs e),fun b o u e=>un.frzs b o u (b0.frzs b o u e),fun b ps e=>?_⟩,sm,hok,fly,fun b o e hb=>?_,fun b o e n hb=>fl.old b o (b0.keep b o e n hb (nx b)) (b0.free b o e n (nx b)) (lf b hb (Heap.lt_size e))⟩,hE⟩
 ·obtain ⟨sl,e1⟩:=b0.slot b o e n hb (nx b)
  obtain ⟨sl2,e2⟩:=un.slot b _ e1 (b0.free b o e n (nx b)) (sub b hb) hx
  exact ⟨sl2,e2⟩
 ·obtain ⟨o1,e1⟩:=b0.there b o e (nx b)
  exact un.there b o1 e1 hx
 ·obtain ⟨m1,e1⟩:=b0.tbls b ps e
  obtain ⟨m2,e2⟩:=un.tbls b _ e1
  exact ⟨m1++m2,by rw [e2,Array.append_assoc]⟩
 ·cases q:H2 b with
  | none=>exact absurd q hb
  | some u=>
   obtain ⟨o2,e2⟩:=(fl.hok b u q).there
   have e3:=fl.tr b o2 e2 hb
   have e4:=fly.1 b o2 e3
   have e:h'.get? b=some o:=e
   rw [e] at e4
   cases e4
   exact e3
end
structure FnE (P:Program) (w:World) (K:PySem.W.Frag) (mg:Str->Option Value) (base:Heap) (x:Str) (k:Nat) (ps:List Str) (sp:Sp):Prop where
 ex:∃ f fd,FnOk P w K mg base (CXe P w) k f fd ps sp/\mg x=some (.ref f)/\keepIn K (.ref f)=true/\Binds K fd ps []
theorem call_raises{Z:Cx}{x:Str}{k:Nat}{ps:List Str}{sp:Sp}{E:XK}{e:Expr}{es:List Expr}{t:TA}{p pos:Pos}{pins:List (Addr × Obj)}{σ:St}{H:Hp}{s:Shared}{Q:Value->Shared->Prop}(F:FnE Z.prog Z.w Z.K Z.mg Z.base x k ps sp)(hr:Room k Z.A)(hg:Gl Z x)(ha:PA Z (e::es) t)(I:Inv Z pins σ H s)
  (ht:t σ H fun vs H1=>sp vs H1 (fun _ _=>False) E/\∀ s1 v s',Inv Z pins σ H1 s1->CXe Z.prog Z.w Z.stack H1 s1 E v s'->Z.xe v s')
  (hdb:(x == ("__debug__":Str))=false:=by decide)(he:starEach (e::es) Z.env=(false,eval e Z.env)::starEach es Z.env:=by rfl)(hpl:(backTo pos (starEach es Z.env)).any (·.1)=false:=by rfl):
  wpAny (model Z.prog Z.w) Z.A (eval (.Call (.Name x p) (e::es) [] pos) Z.env) Q Z.xe s:=by
 obtain ⟨f,fd,F,hm,hk,hb⟩:=F.ex
 refine wpAny_Call_Name_kw (ld_glob I hg hm ?_ hdb)
 refine callWith_K (h₀:=Z.base) I.ok.mod.kin hk (thn (ha pos pins s σ H _ I ht) fun us s1 ⟨vs,H1,I1,r,q1,q2⟩=>⟨I1.kIn,?_⟩) he hpl
 have hl:us.length=ps.length:=by rw [← r.length];exact F.len _ _ _ _ q1
 have hb':=hb s1 us I1.kIn (by rw [List.append_nil];exact hl)
 rw [List.append_nil] at hb'
 refine wpAny_call (codeAny_mono (F.run Z.A Z.stack s1 H1 ⟨us,[]⟩ us vs (fun _ _=>False) E hr I1.env0 hb' r q1) fun r s' hq=>?_)
 cases r with
 | error v=>exact q2 s1 v s' I1 hq
 | ok fl=>
  cases fl with
  | ret u=>obtain ⟨_,_,_,_,_,_,_,z⟩:=hq;exact z.elim
  | next=>exact False.elim hq
  | brk=>exact False.elim hq
  | cont=>exact False.elim hq
structure ExM (K:PySem.W.Frag) (mg:Str->Option Value):Prop where
 k:ExK K
 g:∀ n ∈ exNames,∀ C,nsIn K mainGlobals n=some (some (.ref C))->mg n=some (.ref C)
end L2
namespace F
open PySem PySem.Spec PyProof.Rows L2 PySem.W
noncomputable def fIsE(f:FE)(m:Str):FE:=fun env=>(f env).bind fun p=>match p with
 | .exc n=>if n ∈ exNames then some (.bl (xsub n m)) else none
 | .non=>some (.bl false)
 | _=>none
noncomputable def fIsV(f:FE):FE:=fun env=>(f env).bind fun p=>match p with
 | .exc n=>if n ∈ exNames then some (.bl true) else none
 | .non=>some (.bl false)
 | _=>none
theorem boot_ValueError:bootBuiltins "ValueError"=some (.type "ValueError"):=by decide +kernel
section
variable {X:Cx} {κ:Nat->Option Nat} {G:Hp} {c:Cat} {e:Expr} {f:FE} {p1 p2 pos:Pos} {m:Str}
theorem ve_isE(hE:ExM X.K X.mg)(hm:m ∈ exNames)(hg:Gl X "isinstance")(hi:X.mg "isinstance"=none)(hgm:Gl X m)(ha:VE X κ G c e f)(hd:(m == ("__debug__":Str))=false:=by decide)
  (he:starEach [e,.Name m p2] X.env=(false,eval e X.env)::starEach [.Name m p2] X.env:=by rfl)(he2:starEach [.Name m p2] X.env=(false,eval (.Name m p2) X.env)::starEach [] X.env:=by rfl)(hpl:(backTo pos (starEach [.Name m p2] X.env)).any (·.1)=false:=by rfl):
  VE X κ G (.mv []) (.Call (.Name "isinstance" p1) [e,.Name m p2] [] pos) (fIsE f m):=by
 obtain ⟨D,ns,fF,val,non⟩:=hE.k.cls m hm
 refine (pe_callB (x:="isinstance") call_isinstX hg hi boot_isinstance (pa_cons ha (pa_cons (pe_glob hgm (hE.g m hm D ns) (show RelV (.ref D) (.ref D) from rfl) hd) pa_nil he2) he) (by decide) (by decide) he hpl).imp fun σ H Q hq_=>?_
 refine hq_.elim fun own env z I hf k=>?_
 unfold fIsE at hf
 obtain ⟨q,hq,hf⟩:=Option.bind_eq_some_iff.mp hf
 refine .in I hq fun v H1 A s1 r1 _=>?_
 cases q<;>first | (cases hf;done) | skip
 ·cases hf
  rw [r1.N.1]
  exact .inl ⟨.non,D,_,false,rfl,.non,non,k _ H1 [] s1 (.mkB _) ⟨.nil,by simp⟩⟩
 ·rename_i n
  dsimp only at hf
  split at hf
  case isFalse=>cases hf
  rename_i hn
  cases hf
  obtain ⟨_,a,C,rfl,ha,hC⟩:=r1.Ex
  obtain ⟨C2,ns2,f2,_⟩:=hE.k.cls n hn
  rw [hC] at ns2
  cases ns2
  exact .inl ⟨.ref a,D,_,xsub n m,rfl,.exc ha f2,hE.k.sub n hn m hm C D hC ns,k _ H1 [] s1 (.mkB _) ⟨.nil,by simp⟩⟩
theorem ve_isV(hE:ExM X.K X.mg)(hg:Gl X "isinstance")(hi:X.mg "isinstance"=none)(hgm:Gl X "ValueError")(hv:X.mg "ValueError"=none)(ha:VE X κ G c e f)
  (he:starEach [e,.Name "ValueError" p2] X.env=(false,eval e X.env)::starEach [.Name "ValueError" p2] X.env:=by rfl)(he2:starEach [.Name "ValueError" p2] X.env=(false,eval (.Name "ValueError" p2) X.env)::starEach [] X.env:=by rfl)(hpl:(backTo pos (starEach [.Name "ValueError" p2] X.env)).any (·.1)=false:=by rfl):
  VE X κ G (.mv []) (.Call (.Name "isinstance" p1) [e,.Name "ValueError" p2] [] pos) (fIsV f):=by
 refine (pe_callB (x:="isinstance") call_isinstX hg hi boot_isinstance (pa_cons ha (pa_cons (pe_bty hgm hv boot_ValueError) pa_nil he2) he) (by decide) (by decide) he hpl).imp fun σ H Q hq_=>?_
 refine hq_.elim fun own env z I hf k=>?_
 unfold fIsV at hf
 obtain ⟨q,hq,hf⟩:=Option.bind_eq_some_iff.mp hf
 refine .in I hq fun v H1 A s1 r1 _=>?_
 cases q<;>first | (cases hf;done) | skip
 ·cases hf
  rw [r1.N.1]
  exact .inr ⟨.non,"ValueError",_,false,rfl,.non,hE.k.non,k _ H1 [] s1 (.mkB _) ⟨.nil,by simp⟩⟩
 ·rename_i n
  dsimp only at hf
  split at hf
  case isFalse=>cases hf
  rename_i hn
  cases hf
  obtain ⟨_,a,C,rfl,ha,hC⟩:=r1.Ex
  obtain ⟨C2,ns2,f2,val,_⟩:=hE.k.cls n hn
  rw [hC] at ns2
  cases ns2
  exact .inr ⟨.ref a,"ValueError",_,true,rfl,.exc ha f2,val,k _ H1 [] s1 (.mkB _) ⟨.nil,by simp⟩⟩
end
noncomputable abbrev FR:=En->Option Str
noncomputable def XeOk(X:Cx)(G:Hp)(n:Str):Prop:=
 (∀ pins σ H2 s2 h3 a C us,Inv X pins σ H2 s2->Same G H2->nsIn X.K mainGlobals n=some (some (.ref C))->Heap.MadeExcOf s2.heap h3 a (.ref C) us->X.xe (.ref a) { s2 with heap:=h3 })/\
 ∀ pins σ H s a C a0 H' B s',Inv X pins σ H s->Flies X.prog X.w X.stack H s a C a0 H' B s'->Same G H'->nsIn X.K mainGlobals n=some (some (.ref C))->X.xe (.ref a) s'
noncomputable def VX(X:Cx)(κ:Nat->Option Nat)(G:Hp)(sts:List Stmt)(r:FR):Prop:=∀ pins s σ H own env n Q,Inv X pins σ H s->VI X.K κ G own env σ H->r env=some n->XeOk X G n->wpAny (model X.prog X.w) X.A (execs sts X.env) Q X.xe s
noncomputable def rNo:FR:=fun _=>none
noncomputable def rR(n:Str):FR:=fun _=>some n
noncomputable def rIf(t:FT)(r1 r2:FR):FR:=fun env=>(t env).bind fun b=>if b=true then r1 env else r2 env
noncomputable def rSeq(g:FS)(r:FR):FR:=fun env=>(g env).bind fun o=>match o with | .nx e=>r e | _=>none
section
variable {X:Cx} {κ:Nat->Option Nat} {G:Hp} {c:Cat} {st:Stmt} {rest body:List Stmt} {r r1 r2:FR} {t:FT} {g:FS} {pos:Pos}
theorem vx_no:VX X κ G body rNo:=fun _ _ _ _ _ _ _ _ _ _ h _=>nomatch h
theorem vx_raise{n tx:Str}{np cp cpos:Pos}{j:Nat}(hc:X.calm=true)(hE:ExM X.K X.mg)(hn:n ∈ exNames)(hg:Gl X n)(hd:(n == ("__debug__":Str))=false:=by decide)
  (he:starEach [.Constant (.str tx) j cp] X.env=(false,eval (.Constant (.str tx) j cp) X.env)::starEach [] X.env:=by rfl)(hpl:(backTo cpos (starEach [] X.env)).any (·.1)=false:=by rfl):
  VX X κ G (.Raise (some (.Call (.Name n np) [.Constant (.str tx) j cp] [] cpos)) none pos::rest) (rR n):=by
 intro pins s σ H own env n' Q I V h xo
 cases h
 obtain ⟨C,ns,fF,_⟩:=hE.k.cls n hn
 refine wpAny_execs_cons (raise_at (t:=tCons (tC (.str tx)) tNil) (pa_cons pe_str pa_nil he) I hc hg (hE.g n hn C ns) fF.inn ⟨(by rw [sizeLine_eq];show 1≤_;omega),fun s1 h' a us I1 hm=>xo.1 pins σ H s1 h' a C us I1 V.same ns hm⟩ hd he hpl)
theorem vx_if{cc:Expr}(ht:VT X.nox κ G cc t)(h1:VX X κ G body r1)(h2:VX X κ G rest r2):VX X κ G (.If cc body [] pos::rest) (rIf t r1 r2):=by
 intro pins s σ H own env n Q I V h xo
 obtain ⟨b,hb,h⟩:=Option.bind_eq_some_iff.mp h
 refine wpAny_execs_cons (wpAny_If (thn (PT.nox ht pins s σ H (fun b' H1=>b'=b/\Same H H1) I (.in V hb fun H1 s1=>⟨rfl,s1⟩)) fun d s1 q=>?_))
 obtain ⟨H1,I1,e1,sm⟩:=q
 subst e1
 cases d with
 | true=>exact h1 pins s1 σ H1 own env n _ I1 (V.grow sm) (by simpa using h) xo
 | false=>exact wpAny_execs_nil (h2 pins s1 σ H1 own env n _ I1 (V.grow sm) (by simpa using h) xo)
theorem vx_seq(h1:VS X.nox κ G st g)(h2:VX X κ G rest r):VX X κ G (st::rest) (rSeq g r):=by
 intro pins s σ H own env n Q I V h xo
 obtain ⟨o,ho,h⟩:=Option.bind_eq_some_iff.mp h
 cases o<;>first | (cases h;done) | skip
 rename_i e1
 refine wpAny_execs_cons (thn (PS.nox h1 pins s σ H { nx:=fun σ' H'=>∃ own',VI X.K κ G own' e1 σ' H',rt:=fun _ _=>False } I ⟨own,env,_,V,ho,fun own' σ' H' I' _=>⟨own',I'⟩⟩) fun f s1 q=>?_)
 cases f with
 | next=>
  obtain ⟨σ',H',I',own',V'⟩:=q
  exact h2 pins s1 σ' H' own' e1 n Q I' V' h xo
 | brk=>obtain ⟨_,_,_,z⟩:=q;exact z.elim
 | cont=>obtain ⟨_,_,_,z⟩:=q;exact z.elim
 | ret u=>obtain ⟨_,_,_,_,_,z⟩:=q;exact z.elim
end
noncomputable def spE(K:PySem.W.Frag)(n:Nat)(R:List PV->Option Str):Sp:=fun vs H _ E=>∃ ps A c,Rps K H ps vs A/\ps.length=n/\R ps=some c/\∀ C H',Same H H'->nsIn K mainGlobals c=some (some (.ref C))->E (.ref C) none H'
noncomputable def fnE(m:Nat)(r:FR):List PV->Option Str:=fun ps=>r (ps.map some++List.replicate (m - ps.length) none)
theorem fn_X{P:Program}{w:World}{K:PySem.W.Frag}{mg:Str->Option Value}{base:Heap}{x qual:Str}{st:Stmt}{f:Addr}{fd:FuncData}{N ps:List Str}{k n m:Nat}{r:FR}(O:List Nat)(hn:ps.length=n)(hm:N.length=m)(hO:∀ i ∈ O,n≤i)(hF:Fun K x qual st f fd)(S:FnScope N ps (defScope st))
  (body:∀ (cdv:Value) (A:Around) (outer:List PySem.Env) (s:Shared) (H:Hp) (E:XK),Room k (A.deeper (envOfC qual (defScope st) s.heap.objs.size f cdv))->VX (cxOf (CXe P w) P w K mg base N qual (defScope st) f cdv A outer s H E) (ko O) H (defBody st) r):
  FnOk P w K mg base (CXe P w) (k+1) f fd ps (spE K n (fnE m r)):=by
 subst hn hm
 obtain ⟨oc,od,kV,doc,pm,an,cdv,ct,osl,rfl,lk,hcd⟩:=hF.ex
 refine fn_of lk hcd S (fun vs H Q E ⟨qs,A,z,r,hl,_⟩=>by rw [← r.length,hl]) fun A outer s H vs Q E hr ⟨qs,B,c,rr,hl,hR,kE⟩=>
  ⟨fun D σ H'=>∃ own env,VI K (ko O) H own env σ H'/\r env=some c/\XeOk (cxOf (CXe P w) P w K mg base N qual (defScope st) f cdv A outer s H E) H c,fun pins s' σ H' D I ⟨own,env,V,h1,h2⟩=>body cdv A outer s H E hr pins s' σ H' own env c _ I V h1 h2,fun _=>none,_,VI.start (N:=N) (fun i hi=>ko_out fun z=>absurd (hO i z) (by omega)) rr,hR,fun pins σ H2 s2 h3 a C us I sm ns hm=>made_leaves I sm (kE C H2 sm ns) hm,fun pins σ H1 s1 a C a0 H2 B2 s2 I fl sm ns=>pass_leaves I fl sm (kE C H2 sm ns)⟩
end F
namespace F
open PySem PySem.Spec PyProof.Rows L2 PySem.W
noncomputable def fTry(gB:FS)(R:List PV->Option Str)(fs:FA)(ie j:Nat):FS:=fun env=>match gB env with
 | some (.nx e)=>some (.nx e)
 | _=>(fs env).bind fun qs=>(R qs).bind fun c=>if c ∈ exNames then some (.nx ((env.set ie none).set j (some (.exc c)))) else none
noncomputable def Calls(X:Cx)(st:Stmt)(x:Str)(es:List Expr):Prop:=∃ p pos,∀ (E:Value->Shared->Prop) (Q:Flow->Shared->Prop) (s:Shared),wpAny (model X.prog X.w) X.A (eval (.Call (.Name x p) es [] pos) X.env) (fun _ _=>False) E s->wpAny (model X.prog X.w) X.A (exec st X.env) Q E s
section
variable {X:Cx} {κ:Nat->Option Nat} {G:Hp} {c:Cat} {st:Stmt} {e:Expr} {es:List Expr} {fs:FA} {gB:FS} {x n y xB:Str} {k m:Nat} {ps:List Str} {R:List PV->Option Str} {p pos cpos spos hpos bp np yp:Pos}
theorem calls_expr(hi:interactive X.env=false:=by rfl):Calls X (.Expr (.Call (.Name x p) es [] cpos) spos) x es:=
 ⟨p,cpos,fun E Q s h=>wpAny_Expr (hi:=hi) (wpAny_mono h (fun _ _ z=>z.elim) fun _ _ z=>z)⟩
theorem VI.put_exc{K:PySem.W.Frag}{own:Addr->Option Nat}{env:En}{σ:St}{H H':Hp}{ie j:Nat}{a C:Addr}{q:Str}(V:VI K κ G own env σ H)(hk:κ j=none)(sm:Same H H')(hn:H' a=none)(ns:nsIn K mainGlobals q=some (some (.ref C)))(hj:j≠ie):
  VI K κ G own ((env.set ie none).set j (some (.exc q))) (((σ.set ie (some (.ref a))).set j (some (.ref a))).set ie none) (upd H' a (.ext (excφ a C))):=by
 have s2:Same H' (upd H' a (.ext (excφ a C))):=fun b o e=>by rw [upd_ne (fun z=>by rw [z,hn] at e;cases e)];exact e
 have V2:=V.grow (sm.trans s2)
 refine ⟨by simp [V.len],fun l p e=>?_,V2.own,V2.same⟩
 by_cases hl:l=j
 ·subst hl
  have hlen:l<env.length:=by
   rw [List.getElem?_set] at e
   split at e
   ·split at e
    ·rename_i z;rw [List.length_set] at z;exact z
    ·cases e
   ·rename_i z;exact absurd rfl z
  rw [List.getElem?_set_self (by rw [List.length_set];exact hlen)] at e
  cases e
  have hσ:l<σ.length:=by rw [← V.len];exact hlen
  refine ⟨.ref a,[],?_,.mkEx upd_same ns,fun _=>by simp,fun l' z=>by rw [hk] at z;cases z⟩
  rw [List.getElem?_set_ne (Ne.symm hj),List.getElem?_set_self (by rw [List.length_set];exact hσ)]
 ·rw [List.getElem?_set_ne (Ne.symm hl)] at e
  have hi:l≠ie:=fun z=>by
   subst z
   rw [List.getElem?_set] at e
   split at e
   ·split at e<;>cases e
   ·rename_i z;exact z rfl
  rw [List.getElem?_set_ne (Ne.symm hi)] at e
  obtain ⟨v,A,h1,h2,h3⟩:=V2.slot l p e
  refine ⟨v,A,?_,h2,h3⟩
  rw [List.getElem?_set_ne (Ne.symm hi),List.getElem?_set_ne (Ne.symm hl),List.getElem?_set_ne (Ne.symm hi)]
  exact h1
theorem vs_try(ie j:Nat)(hk:κ j=none)(hij:j≠ie)(hE:ExM X.K X.mg)(hB:VS X.nox κ G st gB)(hc:Calls X st x (e::es))(hF:FnE X.prog X.w X.K X.mg X.base x k ps (spE X.K m R))(hr:Room k X.A)(hg:Gl X x)(ha:VA X.nox κ G c (e::es) fs)(hl:(e::es).length=m)
  (hst:X.stack=X.env::X.outer/\X.env.frame=some X.env.locals)(hN:X.N.Nodup)(hi:X.N[ie]?=some n)(hj:X.N[j]?=some y)(hln:X.env.kindOf n=some .local)(hly:X.env.kindOf y=some .local)(hgB:Gl X "BraceError")
  (hnd:(n == ("__debug__":Str))=false:=by decide)(hncd:(n == ("__classdict__":Str))=false:=by decide)(hs:swapsWith (.Name n np) (some (.Name y yp)) spos.line X.env=pure false:=by rfl)
  (hdb:(x == ("__debug__":Str))=false:=by decide)(he:starEach (e::es) X.env=(false,eval e X.env)::starEach es X.env:=by rfl)(hpl:∀ pos,(backTo pos (starEach es X.env)).any (·.1)=false:=by intro _;rfl):
  VS X κ G (.Try [st] [.ExceptHandler (some (.Name "BraceError" bp)) (some n) [.Assign [.Name y yp] (.Name n np) spos] hpos] [] [] pos) (fTry gB R fs ie j):=by
 intro pins s σ H D I hq_
 refine hq_.elim fun own env o V hf kk=>?_
 have hB0:("BraceError":Str) ∈ exNames:=List.mem_cons_self
 obtain ⟨CB,nsB,_⟩:=hE.k.cls _ hB0
 let Z:Cx:=X.wish fun v s1=>wpAny (model X.prog X.w) X.A (noteFrame v X.env) (fun _ s2=>wpAny (model X.prog X.w) X.A (setFlight v none) (fun _ s3=>wpAny (model X.prog X.w) X.A (handleBy v X.env [.ExceptHandler (some (.Name "BraceError" bp)) (some n) [.Assign [.Name y yp] (.Name n np) spos] hpos]) (SP X pins D) X.xe s3) X.xe s2) X.xe s1
 refine wpAny_Try_except (wpAny_execs_cons ?_)
 have norm:∀ e1,gB env=some (.nx e1)->o=.nx e1->wpAny (model X.prog X.w) X.A (exec st X.env) (fun f s1=>match f with | .next=>wpAny (model X.prog X.w) X.A (execs [] X.env) (fun f s2=>match f with | .next=>wpAny (model X.prog X.w) X.A (execs [] X.env) (SP X pins D) X.xe s2 | f=>SP X pins D f s2) Z.xe s1 | f=>match f with | .next=>wpAny (model X.prog X.w) X.A (execs [] X.env) (SP X pins D) X.xe s1 | f=>SP X pins D f s1) Z.xe s:=fun e1 h1 ho=>by
  subst ho
  refine thn (PS.nox (X:=Z) hB pins s σ H D (I.wish _) ⟨own,env,_,V,h1,kk⟩) fun f s1 q=>?_
  have q:=q.unwish
  cases f with
  | next=>exact wpAny_execs_nil (wpAny_execs_nil q)
  | brk=>exact q
  | cont=>exact q
  | ret u=>exact q
 unfold fTry at hf
 split at hf
 ·rename_i e1 h1
  cases hf
  exact norm e1 h1 rfl
 ·obtain ⟨qs,hqs,hf⟩:=Option.bind_eq_some_iff.mp hf
  obtain ⟨q,hR,hf⟩:=Option.bind_eq_some_iff.mp hf
  split at hf
  case isFalse=>cases hf
  rename_i hqn
  cases hf
  obtain ⟨p0,pos0,hc⟩:=hc
  refine hc Z.xe _ s (call_raises (Z:=Z) (E:=fun v _ _=>∃ C,v=.ref C/\nsIn X.K mainGlobals q=some (some (.ref C))) hF hr hg (PA.nox ha.1) (I.wish _) (.in V hqs fun vs H1 A sm r1 _=>⟨⟨qs,A,q,r1,(ha.2 env qs hqs).trans hl,hR,fun C H' _ ns=>⟨C,rfl,ns⟩⟩,fun s1 v s' I1 hx=>?_⟩) hdb he (hpl _))
  obtain ⟨a,C,a0,H',B,rfl,fl,C',e1,ns⟩:=hx
  cases e1
  exact caught_at (i:=ie) (j:=j) I1.unwish fl hst hN hi hj hln hly hgB (hE.g _ hB0 CB nsB) (hE.k.exm q hqn C CB ns nsB) (kk own _ _ (V.put_exc hk (sm.trans fl.same) fl.none ns hij) (Ext.grow ((sm.trans fl.same).trans fun b o e=>by rw [upd_ne (fun z=>by rw [z,fl.none] at e;cases e)];exact e))) hnd hncd (by decide) hs
end
end F
namespace F
open PySem PySem.Spec PyProof.Rows L2 PySem.W
section
variable {X:Cx} {κ:Nat->Option Nat} {G:Hp} {c c1:Cat} {fd fk:FE}
end
theorem Df.fnE{P:Program}{w:World}{K:PySem.W.Frag}{h:Heap}{mg:Str->Option Value}{base:Heap}{x:Str}{st:Stmt}{k:Nat}{ps:List Str}{sp:Sp}(d:Df K x st)(X:K.In h)(G:h.Ns mainGlobals mg)(ok:∀ f fd,Fun K x x st f fd->FnOk P w K mg base (CXe P w) k f fd ps sp)
  (hb:∀ (kV doc pm:Value) (an:Option Addr) (cdv ct:Value) (us:List Value),us.length=ps.length->bindArgs (PySem.W.fnOf x x (defArgs st) (defBody st) (defScope st) .none kV doc pm an cdv ct) ⟨us,[]⟩=pure (ps.zip us)):FnE P w K mg base x k ps sp:=by
 obtain ⟨a,l,c,k⟩:=d
 have F:=fun_mk (st:=st) l c k
 exact ⟨_,_,ok _ _ F,mg_of X G a,k,F.binds hb⟩
end F
namespace F
open PySem PySem.Spec PyProof.Rows L2 PySem.W
noncomputable def vAddA:PV->PV->Option PV
 | .lst ps,.lst qs=>if ps.length+qs.length≤100000 then some (.lst (ps++qs)) else none
 | _,_=>none
noncomputable def vTupleA:List PV->Option PV
 | [.lst xs]=>some (.tup xs)
 | [.tup xs]=>some (.tup xs)
 | _=>none
section
variable {X:Cx} {κ:Nat->Option Nat} {G:Hp} {a b e:Expr} {fa fb f:FE} {pos p1:Pos}
theorem ve_addA(ha:VE X κ G (.mv []) a fa)(hb:VE X κ G (.mv []) b fb):VE X κ G (.mv []) (.BinOp a .Add b pos) (fOp vAddA fa fb):=(pe_op or_add ha hb).imp fun σ H Q hq_=>by
 refine hq_.elim fun own env z I h k=>?_
 obtain ⟨p,q,hp,hq,h⟩:=fOp_some h
 unfold vAddA at h
 split at h
 case h_2=>cases h
 rename_i ps qs
 split at h
 case isFalse=>cases h
 rename_i hl
 cases h
 refine .in I hp fun v H1 A s1 r1 c1=>?_
 obtain ⟨a1,xs,A1,rfl,h1,rfl,g1⟩:=r1.L
 refine .in (I.grow s1) hq fun v2 H2 B s2 r2 c2=>?_
 obtain ⟨b1,ys,B1,rfl,h2,rfl,g2⟩:=r2.L
 have l1:=g1.length
 have l2:=g2.length
 obtain ⟨n1,f1⟩:=c1
 obtain ⟨n2,f2⟩:=c2
 have fr1:∀ x ∈ a1::A1,H x=none:=fun x hx=>(f1 x hx).elim id fun ⟨_,z,_⟩=>nomatch z
 have fr2:∀ x ∈ b1::B1,H1 x=none:=fun x hx=>(f2 x hx).elim id fun ⟨_,z,_⟩=>nomatch z
 have g1':=Rps.same s2 _ g1
 refine .inr (.inl ⟨a1,b1,xs,ys,rfl,rfl,s2 _ _ h1,h2,by rw [sizeLine_eq];omega,fun p hp=>?_⟩)
 have sm:Same H2 (upd H2 p (.lst (xs++ys))):=fun b o e=>by rw [upd_ne (fun z=>by rw [z,hp] at e;cases e)];exact e
 have al:∀ x ∈ A1++B1,∃ o,H2 x=some o:=fun x hx=>(List.mem_append.mp hx).elim (fun z=>(Rps.mut ps g1' x z).some) fun z=>(Rps.mut qs g2 x z).some
 refine k _ _ (p::(A1++B1)) ((s1.trans s2).trans sm) (.mkL upd_same (Rps.append (Rps.same sm _ g1') (Rps.same sm _ g2))) ⟨?_,fun x hx=>.inl ?_⟩
 ·refine List.nodup_cons.mpr ⟨fun z=>?_,List.nodup_append.mpr ⟨(List.nodup_cons.mp n1).2,(List.nodup_cons.mp n2).2,fun x hx y hy e=>?_⟩⟩
  ·obtain ⟨o,ho⟩:=al p z
   rw [hp] at ho;cases ho
  ·subst e
   obtain ⟨o,ho⟩:=(Rps.mut ps g1 x hx).some
   rw [fr2 x (List.mem_cons_of_mem _ hy)] at ho;cases ho
 ·rcases List.mem_cons.mp hx with rfl | hx
  ·exact s1.free (s2.free hp)
  ·rcases List.mem_append.mp hx with z | z
   ·exact fr1 x (List.mem_cons_of_mem _ z)
   ·exact s1.free (fr2 x (List.mem_cons_of_mem _ z))
theorem ve_tupleA(hg:Gl X "tuple")(hm:X.mg "tuple"=none)(ha:VE X κ G .sh e f)(he:starEach [e] X.env=(false,eval e X.env)::starEach [] X.env:=by rfl)(hpl:(backTo pos (starEach [] X.env)).any (·.1)=false:=by rfl):
  VE X κ G .sh (.Call (.Name "tuple" p1) [e] [] pos) (fCall vTupleA (fCons f fNil)):=(pe_callTy (x:="tuple") call_tuple_of hg hm boot_tuple (pa_cons ha pa_nil he) (by decide) (by decide) he hpl).imp fun σ H Q hq_=>by
 refine hq_.elim fun own env z I h k=>?_
 unfold fCall at h
 obtain ⟨ps,hps,h⟩:=Option.bind_eq_some_iff.mp h
 obtain ⟨p,hp,hps⟩:=Option.bind_eq_some_iff.mp hps
 cases hps
 refine .in I hp fun v H1 A s1 r1 c1=>?_
 unfold vTupleA at h
 split at h
 case h_3=>cases h
 ·rename_i xs hx
  cases h
  cases hx
  obtain ⟨a1,vs,A1,rfl,h1,rfl,g1⟩:=r1.L
  refine ⟨a1,vs,rfl,.inl ⟨SqL.of h1,fun l hl=>?_⟩⟩
  have sm:Same H1 (upd H1 l (.tup vs)):=fun b o e=>by rw [upd_ne (fun z=>by rw [z,hl] at e;cases e)];exact e
  exact k _ _ A1 (s1.trans sm) (.mkT (.inl (.inl upd_same)) (Rps.same sm _ g1)) fun x hx=>c1 x (List.mem_cons_of_mem _ hx)
 ·rename_i xs hx
  cases h
  cases hx
  obtain ⟨a1,vs,rfl,h1,g1⟩:=r1.T
  exact ⟨a1,vs,rfl,.inr ⟨h1,k _ H1 A s1 (.mkT h1 g1) c1⟩⟩
end
end F
namespace L2
open PySem PySem.Spec PyProof.Rows
noncomputable def It3(lo c:Int)(n:Nat):It where
 go i _:=i<n
 yld i H y H':=H'=H/\y=.int (lo+(i:Nat) * c)
 stop i _:=n≤i
theorem turn_range3{P:Program}{w:World}{K:PySem.W.Frag}{tg:Expr}(it:Addr)(lo c:Int)(n:Nat):Turn P w K tg (It3 lo c n) [it] it (fun i h=>IsRangeIter h it (lo+(i:Nat) * c) ((n:Int) - (i:Nat)) c) where
 mem:=by simp
 obj:=fun i h st b hb=>by
  obtain rfl:b=it:=by simpa using hb
  exact ⟨_,st,fun v z=>by
   have z':Data.fields _=Data.cell v:=z
   cases z'⟩
 keep:=fun i h h' st k=>k it (by simp) _ st
 item:=by
  intro X hP hw hK hc i pins s σ H E I hf st hg
  subst hP hw hK
  obtain ⟨f0,f1,f2,f3,f4,f5⟩:=hf it (by simp)
  have W:=Walks.range (prog:=X.prog) (w:=X.w) (I.ok.hd hc) it lo c n
  refine W.item i s _ _ hg st fun v h' tk hv st' kk=>?_
  obtain ⟨t,rfl⟩:=hv
  have I1:Inv X pins σ H { s with heap:=h',toks:=tk }:=I.turned (fun b o hb e=>kk b o (by simpa using hb) e) f0 f1 f3 f4 f5
  exact ⟨_,rfl,go_of (s:={ s with heap:=h',toks:=tk }) (n:="range_iterator") st' rfl rfl (by decide) ⟨.int (lo+(i:Nat) * c),H,I1,⟨t,rfl⟩,⟨rfl,rfl⟩,st',fun b hb=>(hf b hb).1⟩⟩
 done:=by
  intro X hP hw hK hc i pins s σ H E I hf st hg
  subst hP hw hK
  obtain ⟨f0,f1,f2,f3,f4,f5⟩:=hf it (by simp)
  exact wpAny_pyNext_range_end (I.ok.hd hc) st (by have:n≤i:=hg;omega) fun h' eb=>⟨rfl,I.turned (t':=s.toks) (fun b o hb e=>eb b o hb e) f0 f1 f3 f4 f5⟩
 self:=fun _ _ _ _ _ st h=>wpAny_pyIter_rangeiter st h
section
variable {X:Cx} {tg:Expr}
theorem range_it3{pins:List (Addr × Obj)}{σ:St}{H:Hp}{s:Shared}{R:It->Hp->Prop}{E:Value->Shared->Prop}{lo hi c:Int}{t u v:Tok}{tk:Nat}(I:Inv X pins σ H s)(hs:Builtin.Range.small lo hi c=true)
  (q:R (It3 lo c (Builtin.Range.rangeSize lo hi c).toNat) H):wpAny (model X.prog X.w) X.A (pyIter (.ref s.heap.objs.size)) (PIE X pins σ tg R) E { s with heap:=s.heap.push { cls:=.type "range",data:=.fields #[.int lo t,.int hi u,.int c v] },toks:=tk }:=by
 refine wpAny_pyIter_range (IsRange.new ..) hs ?_
 generalize hg:s.heap.push { cls:=.type "range",data:=.fields #[.int lo t,.int hi u,.int c v] }=g
 have I1:Inv X pins σ H { s with heap:=g,toks:=tk }:=I.kept fun b o e=>by rw [← hg];exact Heap.get?_push_of_some _ e
 refine ⟨g.objs.size,[g.objs.size],_,_,H,rfl,I1.kept (t':=tk) fun b o e=>Heap.get?_push_of_some _ e,turn_range3 _ lo c (Builtin.Range.rangeSize lo hi c).toNat,?_,fun b hb=>?_,q⟩
 ·show IsRangeIter _ _ (lo+((0:Nat):Int) * c) ((((Builtin.Range.rangeSize lo hi c).toNat:Nat):Int) - ((0:Nat):Int)) c
  rw [← rangeSize_toNat,show lo+((0:Nat):Int) * c=lo by simp,show Builtin.Range.rangeSize lo hi c - ((0:Nat):Int)=Builtin.Range.rangeSize lo hi c by simp]
  exact Heap.get?_push_size _ rfl
 ·obtain rfl:b=g.objs.size:=by simpa using hb
  exact I1.fpOk (Nat.le_refl _) (I1.hok.fresh (Nat.le_refl _))
noncomputable def iRng3(ta:TA):TI:=fun σ H R=>ta σ H fun vs H1=>∃ i j k:Int,vs=[.int i,.int j,.int k]/\(0<k/\k<1073741824)/\Builtin.Range.small i j k=true/\R (It3 i k (Builtin.Range.rangeSize i j k).toNat) H1
theorem pi_range3{a b c:Expr}{ta:TA}{p pos:Pos}(hg:Gl X "range")(hm:X.mg "range"=none)(ha:PA X [a,b,c] ta)(hs:starEach [a,b,c] X.env=[(false,eval a X.env),(false,eval b X.env),(false,eval c X.env)]:=by rfl)(hs2:starEach [b,c] X.env=[(false,eval b X.env),(false,eval c X.env)]:=by rfl):
  PI X tg (.Call (.Name "range" p) [a,b,c] [] pos) (iRng3 ta):=by
 intro pins s σ H R I h
 refine Call_ (ld_blt I hg hm boot_range (PyProof.Rows.callWith_type1 (thn (ha pos pins s σ H _ I h) fun us s1 ⟨vs,H1,I1,r1,q1⟩=>?_) (by rw [hs,hs2]) (by rw [hs2];rfl)))
 obtain ⟨i,j,k,e,q1,q2,q⟩:=q1
 subst e
 cases r1 with
 | cons r rr=>
  cases rr with
  | cons r' rr=>
   cases rr with
   | cons r'' rr=>
    cases rr
    obtain ⟨t,rfl⟩:=r
    obtain ⟨t',rfl⟩:=r'
    obtain ⟨t'',rfl⟩:=r''
    exact call_range_3 (by omega) (range_it3 I1 q2 q) (.inl (PyProof.noPylong_small (by omega)))
end
end L2
namespace F
open PySem PySem.Spec PyProof.Rows L2
noncomputable def rng3P(i k:Int)(n:Nat):List PV:=(List.range n).map fun (m:Nat)=>PV.int (i+(m:Nat) * k)
noncomputable def fRng3(f:FA):FA:=fun env=>(f env).bind fun ps=>match ps with | [.int i,.int j,.int k]=>if (0<k/\k<1073741824)/\Builtin.Range.small i j k=true then some (rng3P i k (Builtin.Range.rangeSize i j k).toNat) else none | _=>none
section
variable {X:Cx} {κ:Nat->Option Nat} {G:Hp} {c:Cat} {fs:FA} {a b d:Expr} {pos:Pos}
theorem walks_r3{K:PySem.W.Frag}{own:Addr->Option Nat}{H1:Hp}{R:Hp->Prop}(lo c:Int)(n:Nat):Walks K own H1 R (It3 lo c n) (rng3P lo c n):=by
 intro i H2 _
 refine ⟨fun p hp=>?_,fun hi=>by unfold rng3P at hi;rw [List.length_map,List.length_range] at hi;exact hi⟩
 unfold rng3P at hp
 rw [List.getElem?_map] at hp
 by_cases hi:i<n
 ·rw [List.getElem?_range hi] at hp
  cases hp
  refine ⟨hi,fun x H3 ⟨e,hx⟩=>?_⟩
  subst e
  exact ⟨Same.refl _,[],by rw [hx];exact .mkI _,by simp⟩
 ·rw [List.getElem?_eq_none (by simpa using hi)] at hp
  cases hp
theorem vi_rng3{tg:Expr}{p:Pos}(lp:Bool)(hg:Gl X "range")(hm:X.mg "range"=none)(ha:VA X κ G c [a,b,d] fs)(hs:starEach [a,b,d] X.env=[(false,eval a X.env),(false,eval b X.env),(false,eval d X.env)]:=by rfl)(hs2:starEach [b,d] X.env=[(false,eval b X.env),(false,eval d X.env)]:=by rfl):
  VIt X κ G lp tg (.Call (.Name "range" p) [a,b,d] [] pos) (fRng3 fs):=(pi_range3 hg hm ha.1 hs hs2).imp fun σ H R hq_=>by
 refine hq_.elim fun own env ps I hf k=>?_
 unfold fRng3 at hf
 replace hf:=Option.bind_eq_some_iff.mp hf;obtain ⟨qs,hp,hf⟩:=hf
 refine (.in I hp fun vs H1 A s r _=>?_)
 split at hf
 case h_2=>cases hf
 split at hf
 case isFalse=>cases hf
 rename_i i j m hj
 cases hf
 obtain ⟨v,r',A1,A2,h1,h2,h3,h4⟩:=r.inv
 obtain ⟨v',r'',A1',A2',h1',h2',h3',h4'⟩:=h4.inv
 obtain ⟨v3,r3,A3,A4,h13,h23,h33,h43⟩:=h4'.inv
 exact ⟨i,j,m,by rw [h1,h1',h13,h43.inv0.1,h3.I.1,h3'.I.1,h33.I.1],hj.1,hj.2,k _ H1 s (walks_r3 i m _)⟩
end
end F
namespace F
open PySem PySem.Spec PyProof.Rows L2
section
variable {X:Cx} {κ:Nat->Option Nat} {G:Hp} {g h:FS} {t:FT}
theorem vs_ifz{cc:Expr}{bs1 bs2:List Stmt}{pos:Pos}(hc:VT X κ G cc t)(h1:VSz X κ G bs1 g)(h2:VSs X κ G bs2 h):VS X κ G (.If cc bs1 bs2 pos) (fIfS t g h):=by
 unfold VSz at h1
 exact vs_if hc h1 h2
theorem vsz_retIx{c:Cat}{pos p1 p2:Pos}{b:Expr}{es:List Expr}{fs:FA}{fb:FE}(hu:X.A.units+1<cLine)(hl:VA X κ G (.mv []) es fs)(hb:VE X κ G c b fb)(hs:PlainIx b)(hn:es.length≤100000:=by first | decide | simp):
  VSz X κ G [.Return (some (.Subscript (.List es p1) b p2)) pos] (fRet (fOp vIx (fLst fs) fb)):=by
 unfold VSz
 exact vss_one (vs_ret (ve_ix hu (ve_lst hl hn) hb hs))
end
end F
namespace F
open PySem L2
section
variable {env:En} {f fa fb fc:FE} {t u:FT} {fs:FA} {g h:FS} {p q:PV}
@[simp] theorem ap_var(i:Nat):fVar i env=(env[i]?).join:=rfl
@[simp] theorem ap_C(p:PV):fC p env=some p:=rfl
@[simp] theorem ap_op(k:PV->PV->Option PV):fOp k fa fb env=(fa env).bind fun x=>(fb env).bind fun y=>k x y:=rfl
@[simp] theorem ap_un(k:PV->Option PV):fUn k fa env=(fa env).bind k:=rfl
@[simp] theorem ap_dat:fDat f env=(f env).bind fun p=>if isData p=true then some p else none:=rfl
@[simp] theorem ap_T:fT f env=(f env).bind asBool:=rfl
@[simp] theorem ap_and:fAnd t u env=(t env).bind fun b=>if b=true then u env else some false:=rfl
@[simp] theorem ap_or:fOr t u env=(t env).bind fun b=>if b=true then some true else u env:=rfl
@[simp] theorem ap_not:fNot t env=(t env).map fun b=>!b:=rfl
@[simp] theorem ap_if:fIf t fa fb env=(t env).bind fun c=>if c=true then fa env else fb env:=rfl
@[simp] theorem ap_nil:fNil env=some []:=rfl
@[simp] theorem ap_cons:fCons f fs env=(f env).bind fun p=>(fs env).map fun ps=>p::ps:=rfl
@[simp] theorem ap_tup:fTup fs env=(fs env).map .tup:=rfl
@[simp] theorem ap_lst:fLst fs env=(fs env).map .lst:=rfl
@[simp] theorem ap_call(Φ:List PV->Option PV):fCall Φ fs env=(fs env).bind Φ:=rfl
@[simp] theorem ap_chain(k k':PV->PV->Option PV):fChain k k' fa fb fc env=(fa env).bind fun x=>(fb env).bind fun y=>(k x y).bind fun z=>(asBool z).bind fun b=>if b=true then (fc env).bind fun w=>k' y w else some (.bl false):=rfl
@[simp] theorem ap_andV:fAndV fa fb env=(fa env).bind fun x=>(asBool x).bind fun k=>if k=true then fb env else some (.bl false):=rfl
@[simp] theorem ap_orV:fOrV fa fb env=(fa env).bind fun x=>(asBool x).bind fun k=>if k=true then some (.bl true) else fb env:=rfl
@[simp] theorem ap_notV:fNotV fa env=(fa env).bind fun x=>(asBool x).map fun k=>.bl (!k):=rfl
@[simp] theorem ap_nx:fNx env=some (.nx env):=rfl
@[simp] theorem ap_bk:fBk env=some (.bk env):=rfl
@[simp] theorem ap_ct:fCt env=some (.ct env):=rfl
@[simp] theorem ap_ret:fRet f env=(f env).map fun p=>.rt p env:=rfl
@[simp] theorem ap_retN:fRetN env=some (.rt .non env):=rfl
@[simp] theorem ap_ifS:fIfS t g h env=(t env).bind fun b=>if b=true then g env else h env:=rfl
@[simp] theorem ap_set(i:Nat):fSet i f env=(f env).map fun p=>.nx (env.set i (some p)):=rfl
@[simp] theorem ap_asg(b:PV->En->Option En):fAsg b f env=(f env).bind fun p=>(b p env).map .nx:=rfl
@[simp] theorem ap_forS(b:PV->En->Option En):fForS fs b g env=(fs env).bind fun ps=>fFor b g ps env:=rfl
@[simp] theorem ap_seqOf:fSeqOf f env=(f env).bind seqOf:=rfl
@[simp] theorem ap_seqD:fSeqD f env=(f env).bind fun p=>(seqOf p).bind fun ps=>if isDatas ps=true then some ps else none:=rfl
@[simp] theorem ap_bName(i:Nat):bName i p env=some (env.set i (some p)):=rfl
@[simp] theorem ap_yes:fYes env=some true:=rfl
@[simp] theorem ap_dict0:fDict0 env=some (.dct [] []):=rfl
@[simp] theorem ap_noPart:fNoPart env=some none:=rfl
@[simp] theorem ap_lc(n:Nat)(js:List Nat)(b:PV->En->Option En):fLC fs n js b t f env=(fs env).bind fun ps=>if ps.length≤100000 then (fComp b t f ps (cE n js env)).map .lst else none:=rfl
theorem fSeq_nx(hg:g env=some (.nx e)):fSeq g h env=h e:=by unfold fSeq;rw [hg];rfl
theorem fSeq_rt(hg:g env=some (.rt p e)):fSeq g h env=some (.rt p e):=by unfold fSeq;rw [hg];rfl
@[simp] theorem fSeq_ap:fSeq g h env=(g env).bind fun o=>match o with | .nx e=>h e | o=>some o:=rfl
end
section
variable {i j:Int} {xs ys:List Int} {ps qs:List PV}
@[simp] theorem data_int:isData (.int i)=true:=rfl
@[simp] theorem data_bl{b:Bool}:isData (.bl b)=true:=rfl
@[simp] theorem data_str{x:Str}:isData (.str x)=true:=rfl
@[simp] theorem data_non:isData .non=true:=rfl
@[simp] theorem data_tup:isData (.tup ps)=isDatas ps:=by simp [isData]
@[simp] theorem datas_nil:isDatas []=true:=rfl
@[simp] theorem datas_cons{p:PV}:isDatas (p::ps)=(isData p && isDatas ps):=by simp [isDatas]
@[simp] theorem datas_ints:isDatas (xs.map PV.int)=true:=isDatas_ints xs
@[simp] theorem datas_app:isDatas (ps++qs)=(isDatas ps && isDatas qs):=isDatas_app ps qs
@[simp] theorem as_bl{b:Bool}:asBool (.bl b)=some b:=rfl
@[simp] theorem add_ii:vAdd (.int i) (.int j)=some (.int (i+j)):=rfl
@[simp] theorem sub_ii:vSub (.int i) (.int j)=some (.int (i - j)):=rfl
@[simp] theorem lt_ii:vLt (.int i) (.int j)=some (.bl (decide (i<j))):=rfl
@[simp] theorem le_ii:vLe (.int i) (.int j)=some (.bl (decide (i≤j))):=rfl
@[simp] theorem gt_ii:vGt (.int i) (.int j)=some (.bl (decide (j<i))):=rfl
@[simp] theorem ge_ii:vGe (.int i) (.int j)=some (.bl (decide (j≤i))):=rfl
@[simp] theorem neg_i:vNeg (.int i)=some (.int (-i)):=rfl
theorem mul_ii(h:IntMulOk i j):vMul (.int i) (.int j)=some (.int (i * j)):=by simp [vMul,h]
theorem mulOk_l(h : -(2 ^ 64)<i/\i<2 ^ 64):IntMulOk i j:=.of_left (intBits_le_64 h.1 h.2)
theorem mulOk_r(h : -(2 ^ 64)<j/\j<2 ^ 64):IntMulOk i j:=.of_right (intBits_le_64 h.1 h.2)
theorem mul_l(h : -(2 ^ 64)<i/\i<2 ^ 64):vMul (.int i) (.int j)=some (.int (i * j)):=mul_ii (mulOk_l h)
theorem mul_r(h : -(2 ^ 64)<j/\j<2 ^ 64):vMul (.int i) (.int j)=some (.int (i * j)):=mul_ii (mulOk_r h)
theorem fdiv_ii(h:0<j/\j<1073741824):vFdiv (.int i) (.int j)=some (.int (i / j)):=by simp [vFdiv,h]
theorem mod_ii(h:0<j):vMod (.int i) (.int j)=some (.int (i % j)):=by simp [vMod,h]
@[simp] theorem seq_lst:seqOf (.lst ps)=some ps:=rfl
@[simp] theorem seq_fls:seqOf (.fls ps)=some ps:=rfl
@[simp] theorem seq_tup:seqOf (.tup ps)=some ps:=rfl
@[simp] theorem seqw_lst:seqOw (.lst ps)=some ps:=rfl
@[simp] theorem seqw_tup:seqOw (.tup ps)=some ps:=rfl
@[simp] theorem len_lst:vLen [.lst ps]=some (.int ps.length):=rfl
@[simp] theorem len_fls:vLen [.fls ps]=some (.int ps.length):=rfl
@[simp] theorem len_tup:vLen [.tup ps]=some (.int ps.length):=rfl
@[simp] theorem len_dct{ks:List Key}:vLen [.dct ks ps]=some (.int ks.length):=rfl
@[simp] theorem tuple_lst:vTuple [.lst ps]=if isDatas ps=true then some (.tup ps) else none:=rfl
@[simp] theorem list_tup:vList [.tup ps]=if isDatas ps=true then some (.lst ps) else none:=rfl
@[simp] theorem list_lst:vList [.lst ps]=if isDatas ps=true then some (.lst ps) else none:=rfl
@[simp] theorem int_bl{b:Bool}:vInt [.bl b]=some (.int (if b then 1 else 0)):=rfl
@[simp] theorem ix_lst:vIx (.lst ps) (.int i)=atI ps i:=rfl
@[simp] theorem ix_fls:vIx (.fls ps) (.int i)=atI ps i:=rfl
@[simp] theorem ix_tup:vIx (.tup ps) (.int i)=atI ps i:=rfl
theorem atI_map{α β:Type}(f:α->β)(l:List α)(i:Int):atI (l.map f) i=(atI l i).map f:=by
 unfold atI
 rw [List.length_map]
 cases ixN l.length i with
 | none=>rfl
 | some j=>simp
theorem atI_some{α:Type}{l:List α}{i:Int}(h0:0≤i)(h1:i<l.length):atI l i=l[i.toNat]?:=by
 unfold atI ixN
 rw [if_pos h0,if_pos h1];rfl
@[simp] theorem atI_0{α:Type}{a:α}{l:List α}:atI (a::l) 0=some a:=by
 rw [atI_some (by decide) (by simp only [List.length_cons];omega)];rfl
@[simp] theorem atI_1{α:Type}{a b:α}{l:List α}:atI (a::b::l) 1=some b:=by
 rw [atI_some (by decide) (by simp only [List.length_cons];omega)];rfl
@[simp] theorem atI_2{α:Type}{a b c:α}{l:List α}:atI (a::b::c::l) 2=some c:=by
 rw [atI_some (by decide) (by simp only [List.length_cons];omega)];rfl
@[simp] theorem atI_3{α:Type}{a b c d:α}{l:List α}:atI (a::b::c::d::l) 3=some d:=by
 rw [atI_some (by decide) (by simp only [List.length_cons];omega)];rfl
theorem inP_ints(n:Int):∀ xs:List Int,inP (.int n) (xs.map PV.int)=decide (n ∈ xs)
 | []=>rfl
 | m::r=>by
  have ih:=inP_ints n r
  unfold inP at ih ⊢
  rw [List.map_cons,List.any_cons,ih]
  by_cases e:m=n
  ·subst e;simp [eqS]
  ·have e':¬ n=m:=fun z=>e z.symm
   simp [eqS,e,e']
theorem flat_ints(xs:List Int):(xs.map PV.int).all flatP=true:=by
 rw [List.all_map];exact List.all_eq_true.mpr fun _ _=>rfl
@[simp] theorem in_lst:vIn (.int i) (.lst (xs.map .int))=some (decide (i ∈ xs)):=by simp only [vIn,flat_ints,inP_ints];rfl
@[simp] theorem in_fls:vIn (.int i) (.fls (xs.map .int))=some (decide (i ∈ xs)):=by simp only [vIn,flat_ints,inP_ints];rfl
@[simp] theorem in_tup:vIn (.int i) (.tup (xs.map .int))=some (decide (i ∈ xs)):=by simp only [vIn,flat_ints,inP_ints];rfl
@[simp] theorem in_tup2:vIn (.int i) (.tup [.int j,.int k])=some (decide (i=j∨i=k)):=by
 have:=in_tup (i:=i) (xs:=[j,k])
 simpa using this
@[simp] theorem inE{p q:PV}:vInE p q=(vIn p q).map .bl:=rfl
@[simp] theorem notInE{p q:PV}:vNotIn p q=(vIn p q).map fun b=>.bl (!b):=rfl
@[simp] theorem eqP_ii:eqP (.int i) (.int j)=decide (i=j):=by
 unfold eqP toPy PyData.eqv
 simp [Bool.beq_eq_decide_eq]
@[simp] theorem eqOk_i:eqOk (.int i)=true:=by simp [eqOk,okPy,toPy,PyData.canLay0,PyData.depth]
@[simp] theorem eq_ii:vEq (.int i) (.int j)=some (.bl (decide (i=j))):=by simp [vEq]
@[simp] theorem ne_ii:vNe (.int i) (.int j)=some (.bl (!decide (i=j))):=by simp [vNe]
end
section
variable {b:PV->En->Option En} {g:FS} {t:FT} {f:FE}
theorem for_pre(P:List PV->En->Prop)(h0:P [] env)
  (step:∀ pre p post e,ps=pre++p::post->P pre e->∃ e1 e2,b p e=some e1/\(g e1=some (.nx e2)∨g e1=some (.ct e2))/\P (pre++[p]) e2):∃ e,fFor b g ps env=some (.nx e)/\P ps e:=by
 have go:∀ (post pre:List PV) (e:En),ps=pre++post->P pre e->∃ e',fFor b g post e=some (.nx e')/\P ps e':=by
  intro post
  induction post with
  | nil=>intro pre e hp h;exact ⟨e,rfl,by rw [hp,List.append_nil];exact h⟩
  | cons p post ih=>
   intro pre e hp h
   obtain ⟨e1,e2,h1,h2,h3⟩:=step pre p post e hp h
   obtain ⟨e',h4,h5⟩:=ih (pre++[p]) e2 (by rw [hp,List.append_assoc];rfl) h3
   refine ⟨e',?_,h5⟩
   unfold fFor
   rw [h1,Option.bind_some]
   rcases h2 with h2 | h2<;>(rw [h2,Option.bind_some];exact h4)
 exact go ps [] env rfl h0
theorem wh_inv(P:En->Prop)(μ:En->Nat)(step:∀ e,P e->t e=some false∨(t e=some true/\∃ e',(g e=some (.nx e')∨g e=some (.ct e'))/\P e'/\μ e'<μ e)):
  ∀ (n:Nat) (env:En),P env->μ env<n->∃ e,fWh t g n env=some (.nx e)/\P e/\t e=some false
 | 0,_,_,h=>absurd h (Nat.not_lt_zero _)
 | n+1,env,hp,hm=>by
  unfold fWh
  rcases step env hp with h | ⟨h,e',h2,h3,h4⟩
  ·refine ⟨env,?_,hp,h⟩
   rw [h];rfl
  ·obtain ⟨e,h5,h6,h7⟩:=wh_inv P μ step n e' h3 (by omega)
   refine ⟨e,?_,h6,h7⟩
   rw [h,Option.bind_some,if_pos rfl]
   rcases h2 with h2 | h2<;>(rw [h2,Option.bind_some];exact h5)
theorem comp_fm{env:En}(T:PV->Bool)(W:PV->PV):∀ (ps:List PV),(∀ p ∈ ps,∃ e,b p env=some e/\t e=some (T p)/\(T p=true->f e=some (W p)))->fComp b t f ps env=some ((ps.filter T).map W)
 | [],_=>rfl
 | p::ps,h=>by
  obtain ⟨e,h1,h2,h3⟩:=h p List.mem_cons_self
  have ih:=comp_fm T W ps fun q hq=>h q (List.mem_cons_of_mem _ hq)
  unfold fComp
  rw [h1,Option.bind_some,h2,Option.bind_some,ih]
  cases hT:T p with
  | true=>rw [if_pos rfl,h3 hT,Option.bind_some,List.filter_cons,if_pos hT];rfl
  | false=>rw [if_neg Bool.false_ne_true,List.filter_cons,if_neg (by rw [hT];exact Bool.false_ne_true)]
theorem comp_ints(T:Int->Bool)(W:Int->PV)(xs:List Int)(h:∀ n ∈ xs,∃ e,b (.int n) env=some e/\t e=some (T n)/\(T n=true->f e=some (W n))):fComp b t f (xs.map PV.int) env=some ((xs.filter T).map W):=by
 have:=comp_fm (env:=env) (b:=b) (t:=t) (f:=f) (fun p=>match p with | .int n=>T n | _=>false) (fun p=>match p with | .int n=>W n | p=>p) (xs.map PV.int) (by
  intro p hp
  obtain ⟨n,hn,rfl⟩:=List.mem_map.mp hp
  exact h n hn)
 rw [this,List.filter_map,List.map_map]
 rfl
theorem rngP_map(lo:Int)(n:Nat):rngP lo n=((List.range n).map fun (i:Nat)=>lo+(i:Int)).map PV.int:=by
 unfold rngP;rw [List.map_map];rfl
theorem rngP0(n:Nat):rngP 0 n=((List.range n).map fun (i:Nat)=>(i:Int)).map PV.int:=by
 rw [rngP_map];simp
end
theorem for_filter{t:FT}(i v:Nat)(mk:List Int->Option PV->En)(T:Int->Bool)
  (h1:∀ acc x y,(mk acc x).set v (some y)=mk acc (some y))(h2:∀ acc acc' x,(mk acc x).set i (some (.lst (acc'.map PV.int)))=mk acc' x)
  (h3:∀ acc x,(mk acc x)[i]?=some (some (.lst (acc.map PV.int))))(h4:∀ acc x,(mk acc x)[v]?=some x):
  ∀ (xs acc:List Int) (x:Option PV),(∀ n ∈ xs,∀ acc,t (mk acc (some (.int n)))=some (T n))->acc.length+xs.length≤1000->
   ∃ x',fFor (bName v) (fIfS t (fAppend i (fDat (fVar v))) fNx) (xs.map PV.int) (mk acc x)=some (.nx (mk (acc++xs.filter T) x'))
 | [],acc,x,_,_=>⟨x,by simp [fFor]⟩
 | n::xs,acc,x,ht,hl=>by
  simp only [List.length_cons] at hl
  have hn:=ht n List.mem_cons_self acc
  have hL:acc.length<100000:=by omega
  rw [List.map_cons]
  unfold fFor
  rw [ap_bName,Option.bind_some,h1,ap_ifS,hn,Option.bind_some]
  cases hT:T n with
  | true=>
   obtain ⟨x',e⟩:=for_filter i v mk T h1 h2 h3 h4 xs (acc++[n]) (some (.int n)) (fun m hm=>ht m (List.mem_cons_of_mem _ hm)) (by simp only [List.length_append,List.length_singleton];omega)
   refine ⟨x',?_⟩
   have ha:fAppend i (fDat (fVar v)) (mk acc (some (.int n)))=some (.nx (mk (acc++[n]) (some (.int n)))):=by
    have:(acc.map PV.int++[PV.int n])=(acc++[n]).map PV.int:=by simp
    have hd:fDat (fVar v) (mk acc (some (.int n)))=some (.int n):=by simp [h4]
    have hv:fVar i (mk acc (some (.int n)))=some (.lst (acc.map PV.int)):=by simp [h3]
    unfold fAppend
    rw [hv,Option.bind_some,hd,Option.bind_some]
    dsimp only
    rw [if_pos (by rw [List.length_map];exact hL),this,h2]
   rw [if_pos rfl,ha,Option.bind_some]
   dsimp only
   rw [e,List.filter_cons,if_pos hT,List.append_assoc]
   rfl
  | false=>
   obtain ⟨x',e⟩:=for_filter i v mk T h1 h2 h3 h4 xs acc (some (.int n)) (fun m hm=>ht m (List.mem_cons_of_mem _ hm)) (by omega)
   refine ⟨x',?_⟩
   rw [if_neg Bool.false_ne_true,ap_nx,Option.bind_some]
   dsimp only
   rw [e,List.filter_cons,if_neg (by rw [hT];exact Bool.false_ne_true)]
noncomputable abbrev truD(L:List Int):PV:=.dct (L.map Sum.inl) (L.map fun _=>.bl true)
theorem hasK_tru(L:List Int)(p:Int):hasK (L.map Sum.inl) (.inl p)=decide (p ∈ L):=by
 rw [Bool.eq_iff_iff,hasK_iff,decide_eq_true_eq]
 constructor
 ·intro h;obtain ⟨q,hq,e⟩:=List.mem_map.mp h;cases e;exact hq
 ·intro h;exact List.mem_map.mpr ⟨p,h,rfl⟩
@[simp] theorem in_tru{L:List Int}{p:Int}:vIn (.int p) (truD L)=some (decide (p ∈ L)):=by simp only [vIn,hasK_tru]
theorem datas_tru(L:List Int):isDatas (L.map fun _=>PV.bl true)=true:=isDatas_map _ (fun _=>rfl) L
theorem put_tru{L:List Int}(h:p ∉ L)(hl:L.length<100000):vSetI (truD L) (.int p) (.bl true)=some (truD (L++[p])):=by
 simp only [vSetI,datas_tru,data_bl,List.length_map,hl,decide_true,Bool.and_self,if_true]
 unfold dPut
 rw [hasK_tru,decide_eq_false h,if_neg Bool.false_ne_true]
 simp [truD]
theorem toPys_ints:∀ xs:List Int,toPys (xs.map PV.int)=xs.map PyData.int
 | []=>rfl
 | x::r=>by rw [List.map_cons,toPys,toPys_ints r];rfl
theorem okPys_ints:∀ xs:List Int,okPys (xs.map PV.int)=true
 | []=>rfl
 | x::r=>by rw [List.map_cons,okPys,okPys_ints r];rfl
theorem eqvAll_ints:∀ xs ys:List Int,PyData.eqvAll (xs.map PyData.int) (ys.map PyData.int)=decide (xs=ys)
 | [],[]=>rfl
 | [],_::_=>rfl
 | _::_,[]=>rfl
 | x::r,y::t=>by
  simp only [List.map_cons,PyData.eqvAll,PyData.eqv,eqvAll_ints r t]
  by_cases h:x=y<;>by_cases h':r=t<;>simp [h,h']
theorem lay_ints:∀ xs:List Int,PyData.canLayAll0 (xs.map PyData.int)=true
 | []=>rfl
 | x::r=>by rw [List.map_cons,PyData.canLayAll0,lay_ints r];rfl
theorem depth_ints:∀ xs:List Int,PyData.depthAll (xs.map PyData.int)≤1
 | []=>by simp [PyData.depthAll]
 | x::r=>by
  have:=depth_ints r
  rw [List.map_cons,PyData.depthAll,PyData.depth]
  omega
@[simp] theorem eqOk_lst{xs:List Int}:eqOk (.lst (xs.map PV.int))=true:=by
 have h1:=depth_ints xs
 have h2:PyData.depth (.list (xs.map PyData.int))≤64:=by rw [PyData.depth];omega
 simp only [eqOk,okPy,okPys_ints,toPy,toPys_ints,PyData.canLay0,lay_ints,h2,decide_true,Bool.and_self]
@[simp] theorem eqOk_tup{xs:List Int}:eqOk (.tup (xs.map PV.int))=true:=by
 have h1:=depth_ints xs
 have h2:PyData.depth (.tuple (xs.map PyData.int))≤64:=by rw [PyData.depth];omega
 simp only [eqOk,okPy,okPys_ints,toPy,toPys_ints,PyData.canLay0,lay_ints,h2,decide_true,Bool.and_self]
@[simp] theorem eqP_lst{xs ys:List Int}:eqP (.lst (xs.map PV.int)) (.lst (ys.map PV.int))=decide (xs=ys):=by
 simp only [eqP,toPy,toPys_ints,PyData.eqv,eqvAll_ints]
@[simp] theorem eqP_tup{xs ys:List Int}:eqP (.tup (xs.map PV.int)) (.tup (ys.map PV.int))=decide (xs=ys):=by
 simp only [eqP,toPy,toPys_ints,PyData.eqv,eqvAll_ints]
theorem eq_lst{xs ys:List Int}:vEq (.lst (xs.map PV.int)) (.lst (ys.map PV.int))=some (.bl (decide (xs=ys))):=by simp only [vEq,eqOk_lst,eqP_lst];rfl
theorem eq_nil{xs:List Int}:vEq (.lst (xs.map PV.int)) (.lst [])=some (.bl (decide (xs=[]))):=eq_lst (ys:=[])
theorem cut_1(xs:List Int):cutP (xs.map PV.int) none (some 1)=(xs.take 1).map PV.int:=by
 unfold cutP HT.sIx
 cases xs with
 | nil=>rfl
 | cons x r=>simp
theorem rep_1(n:Nat):(List.replicate n [PV.int 1]).flatten=(List.replicate n 1).map PV.int:=by
 induction n with
 | zero=>rfl
 | succ n ih=>rw [List.replicate_succ,List.flatten_cons,ih];rfl
end F
namespace F
open PySem PySem.Spec PyProof.Rows L2
theorem rps_intsU{K:PySem.W.Frag}{H:Hp}:∀ ns:List Int,Rps K H (ns.map PV.int) (ns.map V.int) []
 | []=>.nil
 | n::ns=>by
  have:=Rps.cons (K:=K) (H:=H) (Rp.mkI n) (rps_intsU ns)
  exact this
theorem law_sp{K:PySem.W.Frag}{Φ:List PV->Option PV}{H:Hp}{a:Addr}{ns:List Int}(ho:Only H)(hs:SqL K H a (ns.map V.int))(h:Φ [.fls (ns.map PV.int)]=some (.bl true)):spV K 1 Φ [.ref a] H (fun v _=>v=.bl true) (fun _ _ _=>False):=by
 have fz:Fz K H a (ns.map V.int):=by
  rcases hs with (hs | hs) | hs
  ·rcases ho a with z | ⟨o,xs,z⟩
   ·rw [hs] at z;cases z
   ·rw [hs] at z;cases z
  ·exact .inl hs
  ·exact .inr hs
 refine ⟨[.fls (ns.map PV.int)],[],.bl true,Rps.one (by unfold Rp;exact ⟨a,_,rfl,fz,rps_intsU ns⟩),rfl,h,fun v H' C _ r _ _=>r.B.1⟩
end F
namespace F
open PySem L2
section
variable {env:En} {f fk:FE} {fs:FA}
@[simp] theorem ap_lstR:fLstR fs env=(fs env).bind fun ps=>if ps.length≤100000 then some (.lst ps) else none:=rfl
@[simp] theorem ap_zip:fZip fs env=(fs env).bind fun ps=>match ps with | [p,q]=>(seqOf p).bind fun xs=>(seqOf q).bind fun ys=>some ((List.zip xs ys).map fun z=>PV.tup [z.1,z.2]) | _=>none:=rfl
end
end F
namespace F
open PySem L2
noncomputable def dF(L:List Int)(G:Int->PV):PV:=.dct (L.map Sum.inl) (L.map G)
section
variable {L:List Int} {G:Int->PV} {p:Int} {q x:PV}
@[simp] theorem in_dF:vIn (.int p) (dF L G)=some (decide (p ∈ L)):=by simp only [dF,vIn,hasK_tru]
@[simp] theorem in_dFn:vIn .non (dF L G)=some false:=rfl
@[simp] theorem len_dF:vLen [dF L G]=some (.int L.length):=by simp [dF]
noncomputable def DataOn(L:List Int)(G:Int->PV):Prop:=∀ p ∈ L,isData (G p)=true
noncomputable def upF(G:Int->PV)(p:Int)(q:PV):Int->PV:=fun y=>if y=p then q else G y
@[simp] theorem upF_self:upF G p q p=q:=if_pos rfl
theorem DataOn.put(hd:DataOn L G)(hq:isData q=true):DataOn (if p ∈ L then L else L++[p]) (upF G p q):=by
 intro a ha
 unfold upF
 split
 ·exact hq
 ·rename_i e
  refine hd a ?_
  split at ha
  ·exact ha
  ·exact (List.mem_append.mp ha).resolve_right fun z=>e (List.mem_singleton.mp z)
end
@[simp] theorem dF_nil(G:Int->PV):PV.dct [] []=dF [] G:=rfl
noncomputable def okB(d:Nat)(p:PV):Prop:=okPy p=true/\(toPy p).canLay0=true/\(toPy p).depth≤d
theorem okB.mono(h:okB d p)(hd:d≤e):okB e p:=⟨h.1,h.2.1,Nat.le_trans h.2.2 hd⟩
theorem okB.ok(h:okB d p)(hd:d≤64):eqOk p=true:=by
 have h3:(toPy p).depth≤64:=Nat.le_trans h.2.2 hd
 simp [eqOk,h.1,h.2.1,h3]
end F
namespace F
open PySem L2
section
variable {b:PV->En->Option En} {g:FS} {t:FT} {f:FE}
theorem for_map{α:Type}{xs:List α}{hh:α->PV}(P:List α->En->Prop)(h0:P [] env)
  (step:∀ pre a post e,xs=pre++a::post->P pre e->∃ e1 e2,b (hh a) e=some e1/\(g e1=some (.nx e2)∨g e1=some (.ct e2))/\P (pre++[a]) e2):∃ e,fFor b g (xs.map hh) env=some (.nx e)/\P xs e:=by
 have go:∀ (post pre:List α) (e:En),xs=pre++post->P pre e->∃ e',fFor b g (post.map hh) e=some (.nx e')/\P xs e':=by
  intro post
  induction post with
  | nil=>intro pre e hp h;exact ⟨e,rfl,by rw [hp,List.append_nil];exact h⟩
  | cons p post ih=>
   intro pre e hp h
   obtain ⟨e1,e2,h1,h2,h3⟩:=step pre p post e hp h
   obtain ⟨e',h4,h5⟩:=ih (pre++[p]) e2 (by rw [hp,List.append_assoc];rfl) h3
   refine ⟨e',?_,h5⟩
   rw [List.map_cons]
   unfold fFor
   rw [h1,Option.bind_some]
   rcases h2 with h2 | h2<;>(rw [h2,Option.bind_some];exact h4)
 exact go xs [] env rfl h0
theorem comp_map{α:Type}{env:En}{hh:α->PV}(W:α->PV):∀ (xs:List α),(∀ a ∈ xs,∃ e,b (hh a) env=some e/\t e=some true/\f e=some (W a))->fComp b t f (xs.map hh) env=some (xs.map W)
 | [],_=>rfl
 | a::xs,h=>by
  obtain ⟨e,h1,h2,h3⟩:=h a List.mem_cons_self
  have ih:=comp_map W xs fun q hq=>h q (List.mem_cons_of_mem _ hq)
  rw [List.map_cons]
  unfold fComp
  rw [h1,Option.bind_some,h2,Option.bind_some,ih,if_pos rfl,h3,Option.bind_some];rfl
end
theorem set_call{fs:FA}{env:En}{Φ:List PV->Option PV}(h:fs env=some as)(h2:Φ as=some p):fSet i (fCall Φ fs) env=some (.nx (env.set i (some p))):=by
 rw [ap_set,ap_call,h,Option.bind_some,h2];rfl
theorem call_of{fs:FA}{Φ:List PV->Option PV}(h:fs env=some as)(h2:Φ as=some p):fCall Φ fs env=some p:=by
 rw [ap_call,h,Option.bind_some,h2]
theorem fnV_rt{g:FS}{ps:List PV}(env:En)(he:ps.map some++List.replicate (m - ps.length) none=env)(h:g env=some (.rt p e)):fnV m g ps=some p:=by
 unfold fnV;rw [he,h];rfl
end F
namespace CB
variable {F:List Int} {d:Int} {stop:Int->Bool} {pre:List Int} {ps:List (Int × Nat)} {f:Int}
theorem Runs.next(r:Runs0 F d stop pre ps)(nf:f ∉ pre){a:Nat}{x:Int × Nat}(ha:ps[a]?=some x)(hc:f - d ∈ chain d x.1 x.2):f=x.1+x.2 * d:=by
 obtain ⟨i,hi,e⟩:=mem_chain.mp hc
 by_cases h:i+1<x.2
 ·have:=(r.inn _ (List.mem_of_getElem? ha) (i+1) h).1
  rw [smul] at this
  exact absurd (by rwa [show f=x.1+(i * d+d) by omega]) nf
 ·have:x.2=i+1:=by omega
  rw [this,smul];omega
theorem Runs.len(r:Runs0 F d stop pre ps):ps.length≤pre.length:=by
 have:=congrArg List.length r.heads
 rw [List.length_map] at this
 rw [this]
 exact List.length_filter_le _ _
end CB
namespace Cb
open PySem L2 F CB PyProof.Rows
theorem six{w:Int}(h1:1≤w)(h6:w≤6):w=1∨w=2∨w=3∨w=4∨w=5∨w=6:=by omega
noncomputable abbrev flV(w h:Int)(F:List Int):PV:=.tup [.int w,.int h,.tup (F.map PV.int)]
theorem floor_len{w h:Int}{F:List Int}(fl:IsFloor w h F):F.length≤36:=by
 have h1:=fl.h1
 have wh:w * h≤6 * 6:=Int.mul_le_mul fl.w6 fl.h6 (by omega) (by omega)
 have:=length_le_of_nodup F (places w h) (nodup_of_rise fl.rise) fun p hp=>mem_places.mpr (fl.inn p hp)
 simp [places] at this
 omega
end Cb
namespace Cb
open PySem L2 F CB PyProof.Rows
noncomputable def g__law_cell:FS:=(fSeq (fIfS (fT (fOp vLt (fVar 1) (fCall vLen (fCons (fVar 0) fNil)))) (fRet (fDat (fOp vIx (fVar 0) (fVar 1)))) fNx)
 (fSeq (fSet 2 (fOp vAdd (fOp vAdd (fOp vMul (fOp vMul (fVar 1) (fVar 1)) (fC (.int 7919))) (fOp vMul (fC (.int 104729)) (fVar 1))) (fC (.int 11))))
 (fSeq (fIfS (fT (fOp vGt (fCall vLen (fCons (fVar 0) fNil)) (fC (.int 0)))) (fSet 2 (fOp vAdd (fVar 2) (fOp vMul (fOp vIx (fVar 0) (fOp vMod (fVar 1) (fCall vLen (fCons (fVar 0) fNil)))) (fOp vAdd (fVar 1) (fC (.int 3)))))) fNx)
 (fRet (fOp vMod (fOp vMul (fVar 2) (fVar 2)) (fC (.int 2147483629)))))))
noncomputable def Φ__law_cell:List PV->Option PV:=fnV 3 g__law_cell

noncomputable def b__law_row_1:FS:=(fIfS (fT (fOp vEq (fOp vMod (fCall Φ__law_cell (fCons (fVar 0) (fCons (fC (.int 0)) fNil))) (fC (.int 2))) (fC (.int 0)))) (fSeq (fAppend 5 (fOp vMod (fVar 4) (fVar 3)))
 (fSet 4 (fOp vFdiv (fVar 4) (fVar 3)))) (fSeq (fSet 7 (fOp vMod (fOp vAdd (fOp vAdd (fOp vMul (fOp vMod (fVar 4) (fC (.int 2147483647))) (fOp vAdd (fOp vMul (fC (.int 2)) (fVar 6)) (fC (.int 69621)))) (fOp vMul (fOp vMul (fVar 6) (fVar 6)) (fC (.int 48271)))) (fC (.int 7))) (fC (.int 2147483629))))
 (fSeq (fSet 8 (fOp vMod (fOp vMul (fOp vMod (fOp vMul (fVar 7) (fVar 7)) (fC (.int 2147483587))) (fC (.int 16807))) (fC (.int 2147483647))))
 (fAppend 5 (fOp vMod (fOp vFdiv (fVar 8) (fC (.int 7))) (fVar 3))))))
noncomputable def g__law_row:FS:=(fSeq (fSet 4 (fCall Φ__law_cell (fCons (fVar 0) (fCons (fVar 1) fNil))))
 (fSeq (fSet 5 (fLst fNil))
 (fSeq (fForS (fRng1 (fCons (fVar 2) fNil)) (bName 6) b__law_row_1)
 (fRet (fVar 5)))))
noncomputable def Φ__law_row:List PV->Option PV:=fnV 9 g__law_row

noncomputable def b__law_beside_1:FS:=(fIfS (fAnd (fT (fOp vGe (fVar 4) (fC (.int 0)))) (fT (fOp vEq (fOp vFdiv (fVar 4) (fVar 0)) (fOp vFdiv (fVar 2) (fVar 0))))) (fAppend 3 (fDat (fVar 4))) fNx)
noncomputable def b__law_beside_2:FS:=(fIfS (fT (fChain vLe vLt (fC (.int 0)) (fVar 4) (fOp vMul (fVar 0) (fVar 1)))) (fAppend 3 (fDat (fVar 4))) fNx)
noncomputable def g__law_beside:FS:=(fSeq (fSet 3 (fLst fNil))
 (fSeq (fForS (fSeqOf (fLst (fCons (fOp vSub (fVar 2) (fC (.int 1))) (fCons (fOp vAdd (fVar 2) (fC (.int 1))) fNil)))) (bName 4) b__law_beside_1)
 (fSeq (fForS (fSeqOf (fLst (fCons (fOp vSub (fVar 2) (fVar 0)) (fCons (fOp vAdd (fVar 2) (fVar 0)) fNil)))) (bName 4) b__law_beside_2)
 (fRet (fVar 3)))))
noncomputable def Φ__law_beside:List PV->Option PV:=fnV 5 g__law_beside

noncomputable def t__law_flood_1:FT:=(fT (fOp vGt (fCall vLen (fCons (fVar 5) fNil)) (fC (.int 0))))
noncomputable def b__law_flood_1:FS:=(fSeq (fPop 6 5)
 (fIfS (fT (fOp vNotIn (fVar 6) (fVar 4))) (fSeq (fSetI 4 (fVar 6) (fC (.bl true)))
 (fExtendA 5 (fLC (fSeqOf (fCall Φ__law_beside (fCons (fVar 0) (fCons (fVar 1) (fCons (fVar 6) fNil))))) 1 [3] (bName 0) (fT (fOp vInE (fVar 0) (fVar 1))) (fDat (fVar 0))))) fNx))
noncomputable def g__law_flood:FS:=(fSeq (fSet 4 fDict0)
 (fSeq (fSet 5 (fLC (fSeqOf (fVar 2)) 1 [3] (bName 0) (fT (fOp vInE (fVar 0) (fVar 1))) (fDat (fVar 0))))
 (fSeq (fWh t__law_flood_1 b__law_flood_1 1000000)
 (fRet (fVar 4)))))
noncomputable def Φ__law_flood:List PV->Option PV:=fnV 7 g__law_flood

noncomputable def b__law_outside_1:FS:=(fIfS (fOr (fT (fOp vInE (fOp vMod (fVar 5) (fVar 0)) (fTup (fCons (fC (.int 0)) (fCons (fOp vSub (fVar 0) (fC (.int 1))) fNil))))) (fT (fOp vInE (fOp vFdiv (fVar 5) (fVar 0)) (fTup (fCons (fC (.int 0)) (fCons (fOp vSub (fVar 1) (fC (.int 1))) fNil)))))) (fAppend 4 (fDat (fVar 5))) fNx)
noncomputable def g__law_outside:FS:=(fSeq (fSet 3 (fLC (fRng1 (fCons (fOp vMul (fVar 0) (fVar 1)) fNil)) 1 [2] (bName 0) (fT (fOp vNotIn (fVar 0) (fVar 1))) (fDat (fVar 0))))
 (fSeq (fSet 4 (fLst fNil))
 (fSeq (fForS (fSeqOf (fVar 3)) (bName 5) b__law_outside_1)
 (fRet (fCall Φ__law_flood (fCons (fVar 0) (fCons (fVar 1) (fCons (fVar 4) (fCons (fVar 3) fNil)))))))))
noncomputable def Φ__law_outside:List PV->Option PV:=fnV 6 g__law_outside

noncomputable def g__law_floor:FS:=(fSeq (fAsg (bTup 2 (bCons (bName 2) (bCons (bName 3) bNil))) (fLC (fSeqOf (fCall Φ__law_row (fCons (fVar 0) (fCons (fVar 1) (fCons (fC (.int 2)) (fCons (fC (.int 6)) fNil)))))) 1 [] (bName 0) fYes (fOp vAdd (fC (.int 1)) (fVar 0))))
 (fSeq (fSet 4 (fCall Φ__law_row (fCons (fVar 0) (fCons (fOp vAdd (fVar 1) (fC (.int 1))) (fCons (fOp vMul (fVar 2) (fVar 3)) (fCons (fOp vAdd (fC (.int 2)) (fOp vMul (fC (.int 2)) (fOp vMod (fCall Φ__law_cell (fCons (fVar 0) (fCons (fC (.int 0)) fNil))) (fC (.int 2))))) fNil))))))
 (fSeq (fIfS (fT (fOp vEq (fOp vMod (fCall Φ__law_cell (fCons (fVar 0) (fCons (fC (.int 0)) fNil))) (fC (.int 8))) (fC (.int 3)))) (fSet 4 (fOp vMul (fLst (fCons (fC (.int 1)) fNil)) (fOp vMul (fVar 2) (fVar 3)))) fNx)
 (fSeq (fSet 5 (fLC (fRng1 (fCons (fOp vMul (fVar 2) (fVar 3)) fNil)) 1 [4] (bName 0) (fT (fOp vGt (fOp vIx (fVar 1) (fVar 0)) (fC (.int 0)))) (fDat (fVar 0))))
 (fSeq (fIfS (fT (fOp vEq (fVar 5) (fLst fNil))) (fSet 5 (fLst (fCons (fOp vSub (fOp vMul (fVar 2) (fVar 3)) (fC (.int 1))) fNil))) fNx)
 (fSeq (fSet 6 (fCall Φ__law_flood (fCons (fVar 2) (fCons (fVar 3) (fCons (fSl (fVar 5) fNoPart (fPart (fC (.int 1)))) (fCons (fVar 5) fNil))))))
 (fSeq (fSet 7 (fCall Φ__law_outside (fCons (fVar 2) (fCons (fVar 3) (fCons (fVar 6) fNil)))))
 (fRet (fTup (fCons (fDat (fVar 2)) (fCons (fDat (fVar 3)) (fCons (fCall vTuple (fCons (fLC (fRng1 (fCons (fOp vMul (fVar 2) (fVar 3)) fNil)) 1 [7] (bName 0) (fT (fOp vNotIn (fVar 0) (fVar 1))) (fDat (fVar 0))) fNil)) fNil))))))))))))
noncomputable def Φ__law_floor:List PV->Option PV:=fnV 8 g__law_floor

structure Scr (ns:List Int):Prop where
 len:ns.length≤63
 bits:∀ m ∈ ns,Builtin.Int.intBits m≤1048576
noncomputable abbrev scr(ns:List Int):PV:=.fls (ns.map PV.int)
theorem cell_ok{ns:List Int}(S:Scr ns){k:Int}(k0:0≤k)(k1:k≤1000):∃ n,Φ__law_cell [scr ns,.int k]=some (.int n):=by
 have kk:0≤k * k/\k * k≤1000000:=⟨Int.mul_nonneg k0 k0,by have:=Int.mul_le_mul k1 k1 k0 (by omega:(0:Int)≤1000);omega⟩
 have b0:Builtin.Int.intBits (k * k * 7919+104729 * k+11)≤64:=intBits_le_64 (by omega) (by omega)
 unfold Φ__law_cell fnV g__law_cell scr
 by_cases h1:k<(ns.length:Int)
 ·simp [h1,atI_map,atI_some k0 h1]
  have hj:k.toNat<ns.length:=by omega
  simp [List.getElem?_eq_getElem hj]
 ·simp [h1,mul_l (i:=k) (j:=k) ⟨by omega,by omega⟩,mul_l (i:=k * k) (j:=7919) ⟨by omega,by omega⟩,mul_r (i:=104729) (j:=k) ⟨by omega,by omega⟩]
  by_cases h2:(0:Int)<(ns.length:Int)
  ·have hm:0≤k % (ns.length:Int)/\k % (ns.length:Int)<ns.length:=⟨Int.emod_nonneg _ (by omega),Int.emod_lt_of_pos _ h2⟩
   have hj:(k % (ns.length:Int)).toNat<ns.length:=by omega
   have bn:=S.bits _ (List.getElem_mem hj)
   have bk:Builtin.Int.intBits (k+3)≤64:=intBits_le_64 (by omega) (by omega)
   have bm:=PySem.intBits_mul_le bn bk
   have bs:=PySem.intBits_add_le b0 bm
   have h2':0<ns.length:=by omega
   simp [h2',mod_ii h2,atI_map,atI_some hm.1 hm.2,List.getElem?_eq_getElem hj,mul_ii (IntMulOk.of_right bk),mul_ii (PySem.IntMulOk.of_le bs bs (by omega)),mod_ii (show (0:Int)<2147483629 by decide)]
  ·have h2':¬ 0<ns.length:=by omega
   simp [h2',mul_ii (IntMulOk.of_left b0),mod_ii (show (0:Int)<2147483629 by decide)]
theorem row_ok{ns:List Int}(S:Scr ns){k n b:Int}(k0:0≤k)(k1:k≤1000)(n0:0≤n)(n1:n≤1000)(b1:1≤b)(b2:b≤1000):
  ∃ ds:List Int,Φ__law_row [scr ns,.int k,.int n,.int b]=some (.lst (ds.map PV.int))/\ds.length=n.toNat/\∀ d ∈ ds,0≤d/\d<b:=by
 obtain ⟨c,hc⟩:=cell_ok S k0 k1
 obtain ⟨c0,hc0⟩:=cell_ok S (show (0:Int)≤0 by decide) (by decide)
 unfold Φ__law_row fnV g__law_row
 have loop:=for_pre (b:=bName 6) (g:=b__law_row_1)
  (ps:=rngP 0 n.toNat) (env:=[some (scr ns),some (.int k),some (.int n),some (.int b),some (.int c),some (.lst []),none,none,none])
  (fun pre e=>∃ (c:Int) (ds:List Int) (x6 x7 x8:Option PV),e=[some (scr ns),some (.int k),some (.int n),some (.int b),some (.int c),some (.lst (ds.map PV.int)),x6,x7,x8]/\ds.length=pre.length/\∀ d ∈ ds,0≤d/\d<b)
  ⟨c,[],none,none,none,rfl,rfl,by simp⟩ ?_
 ·obtain ⟨e,h1,c',ds,x6,x7,x8,rfl,h2,h3⟩:=loop
  refine ⟨ds,?_,?_,h3⟩
  ·have hn:n<4611686018427387904/\-4611686018427387904≤n:=by omega
   simp [hc,fRng1,hn,h1]
  ·rw [h2,rngP_len]
 ·rintro pre p post e hp ⟨c,ds,x6,x7,x8,rfl,h2,h3⟩
  have hl:(rngP 0 n.toNat).length=pre.length+(post.length+1):=by rw [hp];simp
  rw [rngP_len] at hl
  have hj:∃ j:Int,p=.int j/\0≤j/\j≤1000:=by
   have:p ∈ rngP 0 n.toNat:=by rw [hp];simp
   rw [rngP0] at this
   obtain ⟨j,hj,rfl⟩:=List.mem_map.mp this
   obtain ⟨i,hi,rfl⟩:=List.mem_map.mp hj
   exact ⟨i,rfl,by omega,by have:=List.mem_range.mp hi;omega⟩
  obtain ⟨j,rfl,j0,j1⟩:=hj
  have hlen:ds.length<100000:=by omega
  have jj:0≤j * j/\j * j≤1000000:=⟨Int.mul_nonneg j0 j0,by have:=Int.mul_le_mul j1 j1 j0 (by omega:(0:Int)≤1000);omega⟩
  refine ⟨_,?_,rfl,?_⟩
  ·exact if c0 % 2=0 then [some (scr ns),some (.int k),some (.int n),some (.int b),some (.int (c / b)),some (.lst ((ds++[c % b]).map PV.int)),some (.int j),x7,x8] else
    let o:=(c % 2147483647 * (2 * j+69621)+j * j * 48271+7) % 2147483629
    let w:=o * o % 2147483587 * 16807 % 2147483647
    [some (scr ns),some (.int k),some (.int n),some (.int b),some (.int c),some (.lst ((ds++[w / 7 % b]).map PV.int)),some (.int j),some (.int o),some (.int w)]
  ·by_cases h0:c0 % 2=0
   ·refine ⟨.inl ?_,c / b,ds++[c % b],some (.int j),x7,x8,by simp [h0],by simp [h2],fun d hd=>?_⟩
    ·simp [b__law_row_1,hc0,mod_ii (show (0:Int)<2 by decide),h0,mod_ii (show 0<b by omega),fAppend,fdiv_ii (show 0<b/\b<1073741824 by omega),hlen]
    ·rcases List.mem_append.mp hd with hd | hd
     ·exact h3 d hd
     ·rw [List.mem_singleton.mp hd];exact ⟨Int.emod_nonneg _ (by omega),Int.emod_lt_of_pos _ (by omega)⟩
   ·have c1:0≤c % 2147483647/\c % 2147483647<2147483647:=⟨Int.emod_nonneg _ (by decide),Int.emod_lt_of_pos _ (by decide)⟩
    refine ⟨.inl ?_,c,ds++[_],some (.int j),_,_,by simp only [h0,if_false];rfl,by simp [h2],fun d hd=>?_⟩
    ·have o1:∀ z:Int,0≤z % 2147483629/\z % 2147483629<2147483629:=fun z=>⟨Int.emod_nonneg _ (by decide),Int.emod_lt_of_pos _ (by decide)⟩
     have o2:∀ z:Int,0≤z % 2147483587/\z % 2147483587<2147483587:=fun z=>⟨Int.emod_nonneg _ (by decide),Int.emod_lt_of_pos _ (by decide)⟩
     have q1:=o1 (c % 2147483647 * (2 * j+69621)+j * j * 48271+7)
     generalize hz:(c % 2147483647 * (2 * j+69621)+j * j * 48271+7) % 2147483629=z at q1 ⊢
     have q2:=o2 (z * z)
     generalize hy:z * z % 2147483587=y at q2 ⊢
     simp [b__law_row_1,hc0,mod_ii (show (0:Int)<2 by decide),h0,fAppend,hlen,mod_ii (show (0:Int)<2147483647 by decide),mod_ii (show (0:Int)<2147483629 by decide),mod_ii (show (0:Int)<2147483587 by decide),
      mul_l (i:=c % 2147483647) (j:=2 * j+69621) ⟨by omega,by omega⟩,mul_l (i:=2) (j:=j) ⟨by omega,by omega⟩,mul_l (i:=j) (j:=j) ⟨by omega,by omega⟩,mul_l (i:=j * j) (j:=48271) ⟨by omega,by omega⟩,hz,
      mul_l (i:=z) (j:=z) ⟨by omega,by omega⟩,hy,mul_l (i:=y) (j:=16807) ⟨by omega,by omega⟩,fdiv_ii (show (0:Int)<7/\(7:Int)<1073741824 by decide),mod_ii (show 0<b by omega)]
    ·rcases List.mem_append.mp hd with hd | hd
     ·exact h3 d hd
     ·rw [List.mem_singleton.mp hd];exact ⟨Int.emod_nonneg _ (by omega),Int.emod_lt_of_pos _ (by omega)⟩
noncomputable def besideO(w h p:Int)(xs ys:List Int):List Int:=(xs.filter fun o=>decide (0≤o) && decide (o / w=p / w))++ys.filter fun o=>decide (0≤o) && decide (o<w * h)
theorem besideO_eq{w h p:Int}(w1:1≤w)(w6:w≤6)(hp:Place w h p):besideO w h p [p - 1,p+1] [p - w,p+w]=beside w h p:=by
 unfold besideO beside
 have a1:(decide (0≤p - 1) && decide ((p - 1) / w=p / w))=decide (0<p % w):=by
  rw [← Bool.decide_and];apply decide_eq_decide.mpr;unfold CB.Place at hp;rcases six w1 w6 with rfl | rfl | rfl | rfl | rfl | rfl<;>omega
 have a2:(decide (0≤p+1) && decide ((p+1) / w=p / w))=decide (p % w<w - 1):=by
  rw [← Bool.decide_and];apply decide_eq_decide.mpr;unfold CB.Place at hp;rcases six w1 w6 with rfl | rfl | rfl | rfl | rfl | rfl<;>omega
 have a3:(decide (0≤p - w) && decide (p - w<w * h))=decide (0<p / w):=by
  rw [← Bool.decide_and];apply decide_eq_decide.mpr;unfold CB.Place at hp;rcases six w1 w6 with rfl | rfl | rfl | rfl | rfl | rfl<;>omega
 have a4:(decide (0≤p+w) && decide (p+w<w * h))=decide (p / w<h - 1):=by
  rw [← Bool.decide_and];apply decide_eq_decide.mpr;unfold CB.Place at hp;rcases six w1 w6 with rfl | rfl | rfl | rfl | rfl | rfl<;>omega
 simp only [List.filter_cons,List.filter_nil,a1,a2,a3,a4,decide_eq_true_eq]
 split<;>split<;>split<;>split<;>rfl
theorem lbeside_ok{w h p:Int}(w1:1≤w)(w6:w≤6)(hp:CB.Place w h p):Φ__law_beside [.int w,.int h,.int p]=some (.lst ((beside w h p).map PV.int)):=by
 rw [← besideO_eq w1 w6 hp]
 have hm:=mul_l (i:=w) (j:=h) ⟨by omega,by omega⟩
 have hd:=fun x=>fdiv_ii (i:=x) (show 0<w/\w<1073741824 by omega)
 obtain ⟨x1,l1⟩:=for_filter (t:=fAnd (fT (fOp vGe (fVar 4) (fC (.int 0)))) (fT (fOp vEq (fOp vFdiv (fVar 4) (fVar 0)) (fOp vFdiv (fVar 2) (fVar 0))))) 3 4
  (fun acc x=>[some (.int w),some (.int h),some (.int p),some (.lst (acc.map PV.int)),x]) (fun o=>decide (0≤o) && decide (o / w=p / w)) (fun _ _ _=>rfl) (fun _ _ _=>rfl) (fun _ _=>rfl) (fun _ _=>rfl) [p - 1,p+1] [] none
  (fun n _ acc=>by by_cases c:0≤n<;>simp [hd,c]) (by simp)
 obtain ⟨x2,l2⟩:=for_filter (t:=fT (fChain vLe vLt (fC (.int 0)) (fVar 4) (fOp vMul (fVar 0) (fVar 1)))) 3 4
  (fun acc x=>[some (.int w),some (.int h),some (.int p),some (.lst (acc.map PV.int)),x]) (fun o=>decide (0≤o) && decide (o<w * h)) (fun _ _ _=>rfl) (fun _ _ _=>rfl) (fun _ _=>rfl) (fun _ _=>rfl) [p - w,p+w] ([]++[p - 1,p+1].filter fun o=>decide (0≤o) && decide (o / w=p / w)) x1
  (fun n _ acc=>by by_cases c:0≤n<;>simp [hm,c]) (by have:=List.length_filter_le (fun o=>decide (0≤o) && decide (o / w=p / w)) [p - 1,p+1];simp only [List.nil_append,List.length_cons,List.length_nil] at this ⊢;omega)
 simp only [List.map_cons,List.map_nil,List.nil_append] at l1 l2
 simp [Φ__law_beside,fnV,g__law_beside,b__law_beside_1,b__law_beside_2,l1,l2,besideO]
theorem flood_ok{w h:Int}{S Pl:List Int}(w1:1≤w)(w6:w≤6)(pl:∀ p ∈ Pl,CB.Place w h p)(sz:S.length≤100)(pz:Pl.length≤100):
  ∃ L:List Int,Φ__law_flood [.int w,.int h,.lst (S.map PV.int),.lst (Pl.map PV.int)]=some (truD L)/\L.Nodup/\∀ p,p ∈ L ↔ Reach (Adj w) (· ∈ Pl) (· ∈ S) p:=by
 have hinit:fComp (bName 0) (fT (fOp vInE (fVar 0) (fVar 1))) (fDat (fVar 0)) (S.map PV.int) [none,some (.lst (Pl.map PV.int))]=some ((S.filter fun n=>decide (n ∈ Pl)).map PV.int):=
  comp_ints (fun n=>decide (n ∈ Pl)) PV.int S fun n _=>⟨_,rfl,by simp,fun _=>by simp⟩
 have fz:(S.filter fun n=>decide (n ∈ Pl)).length≤100:=Nat.le_trans (List.length_filter_le _ _) sz
 let mk:List Int->List Int->Option PV->En:=fun L ws x=>[some (.int w),some (.int h),some (.lst (S.map PV.int)),some (.lst (Pl.map PV.int)),some (truD L),some (.lst (ws.map PV.int)),x]
 have loop:=wh_inv (t:=t__law_flood_1) (g:=b__law_flood_1) (fun e=>∃ L ws x,e=mk L ws x/\Dfs (Adj w) (· ∈ Pl) (· ∈ S) L ws/\ws.length≤100+4 * L.length)
  (fun e=>match e with | [_,_,_,_,some (.dct ks _),some (.lst ws),_]=>5 * (Pl.length - ks.length)+ws.length | _=>0) ?_ 1000000 (mk [] (S.filter fun n=>decide (n ∈ Pl)) none)
  ⟨[],_,none,rfl,Dfs.init fun q=>by simp [List.mem_filter],by simpa using fz⟩ (by simp [mk];omega)
 ·obtain ⟨e,h1,⟨L,ws,x,rfl,df,lz⟩,h2⟩:=loop
  have hw:ws=[]:=by
   cases ws with
   | nil=>rfl
   | cons a r=>simp [t__law_flood_1,mk] at h2
  subst hw
  refine ⟨L,?_,df.nd,df.done⟩
  have h1':fWh t__law_flood_1 b__law_flood_1 1000000 [some (.int w),some (.int h),some (.lst (S.map PV.int)),some (.lst (Pl.map PV.int)),some (.dct [] []),some (.lst ((S.filter fun n=>decide (n ∈ Pl)).map PV.int)),none]=some (.nx (mk L [] x)):=h1
  have hS:S.length≤100000:=by omega
  simp only [Φ__law_flood,fnV,g__law_flood,fSeq_ap,ap_set,ap_dict0,ap_lc,ap_seqOf,ap_var,ap_ret,List.length_cons,List.length_nil,List.map_cons,List.map_nil]
  simp [cE,hS,hinit,h1',mk]
 ·rintro e ⟨L,ws,x,rfl,df,lz⟩
  have Lz:L.length≤Pl.length:=length_le_of_nodup _ _ df.nd fun p hp=>(df.sound p hp).inS
  by_cases hw:ws=[]
  ·subst hw;exact .inl (by simp [t__law_flood_1,mk])
  ·obtain ⟨ws',p,rfl⟩:∃ ws' p,ws=ws'++[p]:=⟨ws.dropLast,ws.getLast hw,(List.dropLast_concat_getLast _).symm⟩
   have hp:p ∈ Pl:=(df.soundW p (by simp)).inS
   refine .inr ⟨by simp [t__law_flood_1,mk],?_⟩
   simp only [List.length_append,List.length_singleton] at lz
   by_cases hL:p ∈ L
   ·refine ⟨mk L ws' (some (.int p)),.inl ?_,⟨L,ws',_,rfl,df.old hL,by omega⟩,by simp [mk]⟩
    simp [b__law_flood_1,mk,fPop,hL]
   ·have hb:=lbeside_ok w1 w6 (pl p hp)
    have hc:fComp (bName 0) (fT (fOp vInE (fVar 0) (fVar 1))) (fDat (fVar 0)) ((beside w h p).map PV.int) [none,some (.lst (Pl.map PV.int))]=some (((beside w h p).filter fun n=>decide (n ∈ Pl)).map PV.int):=
     comp_ints (fun n=>decide (n ∈ Pl)) PV.int _ fun n _=>⟨_,rfl,by simp,fun _=>by simp⟩
    have hbl:=length_beside w h p
    have hfl:=List.length_filter_le (fun n=>decide (n ∈ Pl)) (beside w h p)
    have hnew:=df.new (nbs:=(beside w h p).filter fun n=>decide (n ∈ Pl)) hL fun q=>by
     rw [List.mem_filter,mem_beside w1 w6 (pl p hp),decide_eq_true_eq]
     exact ⟨fun z=>⟨z.1.2,z.2⟩,fun z=>⟨⟨pl q z.2,z.1⟩,z.2⟩⟩
    have hlL:=length_le_of_nodup _ _ hnew.nd fun q hq=>(hnew.sound q hq).inS
    simp only [List.length_append,List.length_singleton] at hlL
    refine ⟨mk (L++[p]) (ws'++(beside w h p).filter fun n=>decide (n ∈ Pl)) (some (.int p)),.inl ?_,⟨_,_,_,rfl,hnew,by simp only [List.length_append,List.length_singleton];omega⟩,by simp [mk];omega⟩
    have hs:=put_tru hL (show L.length<100000 by omega)
    have hbl':(beside w h p).length≤100000:=by omega
    have hx:ws'.length+((beside w h p).filter fun n=>decide (n ∈ Pl)).length≤100000:=by omega
    simp [b__law_flood_1,mk,fPop,hL,fSetI,hs,fExtendA,cE,hb,hbl',hc,hx]
theorem wh36{w h:Int}(w1:1≤w)(w6:w≤6)(h1:1≤h)(h6:h≤6):1≤w * h/\w * h≤36:=by
 rcases six w1 w6 with rfl | rfl | rfl | rfl | rfl | rfl<;>omega
theorem rng_places(w h:Int):rngP 0 (w * h).toNat=(places w h).map PV.int:=by rw [rngP0];rfl
theorem places_len(w h:Int):(places w h).length=(w * h).toNat:=by simp [places]
theorem outside_ok{w h:Int}{x:PV}{m:Int->Bool}(w1:1≤w)(w6:w≤6)(h1:1≤h)(h6:h≤6)(hx:∀ p,vIn (.int p) x=some (m p)):
  ∃ L:List Int,Φ__law_outside [.int w,.int h,x]=some (truD L)/\L.Nodup/\∀ p,p ∈ L ↔ Reach (Adj w) (fun q=>CB.Place w h q/\m q=false) (Rim w h) p:=by
 have wh:=wh36 w1 w6 h1 h6
 have hm:=mul_l (i:=w) (j:=h) ⟨by omega,by omega⟩
 have hd:=fun x=>fdiv_ii (i:=x) (show 0<w/\w<1073741824 by omega)
 have hmod:=fun x=>mod_ii (i:=x) (show 0<w by omega)
 have hpl:=places_len w h
 have c1:fComp (bName 0) (fT (fOp vNotIn (fVar 0) (fVar 1))) (fDat (fVar 0)) ((places w h).map PV.int) [none,some x]=some (((places w h).filter fun n=>!m n).map PV.int):=
  comp_ints (fun n=>!m n) PV.int _ fun n _=>⟨_,rfl,by simp [hx],fun _=>by simp⟩
 have hbl:=List.length_filter_le (fun n=>!m n) (places w h)
 obtain ⟨x1,l1⟩:=for_filter (t:=fOr (fT (fOp vInE (fOp vMod (fVar 5) (fVar 0)) (fTup (fCons (fC (.int 0)) (fCons (fOp vSub (fVar 0) (fC (.int 1))) fNil))))) (fT (fOp vInE (fOp vFdiv (fVar 5) (fVar 0)) (fTup (fCons (fC (.int 0)) (fCons (fOp vSub (fVar 1) (fC (.int 1))) fNil)))))) 4 5
  (fun acc y=>[some (.int w),some (.int h),some x,some (.lst (((places w h).filter fun n=>!m n).map PV.int)),some (.lst (acc.map PV.int)),y]) (fun n=>decide (n % w=0∨n % w=w - 1) || decide (n / w=0∨n / w=h - 1)) (fun _ _ _=>rfl) (fun _ _ _=>rfl) (fun _ _=>rfl) (fun _ _=>rfl) ((places w h).filter fun n=>!m n) [] none
  (fun n _ acc=>by by_cases c:n % w=0∨n % w=w - 1<;>simp [hd,hmod,c]) (by simp only [List.length_nil];omega)
 have mem:∀ q,q ∈ (places w h).filter (fun n=>!m n) ↔ CB.Place w h q/\m q=false:=fun q=>by rw [List.mem_filter,mem_places];simp
 obtain ⟨L,f1,f2,f3⟩:=flood_ok (w:=w) (h:=h) (S:=((places w h).filter fun n=>!m n).filter fun n=>decide (n % w=0∨n % w=w - 1) || decide (n / w=0∨n / w=h - 1)) (Pl:=(places w h).filter fun n=>!m n) w1 w6
  (fun p hp=>((mem p).mp hp).1) (by have:=List.length_filter_le (fun n=>decide (n % w=0∨n % w=w - 1) || decide (n / w=0∨n / w=h - 1)) ((places w h).filter fun n=>!m n);omega) (by omega)
 refine ⟨L,?_,f2,fun p=>?_⟩
 ·have hb:w * h<4611686018427387904/\-4611686018427387904≤w * h:=by omega
  have hpl':(places w h).length≤100000:=by omega
  simp only [List.map_nil,List.nil_append] at l1
  generalize (((places w h).filter fun n=>!m n).filter fun n=>decide (n % w=0∨n % w=w - 1) || decide (n / w=0∨n / w=h - 1))=E at l1 f1
  generalize ((places w h).filter fun n=>!m n)=bare at l1 f1 c1
  simp [Φ__law_outside,fnV,g__law_outside,b__law_outside_1,fRng1,hm,hb,rng_places,hpl',cE,c1,l1,f1]
 ·rw [f3 p]
  have rim:∀ q,q ∈ (((places w h).filter fun n=>!m n).filter fun n=>decide (n % w=0∨n % w=w - 1) || decide (n / w=0∨n / w=h - 1)) ↔ (CB.Place w h q/\m q=false)/\Rim w h q:=fun q=>by
   rw [List.mem_filter,mem]
   unfold Rim
   simp only [Bool.or_eq_true,decide_eq_true_eq]
   exact ⟨fun z=>⟨z.1,by omega⟩,fun z=>⟨z.1,by omega⟩⟩
  exact ⟨fun r=>r.mono (fun q a s=>.start ((rim q).mp a).2 ((mem q).mp s)) fun q r=>(mem q).mp r.inS,fun r=>r.mono (fun q a s=>.start ((rim q).mpr ⟨s,a⟩) ((mem q).mpr s)) fun q r=>(mem q).mpr r.inS⟩
theorem floor_ok{ns:List Int}(S:Scr ns){k:Int}(k0:0≤k)(k1:k≤900):∃ w h F,Φ__law_floor [scr ns,.int k]=some (flV w h F)/\IsFloor w h F:=by
 obtain ⟨ds,r1,r2,r3⟩:=row_ok S k0 (show k≤1000 by omega) (show (0:Int)≤2 by decide) (by decide) (show (1:Int)≤6 by decide) (by decide)
 obtain ⟨d1,d2,rfl⟩:∃ d1 d2,ds=[d1,d2]:=by
  match ds,r2 with
  | [a,b],_=>exact ⟨a,b,rfl⟩
 obtain ⟨a1,a2⟩:=r3 d1 (by simp)
 obtain ⟨b1,b2⟩:=r3 d2 (by simp)
 obtain ⟨c0,hc0⟩:=cell_ok S (show (0:Int)≤0 by decide) (by decide)
 generalize hw:1+d1=w
 generalize hh:1+d2=h
 have w1:1≤w:=by omega
 have w6:w≤6:=by omega
 have h1:1≤h:=by omega
 have h6:h≤6:=by omega
 have wh:=wh36 w1 w6 h1 h6
 have hm:=mul_l (i:=w) (j:=h) ⟨by omega,by omega⟩
 have hc2:0≤c0 % 2/\c0 % 2<2:=⟨Int.emod_nonneg _ (by decide),Int.emod_lt_of_pos _ (by decide)⟩
 obtain ⟨es,e1,e2,e3⟩:=row_ok S (show 0≤k+1 by omega) (show k+1≤1000 by omega) (show 0≤w * h by omega) (by omega) (show 1≤2+2 * (c0 % 2) by omega) (by omega)
 -- the digits,all 1 at times
 obtain ⟨ds,hds,dl⟩:∃ ds:List Int,(if c0 % 8=3 then List.replicate (w * h).toNat 1 else es)=ds/\ds.length=(w * h).toNat:=by
  refine ⟨_,rfl,?_⟩
  split
  ·simp
  ·exact e2
 have hpl:=places_len w h
 have c1:∀ x,fComp (bName 0) (fT (fOp vGt (fOp vIx (fVar 1) (fVar 0)) (fC (.int 0)))) (fDat (fVar 0)) ((places w h).map PV.int) [x,some (.lst (ds.map PV.int))]=some (((places w h).filter fun n=>decide (0<ds.getD n.toNat 0)).map PV.int):=fun x=>
  comp_ints (fun n=>decide (0<ds.getD n.toNat 0)) PV.int _ fun n hn=>by
   have hp:=mem_places.mp hn
   unfold CB.Place at hp
   have hj:n.toNat<ds.length:=by omega
   have hg:atI (ds.map PV.int) n=some (.int (ds.getD n.toNat 0)):=by
    rw [atI_map,atI_some hp.1 (by omega),List.getElem?_eq_getElem hj]
    simp [List.getD,List.getElem?_eq_getElem hj]
   exact ⟨_,rfl,by simp [hg],fun _=>by simp⟩
 -- the drawn places,one at least
 obtain ⟨so,hso,sn,spl⟩:∃ so:List Int,(if ((places w h).filter fun n=>decide (0<ds.getD n.toNat 0))=[] then [w * h - 1] else (places w h).filter fun n=>decide (0<ds.getD n.toNat 0))=so/\so≠[]/\(∀ p ∈ so,CB.Place w h p)/\so.length≤36:=by
  refine ⟨_,rfl,?_⟩
  split
  ·exact ⟨by simp,fun p hp=>by rw [List.mem_singleton.mp hp];exact ⟨by omega,by omega⟩,by simp⟩
  ·rename_i hn
   exact ⟨hn,fun p hp=>mem_places.mp (List.mem_filter.mp hp).1,Nat.le_trans (List.length_filter_le _ _) (by omega)⟩
 obtain ⟨x0,sr,rfl⟩:∃ x0 sr,so=x0::sr:=by
  cases so with
  | nil=>exact absurd rfl sn
  | cons a r=>exact ⟨a,r,rfl⟩
 obtain ⟨L7,f1,f2,f3⟩:=flood_ok (w:=w) (h:=h) (S:=[x0]) (Pl:=x0::sr) w1 w6 spl.1 (by simp) (by omega)
 have mem7:∀ p,p ∈ L7 ↔ Reach (Adj w) (· ∈ x0::sr) (·=x0) p:=fun p=>by rw [f3 p];exact ⟨fun r=>r.mono (fun q z s=>.start (List.mem_singleton.mp z) s) fun q r=>r.inS,fun r=>r.mono (fun q z s=>.start (List.mem_singleton.mpr z) s) fun q r=>r.inS⟩
 obtain ⟨L8,g1,g2,g3⟩:=outside_ok (x:=truD L7) (m:=fun p=>decide (p ∈ L7)) w1 w6 h1 h6 (fun p=>in_tru)
 have c2:∀ x,fComp (bName 0) (fT (fOp vNotIn (fVar 0) (fVar 1))) (fDat (fVar 0)) ((places w h).map PV.int) [x,some (truD L8)]=some (((places w h).filter fun n=>!decide (n ∈ L8)).map PV.int):=fun x=>
  comp_ints (fun n=>!decide (n ∈ L8)) PV.int _ fun n _=>⟨_,rfl,by simp,fun _=>by simp⟩
 refine ⟨w,h,(places w h).filter fun n=>!decide (n ∈ L8),?_,?_⟩
 ·have hb:w * h<4611686018427387904/\-4611686018427387904≤w * h:=by omega
  have hpl':(places w h).length≤100000:=by omega
  have hr0:fComp (bName 0) fYes (fOp vAdd (fC (.int 1)) (fVar 0)) ([d1,d2].map PV.int) [none]=some [.int w,.int h]:=by simp [fComp,hw,hh]
  have hmul2:=mul_l (i:=2) (j:=c0 % 2) ⟨by omega,by omega⟩
  have hrep:vMul (.lst [.int 1]) (.int (w * h))=some (.lst ((List.replicate (w * h).toNat (1:Int)).map PV.int)):=by
   rw [← rep_1]
   simp only [vMul]
   rw [if_pos ⟨rfl,by omega,by omega,by simp only [List.length_cons,List.length_nil];omega⟩]
  have hsl:vSl (.lst ((x0::sr).map PV.int)) none (some 1)=some (.lst ([x0].map PV.int)):=by
   simp only [vSl,datas_ints,if_true,cut_1];rfl
  unfold Φ__law_floor fnV g__law_floor
  rw [fSeq_nx (e:=[some (scr ns),some (.int k),some (.int w),some (.int h),none,none,none,none]) (by
   simp only [List.map_cons,List.map_nil] at hr0 r1
   simp [r1,cE,hr0,bTup,bCons,bNil])]
  rw [fSeq_nx (e:=[some (scr ns),some (.int k),some (.int w),some (.int h),some (.lst (es.map PV.int)),none,none,none]) (by simp [hc0,mod_ii (show (0:Int)<2 by decide),hmul2,hm,e1])]
  rw [fSeq_nx (e:=[some (scr ns),some (.int k),some (.int w),some (.int h),some (.lst (ds.map PV.int)),none,none,none]) (by
   rw [← hds]
   by_cases h8:c0 % 8=3
   ·simp [hc0,mod_ii (show (0:Int)<8 by decide),h8,hm,hrep]
   ·simp [hc0,mod_ii (show (0:Int)<8 by decide),h8])]
  rw [fSeq_nx (e:=[some (scr ns),some (.int k),some (.int w),some (.int h),some (.lst (ds.map PV.int)),some (.lst (((places w h).filter fun n=>decide (0<ds.getD n.toNat 0)).map PV.int)),none,none]) (by
   simp [fRng1,hm,hb,rng_places,hpl',cE,c1])]
  rw [fSeq_nx (e:=[some (scr ns),some (.int k),some (.int w),some (.int h),some (.lst (ds.map PV.int)),some (.lst ((x0::sr).map PV.int)),none,none]) (by
   rw [← hso]
   by_cases h9:((places w h).filter fun n=>decide (0<ds.getD n.toNat 0))=[]
   ·rw [if_pos h9,h9];simp [hm,vEq,eqP,toPy,toPys,PyData.eqv,PyData.eqvAll,eqOk,okPy,okPys,PyData.canLay0,PyData.canLayAll0,PyData.depth,PyData.depthAll]
   ·rw [if_neg h9]
    generalize ((places w h).filter fun n=>decide (0<ds.getD n.toNat 0))=so at h9
    simp [eq_nil,h9])]
  rw [fSeq_nx (e:=[some (scr ns),some (.int k),some (.int w),some (.int h),some (.lst (ds.map PV.int)),some (.lst ((x0::sr).map PV.int)),some (truD L7),none]) (by
   simp only [List.map_cons,List.map_nil] at f1 hsl ⊢
   simp [fSl,fPart,hsl,f1])]
  rw [fSeq_nx (e:=[some (scr ns),some (.int k),some (.int w),some (.int h),some (.lst (ds.map PV.int)),some (.lst ((x0::sr).map PV.int)),some (truD L7),some (truD L8)]) (by simp [g1])]
  simp [fRng1,hm,hb,rng_places,hpl',cE,c2]
 ·refine filled (L:=(· ∈ L7)) (O:=(· ∈ L8)) (a:=x0) w1 w6 h1 h6 (fun p hp=>spl.1 p ((mem7 p).mp hp).inS) ((mem7 x0).mpr (.start rfl List.mem_cons_self)) (fun p hp=>?_) (fun p=>?_)
  ·exact ((mem7 p).mp hp).mono (fun q e s=>.start e ((mem7 q).mpr (.start e s))) fun q r=>(mem7 q).mpr r
  ·rw [g3 p]
   exact ⟨fun r=>r.mono (fun q z s=>.start z ⟨s.1,by simpa using s.2⟩) fun q r=>⟨r.inS.1,by simpa using r.inS.2⟩,fun r=>r.mono (fun q z s=>.start z ⟨s.1,by simpa using s.2⟩) fun q r=>⟨r.inS.1,by simpa using r.inS.2⟩⟩
end Cb
namespace Cb
open PySem L2 F CB PyProof.Rows
noncomputable def g_is_whole:FS:=(fRet (fAndV (fCall vIsInst (fCons (fVar 0) (fCons (fC (.ty "int")) fNil))) (fNotV (fCall vIsInst (fCons (fVar 0) (fCons (fC (.ty "bool")) fNil))))))
noncomputable def Φ_is_whole:List PV->Option PV:=fnV 1 g_is_whole

noncomputable def g_is_length:FS:=(fRet (fAndV (fCall Φ_is_whole (fCons (fVar 0) fNil)) (fChain vLe vLe (fC (.int 1)) (fVar 0) (fC (.int 6)))))
noncomputable def Φ_is_length:List PV->Option PV:=fnV 1 g_is_length

noncomputable def b_are_fields_1:FS:=(fSeq (fIfS (fOr (fNot (fTru (fCall Φ_is_whole (fCons (fVar 4) fNil)))) (fOr (fT (fOp vLe (fVar 4) (fVar 3))) (fT (fOp vGe (fVar 4) (fOp vMul (fVar 0) (fVar 1)))))) (fRet (fC (.bl false))) fNx)
 (fSet 3 (fVar 4)))
noncomputable def g_are_fields:FS:=(fSeq (fSet 3 (fUn vNeg (fC (.int 1))))
 (fSeq (fForS (fSeqOf (fVar 2)) (bName 4) b_are_fields_1)
 (fRet (fOp vGt (fCall vLen (fCons (fVar 2) fNil)) (fC (.int 0))))))
noncomputable def Φ_are_fields:List PV->Option PV:=fnV 5 g_are_fields

noncomputable def g_places_beside:FS:=(fSeq (fSet 3 (fOp vMod (fVar 2) (fVar 0)))
 (fSeq (fSet 4 (fOp vFdiv (fVar 2) (fVar 0)))
 (fSeq (fSet 5 (fLst fNil))
 (fSeq (fIfS (fT (fOp vGt (fVar 3) (fC (.int 0)))) (fAppend 5 (fOp vSub (fVar 2) (fC (.int 1)))) fNx)
 (fSeq (fIfS (fT (fOp vLt (fVar 3) (fOp vSub (fVar 0) (fC (.int 1))))) (fAppend 5 (fOp vAdd (fVar 2) (fC (.int 1)))) fNx)
 (fSeq (fIfS (fT (fOp vGt (fVar 4) (fC (.int 0)))) (fAppend 5 (fOp vSub (fVar 2) (fVar 0))) fNx)
 (fSeq (fIfS (fT (fOp vLt (fVar 4) (fOp vSub (fVar 1) (fC (.int 1))))) (fAppend 5 (fOp vAdd (fVar 2) (fVar 0))) fNx)
 (fRet (fVar 5)))))))))
noncomputable def Φ_places_beside:List PV->Option PV:=fnV 6 g_places_beside

noncomputable def g_is_outermost:FS:=(fRet (fOrV (fOp vInE (fOp vMod (fVar 2) (fVar 0)) (fTup (fCons (fC (.int 0)) (fCons (fOp vSub (fVar 0) (fC (.int 1))) fNil)))) (fOp vInE (fOp vFdiv (fVar 2) (fVar 0)) (fTup (fCons (fC (.int 0)) (fCons (fOp vSub (fVar 1) (fC (.int 1))) fNil))))))
noncomputable def Φ_is_outermost:List PV->Option PV:=fnV 3 g_is_outermost

noncomputable def t_reached_1:FT:=(fT (fOp vGt (fCall vLen (fCons (fVar 5) fNil)) (fC (.int 0))))
noncomputable def b_reached_1:FS:=(fSeq (fPop 6 5)
 (fIfS (fT (fOp vNotIn (fVar 6) (fVar 4))) (fSeq (fSetI 4 (fVar 6) (fC (.bl true)))
 (fExtendA 5 (fLC (fSeqOf (fCall Φ_places_beside (fCons (fVar 0) (fCons (fVar 1) (fCons (fVar 6) fNil))))) 1 [3] (bName 0) (fT (fOp vInE (fVar 0) (fVar 1))) (fDat (fVar 0))))) fNx))
noncomputable def g_reached:FS:=(fSeq (fSet 4 fDict0)
 (fSeq (fSet 5 (fCall vList (fCons (fVar 2) fNil)))
 (fSeq (fWh t_reached_1 b_reached_1 1000000)
 (fRet (fCall vList (fCons (fVar 4) fNil))))))
noncomputable def Φ_reached:List PV->Option PV:=fnV 7 g_reached

noncomputable def g_hang_together:FS:=(fRet (fOp vEq (fCall vLen (fCons (fCall Φ_reached (fCons (fVar 0) (fCons (fVar 1) (fCons (fSl (fVar 2) fNoPart (fPart (fC (.int 1)))) (fCons (fVar 2) fNil))))) fNil)) (fCall vLen (fCons (fVar 2) fNil))))
noncomputable def Φ_hang_together:List PV->Option PV:=fnV 3 g_hang_together

noncomputable def g_have_hole:FS:=(fSeq (fSet 3 (fLC (fRng1 (fCons (fOp vMul (fVar 0) (fVar 1)) fNil)) 1 [2] (bName 0) (fT (fOp vNotIn (fVar 0) (fVar 1))) (fDat (fVar 0))))
 (fSeq (fSet 4 (fLC (fSeqOf (fVar 3)) 1 [0,1] (bName 0) (fTru (fCall Φ_is_outermost (fCons (fVar 1) (fCons (fVar 2) (fCons (fVar 0) fNil))))) (fDat (fVar 0))))
 (fRet (fOp vLt (fCall vLen (fCons (fCall Φ_reached (fCons (fVar 0) (fCons (fVar 1) (fCons (fVar 4) (fCons (fVar 3) fNil))))) fNil)) (fCall vLen (fCons (fVar 3) fNil))))))
noncomputable def Φ_have_hole:List PV->Option PV:=fnV 5 g_have_hole

noncomputable def g_floor_of:FS:=(fSeq (fIfS (fOr (fNot (fTru (fCall Φ_is_length (fCons (fVar 0) fNil)))) (fNot (fTru (fCall Φ_is_length (fCons (fVar 1) fNil))))) fNever fNx)
 (fSeq (fIfS (fNot (fTru (fCall vIsInst (fCons (fVar 2) (fCons (fTup (fCons (fC (.ty "list")) (fCons (fC (.ty "tuple")) fNil))) fNil))))) fNever fNx)
 (fSeq (fSet 3 (fCall vTupleA (fCons (fVar 2) fNil)))
 (fSeq (fIfS (fNot (fTru (fCall Φ_are_fields (fCons (fVar 0) (fCons (fVar 1) (fCons (fVar 3) fNil)))))) fNever fNx)
 (fSeq (fIfS (fNot (fTru (fCall Φ_hang_together (fCons (fVar 0) (fCons (fVar 1) (fCons (fVar 3) fNil)))))) fNever fNx)
 (fSeq (fIfS (fTru (fCall Φ_have_hole (fCons (fVar 0) (fCons (fVar 1) (fCons (fVar 3) fNil))))) fNever fNx)
 (fRet (fTup (fCons (fDat (fVar 0)) (fCons (fDat (fVar 1)) (fCons (fDat (fVar 3)) fNil)))))))))))
noncomputable def Φ_floor_of:List PV->Option PV:=fnV 4 g_floor_of
noncomputable def r_floor_of:FR:=(rIf (fOr (fNot (fTru (fCall Φ_is_length (fCons (fVar 0) fNil)))) (fNot (fTru (fCall Φ_is_length (fCons (fVar 1) fNil))))) (rR "NoFloor")
 (rIf (fNot (fTru (fCall vIsInst (fCons (fVar 2) (fCons (fTup (fCons (fC (.ty "list")) (fCons (fC (.ty "tuple")) fNil))) fNil))))) (rR "NoFloor")
 (rSeq (fSet 3 (fCall vTupleA (fCons (fVar 2) fNil)))
 (rIf (fNot (fTru (fCall Φ_are_fields (fCons (fVar 0) (fCons (fVar 1) (fCons (fVar 3) fNil)))))) (rR "NoFloor")
 (rIf (fNot (fTru (fCall Φ_hang_together (fCons (fVar 0) (fCons (fVar 1) (fCons (fVar 3) fNil)))))) (rR "Apart")
 (rIf (fTru (fCall Φ_have_hole (fCons (fVar 0) (fCons (fVar 1) (fCons (fVar 3) fNil))))) (rR "Hollow")
 rNo))))))
noncomputable def R_floor_of:List PV->Option Str:=fnE 4 r_floor_of

noncomputable def g__law_refused:FS:=(fSeq (fSet 3 (fC .non))
 (fSeq (fTry fNever R_floor_of (fCons (fVar 0) (fCons (fVar 1) (fCons (fVar 2) fNil))) 4 3)
 (fSeq (fIfS (fOr (fNot (fTru (fIsE (fVar 3) "NoFloor"))) (fNot (fTru (fIsV (fVar 3))))) (fRet (fC (.bl false))) fNx)
 (fSeq (fSet 5 (fLst (fCons (fIsE (fVar 3) "Apart") (fCons (fIsE (fVar 3) "Hollow") (fCons (fIsE (fVar 3) "NoText") (fCons (fIsE (fVar 3) "NoRow") fNil))))))
 (fRet (fAndV (fOp vNotIn (fC (.bl true)) (fVar 5)) (fAndV (fNotV (fIsE (fVar 3) "NoField")) (fNotV (fIsE (fVar 3) "NoDeed")))))))))
noncomputable def Φ__law_refused:List PV->Option PV:=fnV 6 g__law_refused

theorem if1{t:FT}{g:FS}{e:En}(h:t e=some false):fIfS t g fNx e=some (.nx e):=by rw [ap_ifS,h];rfl
theorem setv{f:FE}{env:En}{i:Nat}{p:PV}(h:f env=some p):fSet i f env=some (.nx (env.set i (some p))):=by rw [ap_set,h];rfl
theorem not_of{t:FT}{E:En}{c:Bool}(h:t E=some c):fNot t E=some (!c):=by unfold fNot;rw [h];rfl
noncomputable def whB:PV->Option Bool
 | .int _=>some true
 | .non=>some false
 | .bl _=>some false
 | .str _=>some false
 | .lst _=>some false
 | .tup _=>some false
 | .dct _ _=>some false
 | _=>none
theorem whole_gen{p:PV}{b:Bool}(h:whB p=some b):Φ_is_whole [p]=some (.bl b):=by
 cases p<;>cases h<;>rfl
theorem length_int(w:Int):Φ_is_length [.int w]=some (.bl (decide (1≤w/\w≤6))):=by
 refine fnV_rt (e:=[some (.int w)]) [some (.int w)] rfl ?_
 unfold g_is_length
 rw [ap_ret,ap_andV,call_of (as:=[.int w]) rfl (whole_gen (p:=.int w) (b:=true) rfl),Option.bind_some,as_bl,Option.bind_some,if_pos rfl]
 have:fChain vLe vLe (fC (.int 1)) (fVar 0) (fC (.int 6)) [some (.int w)]=some (.bl (decide (1≤w/\w≤6))):=by
  by_cases h1:1≤w
  ·by_cases h6:w≤6<;>simp [h1,h6]
  ·simp [h1]
 rw [this];rfl
theorem length_no{p:PV}(h:whB p=some false):Φ_is_length [p]=some (.bl false):=by
 refine fnV_rt (e:=[some p]) [some p] rfl ?_
 unfold g_is_length
 rw [ap_ret,ap_andV,call_of (as:=[p]) rfl (whole_gen h),Option.bind_some,as_bl,Option.bind_some,if_neg Bool.false_ne_true];rfl
noncomputable def chk(m a:Int):List PV->Bool
 | []=>true
 | .int f::r=>if f≤a∨m≤f then false else chk m f r
 | _::_=>false
theorem chk_true{m:Int}:∀ {vs:List PV} {a:Int},chk m a vs=true->∃ ns:List Int,vs=ns.map PV.int/\(∀ n ∈ ns,a<n/\n<m)/\ns.Pairwise (·<·)
 | [],_,_=>⟨[],rfl,by simp,.nil⟩
 | p::r,a,h=>by
  cases p<;>first | (cases h;done) | skip
  rename_i f
  unfold chk at h
  split at h
  ·cases h
  ·rename_i hn
   obtain ⟨ns,e,h1,h2⟩:=chk_true h
   refine ⟨f::ns,by rw [e];rfl,fun n hn'=>?_,List.pairwise_cons.mpr ⟨fun n hn'=>(h1 n hn').1,h2⟩⟩
   rcases List.mem_cons.mp hn' with rfl | hn'
   ·omega
   ·have:=h1 n hn';omega
theorem chk_loop{w h:Int}{T:Option PV}(w1:1≤w)(w6:w≤6):∀ (vs:List PV) (a:Int) (x:Option PV),(∀ p ∈ vs,(whB p).isSome=true)->
  (chk (w * h) a vs=true/\∃ a' x',fFor (bName 4) b_are_fields_1 vs [some (.int w),some (.int h),T,some (.int a),x]=some (.nx [some (.int w),some (.int h),T,some (.int a'),x']))∨
  (chk (w * h) a vs=false/\∃ e,fFor (bName 4) b_are_fields_1 vs [some (.int w),some (.int h),T,some (.int a),x]=some (.rt (.bl false) e))
 | [],a,x,_=>.inl ⟨rfl,a,x,rfl⟩
 | p::r,a,x,hp=>by
  have hm:=mul_l (i:=w) (j:=h) ⟨by omega,by omega⟩
  obtain ⟨b,hb⟩:=Option.isSome_iff_exists.mp (hp p List.mem_cons_self)
  let E:En:=[some (.int w),some (.int h),T,some (.int a),some p]
  have t1:fNot (fTru (fCall Φ_is_whole (fCons (fVar 4) fNil))) E=some (!b):=not_of (by unfold fTru;rw [call_of (as:=[p]) rfl (whole_gen hb)];rfl)
  have e0:fFor (bName 4) b_are_fields_1 (p::r) [some (.int w),some (.int h),T,some (.int a),x]=(b_are_fields_1 E).bind fun o=>match o with | .nx e=>fFor (bName 4) b_are_fields_1 r e | .ct e=>fFor (bName 4) b_are_fields_1 r e | .bk e=>some (.nx e) | .rt p e=>some (.rt p e):=rfl
  rw [e0]
  have stop:fOr (fNot (fTru (fCall Φ_is_whole (fCons (fVar 4) fNil)))) (fOr (fT (fOp vLe (fVar 4) (fVar 3))) (fT (fOp vGe (fVar 4) (fOp vMul (fVar 0) (fVar 1))))) E=some true->b_are_fields_1 E=some (.rt (.bl false) E):=fun q=>by
   unfold b_are_fields_1
   refine fSeq_rt ?_
   rw [ap_ifS,q];rfl
  cases b with
  | false=>
   refine .inr ⟨?_,E,?_⟩
   ·cases p<;>first | rfl | cases hb
   ·rw [stop (by rw [ap_or,t1];rfl)];rfl
  | true=>
   obtain ⟨f,rfl⟩:∃ f,p=.int f:=by cases p<;>first | (cases hb;done) | exact ⟨_,rfl⟩
   have t2:fT (fOp vLe (fVar 4) (fVar 3)) E=some (decide (f≤a)):=rfl
   have t3:fT (fOp vGe (fVar 4) (fOp vMul (fVar 0) (fVar 1))) E=some (decide (w * h≤f)):=by
    show (((vMul (.int w) (.int h)).bind fun y=>vGe (.int f) y).bind asBool)=_
    rw [hm];rfl
   have t:fOr (fNot (fTru (fCall Φ_is_whole (fCons (fVar 4) fNil)))) (fOr (fT (fOp vLe (fVar 4) (fVar 3))) (fT (fOp vGe (fVar 4) (fOp vMul (fVar 0) (fVar 1))))) E=some (decide (f≤a∨w * h≤f)):=by
    rw [ap_or,t1,Option.bind_some,Bool.not_true,if_neg Bool.false_ne_true,ap_or,t2,Option.bind_some,t3]
    by_cases h1:f≤a
    ·rw [decide_eq_true h1,if_pos rfl,decide_eq_true (Or.inl h1)]
    ·rw [decide_eq_false h1,if_neg Bool.false_ne_true]
     exact congrArg some (decide_eq_decide.mpr ⟨.inr,fun z=>z.resolve_left h1⟩)
   by_cases hbad:f≤a∨w * h≤f
   ·refine .inr ⟨by unfold chk;rw [if_pos hbad],E,?_⟩
    rw [stop (by rw [t,decide_eq_true hbad])];rfl
   ·have go:b_are_fields_1 E=some (.nx [some (.int w),some (.int h),T,some (.int f),some (.int f)]):=by
     unfold b_are_fields_1
     rw [fSeq_nx (if1 (by rw [t,decide_eq_false hbad]))];rfl
    rw [go,Option.bind_some]
    unfold chk
    rw [if_neg hbad]
    dsimp only
    exact chk_loop w1 w6 r f (some (.int f)) fun q hq=>hp q (List.mem_cons_of_mem _ hq)
theorem arefields_all{w h:Int}{vs:List PV}(w1:1≤w)(w6:w≤6)(hp:∀ p ∈ vs,(whB p).isSome=true)(hb:chk (w * h) (-1) vs=true->vs=[]):Φ_are_fields [.int w,.int h,.tup vs]=some (.bl false):=by
 let T:Option PV:=some (.tup vs)
 rcases chk_loop (h:=h) (T:=T) w1 w6 vs (-1) none hp with ⟨c,a',x',l⟩ | ⟨_,e,l⟩
 ·have hz:=hb c
  subst hz
  refine fnV_rt (e:=[some (.int w),some (.int h),T,some (.int a'),x']) [some (.int w),some (.int h),T,none,none] rfl ?_
  unfold g_are_fields
  rw [fSeq_nx (e:=[some (.int w),some (.int h),T,some (.int (-1)),none]) rfl,fSeq_nx (e:=[some (.int w),some (.int h),T,some (.int a'),x']) (by rw [ap_forS];exact l)];rfl
 ·refine fnV_rt (e:=e) [some (.int w),some (.int h),T,none,none] rfl ?_
  unfold g_are_fields
  rw [fSeq_nx (e:=[some (.int w),some (.int h),T,some (.int (-1)),none]) rfl]
  refine fSeq_rt ?_
  rw [ap_forS];exact l
inductive Bad (w h:Int):PV->Prop
 | seq {vs:List PV} {x:PV} (hx:x=.lst vs∨x=.tup vs) (hp:∀ p ∈ vs,(whB p).isSome=true) (hb:chk (w * h) (-1) vs=true->vs=[]):Bad w h x
 | other {x:PV} (hx:vIsInst [x,.tup [.ty "list",.ty "tuple"]]=some (.bl false)):Bad w h x
theorem bad_floor{w h:Int}{x:PV}(w1:1≤w)(w6:w≤6)(h1:1≤h)(h6:h≤6)(b:Bad w h x):R_floor_of [.int w,.int h,x]=some (Str.ofString "NoFloor"):=by
 let mk:Option PV->En:=fun y=>[some (.int w),some (.int h),some x,y]
 have t1:fTru (fCall Φ_is_length (fCons (fVar 0) fNil)) (mk none)=some true:=by
  unfold fTru;rw [call_of (as:=[.int w]) rfl (length_int w),decide_eq_true ⟨w1,w6⟩];rfl
 have t2:fTru (fCall Φ_is_length (fCons (fVar 1) fNil)) (mk none)=some true:=by
  unfold fTru;rw [call_of (as:=[.int h]) rfl (length_int h),decide_eq_true ⟨h1,h6⟩];rfl
 have t0:fOr (fNot (fTru (fCall Φ_is_length (fCons (fVar 0) fNil)))) (fNot (fTru (fCall Φ_is_length (fCons (fVar 1) fNil)))) (mk none)=some false:=by
  rw [ap_or,not_of t1,Option.bind_some,Bool.not_true,if_neg Bool.false_ne_true,not_of t2];rfl
 unfold R_floor_of fnE
 show r_floor_of (mk none)=_
 unfold r_floor_of rIf rSeq
 rw [t0,Option.bind_some,if_neg Bool.false_ne_true]
 cases b with
 | other hx=>
  have ti:fNot (fTru (fCall vIsInst (fCons (fVar 2) (fCons (fTup (fCons (fC (.ty "list")) (fCons (fC (.ty "tuple")) fNil))) fNil)))) (mk none)=some true:=not_of (c:=false) (by
   unfold fTru;rw [call_of (as:=[x,.tup [.ty "list",.ty "tuple"]]) rfl hx];rfl)
  rw [ti];rfl
 | @seq vs x' hx hp hb=>
  have ti:fNot (fTru (fCall vIsInst (fCons (fVar 2) (fCons (fTup (fCons (fC (.ty "list")) (fCons (fC (.ty "tuple")) fNil))) fNil)))) (mk none)=some false:=by
   rcases hx with rfl | rfl<;>rfl
  have tu:fSet 3 (fCall vTupleA (fCons (fVar 2) fNil)) (mk none)=some (.nx (mk (some (.tup vs)))):=by
   rcases hx with rfl | rfl<;>rfl
  have t3:fNot (fTru (fCall Φ_are_fields (fCons (fVar 0) (fCons (fVar 1) (fCons (fVar 3) fNil))))) (mk (some (.tup vs)))=some true:=not_of (c:=false) (by
   unfold fTru;rw [call_of (as:=[.int w,.int h,.tup vs]) rfl (arefields_all w1 w6 hp hb)];rfl)
  rw [ti,Option.bind_some,if_neg Bool.false_ne_true,tu,Option.bind_some]
  dsimp only
  rw [t3];rfl
noncomputable def NoLen(p:PV):Prop:=Φ_is_length [p]=some (.bl false)
theorem bad_dims{a b x:PV}(h:NoLen a∨(∃ w,a=.int w/\1≤w/\w≤6)/\NoLen b):R_floor_of [a,b,x]=some (Str.ofString "NoFloor"):=by
 let E:En:=[some a,some b,some x,none]
 have t0:fOr (fNot (fTru (fCall Φ_is_length (fCons (fVar 0) fNil)))) (fNot (fTru (fCall Φ_is_length (fCons (fVar 1) fNil)))) E=some true:=by
  rcases h with h | ⟨⟨w,rfl,w1,w6⟩,h⟩
  ·have t1:fTru (fCall Φ_is_length (fCons (fVar 0) fNil)) E=some false:=by
    unfold fTru;rw [call_of (as:=[a]) rfl h];rfl
   rw [ap_or,not_of t1];rfl
  ·have t1:fTru (fCall Φ_is_length (fCons (fVar 0) fNil)) E=some true:=by
    unfold fTru;rw [call_of (as:=[.int w]) rfl (length_int w),decide_eq_true ⟨w1,w6⟩];rfl
   have t2:fTru (fCall Φ_is_length (fCons (fVar 1) fNil)) E=some false:=by
    unfold fTru;rw [call_of (as:=[b]) rfl h];rfl
   rw [ap_or,not_of t1,Option.bind_some,Bool.not_true,if_neg Bool.false_ne_true,not_of t2];rfl
 unfold R_floor_of fnE
 show r_floor_of E=_
 unfold r_floor_of rIf
 rw [t0];rfl
theorem refused_ok{a b x:PV}(h:R_floor_of [a,b,x]=some (Str.ofString "NoFloor")):Φ__law_refused [a,b,x]=some (.bl true):=by
 let q:Str:=Str.ofString "NoFloor"
 let mk:Option PV->Option PV->En:=fun f o=>[some a,some b,some x,f,none,o]
 have hn:q ∈ exNames:=by decide +kernel
 have isE:∀ (m:Str) (c:Option PV),fIsE (fVar 3) m (mk (some (.exc q)) c)=some (.bl (xsub q m)):=fun m c=>by
  show (if q ∈ exNames then some (PV.bl (xsub q m)) else none)=_
  rw [if_pos hn]
 have isV:∀ (c:Option PV),fIsV (fVar 3) (mk (some (.exc q)) c)=some (.bl true):=fun c=>by
  show (if q ∈ exNames then some (PV.bl true) else none)=_
  rw [if_pos hn]
 have x0:xsub q (Str.ofString "NoFloor")=true:=by decide +kernel
 have x1:∀ m ∈ [Str.ofString "Apart",Str.ofString "Hollow",Str.ofString "NoText",Str.ofString "NoRow",Str.ofString "NoField",Str.ofString "NoDeed"],xsub q m=false:=by decide +kernel
 let O:Option PV:=some (.lst [.bl false,.bl false,.bl false,.bl false])
 refine fnV_rt (e:=mk (some (.exc q)) O) (mk none none) rfl ?_
 unfold g__law_refused
 rw [fSeq_nx (e:=mk (some .non) none) rfl]
 rw [fSeq_nx (e:=mk (some (.exc q)) none) (by
  unfold fTry
  show ((some [a,b,x]).bind fun qs=>(R_floor_of qs).bind _)=_
  rw [Option.bind_some,h,Option.bind_some,if_pos hn];rfl)]
 rw [fSeq_nx (e:=mk (some (.exc q)) none) (if1 (by
  have a1:fTru (fIsE (fVar 3) (Str.ofString "NoFloor")) (mk (some (.exc q)) none)=some true:=by unfold fTru;rw [isE,x0];rfl
  have a2:fTru (fIsV (fVar 3)) (mk (some (.exc q)) none)=some true:=by unfold fTru;rw [isV];rfl
  rw [ap_or,not_of a1,Option.bind_some,Bool.not_true,if_neg Bool.false_ne_true,not_of a2];rfl))]
 rw [fSeq_nx (e:=mk (some (.exc q)) O) (setv (by
  rw [ap_lst,ap_cons,isE,ap_cons,isE,ap_cons,isE,ap_cons,isE,x1 _ (by simp),x1 _ (by simp),x1 _ (by simp),x1 _ (by simp)];rfl))]
 rw [ap_ret,ap_andV]
 have n1:fOp vNotIn (fC (.bl true)) (fVar 5) (mk (some (.exc q)) O)=some (.bl true):=by
  show vNotIn (.bl true) (.lst [.bl false,.bl false,.bl false,.bl false])=_
  rfl
 have n2:fNotV (fIsE (fVar 3) (Str.ofString "NoField")) (mk (some (.exc q)) O)=some (.bl true):=by
  rw [ap_notV,isE,x1 _ (by simp)];rfl
 have n3:fNotV (fIsE (fVar 3) (Str.ofString "NoDeed")) (mk (some (.exc q)) O)=some (.bl true):=by
  rw [ap_notV,isE,x1 _ (by simp)];rfl
 rw [n1,Option.bind_some,as_bl,Option.bind_some,if_pos rfl,ap_andV,n2,Option.bind_some,as_bl,Option.bind_some,if_pos rfl,n3];rfl
end Cb
namespace Cb
open PySem L2 F CB PyProof.Rows
noncomputable def g__law_wrong_fields:FS:=(fSeq (fAsg (bTup 3 (bCons (bName 2) (bCons (bName 3) (bCons (bName 4) bNil)))) (fVar 0))
 (fSeq (fSet 5 (fOp vMod (fOp vFdiv (fVar 1) (fC (.int 8))) (fCall vLen (fCons (fVar 4) fNil))))
 (fSeq (fSet 6 (fOp vMod (fVar 1) (fC (.int 8))))
 (fSeq (fSet 7 (fCall vList (fCons (fVar 4) fNil)))
 (fSeq (fIfS (fT (fOp vEq (fVar 6) (fC (.int 0)))) (fRet (fOp vIx (fLst (fCons (fLst fNil) (fCons (fTup fNil) (fCons (fC .non) (fCons (fC (.int 5)) (fCons (fC (.str "0")) (fCons fDict0 (fCons (fDisp1 (fC (.int 0)) (fC (.bl true))) (fCons (fC (.bl true)) fNil))))))))) (fOp vMod (fOp vFdiv (fVar 1) (fC (.int 8))) (fC (.int 8))))) fNx)
 (fSeq (fIfS (fT (fOp vEq (fVar 6) (fC (.int 1)))) (fRet (fOp vAdd (fSl (fVar 7) fNoPart (fPart (fOp vAdd (fVar 5) (fC (.int 1))))) (fSl (fVar 7) (fPart (fVar 5)) fNoPart))) fNx)
 (fSeq (fIfS (fAnd (fT (fOp vEq (fVar 6) (fC (.int 2)))) (fT (fOp vGt (fCall vLen (fCons (fVar 7) fNil)) (fC (.int 1))))) (fRet (fOp vAdd (fSl (fVar 7) (fPart (fC (.int 1))) fNoPart) (fSl (fVar 7) fNoPart (fPart (fC (.int 1)))))) fNx)
 (fSeq (fIfS (fT (fOp vEq (fVar 6) (fC (.int 3)))) (fRet (fOp vAdd (fVar 7) (fLst (fCons (fOp vAdd (fOp vMul (fVar 2) (fVar 3)) (fOp vMod (fOp vFdiv (fVar 1) (fC (.int 64))) (fC (.int 99)))) fNil)))) fNx)
 (fSeq (fIfS (fT (fOp vEq (fVar 6) (fC (.int 4)))) (fRet (fOp vAdd (fLst (fCons (fOp vSub (fUn vNeg (fC (.int 1))) (fOp vMod (fOp vFdiv (fVar 1) (fC (.int 64))) (fC (.int 99)))) fNil)) (fVar 7))) fNx)
 (fSeq (fIfS (fT (fOp vEq (fVar 6) (fC (.int 5)))) (fRet (fOp vAddA (fOp vAddA (fSl (fVar 7) fNoPart (fPart (fVar 5))) (fLst (fCons (fOp vIx (fLst (fCons (fC (.bl true)) (fCons (fC (.str "1")) (fCons (fC .non) (fCons (fTup (fCons (fC (.int 0)) fNil)) (fCons (fLst (fCons (fC (.int 1)) fNil)) (fCons (fC (.bl false)) fNil))))))) (fOp vMod (fOp vFdiv (fVar 1) (fC (.int 64))) (fC (.int 6)))) fNil))) (fSl (fVar 7) (fPart (fOp vAdd (fVar 5) (fC (.int 1)))) fNoPart))) fNx)
 (fSeq (fIfS (fT (fOp vEq (fVar 6) (fC (.int 6)))) (fRet (fOp vAdd (fOp vAdd (fLst (fCons (fC (.int 0)) fNil)) (fLC (fRng3 (fCons (fC (.int 2)) (fCons (fOp vMul (fVar 2) (fVar 3)) (fCons (fC (.int 2)) fNil)))) 1 [] (bName 0) fYes (fDat (fVar 0)))) (fLst (fCons (fOp vMul (fVar 2) (fVar 3)) fNil)))) fNx)
 (fRet (fOp vAdd (fVar 7) (fVar 7))))))))))))))
noncomputable def Φ__law_wrong_fields:List PV->Option PV:=fnV 8 g__law_wrong_fields

theorem cut_to{O:List Int}{k:Nat}(h:k≤O.length):vSl (.lst (O.map PV.int)) none (some (k:Int))=some (.lst ((O.take k).map PV.int)):=by
 unfold vSl
 dsimp only
 rw [if_pos datas_ints]
 unfold cutP
 rw [HT.sIx_nat,HT.sIx_none,List.drop_zero,List.length_map,Nat.min_eq_left h,Nat.sub_zero,List.map_take]
theorem cut_from{O:List Int}{k:Nat}(h:k≤O.length):vSl (.lst (O.map PV.int)) (some (k:Int)) none=some (.lst ((O.drop k).map PV.int)):=by
 unfold vSl
 dsimp only
 rw [if_pos datas_ints]
 unfold cutP
 rw [HT.sIx_nat,HT.sIx_none,List.length_map,Nat.min_eq_left h,← List.map_drop,List.take_of_length_le (by rw [List.length_map,List.length_drop];exact Nat.le_refl _)]
theorem add_lsts{A B:List Int}(ha:A.length≤1000)(hb:B.length≤1000):vAdd (.lst (A.map PV.int)) (.lst (B.map PV.int))=some (.lst ((A++B).map PV.int)):=by
 unfold vAdd
 dsimp only
 rw [if_pos (by rw [datas_ints,datas_ints,List.length_map,List.length_map,decide_eq_true (by omega)];rfl),List.map_append]
theorem map_int_inj{A B:List Int}(h:A.map PV.int=B.map PV.int):A=B:=by
 induction A generalizing B with
 | nil=>cases B with | nil=>rfl | cons b r=>cases h
 | cons a A ih=>
  cases B with
  | nil=>cases h
  | cons b B=>
   rw [List.map_cons,List.map_cons] at h
   injection h with h1 h2
   injection h1 with h1
   rw [h1,ih h2]
theorem bad_ints{w h:Int}{ns:List Int}{x:PV}(hx:x=.lst (ns.map PV.int)∨x=.tup (ns.map PV.int))(hb:ns.Pairwise (·<·)->(∀ n ∈ ns,-1<n/\n<w * h)->False):Bad w h x:=
 .seq hx (fun p hp=>by obtain ⟨n,_,rfl⟩:=List.mem_map.mp hp;rfl) fun c=>by
  obtain ⟨ms,e,h1,h2⟩:=chk_true c
  have:=map_int_inj e
  subst this
  exact (hb h2 h1).elim
theorem small36:∀ n:Nat,n≤36->Builtin.Range.small 2 (n:Int) 2=true:=by decide +kernel
theorem wrong_ok{w h c:Int}{F:List Int}(fl:IsFloor w h F):∃ v,Φ__law_wrong_fields [flV w h F,.int c]=some v/\Bad w h v/\∃ t,tyP v=some t:=by
 have w1:=fl.w1;have w6:=fl.w6
 have wh:=wh36 fl.w1 fl.w6 fl.h1 fl.h6
 have hm:=mul_l (i:=w) (j:=h) ⟨by omega,by omega⟩
 have fz:=floor_len fl
 have f0:0<F.length:=List.length_pos_iff.mpr fl.ne
 have rise:=fl.rise
 obtain ⟨a,ha,haF⟩:∃ a:Nat,(a:Int)=c / 8 % F.length/\a<F.length:=by
  have m0:=Int.emod_nonneg (c / 8) (show (F.length:Int)≠0 by omega)
  have m1:=Int.emod_lt_of_pos (c / 8) (show (0:Int)<F.length by omega)
  exact ⟨(c / 8 % F.length).toNat,by omega,by omega⟩
 let L0:Option PV:=some (flV w h F)
 let C:Option PV:=some (.int c)
 let mk:Option PV->Option PV->Option PV->En:=fun x y z=>[L0,C,some (.int w),some (.int h),some (.tup (F.map PV.int)),x,y,z]
 let E:En:=mk (some (.int a)) (some (.int (c % 8))) (some (.lst (F.map PV.int)))
 have tq:∀ k:Int,fT (fOp vEq (fVar 6) (fC (.int k))) E=some (decide (c % 8=k)):=fun k=>by
  show (vEq (.int (c % 8)) (.int k)).bind asBool=_
  rw [eq_ii];rfl
 have vm:fOp vMul (fVar 2) (fVar 3) E=some (.int (w * h)):=by
  show ((some (PV.int w)).bind fun p=>(some (PV.int h)).bind fun q=>vMul p q)=_
  rw [Option.bind_some,Option.bind_some,hm]
 have dm:∀ (k m:Int),0<k/\k<1000->0<m->fOp vMod (fOp vFdiv (fVar 1) (fC (.int k))) (fC (.int m)) E=some (.int (c / k % m)):=fun k m hk hm'=>by
  show ((vFdiv (.int c) (.int k)).bind fun x=>vMod x (.int m))=_
  rw [fdiv_ii ⟨hk.1,by omega⟩,Option.bind_some,mod_ii hm']
 have v7:fVar 7 E=some (.lst (F.map PV.int)):=rfl
 have a1:fOp vAdd (fVar 5) (fC (.int 1)) E=some (.int ((a+1:Nat):Int)):=by
  show some (PV.int ((a:Int)+1))=_
  rfl
 have slTo:∀ {f:FE} {k:Nat},f E=some (.int (k:Int))->k≤F.length->fSl (fVar 7) fNoPart (fPart f) E=some (.lst ((F.take k).map PV.int)):=fun {f k} hf hk=>by
  unfold fSl fPart
  rw [hf]
  exact cut_to hk
 have slFrom:∀ {f:FE} {k:Nat},f E=some (.int (k:Int))->k≤F.length->fSl (fVar 7) (fPart f) fNoPart E=some (.lst ((F.drop k).map PV.int)):=fun {f k} hf hk=>by
  unfold fSl fPart
  rw [hf]
  exact cut_from hk
 have start:∀ {o:Out} {g:FS},g E=some o->(fSeq (fAsg (bTup 3 (bCons (bName 2) (bCons (bName 3) (bCons (bName 4) bNil)))) (fVar 0)) (fSeq (fSet 5 (fOp vMod (fOp vFdiv (fVar 1) (fC (.int 8))) (fCall vLen (fCons (fVar 4) fNil)))) (fSeq (fSet 6 (fOp vMod (fVar 1) (fC (.int 8)))) (fSeq (fSet 7 (fCall vList (fCons (fVar 4) fNil))) g)))) [L0,C,none,none,none,none,none,none]=some o:=fun {o g} hg=>by
  rw [fSeq_nx (e:=mk none none none) rfl]
  rw [fSeq_nx (e:=mk (some (.int a)) none none) (setv (by
   have hl:fCall vLen (fCons (fVar 4) fNil) (mk none none none)=some (.int (F.length:Int)):=call_of (as:=[.tup (F.map PV.int)]) rfl (by rw [len_tup,List.length_map])
   rw [ap_op,hl]
   show ((vFdiv (.int c) (.int 8)).bind fun x=>(some (PV.int (F.length:Int))).bind fun y=>vMod x y)=_
   rw [fdiv_ii (by decide),Option.bind_some,Option.bind_some,mod_ii (by omega),ha]))]
  rw [fSeq_nx (e:=mk (some (.int a)) (some (.int (c % 8))) none) (setv (by
   show vMod (.int c) (.int 8)=_
   rw [mod_ii (by decide)]))]
  rw [fSeq_nx (e:=E) (set_call (as:=[.tup (F.map PV.int)]) rfl (by rw [list_tup,if_pos datas_ints]))]
  exact hg
 have no:∀ {k:Int} {g r:FS},c % 8≠k->fSeq (fIfS (fT (fOp vEq (fVar 6) (fC (.int k)))) g fNx) r E=r E:=fun {k g r} hk=>fSeq_nx (if1 (by rw [tq,decide_eq_false hk]))
 have yes:∀ {k:Int} {f:FE} {r:FS} {v:PV},c % 8=k->f E=some v->fSeq (fIfS (fT (fOp vEq (fVar 6) (fC (.int k)))) (fRet f) fNx) r E=some (.rt v E):=fun {k f r v} hk hf=>fSeq_rt (by rw [ap_ifS,tq,decide_eq_true hk,Option.bind_some,if_pos rfl,ap_ret,hf];rfl)
 have t2:fAnd (fT (fOp vEq (fVar 6) (fC (.int 2)))) (fT (fOp vGt (fCall vLen (fCons (fVar 7) fNil)) (fC (.int 1)))) E=some (decide (c % 8=2/\1<F.length)):=by
  have hl:fCall vLen (fCons (fVar 7) fNil) E=some (.int (F.length:Int)):=call_of (as:=[.lst (F.map PV.int)]) rfl (by rw [len_lst,List.length_map])
  have q:fT (fOp vGt (fCall vLen (fCons (fVar 7) fNil)) (fC (.int 1))) E=some (decide ((1:Int)<F.length)):=by
   rw [ap_T,ap_op,hl];rfl
  rw [ap_and,tq,Option.bind_some,q]
  by_cases h2:c % 8=2
  ·rw [decide_eq_true h2,if_pos rfl]
   exact congrArg some (decide_eq_decide.mpr ⟨fun z=>⟨h2,by omega⟩,fun z=>by omega⟩)
  ·rw [decide_eq_false h2,if_neg Bool.false_ne_true,decide_eq_false fun z=>h2 z.1]
 have no2:∀ {g r:FS},¬ (c % 8=2/\1<F.length)->fSeq (fIfS (fAnd (fT (fOp vEq (fVar 6) (fC (.int 2)))) (fT (fOp vGt (fCall vLen (fCons (fVar 7) fNil)) (fC (.int 1))))) g fNx) r E=r E:=fun {g r} hk=>fSeq_nx (if1 (by rw [t2,decide_eq_false hk]))
 have gA:F[a]?=some (F[a]'haF):=List.getElem?_eq_getElem haF
 have cut:F=F.take a++F[a]::F.drop (a+1):=by rw [← List.drop_eq_getElem_cons haF,List.take_append_drop]
 have fin:∀ {v:PV},g__law_wrong_fields [L0,C,none,none,none,none,none,none]=some (.rt v E)->Bad w h v->(∃ t,tyP v=some t)->∃ v,Φ__law_wrong_fields [flV w h F,.int c]=some v/\Bad w h v/\∃ t,tyP v=some t:=fun {v} h1 h2 h3=>⟨v,fnV_rt (e:=E) [L0,C,none,none,none,none,none,none] rfl h1,h2,h3⟩
 have dbl:∀ {ns:List Int},ns=F++F->ns.Pairwise (·<·)->False:=fun {ns} e p=>by
  subst e
  rw [List.pairwise_append] at p
  have hx:F[0]'f0 ∈ F:=List.getElem_mem f0
  exact Int.lt_irrefl _ (p.2.2 _ hx _ hx)
 by_cases k0:c % 8=0
 ·-- things that are no fields
  have m0:=Int.emod_nonneg (c / 8) (show (8:Int)≠0 by decide)
  have m1:=Int.emod_lt_of_pos (c / 8) (show (0:Int)<8 by decide)
  have hi:=dm 8 8 (by decide) (by decide)
  generalize c / 8 % 8=i at m0 m1 hi
  let ds:List PV:=[.lst [],.tup [],.non,.int 5,.str (Str.ofString "0"),.dct [] [],.dct [.inl 0] [.bl true],.bl true]
  have hL:fLst (fCons (fLst fNil) (fCons (fTup fNil) (fCons (fC .non) (fCons (fC (.int 5)) (fCons (fC (.str (Str.ofString "0"))) (fCons fDict0 (fCons (fDisp1 (fC (.int 0)) (fC (.bl true))) (fCons (fC (.bl true)) fNil)))))))) E=some (.lst ds):=rfl
  have pick:∃ v,atI ds i=some v/\Bad w h v/\∃ t,tyP v=some t:=by
   have:i=0∨i=1∨i=2∨i=3∨i=4∨i=5∨i=6∨i=7:=by omega
   rcases this with rfl | rfl | rfl | rfl | rfl | rfl | rfl | rfl
   ·exact ⟨_,rfl,.seq (vs:=[]) (.inl rfl) (fun p hp=>nomatch hp) fun _=>rfl,_,rfl⟩
   ·exact ⟨_,rfl,.seq (vs:=[]) (.inr rfl) (fun p hp=>nomatch hp) fun _=>rfl,_,rfl⟩
   ·exact ⟨_,rfl,.other rfl,_,rfl⟩
   ·exact ⟨_,rfl,.other rfl,_,rfl⟩
   ·exact ⟨_,rfl,.other rfl,_,rfl⟩
   ·exact ⟨_,rfl,.other rfl,_,rfl⟩
   ·exact ⟨_,rfl,.other rfl,_,rfl⟩
   ·exact ⟨_,rfl,.other rfl,_,rfl⟩
  obtain ⟨v,hv,hbad,hty⟩:=pick
  refine fin (v:=v) ?_ hbad hty
  unfold g__law_wrong_fields
  exact start (yes k0 (by rw [ap_op,hL,Option.bind_some,hi,Option.bind_some,ix_lst,hv]))
 by_cases k1:c % 8=1
 ·refine fin (v:=.lst ((F.take (a+1)++F.drop a).map PV.int)) ?_ (bad_ints (.inl rfl) fun p _=>?_) ⟨_,rfl⟩
  ·unfold g__law_wrong_fields
   refine start ((no k0).trans (yes k1 ?_))
   rw [ap_op,slTo a1 (by omega),slFrom (k:=a) rfl (by omega),Option.bind_some,Option.bind_some,add_lsts (by rw [List.length_take];omega) (by rw [List.length_drop];omega)]
  ·rw [List.pairwise_append] at p
   have h1:F[a] ∈ F.take (a+1):=List.mem_iff_getElem.mpr ⟨a,by rw [List.length_take];omega,by rw [List.getElem_take]⟩
   have h2:F[a] ∈ F.drop a:=by rw [List.drop_eq_getElem_cons haF];exact List.mem_cons_self
   exact Int.lt_irrefl _ (p.2.2 _ h1 _ h2)
 by_cases k2:c % 8=2/\1<F.length
 ·refine fin (v:=.lst ((F.drop 1++F.take 1).map PV.int)) ?_ (bad_ints (.inl rfl) fun p _=>?_) ⟨_,rfl⟩
  ·unfold g__law_wrong_fields
   refine start ((no k0).trans ((no k1).trans (fSeq_rt ?_)))
   rw [ap_ifS,t2,decide_eq_true k2,Option.bind_some,if_pos rfl,ap_ret,ap_op,slFrom (f:=fC (.int 1)) (k:=1) rfl (by omega),slTo (f:=fC (.int 1)) (k:=1) rfl (by omega),Option.bind_some,Option.bind_some,add_lsts (by rw [List.length_drop];omega) (by rw [List.length_take];omega)];rfl
  ·obtain ⟨x,y,r,rfl⟩:∃ x y r,F=x::y::r:=by
    match F,k2.2 with
    | x::y::r,_=>exact ⟨x,y,r,rfl⟩
   rw [List.pairwise_append] at p
   have h1:=p.2.2 y (by simp) x (by simp)
   have h2:=(List.pairwise_cons.mp rise).1 y (by simp)
   omega
 by_cases k3:c % 8=3
 ·have m0:=Int.emod_nonneg (c / 64) (show (99:Int)≠0 by decide)
  refine fin (v:=.lst ((F++[w * h+c / 64 % 99]).map PV.int)) ?_ (bad_ints (.inl rfl) fun _ q=>?_) ⟨_,rfl⟩
  ·unfold g__law_wrong_fields
   refine start ((no k0).trans ((no k1).trans ((no2 k2).trans (yes k3 ?_))))
   have:fLst (fCons (fOp vAdd (fOp vMul (fVar 2) (fVar 3)) (fOp vMod (fOp vFdiv (fVar 1) (fC (.int 64))) (fC (.int 99)))) fNil) E=some (.lst ([w * h+c / 64 % 99].map PV.int)):=by
    rw [ap_lst,ap_cons,ap_op,vm,Option.bind_some,dm 64 99 (by decide) (by decide)];rfl
   rw [ap_op,v7,this,Option.bind_some,Option.bind_some,add_lsts (by omega) (by simp)]
  ·have:=(q (w * h+c / 64 % 99) (by simp)).2
   omega
 by_cases k4:c % 8=4
 ·have m0:=Int.emod_nonneg (c / 64) (show (99:Int)≠0 by decide)
  refine fin (v:=.lst (([-1 - c / 64 % 99]++F).map PV.int)) ?_ (bad_ints (.inl rfl) fun _ q=>?_) ⟨_,rfl⟩
  ·unfold g__law_wrong_fields
   refine start ((no k0).trans ((no k1).trans ((no2 k2).trans ((no k3).trans (yes k4 ?_)))))
   have:fLst (fCons (fOp vSub (fUn vNeg (fC (.int 1))) (fOp vMod (fOp vFdiv (fVar 1) (fC (.int 64))) (fC (.int 99)))) fNil) E=some (.lst ([-1 - c / 64 % 99].map PV.int)):=by
    rw [ap_lst,ap_cons,ap_op,dm 64 99 (by decide) (by decide)];rfl
   rw [ap_op,this,Option.bind_some,v7,Option.bind_some,add_lsts (by simp) (by omega)]
  ·have:=(q (-1 - c / 64 % 99) (by simp)).1
   omega
 by_cases k5:c % 8=5
 ·have m0:=Int.emod_nonneg (c / 64) (show (6:Int)≠0 by decide)
  have m1:=Int.emod_lt_of_pos (c / 64) (show (0:Int)<6 by decide)
  have hi:=dm 64 6 (by decide) (by decide)
  generalize c / 64 % 6=i at m0 m1 hi
  let ds:List PV:=[.bl true,.str (Str.ofString "1"),.non,.tup [.int 0],.lst [.int 1],.bl false]
  have hL:fLst (fCons (fC (.bl true)) (fCons (fC (.str (Str.ofString "1"))) (fCons (fC .non) (fCons (fTup (fCons (fC (.int 0)) fNil)) (fCons (fLst (fCons (fC (.int 1)) fNil)) (fCons (fC (.bl false)) fNil)))))) E=some (.lst ds):=rfl
  have pick:∃ v,atI ds i=some v/\whB v=some false:=by
   have:i=0∨i=1∨i=2∨i=3∨i=4∨i=5:=by omega
   rcases this with rfl | rfl | rfl | rfl | rfl | rfl<;>exact ⟨_,rfl,rfl⟩
  obtain ⟨v,hv,hw⟩:=pick
  refine fin (v:=.lst ((F.take a).map PV.int++[v]++(F.drop (a+1)).map PV.int)) ?_ (.seq (.inl rfl) (fun p hp=>?_) fun ck=>?_) ⟨_,rfl⟩
  ·unfold g__law_wrong_fields
   refine start ((no k0).trans ((no k1).trans ((no2 k2).trans ((no k3).trans ((no k4).trans (yes k5 ?_))))))
   have h1:fLst (fCons (fOp vIx (fLst (fCons (fC (.bl true)) (fCons (fC (.str (Str.ofString "1"))) (fCons (fC .non) (fCons (fTup (fCons (fC (.int 0)) fNil)) (fCons (fLst (fCons (fC (.int 1)) fNil)) (fCons (fC (.bl false)) fNil))))))) (fOp vMod (fOp vFdiv (fVar 1) (fC (.int 64))) (fC (.int 6)))) fNil) E=some (.lst [v]):=by
    rw [ap_lst,ap_cons,ap_op,hL,Option.bind_some,hi,Option.bind_some,ix_lst,hv];rfl
   rw [ap_op,ap_op,slTo (f:=fVar 5) (k:=a) rfl (by omega),Option.bind_some,h1,Option.bind_some,slFrom a1 (by omega)]
   unfold vAddA
   dsimp only
   rw [if_pos (by rw [List.length_map,List.length_take,List.length_singleton];omega),Option.bind_some,Option.bind_some]
   dsimp only
   rw [if_pos (by rw [List.length_append,List.length_map,List.length_take,List.length_singleton,List.length_map,List.length_drop];omega)]
  ·rcases List.mem_append.mp hp with hp | hp
   ·rcases List.mem_append.mp hp with hp | hp
    ·obtain ⟨n,_,rfl⟩:=List.mem_map.mp hp;rfl
    ·rw [List.mem_singleton.mp hp,hw];rfl
   ·obtain ⟨n,_,rfl⟩:=List.mem_map.mp hp;rfl
  ·obtain ⟨ns,e,_⟩:=chk_true ck
   have:v ∈ ns.map PV.int:=by rw [← e];simp
   obtain ⟨n,_,rfl⟩:=List.mem_map.mp this
   cases hw
 by_cases k6:c % 8=6
 ·let ev:List Int:=(List.range (Builtin.Range.rangeSize 2 (w * h) 2).toNat).map fun (m:Nat)=>2+(m:Nat) * 2
  have evl:ev.length≤100:=by
   show ((List.range _).map _).length≤_
   rw [List.length_map,List.length_range]
   have:=rangeSize_toNat_le 2 (w * h) 2
   omega
  refine fin (v:=.lst (([0]++ev++[w * h]).map PV.int)) ?_ (bad_ints (.inl rfl) fun _ q=>?_) ⟨_,rfl⟩
  ·unfold g__law_wrong_fields
   refine start ((no k0).trans ((no k1).trans ((no2 k2).trans ((no k3).trans ((no k4).trans ((no k5).trans (yes k6 ?_)))))))
   have hr:fRng3 (fCons (fC (.int 2)) (fCons (fOp vMul (fVar 2) (fVar 3)) (fCons (fC (.int 2)) fNil))) E=some (ev.map PV.int):=by
    have hsm:Builtin.Range.small 2 (w * h) 2=true:=by
     have:=small36 (w * h).toNat (by omega)
     rwa [Int.toNat_of_nonneg (by omega)] at this
    unfold fRng3
    rw [ap_cons,ap_C,Option.bind_some,ap_cons,vm]
    show (if (0<(2:Int)/\(2:Int)<1073741824)/\Builtin.Range.small 2 (w * h) 2=true then some (rng3P 2 2 (Builtin.Range.rangeSize 2 (w * h) 2).toNat) else none)=_
    rw [if_pos ⟨by decide,hsm⟩]
    unfold rng3P
    rw [List.map_map];rfl
   have hc:fComp (bName 0) fYes (fDat (fVar 0)) (ev.map PV.int) [none]=some (ev.map PV.int):=comp_map (hh:=PV.int) PV.int ev fun n _=>⟨[some (.int n)],rfl,rfl,rfl⟩
   have hlc:fLC (fRng3 (fCons (fC (.int 2)) (fCons (fOp vMul (fVar 2) (fVar 3)) (fCons (fC (.int 2)) fNil)))) 1 [] (bName 0) fYes (fDat (fVar 0)) E=some (.lst (ev.map PV.int)):=by
    rw [ap_lc,hr,Option.bind_some,if_pos (by rw [List.length_map];omega),show cE 1 [] E=[none] from rfl,hc];rfl
   have hl2:fLst (fCons (fOp vMul (fVar 2) (fVar 3)) fNil) E=some (.lst ([w * h].map PV.int)):=by rw [ap_lst,ap_cons,vm];rfl
   rw [ap_op,ap_op,hlc,show fLst (fCons (fC (.int 0)) fNil) E=some (.lst ([0].map PV.int)) from rfl,Option.bind_some,Option.bind_some,add_lsts (by simp) (by omega),Option.bind_some,hl2,Option.bind_some,add_lsts (by rw [List.length_append,List.length_singleton];omega) (by simp)]
  ·have:=(q (w * h) (by simp)).2
   omega
 ·refine fin (v:=.lst ((F++F).map PV.int)) ?_ (bad_ints (.inl rfl) fun p _=>dbl rfl p) ⟨_,rfl⟩
  unfold g__law_wrong_fields
  refine start ((no k0).trans ((no k1).trans ((no2 k2).trans ((no k3).trans ((no k4).trans ((no k5).trans ((no k6).trans ?_)))))))
  rw [ap_ret,ap_op,v7,Option.bind_some,Option.bind_some,add_lsts (by omega) (by omega)];rfl
end Cb
namespace Cb
open PySem L2 F CB PyProof.Rows
noncomputable def b_law_1:FS:=(fSeq (fSet 6 (fCall Φ__law_wrong_fields (fCons (fVar 1) (fCons (fVar 5) fNil))))
 (fSeq (fIfS (fAnd (fTru (fCall vIsInst (fCons (fVar 6) (fCons (fC (.ty "list")) fNil)))) (fT (fOp vEq (fOp vMod (fOp vFdiv (fVar 5) (fC (.int 7))) (fC (.int 2))) (fC (.int 0))))) (fSet 6 (fCall vTupleA (fCons (fVar 6) fNil))) fNx)
 (fSeq (fIfS (fNot (fTru (fCall Φ__law_refused (fCons (fVar 2) (fCons (fVar 3) (fCons (fVar 6) fNil)))))) (fRet (fC (.bl false))) fNx)
 (fSeq (fSet 7 (fOp vIx (fLst (fCons (fC (.int 0)) (fCons (fC (.int 7)) (fCons (fOp vSub (fUn vNeg (fC (.int 1))) (fOp vMod (fOp vFdiv (fVar 5) (fC (.int 3))) (fOp vPow (fC (.int 10)) (fC (.int 11))))) (fCons (fOp vAdd (fC (.int 7)) (fOp vMod (fOp vFdiv (fVar 5) (fC (.int 3))) (fOp vPow (fC (.int 10)) (fC (.int 11))))) (fCons (fC (.bl true)) (fCons (fC (.str "2")) (fCons (fC .non) (fCons (fTup (fCons (fC (.int 3)) fNil)) (fCons (fC (.bl false)) fNil)))))))))) (fOp vMod (fOp vFdiv (fVar 5) (fC (.int 99))) (fC (.int 9)))))
 (fSeq (fSet 8 (fOp vIx (fLst (fCons (fTup (fCons (fVar 7) (fCons (fVar 3) fNil))) (fCons (fTup (fCons (fVar 2) (fCons (fVar 7) fNil))) (fCons (fTup (fCons (fVar 7) (fCons (fVar 7) fNil))) fNil)))) (fOp vMod (fVar 5) (fC (.int 3)))))
 (fIfS (fNot (fTru (fCall Φ__law_refused (fCons (fOp vIx (fVar 8) (fC (.int 0))) (fCons (fOp vIx (fVar 8) (fC (.int 1))) (fCons (fCall vList (fCons (fVar 4) fNil)) fNil)))))) (fRet (fC (.bl false))) fNx))))))
noncomputable def g_law:FS:=(fSeq (fSet 1 (fCall Φ__law_floor (fCons (fVar 0) (fCons (fC (.int 1)) fNil))))
 (fSeq (fAsg (bTup 3 (bCons (bName 2) (bCons (bName 3) (bCons (bName 4) bNil)))) (fVar 1))
 (fSeq (fForS (fSeqOf (fOp vAdd (fLst (fCons (fCall Φ__law_cell (fCons (fVar 0) (fCons (fC (.int 3)) fNil))) (fCons (fCall Φ__law_cell (fCons (fVar 0) (fCons (fC (.int 4)) fNil))) (fCons (fCall Φ__law_cell (fCons (fVar 0) (fCons (fC (.int 5)) fNil))) fNil)))) (fSl (fVar 0) (fPart (fC (.int 6))) (fPart (fC (.int 20)))))) (bName 5) b_law_1)
 (fRet (fC (.bl true))))))
noncomputable def Φ_law:List PV->Option PV:=fnV 9 g_law

theorem cut_ints(F:List Int)(lo hi:Option Int):∃ M:List Int,cutP (F.map PV.int) lo hi=M.map PV.int/\M.length≤F.length:=by
 unfold cutP
 refine ⟨(F.drop (HT.sIx (F.map PV.int).length 0 lo)).take (HT.sIx (F.map PV.int).length (F.map PV.int).length hi - HT.sIx (F.map PV.int).length 0 lo),by rw [List.map_take,List.map_drop],?_⟩
 rw [List.length_take,List.length_drop];omega
theorem bad_list{w h:Int}{v:PV}(b:Bad w h v):(∃ vs,v=.lst vs/\Bad w h (.tup vs)/\vIsInst [v,.ty "list"]=some (.bl true))∨vIsInst [v,.ty "list"]=some (.bl false):=by
 cases b with
 | @seq vs x hx hp hb=>
  rcases hx with rfl | rfl
  ·exact .inl ⟨vs,rfl,.seq (.inr rfl) hp hb,rfl⟩
  ·exact .inr rfl
 | other hx=>
  refine .inr ?_
  unfold vIsInst at hx ⊢
  dsimp only [tyNames] at hx ⊢
  cases ht:tyP v with
  | none=>rw [ht] at hx;simp at hx
  | some t=>
   rw [ht] at hx
   simp at hx ⊢
   obtain ⟨_,hx⟩:=hx
   exact ⟨by decide,hx.1⟩
theorem nolen_int{k:Int}(h:¬ (1≤k/\k≤6)):NoLen (.int k):=by
 unfold NoLen
 rw [length_int,decide_eq_false h]
theorem step_ok{ns:List Int}{w h c:Int}{F:List Int}{x6 x7 x8:Option PV}(fl:IsFloor w h F):∃ y6 y7 y8,b_law_1 [some (scr ns),some (flV w h F),some (.int w),some (.int h),some (.tup (F.map PV.int)),some (.int c),x6,x7,x8]=some (.nx [some (scr ns),some (flV w h F),some (.int w),some (.int h),some (.tup (F.map PV.int)),some (.int c),y6,y7,y8]):=by
 let mk:Option PV->Option PV->Option PV->En:=fun a b d=>[some (scr ns),some (flV w h F),some (.int w),some (.int h),some (.tup (F.map PV.int)),some (.int c),a,b,d]
 obtain ⟨v,hv,hbad,t,hty⟩:=wrong_ok (c:=c) fl
 have dm:∀ (k m:Int) (a b d:Option PV),0<k/\k<1000->0<m->fOp vMod (fOp vFdiv (fVar 5) (fC (.int k))) (fC (.int m)) (mk a b d)=some (.int (c / k % m)):=fun k m a b d hk hm'=>by
  show ((vFdiv (.int c) (.int k)).bind fun x=>vMod x (.int m))=_
  rw [fdiv_ii ⟨hk.1,by omega⟩,Option.bind_some,mod_ii hm']
 -- the fields,as a tuple at times
 obtain ⟨v',h2,hb'⟩:∃ v',fIfS (fAnd (fTru (fCall vIsInst (fCons (fVar 6) (fCons (fC (.ty "list")) fNil)))) (fT (fOp vEq (fOp vMod (fOp vFdiv (fVar 5) (fC (.int 7))) (fC (.int 2))) (fC (.int 0))))) (fSet 6 (fCall vTupleA (fCons (fVar 6) fNil))) fNx (mk (some v) x7 x8)=some (.nx (mk (some v') x7 x8))/\Bad w h v':=by
  have tq:fT (fOp vEq (fOp vMod (fOp vFdiv (fVar 5) (fC (.int 7))) (fC (.int 2))) (fC (.int 0))) (mk (some v) x7 x8)=some (decide (c / 7 % 2=0)):=by
   rw [ap_T,ap_op,dm 7 2 _ _ _ (by decide) (by decide),Option.bind_some,ap_C,Option.bind_some,eq_ii];rfl
  rcases bad_list hbad with ⟨vs,rfl,hb2,hi⟩ | hi
  ·have t1:fTru (fCall vIsInst (fCons (fVar 6) (fCons (fC (.ty "list")) fNil))) (mk (some (.lst vs)) x7 x8)=some true:=by
    unfold fTru;rw [call_of (as:=[.lst vs,.ty "list"]) rfl hi];rfl
   by_cases hq:c / 7 % 2=0
   ·refine ⟨.tup vs,?_,hb2⟩
    rw [ap_ifS,ap_and,t1,Option.bind_some,if_pos rfl,tq,decide_eq_true hq];rfl
   ·refine ⟨.lst vs,?_,hbad⟩
    rw [ap_ifS,ap_and,t1,Option.bind_some,if_pos rfl,tq,decide_eq_false hq];rfl
  ·have t1:fTru (fCall vIsInst (fCons (fVar 6) (fCons (fC (.ty "list")) fNil))) (mk (some v) x7 x8)=some false:=by
    unfold fTru;rw [call_of (as:=[v,.ty "list"]) rfl hi];rfl
   refine ⟨v,?_,hbad⟩
   rw [ap_ifS,ap_and,t1];rfl
 have r1:=refused_ok (bad_floor fl.w1 fl.w6 fl.h1 fl.h6 hb')
 -- the bad lengths
 obtain ⟨b,hb,nl⟩:∃ b,fOp vIx (fLst (fCons (fC (.int 0)) (fCons (fC (.int 7)) (fCons (fOp vSub (fUn vNeg (fC (.int 1))) (fOp vMod (fOp vFdiv (fVar 5) (fC (.int 3))) (fOp vPow (fC (.int 10)) (fC (.int 11))))) (fCons (fOp vAdd (fC (.int 7)) (fOp vMod (fOp vFdiv (fVar 5) (fC (.int 3))) (fOp vPow (fC (.int 10)) (fC (.int 11))))) (fCons (fC (.bl true)) (fCons (fC (.str (Str.ofString "2"))) (fCons (fC .non) (fCons (fTup (fCons (fC (.int 3)) fNil)) (fCons (fC (.bl false)) fNil)))))))))) (fOp vMod (fOp vFdiv (fVar 5) (fC (.int 99))) (fC (.int 9))) (mk (some v') x7 x8)=some b/\NoLen b:=by
  have hp:vPow (.int 10) (.int 11)=some (.int 100000000000):=by rfl
  have q:fOp vMod (fOp vFdiv (fVar 5) (fC (.int 3))) (fOp vPow (fC (.int 10)) (fC (.int 11))) (mk (some v') x7 x8)=some (.int (c / 3 % 100000000000)):=by
   show ((vFdiv (.int c) (.int 3)).bind fun x=>(vPow (.int 10) (.int 11)).bind fun y=>vMod x y)=_
   rw [fdiv_ii (by decide),Option.bind_some,hp,Option.bind_some,mod_ii (by decide)]
  have q0:=Int.emod_nonneg (c / 3) (show (100000000000:Int)≠0 by decide)
  generalize c / 3 % 100000000000=k at q q0
  have m0:=Int.emod_nonneg (c / 99) (show (9:Int)≠0 by decide)
  have m1:=Int.emod_lt_of_pos (c / 99) (show (0:Int)<9 by decide)
  have hi:=dm 99 9 (some v') x7 x8 (by decide) (by decide)
  generalize c / 99 % 9=i at m0 m1 hi
  let ds:List PV:=[.int 0,.int 7,.int (-1 - k),.int (7+k),.bl true,.str (Str.ofString "2"),.non,.tup [.int 3],.bl false]
  have hL:fLst (fCons (fC (.int 0)) (fCons (fC (.int 7)) (fCons (fOp vSub (fUn vNeg (fC (.int 1))) (fOp vMod (fOp vFdiv (fVar 5) (fC (.int 3))) (fOp vPow (fC (.int 10)) (fC (.int 11))))) (fCons (fOp vAdd (fC (.int 7)) (fOp vMod (fOp vFdiv (fVar 5) (fC (.int 3))) (fOp vPow (fC (.int 10)) (fC (.int 11))))) (fCons (fC (.bl true)) (fCons (fC (.str (Str.ofString "2"))) (fCons (fC .non) (fCons (fTup (fCons (fC (.int 3)) fNil)) (fCons (fC (.bl false)) fNil))))))))) (mk (some v') x7 x8)=some (.lst ds):=by
   rw [ap_lst,ap_cons,ap_C,Option.bind_some,ap_cons,ap_C,Option.bind_some,ap_cons,ap_op,q,ap_cons,ap_op,q];rfl
  have pick:∃ b,atI ds i=some b/\NoLen b:=by
   have:i=0∨i=1∨i=2∨i=3∨i=4∨i=5∨i=6∨i=7∨i=8:=by omega
   rcases this with rfl | rfl | rfl | rfl | rfl | rfl | rfl | rfl | rfl
   ·exact ⟨_,rfl,nolen_int (by omega)⟩
   ·exact ⟨_,rfl,nolen_int (by omega)⟩
   ·exact ⟨_,rfl,nolen_int (by omega)⟩
   ·exact ⟨_,rfl,nolen_int (by omega)⟩
   ·exact ⟨_,rfl,length_no rfl⟩
   ·exact ⟨_,rfl,length_no rfl⟩
   ·exact ⟨_,rfl,length_no rfl⟩
   ·exact ⟨_,rfl,length_no rfl⟩
   ·exact ⟨_,rfl,length_no rfl⟩
  obtain ⟨b,h1,h2⟩:=pick
  exact ⟨b,by rw [ap_op,hL,Option.bind_some,hi,Option.bind_some,ix_lst,h1],h2⟩
 -- the pair
 obtain ⟨p0,p1,hpr,hR⟩:∃ p0 p1,fOp vIx (fLst (fCons (fTup (fCons (fVar 7) (fCons (fVar 3) fNil))) (fCons (fTup (fCons (fVar 2) (fCons (fVar 7) fNil))) (fCons (fTup (fCons (fVar 7) (fCons (fVar 7) fNil))) fNil)))) (fOp vMod (fVar 5) (fC (.int 3))) (mk (some v') (some b) x8)=some (.tup [p0,p1])/\R_floor_of [p0,p1,.lst (F.map PV.int)]=some (Str.ofString "NoFloor"):=by
  have m0:=Int.emod_nonneg c (show (3:Int)≠0 by decide)
  have m1:=Int.emod_lt_of_pos c (show (0:Int)<3 by decide)
  have hi:fOp vMod (fVar 5) (fC (.int 3)) (mk (some v') (some b) x8)=some (.int (c % 3)):=by
   show vMod (.int c) (.int 3)=_
   rw [mod_ii (by decide)]
  generalize c % 3=i at m0 m1 hi
  let ds:List PV:=[.tup [b,.int h],.tup [.int w,b],.tup [b,b]]
  have hL:fLst (fCons (fTup (fCons (fVar 7) (fCons (fVar 3) fNil))) (fCons (fTup (fCons (fVar 2) (fCons (fVar 7) fNil))) (fCons (fTup (fCons (fVar 7) (fCons (fVar 7) fNil))) fNil))) (mk (some v') (some b) x8)=some (.lst ds):=rfl
  have:i=0∨i=1∨i=2:=by omega
  rcases this with rfl | rfl | rfl
  ·exact ⟨b,.int h,by rw [ap_op,hL,Option.bind_some,hi];rfl,bad_dims (.inl nl)⟩
  ·exact ⟨.int w,b,by rw [ap_op,hL,Option.bind_some,hi];rfl,bad_dims (.inr ⟨⟨w,rfl,fl.w1,fl.w6⟩,nl⟩)⟩
  ·exact ⟨b,b,by rw [ap_op,hL,Option.bind_some,hi];rfl,bad_dims (.inl nl)⟩
 have r2:=refused_ok hR
 refine ⟨some v',some b,some (.tup [p0,p1]),?_⟩
 unfold b_law_1
 rw [fSeq_nx (e:=mk (some v) x7 x8) (set_call (as:=[flV w h F,.int c]) rfl hv)]
 rw [fSeq_nx h2]
 rw [fSeq_nx (e:=mk (some v') x7 x8) (if1 (not_of (c:=true) (by unfold fTru;rw [call_of (as:=[.int w,.int h,v']) rfl r1];rfl)))]
 rw [fSeq_nx (e:=mk (some v') (some b) x8) (setv hb)]
 rw [fSeq_nx (e:=mk (some v') (some b) (some (.tup [p0,p1]))) (setv hpr)]
 refine if1 (not_of (c:=true) ?_)
 have e0:fOp vIx (fVar 8) (fC (.int 0)) (mk (some v') (some b) (some (.tup [p0,p1])))=some p0:=by
  show atI [p0,p1] 0=_
  exact atI_0
 have e1:fOp vIx (fVar 8) (fC (.int 1)) (mk (some v') (some b) (some (.tup [p0,p1])))=some p1:=by
  show atI [p0,p1] 1=_
  exact atI_1
 have e2:fCall vList (fCons (fVar 4) fNil) (mk (some v') (some b) (some (.tup [p0,p1])))=some (.lst (F.map PV.int)):=call_of (as:=[.tup (F.map PV.int)]) rfl (by rw [list_tup,if_pos datas_ints])
 unfold fTru
 rw [call_of (as:=[p0,p1,.lst (F.map PV.int)]) (by rw [ap_cons,e0,ap_cons,e1,ap_cons,e2];rfl) r2];rfl
theorem law_true(ns:List Int)(hl:ns.length≤63)(hb:∀ m ∈ ns,Builtin.Int.intBits m≤1048576):Φ_law [.fls (ns.map PV.int)]=some (.bl true):=by
 have S:Scr ns:=⟨hl,hb⟩
 obtain ⟨w,h,F,hfl,fl⟩:=floor_ok S (k:=1) (by decide) (by decide)
 obtain ⟨c3,hc3⟩:=cell_ok S (k:=3) (by decide) (by decide)
 obtain ⟨c4,hc4⟩:=cell_ok S (k:=4) (by decide) (by decide)
 obtain ⟨c5,hc5⟩:=cell_ok S (k:=5) (by decide) (by decide)
 obtain ⟨M,hM,ml⟩:=cut_ints ns (some 6) (some 20)
 let mk:Option PV->Option PV->Option PV->Option PV->En:=fun a b d e=>[some (scr ns),some (flV w h F),some (.int w),some (.int h),some (.tup (F.map PV.int)),a,b,d,e]
 obtain ⟨e,l1,a,b,d,f,rfl⟩:=for_map (b:=bName 5) (g:=b_law_1) (xs:=[c3,c4,c5]++M) (hh:=PV.int) (env:=mk none none none none) (fun pre e=>∃ a b d f,e=mk a b d f) ⟨none,none,none,none,rfl⟩ (by
  rintro pre c post e _ ⟨a,b,d,f,rfl⟩
  obtain ⟨y6,y7,y8,st⟩:=step_ok (ns:=ns) (c:=c) (x6:=b) (x7:=d) (x8:=f) fl
  exact ⟨mk (some (.int c)) b d f,mk (some (.int c)) y6 y7 y8,rfl,.inl st,_,_,_,_,rfl⟩)
 refine fnV_rt (e:=mk a b d f) [some (scr ns),none,none,none,none,none,none,none,none] rfl ?_
 unfold g_law
 rw [fSeq_nx (e:=[some (scr ns),some (flV w h F),none,none,none,none,none,none,none]) (set_call (as:=[scr ns,.int 1]) rfl hfl)]
 rw [fSeq_nx (e:=mk none none none none) rfl]
 rw [fSeq_nx (e:=mk a b d f) (by
  have h1:fLst (fCons (fCall Φ__law_cell (fCons (fVar 0) (fCons (fC (.int 3)) fNil))) (fCons (fCall Φ__law_cell (fCons (fVar 0) (fCons (fC (.int 4)) fNil))) (fCons (fCall Φ__law_cell (fCons (fVar 0) (fCons (fC (.int 5)) fNil))) fNil))) (mk none none none none)=some (.lst ([c3,c4,c5].map PV.int)):=by
   rw [ap_lst,ap_cons,call_of (as:=[scr ns,.int 3]) rfl hc3,ap_cons,call_of (as:=[scr ns,.int 4]) rfl hc4,ap_cons,call_of (as:=[scr ns,.int 5]) rfl hc5];rfl
  have h2:fSl (fVar 0) (fPart (fC (.int 6))) (fPart (fC (.int 20))) (mk none none none none)=some (.lst (M.map PV.int)):=by
   show vSl (.fls (ns.map PV.int)) (some 6) (some 20)=_
   unfold vSl
   dsimp only
   rw [if_pos datas_ints,hM]
  rw [ap_forS,ap_seqOf,ap_op,h1,h2,Option.bind_some,Option.bind_some,add_lsts (by simp) (by omega),Option.bind_some,seq_lst,Option.bind_some]
  exact l1)]
 rfl
end Cb
namespace Cb
open PySem L2 F PyProof.Rows
noncomputable def top(i:Nat):Stmt:=PySem.Challenge.pw_crossbrace_k02_no_floors.main.body.getD i (.Pass ⟨0,0,0,0⟩)
structure Blt (mg:Str->Option Value):Prop where
 ValueError_:mg "ValueError"=none
 bool_:mg "bool"=none
 int_:mg "int"=none
 isinstance_:mg "isinstance"=none
 len_:mg "len"=none
 list_:mg "list"=none
 range_:mg "range"=none
 tuple_:mg "tuple"=none
variable {P:Program} {w:World} {K:PySem.W.Frag} {mg:Str->Option Value} {base:Heap} {f:Addr} {fd:FuncData}
set_option hygiene false
local macro_rules
|`(tactic|rw[7101,$x:term,$y:term])=>`(tactic|((with_reducible show VE _ _ _ _ _ $x);refine' $y))
|`(tactic|rw[7102,$x:term,$y:term])=>`(tactic|((with_reducible show VS _ _ _ _ $x);refine' $y))
|`(tactic|rw[7103,$x:term,$y:term])=>`(tactic|((with_reducible show $x);refine' $y))
|`(tactic|rw[7104,$x:term,$y:term,$z:term,$w:term])=>`(tactic|((with_reducible show VE _ _ _ _ _ (fCall $x _));refine' ve_callB $y $z (by rfl) (by assumption) $w _))
|`(tactic|rw[7105,$x:term,$y:term,$z:term,$w:term])=>`(tactic|((with_reducible show VE _ _ _ _ _ (fCall $x _));refine' ve_callTy $y $z (by rfl) (by assumption) $w _))
|`(tactic|rw[7106,$x:term,$y:term,$z:term])=>`(tactic|((with_reducible show $x);refine' ⟨_,$y,$z⟩))
local macro_rules
|`([7006])=>`((by first|exact Or.inl rfl|exact Or.inr rfl))
|`([7007])=>`((by first|exact boot_int|exact boot_str|exact boot_bool|exact boot_list|exact boot_tuple|exact boot_dict))
|`([7001])=>`(⟨rfl,rfl,rfl,by decide +kernel,rfl,by decide +kernel,by decide +kernel⟩)
|`([7000,$a])=>`((by have nd:=($a).nd;have hu:=hu_of hr;have hu64:=hr.units;cases B;repeat' first|((with_reducible show VE _ _ _ _ _ _);first|rw[7101,(fDat _),VE.data _ (.mv [])]|rw[7101,(fDat _),VE.data _ _]|rw[7101,(fVar _),vx _ (pv _)]|rw[7101,(fVar _),ve_bo _ (pv _)]|rw[7101,(fVar _),ve_mv _ rfl (pv _)]|rw[7101,(fC _),ve_int]|rw[7101,(fC _),ve_str]|rw[7101,(fC _),ve_bl]|rw[7101,(fC _),ve_non]|rw[7101,(fC _),ve_C (c:=.mv []) (fun _ _=>.mkI _) (pe_gint rfl (by assumption))]|rw[7101,(fC _),ve_C (c:=.mv []) (fun _ _=>.mkTy _) (pe_bty rfl (by assumption) [7007])]|rw[7101,(fC _),ve_C (c:=.mv []) (fun _ _=>.mkS _) (pe_glob rfl (by assumption) ⟨_,rfl⟩)]|rw[7101,(fC _),ve_gc rfl (by assumption)]|rw[7101,(fOp vIx _ _),ve_ix hu _ _ (fun _ _=>rfl)]|rw[7103,VE _ _ _ _ (.BinOp _ _ _ _) _,ve_opT _ _ _]|rw[7103,VE _ _ _ _ (.Compare _ [_] [_] _) _,ve_cmpT _ _ _]|rw[7103,VE _ _ _ _ (.Compare _ [_,_] _ _) _,ve_chainT _ _ _ _ _]|rw[7101,(fTup _),ve_tup _]|rw[7101,(fLst _),ve_lst _]|rw[7101,(fLC _ _ _ _ _ _),ve_lcT _ _ _ _ _]|rw[7104,vLen,cv_len,cr_len,PySem.boot_len]|rw[7104,vIsInst,cv_isinst,cr_isinst,boot_isinstance]|rw[7105,vList,cv_list,(cr_list rfl),boot_list]|rw[7105,vTuple,cv_tuple,call_tuple_of,boot_tuple]|rw[7101,(fCall _ fNil),ve_call0 (by assumption) (hr.mono (by decide)) (by rfl)]|rw[7101,(fCall _ _),ve_call (by assumption) (hr.mono (by decide)) (by rfl) _]|rw[7101,(fUn _ _),ve_un un_neg uv_neg _]|rw[7101,(fNotV _),ve_not _]|rw[7103,VE _ _ _ _ (.BoolOp _ [_] _) _,ve_one _]|rw[7101,(fAndV _ _),ve_and _ _]|rw[7101,(fOrV _ _),ve_or _ _]|rw[7101,fDict0,ve_dict0 pe_dnewK]|rw[7101,(fDisp1 _ _),ve_disp1 _ _]|rw[7101,(fSl _ _ _),ve_slice _ _ _]|rw[7103,VE _ _ _ .sh _ _,VE.sh _])|rw[7103,VA _ _ _ _ [] _,va_nil (c:=.bo)]|rw[7103,VA _ _ _ _ [] _,va_nil (c:=.mv [])]|rw[7103,VA _ _ _ _ [] _,va_nil]|rw[7103,VA _ _ _ _ (_::_) _,va_bo _ _]|rw[7103,VA _ _ _ _ (_::_) _,va_sh _ _]|rw[7103,VA _ _ _ _ (_::_) _,va_mvT _ _ _]|rw[7103,VA _ _ _ _ (_::_) _,va_mv (L1:=[]) (L2:=[]) _ _]|((with_reducible show VS _ _ _ _ _);first|rw[7103,VS _ _ _ (.Return (some _) _) (fRet _),vs_retT _ _]|rw[7103,VS _ _ _ (.Return none _) _,vs_retN]|rw[7103,VS _ _ _ (.If _ _ _ _) _,vs_if _ _ _]|rw[7102,(fWh _ _ _),vs_while _ PassesOwn.never _ _]|rw[7102,(fForS _ _ _),vs_for PassesOwn.never rfl _ _ _]|rw[7103,VS _ _ _ (.Pass _) _,vs_pass]|rw[7103,VS _ _ _ (.Break _) _,vs_break]|rw[7103,VS _ _ _ (.Continue _) _,vs_continue]|rw[7102,fNx,vs_doc]|rw[7102,fNever,vs_never]|rw[7102,(fSet _ (fLC _ _ _ _ _ _)),vs_set_sh rfl (ps_shC (ps_lcT nd _ _ _ _ _))]|rw[7102,(fSet _ (fLC _ _ _ _ _ _)),vs_set_ow (by decide) (ps_lcT nd _ _ _ _ _)]|rw[7102,(fSet _ (fLC _ _ _ _ _ _)),vs_set_sh rfl (psI _ nd _)]|rw[7102,(fSet _ (fLC _ _ _ _ _ _)),vs_set_ow (by decide) (psI _ nd _)]|rw[7102,(fSet _ _),vs_set_sh rfl (psI _ nd _)]|rw[7102,(fSet _ _),vs_set_ow (by decide) (psI _ nd _)]|rw[7102,(fAsg _ _),vs_asg _ _]|rw[7102,(fAppend _ _),vs_append _ (by decide) (ps_expr (pe_bm PySem.F.plainAttrs_list PySem.F.slot_list_append PySem.F.type_list_append mt_append (pv _) (pa_cons _ pa_nil)))]|rw[7102,(fExtendA _ _),vs_extendA _ (by decide) (ps_expr (pe_bm PySem.F.plainAttrs_list PySem.F.slot_list_extend PySem.F.type_list_extend mt_extendA (pv _) (pa_cons _ pa_nil)))]|rw[7102,(fSetI _ _ _),vs_seti _ (by decide) (ps_asg _ (pg_sub (pv _) _ set_list)) (ps_dput hu (pv _) _ _ rfl)]|rw[7102,(fPop _ _),vs_pop _ _ (by decide) (by decide) (psI _ nd (pe_bm0 PySem.F.plainAttrs_list PySem.F.slot_list_pop PySem.F.type_list_pop mt_pop (pv _)))])|rw[7103,VSs _ _ _ _ _,vss_nil]|rw[7103,VSs _ _ _ _ _,vss_one _]|rw[7103,VSs _ _ _ _ _,vss_cons _ _]|rw[7103,VT _ _ _ (.Compare _ [_] [_] _) _,vt_cmpT _ _ _]|rw[7103,VT _ _ _ (.Compare _ [_,_] _ _) _,vt_chainT _ _ _ _ _]|rw[7103,VT _ _ _ _ (fNot _),vt_not _]|rw[7103,VT _ _ _ _ (fAnd _ _),VW.vt _]|rw[7103,VT _ _ _ _ (fOr _ _),VW.vt _]|rw[7103,VT _ _ _ _ (fTru _),vt_truth _ (fun _=>rfl)]|rw[7106,OpT _ _ vLt,op_lt,ov_lt]|rw[7106,OpT _ _ vLe,op_le,ov_le]|rw[7106,OpT _ _ vGt,op_gt,ov_gt]|rw[7106,OpT _ _ vGe,op_ge,ov_ge]|rw[7106,OpT _ _ vEq,op_eqD hu64,ov_eq]|rw[7106,OpT _ _ vInE,or_in hu,ov_in]|rw[7106,OpT _ _ vNotIn,or_notIn hu,ov_notIn]|rw[7106,OpB _ _ vAdd,or_add,ov_add]|rw[7106,OpB _ _ vSub,op_sub,ov_sub]|rw[7106,OpB _ _ vMul,or_mul,ov_mul]|rw[7106,OpB _ _ vFdiv,op_fdiv,ov_fdiv]|rw[7106,OpB _ _ vMod,op_mod,ov_mod]|rw[7106,OpB _ _ vPow,op_pow,ov_pow]|rw[7103,VW _ _ _ (.BoolOp .And [_] _) _,vw_and1 _]|rw[7103,VW _ _ _ (.BoolOp .Or [_] _) _,vw_or1 _]|rw[7103,VW _ _ _ (.BoolOp .And _ _) _,vw_and _ _]|rw[7103,VW _ _ _ (.BoolOp .Or _ _) _,vw_or _ _]|rw[7103,VIt _ _ _ _ _ _ (fRng1 _),vi_rng1 _ (by rfl) (by assumption) _]|rw[7103,VIt _ _ _ _ _ _ (fRng3 _),vi_rng3 _ (by rfl) (by assumption) _]|rw[7103,VIt _ _ _ _ _ _ (fSeqOf _),vi_seq _ _]|rw[7103,VG _ _ _ _ _ (bName _),vgI _ (by assumption)]|rw[7103,VG _ _ _ _ _ (bTup _ _),vg_tup _ (by rfl) _]|rw[7103,VGs _ _ _ _ [] _,vgs_nil]|rw[7103,VGs _ _ _ _ _ _,vgs_cons _ _]|rw[7103,VTs _ _ _ [] _,vts_nil]|rw[7103,VTs _ _ _ [_] _,vts_one _]|rw[7103,VTi _ _ _ _ _ _,vti_cmpLT _ _ _]|rw[7103,VO _ _ _ none _,vo_none]|rw[7103,VO _ _ _ _ _,vo_some _]|((with_reducible show PE _ _ (tV _ _ _ _ _));show VE _ _ _ _ _ _)|((with_reducible show PE _ _ (tVm _ _ _ _ _));show VEm _ _ _ _ _ _)|((with_reducible show PE _ _ (tVi _ _ _ _ _));show VEi _ _ _ _ _ _)|decide|intro _ _ _ _))
set_option hygiene true
noncomputable abbrev s__law_cell:Stmt:=top 21
theorem sc__law_cell:FnScope ["_law_script","_law_k","_law_number"] ["_law_script","_law_k"] (defScope s__law_cell):=[7001]
theorem ok__law_cell(F:Fun K "_law_cell" "_law_cell" s__law_cell f fd)(B:Blt mg):FnOk P w K mg base CX0 1 f fd ["_law_script","_law_k"] (spV K 2 Φ__law_cell):=
 fn_V [] rfl rfl (by decide) F sc__law_cell fun _ _ _ _ _ _ hr=>by
  delta g__law_cell
  exact [7000,sc__law_cell]
noncomputable abbrev s__law_row:Stmt:=top 22
theorem sc__law_row:FnScope ["_law_script","_law_k","_law_count","_law_base","_law_cell_here","_law_found","_law_j","_law_one","_law_two"] ["_law_script","_law_k","_law_count","_law_base"] (defScope s__law_row):=[7001]
theorem ok__law_row(F:Fun K "_law_row" "_law_row" s__law_row f fd)(B:Blt mg)(c__law_cell:(Fn P w K mg base "_law_cell" 1 ["_law_script","_law_k"] (spV K 2 Φ__law_cell))):FnOk P w K mg base CX0 2 f fd ["_law_script","_law_k","_law_count","_law_base"] (spV K 4 Φ__law_row):=
 fn_V [5] rfl rfl (by decide) F sc__law_row fun _ _ _ _ _ _ hr=>by
  delta g__law_row b__law_row_1
  exact [7000,sc__law_row]
noncomputable abbrev s__law_beside:Stmt:=top 23
theorem sc__law_beside:FnScope ["_law_wide","_law_high","_law_place","_law_found","_law_other"] ["_law_wide","_law_high","_law_place"] (defScope s__law_beside):=[7001]
theorem ok__law_beside(F:Fun K "_law_beside" "_law_beside" s__law_beside f fd)(B:Blt mg):FnOk P w K mg base CX0 1 f fd ["_law_wide","_law_high","_law_place"] (spV K 3 Φ__law_beside):=
 fn_V [3] rfl rfl (by decide) F sc__law_beside fun _ _ _ _ _ _ hr=>by
  delta g__law_beside b__law_beside_1 b__law_beside_2
  exact [7000,sc__law_beside]
noncomputable abbrev s__law_flood:Stmt:=top 24
theorem sc__law_flood:FnScope ["_law_wide","_law_high","_law_starts","_law_some","_law_seen","_law_row_here","_law_place"] ["_law_wide","_law_high","_law_starts","_law_some"] (defScope s__law_flood):=[7001]
theorem ok__law_flood(F:Fun K "_law_flood" "_law_flood" s__law_flood f fd)(B:Blt mg)(c__law_beside:(Fn P w K mg base "_law_beside" 1 ["_law_wide","_law_high","_law_place"] (spV K 3 Φ__law_beside))):FnOk P w K mg base CX0 2 f fd ["_law_wide","_law_high","_law_starts","_law_some"] (spV K 4 Φ__law_flood):=
 fn_V [4,5] rfl rfl (by decide) F sc__law_flood fun _ _ _ _ _ _ hr=>by
  delta g__law_flood b__law_flood_1 t__law_flood_1
  have n0:(["_law_place","_law_some"]:List Str).Nodup:=by decide +kernel
  have n1:(["_law_other","_law_some"]:List Str).Nodup:=by decide +kernel
  exact [7000,sc__law_flood]
noncomputable abbrev s__law_outside:Stmt:=top 25
theorem sc__law_outside:FnScope ["_law_wide","_law_high","_law_some","_law_bare","_law_edge","_law_place"] ["_law_wide","_law_high","_law_some"] (defScope s__law_outside):=[7001]
theorem ok__law_outside(F:Fun K "_law_outside" "_law_outside" s__law_outside f fd)(B:Blt mg)(c__law_flood:(Fn P w K mg base "_law_flood" 2 ["_law_wide","_law_high","_law_starts","_law_some"] (spV K 4 Φ__law_flood))):FnOk P w K mg base CX0 3 f fd ["_law_wide","_law_high","_law_some"] (spV K 3 Φ__law_outside):=
 fn_V [4] rfl rfl (by decide) F sc__law_outside fun _ _ _ _ _ _ hr=>by
  delta g__law_outside b__law_outside_1
  have n0:(["_law_place","_law_some"]:List Str).Nodup:=by decide +kernel
  exact [7000,sc__law_outside]
noncomputable abbrev s__law_floor:Stmt:=top 26
theorem sc__law_floor:FnScope ["_law_script","_law_k","_law_wide","_law_high","_law_digits","_law_some","_law_left","_law_out"] ["_law_script","_law_k"] (defScope s__law_floor):=[7001]
theorem ok__law_floor(F:Fun K "_law_floor" "_law_floor" s__law_floor f fd)(B:Blt mg)(c__law_row:(Fn P w K mg base "_law_row" 2 ["_law_script","_law_k","_law_count","_law_base"] (spV K 4 Φ__law_row)))(c__law_flood:(Fn P w K mg base "_law_flood" 2 ["_law_wide","_law_high","_law_starts","_law_some"] (spV K 4 Φ__law_flood)))(c__law_outside:(Fn P w K mg base "_law_outside" 3 ["_law_wide","_law_high","_law_some"] (spV K 3 Φ__law_outside)))(c__law_cell:(Fn P w K mg base "_law_cell" 1 ["_law_script","_law_k"] (spV K 2 Φ__law_cell))):FnOk P w K mg base CX0 4 f fd ["_law_script","_law_k"] (spV K 2 Φ__law_floor):=
 fn_V [] rfl rfl (by decide) F sc__law_floor fun _ _ _ _ _ _ hr=>by
  delta g__law_floor
  have n0:(["_law_number"]:List Str).Nodup:=by decide +kernel
  have n1:(["_law_place","_law_digits"]:List Str).Nodup:=by decide +kernel
  have n2:(["_law_place","_law_out"]:List Str).Nodup:=by decide +kernel
  exact [7000,sc__law_floor]
noncomputable abbrev s__law_wrong_fields:Stmt:=top 27
theorem sc__law_wrong_fields:FnScope ["_law_floor_here","_law_cell_here","_law_wide","_law_high","_law_fields","_law_at","_law_way","_law_some"] ["_law_floor_here","_law_cell_here"] (defScope s__law_wrong_fields):=[7001]
theorem ok__law_wrong_fields(F:Fun K "_law_wrong_fields" "_law_wrong_fields" s__law_wrong_fields f fd)(B:Blt mg):FnOk P w K mg base CX0 1 f fd ["_law_floor_here","_law_cell_here"] (spV K 2 Φ__law_wrong_fields):=
 fn_V (g:=g__law_wrong_fields) (n:=2) (m:=8) [] rfl rfl (by decide) F sc__law_wrong_fields fun cdv A outer s H E hr=>by
  have nd:=sc__law_wrong_fields.nd
  have hu:=hu_of hr
  have hu64:=hr.units
  exact (vss_cons (vs_asg (vx 0 (pv 0)) (vg_tup 3 rfl (vgs_cons (vgI 2 nd) (vgs_cons (vgI 3 nd) (vgs_cons (vgI 4 nd) vgs_nil)))))
   (vss_cons (vs_set_sh (i:=5) rfl (psI 5 nd (VE.sh (ve_op op_mod ov_mod (ve_op op_fdiv ov_fdiv (vx 1 (pv 1)) ve_int) (ve_callB cv_len cr_len (by rfl) B.len_ PySem.boot_len (va1 (vx 4 (pv 4))))))))
   (vss_cons (vs_set_sh (i:=6) rfl (psI 6 nd (VE.sh (ve_op op_mod ov_mod (vx 1 (pv 1)) ve_int))))
   (vss_cons (vs_set_sh (i:=7) rfl (psI 7 nd (VE.sh (ve_callTy cv_list (cr_list rfl) (by rfl) B.list_ boot_list (va1 (vx 4 (pv 4)))))))
   (vss_cons (vs_ifz (vt_cmp (op_eqD hu64) ov_eq (vx 6 (pv 6)) ve_int (nomark _)) (vsz_retIx hu (va_mv (ve_lst (va_nil (c:=.mv []))) (va_mv (ve_tup (va_nil (c:=.mv []))) (va_mv ve_non (va_mv ve_int (va_mv ve_str (va_mv (ve_dict0 pe_dnewK) (va_mv (ve_disp1 ve_int ve_bl) (va_mv ve_bl (va_nil (c:=.mv [])))))))))) (ve_op op_mod ov_mod (ve_op op_fdiv ov_fdiv (vx 1 (pv 1)) ve_int) ve_int) (fun _ _=>rfl)) vss_nil)
   (vss_cons (vs_if (vt_cmp (op_eqD hu64) ov_eq (vx 6 (pv 6)) ve_int (nomark _)) (vss_one (vs_ret (ve_op or_add ov_add (ve_slice (vx 7 (pv 7)) vo_none (vo_some (ve_op or_add ov_add (vx 5 (pv 5)) ve_int))) (ve_slice (vx 7 (pv 7)) (vo_some (vx 5 (pv 5))) vo_none)))) vss_nil)
   (vss_cons (vs_if (VW.vt (vw_and (vt_cmp (op_eqD hu64) ov_eq (vx 6 (pv 6)) ve_int (nomark _)) (vw_and1 (vt_cmp op_gt ov_gt (ve_callB cv_len cr_len (by rfl) B.len_ PySem.boot_len (va1 (vx 7 (pv 7)))) ve_int (nomark _))))) (vss_one (vs_ret (ve_op or_add ov_add (ve_slice (vx 7 (pv 7)) (vo_some ve_int) vo_none) (ve_slice (vx 7 (pv 7)) vo_none (vo_some ve_int))))) vss_nil)
   (vss_cons (vs_if (vt_cmp (op_eqD hu64) ov_eq (vx 6 (pv 6)) ve_int (nomark _)) (vss_one (vs_ret (ve_op or_add ov_add (vx 7 (pv 7)) (ve_lst (va1 (ve_op or_add ov_add (ve_op or_mul ov_mul (vx 2 (pv 2)) (vx 3 (pv 3))) (ve_op op_mod ov_mod (ve_op op_fdiv ov_fdiv (vx 1 (pv 1)) ve_int) ve_int))))))) vss_nil)
   (vss_cons (vs_if (vt_cmp (op_eqD hu64) ov_eq (vx 6 (pv 6)) ve_int (nomark _)) (vss_one (vs_ret (ve_op or_add ov_add (ve_lst (va1 (ve_op op_sub ov_sub (ve_un un_neg uv_neg ve_int) (ve_op op_mod ov_mod (ve_op op_fdiv ov_fdiv (vx 1 (pv 1)) ve_int) ve_int)))) (vx 7 (pv 7))))) vss_nil)
   (vss_cons (vs_if (vt_cmp (op_eqD hu64) ov_eq (vx 6 (pv 6)) ve_int (nomark _)) (vss_one (vs_ret (ve_addA (ve_addA (ve_slice (vx 7 (pv 7)) vo_none (vo_some (vx 5 (pv 5)))) (ve_lst (va_mv (ve_ix hu (ve_lst (va_mv ve_bl (va_mv ve_str (va_mv ve_non (va_mv (ve_tup (va_mv ve_int (va_nil (c:=.mv [])))) (va_mv (ve_lst (va_mv ve_int (va_nil (c:=.mv [])))) (va_mv ve_bl (va_nil (c:=.mv []))))))))) (ve_op op_mod ov_mod (ve_op op_fdiv ov_fdiv (vx 1 (pv 1)) ve_int) ve_int) (fun _ _=>rfl)) (va_nil (c:=.mv []))))) (ve_slice (vx 7 (pv 7)) (vo_some (ve_op or_add ov_add (vx 5 (pv 5)) ve_int)) vo_none)))) vss_nil)
   (vss_cons (vs_if (vt_cmp (op_eqD hu64) ov_eq (vx 6 (pv 6)) ve_int (nomark _)) (vss_one (vs_ret (ve_op or_add ov_add (ve_op or_add ov_add (ve_lst (va1 ve_int)) (ve_lc (ow:=["_law_place"]) (js:=[]) (.mv []) (Or.inl rfl) (by decide) rfl (vi_rng3 false (by rfl) B.range_ (va_bo ve_int (va_bo (ve_op or_mul ov_mul (vx 2 (pv 2)) (vx 3 (pv 3))) (va1 ve_int)))) (fun _ _ _ _=>(vgI 0 (show (["_law_place"]:List Str).Nodup by decide +kernel))) (fun _ _ _ _=>vts_nil) (fun _ _ _ _=>(VE.data (vx 0 (pv 0)) (.mv []))))) (ve_lst (va1 (ve_op or_mul ov_mul (vx 2 (pv 2)) (vx 3 (pv 3)))))))) vss_nil)
   (vss_one (vs_ret (ve_op or_add ov_add (vx 7 (pv 7)) (vx 7 (pv 7))))))))))))))))

noncomputable abbrev s_is_outermost:Stmt:=top 15
theorem sc_is_outermost:FnScope ["wide","high","place"] ["wide","high","place"] (defScope s_is_outermost):=[7001]
theorem ok_is_outermost(F:Fun K "is_outermost" "is_outermost" s_is_outermost f fd)(B:Blt mg):FnOk P w K mg base CX0 1 f fd ["wide","high","place"] (spV K 3 Φ_is_outermost):=
 fn_V [] rfl rfl (by decide) F sc_is_outermost fun _ _ _ _ _ _ hr=>by
  delta g_is_outermost
  exact [7000,sc_is_outermost]
noncomputable abbrev s_places_beside:Stmt:=top 14
theorem sc_places_beside:FnScope ["wide","high","place","x","y","found"] ["wide","high","place"] (defScope s_places_beside):=[7001]
theorem ok_places_beside(F:Fun K "places_beside" "places_beside" s_places_beside f fd)(B:Blt mg):FnOk P w K mg base CX0 1 f fd ["wide","high","place"] (spV K 3 Φ_places_beside):=
 fn_V [5] rfl rfl (by decide) F sc_places_beside fun _ _ _ _ _ _ hr=>by
  delta g_places_beside
  exact [7000,sc_places_beside]
noncomputable abbrev s_reached:Stmt:=top 16
theorem sc_reached:FnScope ["wide","high","starts","places","found","waiting","place"] ["wide","high","starts","places"] (defScope s_reached):=[7001]
theorem ok_reached(F:Fun K "reached" "reached" s_reached f fd)(B:Blt mg)(c_places_beside:(Fn P w K mg base "places_beside" 1 ["wide","high","place"] (spV K 3 Φ_places_beside))):FnOk P w K mg base CX0 2 f fd ["wide","high","starts","places"] (spV K 4 Φ_reached):=
 fn_V [4,5] rfl rfl (by decide) F sc_reached fun _ _ _ _ _ _ hr=>by
  delta g_reached b_reached_1 t_reached_1
  have n0:(["other","places"]:List Str).Nodup:=by decide +kernel
  exact [7000,sc_reached]
noncomputable abbrev s_have_hole:Stmt:=top 18
theorem sc_have_hole:FnScope ["wide","high","fields","empty","rim"] ["wide","high","fields"] (defScope s_have_hole):=[7001]
theorem ok_have_hole(F:Fun K "have_hole" "have_hole" s_have_hole f fd)(B:Blt mg)(c_is_outermost:(Fn P w K mg base "is_outermost" 1 ["wide","high","place"] (spV K 3 Φ_is_outermost)))(c_reached:(Fn P w K mg base "reached" 2 ["wide","high","starts","places"] (spV K 4 Φ_reached))):FnOk P w K mg base CX0 3 f fd ["wide","high","fields"] (spV K 3 Φ_have_hole):=
 fn_V [] rfl rfl (by decide) F sc_have_hole fun _ _ _ _ _ _ hr=>by
  delta g_have_hole
  have n0:(["place","fields"]:List Str).Nodup:=by decide +kernel
  have n1:(["place","wide","high"]:List Str).Nodup:=by decide +kernel
  exact [7000,sc_have_hole]
noncomputable abbrev s_is_whole:Stmt:=top 11
theorem sc_is_whole:FnScope ["thing"] ["thing"] (defScope s_is_whole):=[7001]
theorem ok_is_whole(F:Fun K "is_whole" "is_whole" s_is_whole f fd)(B:Blt mg):FnOk P w K mg base CX0 1 f fd ["thing"] (spV K 1 Φ_is_whole):=
 fn_V [] rfl rfl (by decide) F sc_is_whole fun _ _ _ _ _ _ hr=>by
  delta g_is_whole
  exact [7000,sc_is_whole]
noncomputable abbrev s_are_fields:Stmt:=top 13
theorem sc_are_fields:FnScope ["wide","high","fields","ahead","field"] ["wide","high","fields"] (defScope s_are_fields):=[7001]
theorem ok_are_fields(F:Fun K "are_fields" "are_fields" s_are_fields f fd)(B:Blt mg)(c_is_whole:(Fn P w K mg base "is_whole" 1 ["thing"] (spV K 1 Φ_is_whole))):FnOk P w K mg base CX0 2 f fd ["wide","high","fields"] (spV K 3 Φ_are_fields):=
 fn_V [] rfl rfl (by decide) F sc_are_fields fun _ _ _ _ _ _ hr=>by
  delta g_are_fields b_are_fields_1
  exact [7000,sc_are_fields]
noncomputable abbrev s_hang_together:Stmt:=top 17
theorem sc_hang_together:FnScope ["wide","high","fields"] ["wide","high","fields"] (defScope s_hang_together):=[7001]
theorem ok_hang_together(F:Fun K "hang_together" "hang_together" s_hang_together f fd)(B:Blt mg)(c_reached:(Fn P w K mg base "reached" 2 ["wide","high","starts","places"] (spV K 4 Φ_reached))):FnOk P w K mg base CX0 3 f fd ["wide","high","fields"] (spV K 3 Φ_hang_together):=
 fn_V [] rfl rfl (by decide) F sc_hang_together fun _ _ _ _ _ _ hr=>by
  delta g_hang_together
  exact [7000,sc_hang_together]
noncomputable abbrev s_is_length:Stmt:=top 12
theorem sc_is_length:FnScope ["thing"] ["thing"] (defScope s_is_length):=[7001]
theorem ok_is_length(F:Fun K "is_length" "is_length" s_is_length f fd)(B:Blt mg){t_MOST_PLACES:Tok}(h_MOST_PLACES:mg "MOST_PLACES"=some (.int 6 t_MOST_PLACES))(c_is_whole:(Fn P w K mg base "is_whole" 1 ["thing"] (spV K 1 Φ_is_whole))):FnOk P w K mg base CX0 2 f fd ["thing"] (spV K 1 Φ_is_length):=
 fn_V [] rfl rfl (by decide) F sc_is_length fun _ _ _ _ _ _ hr=>by
  delta g_is_length
  exact [7000,sc_is_length]
noncomputable abbrev s_floor_of:Stmt:=top 19
theorem sc_floor_of:FnScope ["wide","high","fields","kept"] ["wide","high","fields"] (defScope s_floor_of):=[7001]
theorem ok_floor_of(F:Fun K "floor_of" "floor_of" s_floor_of f fd)(B:Blt mg)
  (c_have_hole:Fn P w K mg base "have_hole" 3 ["wide","high","fields"] (spV K 3 Φ_have_hole))
  (c_are_fields:Fn P w K mg base "are_fields" 2 ["wide","high","fields"] (spV K 3 Φ_are_fields))
  (c_hang_together:Fn P w K mg base "hang_together" 3 ["wide","high","fields"] (spV K 3 Φ_hang_together))
  (c_is_length:Fn P w K mg base "is_length" 2 ["thing"] (spV K 1 Φ_is_length)):FnOk P w K mg base CX0 4 f fd ["wide","high","fields"] (spV K 3 Φ_floor_of):=
 fn_V (g:=g_floor_of) (n:=3) (m:=4) [] rfl rfl (by decide) F sc_floor_of fun cdv A outer s H E hr=>by
  have nd:=sc_floor_of.nd
  have hu:=hu_of hr
  have hu64:=hr.units
  exact (vss_cons (vs_if (VW.vt (vw_or (vt_not (vt_truth (ve_call c_is_length (hr.mono (by decide)) rfl (va1 (vx 0 (pv 0)))) (fun _=>rfl))) (vw_or1 (vt_not (vt_truth (ve_call c_is_length (hr.mono (by decide)) rfl (va1 (vx 1 (pv 1)))) (fun _=>rfl)))))) (vss_one vs_never) vss_nil)
   (vss_cons (vs_if (vt_not (vt_truth (ve_callB cv_isinst cr_isinst (by rfl) B.isinstance_ boot_isinstance (va_bo (vx 2 (pv 2)) (va1 (ve_tup (va_bo (ve_C (c:=.mv []) (fun _ _=>.mkTy _) (pe_bty rfl B.list_ boot_list)) (va1 (ve_C (c:=.mv []) (fun _ _=>.mkTy _) (pe_bty rfl B.tuple_ boot_tuple)))))))) (fun _=>rfl))) (vss_one vs_never) vss_nil)
   (vss_cons (vs_set_sh (i:=3) rfl (psI 3 nd (ve_tupleA (by rfl) B.tuple_ (vx 2 (pv 2)))))
   (vss_cons (vs_if (vt_not (vt_truth (ve_call c_are_fields (hr.mono (by decide)) rfl (va_bo (vx 0 (pv 0)) (va_bo (vx 1 (pv 1)) (va1 (vx 3 (pv 3)))))) (fun _=>rfl))) (vss_one vs_never) vss_nil)
   (vss_cons (vs_if (vt_not (vt_truth (ve_call c_hang_together (hr.mono (by decide)) rfl (va_bo (vx 0 (pv 0)) (va_bo (vx 1 (pv 1)) (va1 (vx 3 (pv 3)))))) (fun _=>rfl))) (vss_one vs_never) vss_nil)
   (vss_cons (vs_if (vt_truth (ve_call c_have_hole (hr.mono (by decide)) rfl (va_bo (vx 0 (pv 0)) (va_bo (vx 1 (pv 1)) (va1 (vx 3 (pv 3)))))) (fun _=>rfl)) (vss_one vs_never) vss_nil)
   (vss_one (vs_ret (ve_tup (va_mv (VE.data (vx 0 (pv 0)) (.mv [])) (va_mv (VE.data (vx 1 (pv 1)) (.mv [])) (va_mv (VE.data (vx 3 (pv 3)) (.mv [])) (va_nil (c:=.mv []))))))))))))))

theorem okE_floor_of(F:Fun K "floor_of" "floor_of" s_floor_of f fd)(B:Blt mg)
  (hE:ExM K mg)
  (c_have_hole:Fn P w K mg base "have_hole" 3 ["wide","high","fields"] (spV K 3 Φ_have_hole))
  (c_are_fields:Fn P w K mg base "are_fields" 2 ["wide","high","fields"] (spV K 3 Φ_are_fields))
  (c_hang_together:Fn P w K mg base "hang_together" 3 ["wide","high","fields"] (spV K 3 Φ_hang_together))
  (c_is_length:Fn P w K mg base "is_length" 2 ["thing"] (spV K 1 Φ_is_length)):FnOk P w K mg base (CXe P w) 4 f fd ["wide","high","fields"] (spE K 3 R_floor_of):=
 fn_X (r:=r_floor_of) (n:=3) (m:=4) [] rfl rfl (by decide) F sc_floor_of fun cdv A outer s H E hr=>by
  have nd:=sc_floor_of.nd
  have hu:=hu_of hr
  have hu64:=hr.units
  exact (vx_if (VW.vt (vw_or (vt_not (vt_truth (ve_call c_is_length (hr.mono (by decide)) rfl (va1 (vx 0 (pv 0)))) (fun _=>rfl))) (vw_or1 (vt_not (vt_truth (ve_call c_is_length (hr.mono (by decide)) rfl (va1 (vx 1 (pv 1)))) (fun _=>rfl)))))) (vx_raise rfl hE (by decide +kernel) (by rfl))
   (vx_if (vt_not (vt_truth (ve_callB cv_isinst cr_isinst (by rfl) B.isinstance_ boot_isinstance (va_bo (vx 2 (pv 2)) (va1 (ve_tup (va_bo (ve_C (c:=.mv []) (fun _ _=>.mkTy _) (pe_bty rfl B.list_ boot_list)) (va1 (ve_C (c:=.mv []) (fun _ _=>.mkTy _) (pe_bty rfl B.tuple_ boot_tuple)))))))) (fun _=>rfl))) (vx_raise rfl hE (by decide +kernel) (by rfl))
   (vx_seq (vs_set_sh (i:=3) rfl (psI 3 nd (ve_tupleA (by rfl) B.tuple_ (vx 2 (pv 2)))))
   (vx_if (vt_not (vt_truth (ve_call c_are_fields (hr.mono (by decide)) rfl (va_bo (vx 0 (pv 0)) (va_bo (vx 1 (pv 1)) (va1 (vx 3 (pv 3)))))) (fun _=>rfl))) (vx_raise rfl hE (by decide +kernel) (by rfl))
   (vx_if (vt_not (vt_truth (ve_call c_hang_together (hr.mono (by decide)) rfl (va_bo (vx 0 (pv 0)) (va_bo (vx 1 (pv 1)) (va1 (vx 3 (pv 3)))))) (fun _=>rfl))) (vx_raise rfl hE (by decide +kernel) (by rfl))
   (vx_if (vt_truth (ve_call c_have_hole (hr.mono (by decide)) rfl (va_bo (vx 0 (pv 0)) (va_bo (vx 1 (pv 1)) (va1 (vx 3 (pv 3)))))) (fun _=>rfl)) (vx_raise rfl hE (by decide +kernel) (by rfl))
   vx_no))))))

noncomputable abbrev s__law_refused:Stmt:=top 28
theorem sc__law_refused:FnScope ["_law_wide","_law_high","_law_fields","_law_found","error","_law_others"] ["_law_wide","_law_high","_law_fields"] (defScope s__law_refused):=[7001]
theorem ok__law_refused(F:Fun K "_law_refused" "_law_refused" s__law_refused f fd)(B:Blt mg)
  (hE:ExM K mg)
  (e_floor_of:FnE P w K mg base "floor_of" 4 ["wide","high","fields"] (spE K 3 R_floor_of))
  (c_floor_of:Fn P w K mg base "floor_of" 4 ["wide","high","fields"] (spV K 3 Φ_floor_of)):FnOk P w K mg base CX0 5 f fd ["_law_wide","_law_high","_law_fields"] (spV K 3 Φ__law_refused):=
 fn_V (g:=g__law_refused) (n:=3) (m:=6) [] rfl rfl (by decide) F sc__law_refused fun cdv A outer s H E hr=>by
  have nd:=sc__law_refused.nd
  have hu:=hu_of hr
  have hu64:=hr.units
  exact (vss_cons (vs_set_sh (i:=3) rfl (psI 3 nd (VE.sh ve_non)))
   (vss_cons (vs_try 4 3 rfl (by decide) hE vs_never calls_expr e_floor_of (hr.mono (by decide)) (by rfl) (va_bo (vx 0 (pv 0)) (va_bo (vx 1 (pv 1)) (va1 (vx 2 (pv 2))))) rfl ⟨rfl,rfl⟩ nd rfl rfl rfl rfl (by rfl))
   (vss_cons (vs_if (VW.vt (vw_or (vt_not (vt_truth (ve_isE hE (by decide +kernel) (by rfl) B.isinstance_ (by rfl) (vx 3 (pv 3))) (fun _=>rfl))) (vw_or1 (vt_not (vt_truth (ve_isV hE (by rfl) B.isinstance_ (by rfl) B.ValueError_ (vx 3 (pv 3))) (fun _=>rfl)))))) (vss_one (vs_ret ve_bl)) vss_nil)
   (vss_cons (vs_set_sh (i:=5) rfl (psI 5 nd (ve_lst (va_sh (VE.sh (ve_isE hE (by decide +kernel) (by rfl) B.isinstance_ (by rfl) (vx 3 (pv 3)))) (va_sh (VE.sh (ve_isE hE (by decide +kernel) (by rfl) B.isinstance_ (by rfl) (vx 3 (pv 3)))) (va_sh (VE.sh (ve_isE hE (by decide +kernel) (by rfl) B.isinstance_ (by rfl) (vx 3 (pv 3)))) (va_sh (VE.sh (ve_isE hE (by decide +kernel) (by rfl) B.isinstance_ (by rfl) (vx 3 (pv 3)))) (va_nil (c:=.sh)))))))))
   (vss_one (vs_ret (ve_and (ve_cmp (or_notIn hu) ov_notIn ve_bl (vx 5 (pv 5)) (by with_unfolding_all rfl)) (ve_and (ve_not (ve_isE hE (by decide +kernel) (by rfl) B.isinstance_ (by rfl) (vx 3 (pv 3)))) (ve_one (ve_not (ve_isE hE (by decide +kernel) (by rfl) B.isinstance_ (by rfl) (vx 3 (pv 3)))))))))))))

noncomputable abbrev s_law:Stmt:=top 29
theorem sc_law:FnScope ["_law_script","_law_floor_here","_law_wide","_law_high","_law_fields","_law_cell_here","_law_some","_law_bad","_law_pair"] ["_law_script"] (defScope s_law):=[7001]
theorem ok_law(F:Fun K "law" "law" s_law f fd)(B:Blt mg)
  (c__law_floor:Fn P w K mg base "_law_floor" 4 ["_law_script","_law_k"] (spV K 2 Φ__law_floor))
  (c__law_wrong_fields:Fn P w K mg base "_law_wrong_fields" 1 ["_law_floor_here","_law_cell_here"] (spV K 2 Φ__law_wrong_fields))
  (c__law_cell:Fn P w K mg base "_law_cell" 1 ["_law_script","_law_k"] (spV K 2 Φ__law_cell))
  (c__law_refused:Fn P w K mg base "_law_refused" 5 ["_law_wide","_law_high","_law_fields"] (spV K 3 Φ__law_refused)):FnOk P w K mg base CX0 6 f fd ["_law_script"] (spV K 1 Φ_law):=
 fn_V (g:=g_law) (n:=1) (m:=9) [] rfl rfl (by decide) F sc_law fun cdv A outer s H E hr=>by
  have nd:=sc_law.nd
  have hu:=hu_of hr
  have hu64:=hr.units
  exact (vss_cons (vs_set_sh (i:=1) rfl (psI 1 nd (VE.sh (ve_call c__law_floor (hr.mono (by decide)) rfl (va_bo (vx 0 (pv 0)) (va1 ve_int))))))
   (vss_cons (vs_asg (vx 1 (pv 1)) (vg_tup 3 rfl (vgs_cons (vgI 2 nd) (vgs_cons (vgI 3 nd) (vgs_cons (vgI 4 nd) vgs_nil)))))
   (vss_cons (vs_for PassesOwn.never rfl (vi_seq true (VE.sh (ve_op or_add ov_add (ve_lst (va_bo (ve_call c__law_cell (hr.mono (by decide)) rfl (va_bo (vx 0 (pv 0)) (va1 ve_int))) (va_bo (ve_call c__law_cell (hr.mono (by decide)) rfl (va_bo (vx 0 (pv 0)) (va1 ve_int))) (va1 (ve_call c__law_cell (hr.mono (by decide)) rfl (va_bo (vx 0 (pv 0)) (va1 ve_int))))))) (ve_slice (vx 0 (pv 0)) (vo_some ve_int) (vo_some ve_int))))) (vgI 5 nd) (vss_cons (vs_set_sh (i:=6) rfl (psI 6 nd (VE.sh (ve_call c__law_wrong_fields (hr.mono (by decide)) rfl (va_bo (vx 1 (pv 1)) (va1 (vx 5 (pv 5))))))))
   (vss_cons (vs_if (VW.vt (vw_and (vt_truth (ve_callB cv_isinst cr_isinst (by rfl) B.isinstance_ boot_isinstance (va_bo (vx 6 (pv 6)) (va1 (ve_C (c:=.mv []) (fun _ _=>.mkTy _) (pe_bty rfl B.list_ boot_list))))) (fun _=>rfl)) (vw_and1 (vt_cmp (op_eqD hu64) ov_eq (ve_op op_mod ov_mod (ve_op op_fdiv ov_fdiv (vx 5 (pv 5)) ve_int) ve_int) ve_int (nomark _))))) (vss_one (vs_set_sh (i:=6) rfl (psI 6 nd (ve_tupleA (by rfl) B.tuple_ (vx 6 (pv 6)))))) vss_nil)
   (vss_cons (vs_if (vt_not (vt_truth (ve_call c__law_refused (hr.mono (by decide)) rfl (va_bo (vx 2 (pv 2)) (va_bo (vx 3 (pv 3)) (va1 (vx 6 (pv 6)))))) (fun _=>rfl))) (vss_one (vs_ret ve_bl)) vss_nil)
   (vss_cons (vs_set_sh (i:=7) rfl (psI 7 nd (VE.sh (ve_ix hu (ve_lst (va_mv ve_int (va_mv ve_int (va_mv (ve_op op_sub ov_sub (ve_un un_neg uv_neg ve_int) (ve_op op_mod ov_mod (ve_op op_fdiv ov_fdiv (vx 5 (pv 5)) ve_int) (ve_op op_pow ov_pow ve_int ve_int))) (va_mv (ve_op or_add ov_add ve_int (ve_op op_mod ov_mod (ve_op op_fdiv ov_fdiv (vx 5 (pv 5)) ve_int) (ve_op op_pow ov_pow ve_int ve_int))) (va_mv ve_bl (va_mv ve_str (va_mv ve_non (va_mv (ve_tup (va_mv ve_int (va_nil (c:=.mv [])))) (va_mv ve_bl (va_nil (c:=.mv [])))))))))))) (ve_op op_mod ov_mod (ve_op op_fdiv ov_fdiv (vx 5 (pv 5)) ve_int) ve_int) (fun _ _=>rfl)))))
   (vss_cons (vs_set_sh (i:=8) rfl (psI 8 nd (ve_ix hu (ve_lst (va_sh (ve_tup (va_sh (vx 7 (pv 7)) (va_sh (vx 3 (pv 3)) (va_nil (c:=.sh))))) (va_sh (ve_tup (va_sh (vx 2 (pv 2)) (va_sh (vx 7 (pv 7)) (va_nil (c:=.sh))))) (va_sh (ve_tup (va_sh (vx 7 (pv 7)) (va_sh (vx 7 (pv 7)) (va_nil (c:=.sh))))) (va_nil (c:=.sh)))))) (ve_op op_mod ov_mod (vx 5 (pv 5)) ve_int) (fun _ _=>rfl))))
   (vss_one (vs_if (vt_not (vt_truth (ve_call c__law_refused (hr.mono (by decide)) rfl (va_bo (ve_ix hu (vx 8 (pv 8)) ve_int (fun _ _=>rfl)) (va_bo (ve_ix hu (vx 8 (pv 8)) ve_int (fun _ _=>rfl)) (va1 (ve_callTy cv_list (cr_list rfl) (by rfl) B.list_ boot_list (va1 (vx 4 (pv 4)))))))) (fun _=>rfl))) (vss_one (vs_ret ve_bl)) vss_nil))))))))
   (vss_one (vs_ret ve_bl)))))


open PySem.W
theorem len1{us:List Value}(h:us.length=1):∃ a,us=[a]:=List.length_eq_one_iff.mp h
theorem len2{us:List Value}(h:us.length=2):∃ a0 a1,us=[a0,a1]:=by
 cases us with
 | nil=>cases h
 | cons a0 r=>obtain ⟨a1,rfl⟩:=len1 (us:=r) (Nat.succ.inj h);exact ⟨a0,a1,rfl⟩
theorem len3{us:List Value}(h:us.length=3):∃ a0 a1 a2,us=[a0,a1,a2]:=by
 cases us with
 | nil=>cases h
 | cons a0 r=>obtain ⟨a1,a2,rfl⟩:=len2 (us:=r) (Nat.succ.inj h);exact ⟨a0,a1,a2,rfl⟩
theorem len4{us:List Value}(h:us.length=4):∃ a0 a1 a2 a3,us=[a0,a1,a2,a3]:=by
 cases us with
 | nil=>cases h
 | cons a0 r=>obtain ⟨a1,a2,a3,rfl⟩:=len3 (us:=r) (Nat.succ.inj h);exact ⟨a0,a1,a2,a3,rfl⟩
theorem all_mk{l:PySem.W.OpenLaw}{w:World}{K:PySem.W.Frag}{h:Heap}{mg:Str->Option Value}{fa:Addr}(X:K.In h)(G:h.Ns mainGlobals mg)(hfa:mg "law"=some (.ref fa)){t_MOST_PLACES:Tok}(k_MOST_PLACES:nsIn K mainGlobals "MOST_PLACES"=some (some (.int 6 t_MOST_PLACES)))(d0:Df K "_law_cell" s__law_cell)(d1:Df K "_law_row" s__law_row)(d2:Df K "_law_beside" s__law_beside)(d3:Df K "_law_flood" s__law_flood)(d4:Df K "_law_outside" s__law_outside)(d5:Df K "_law_floor" s__law_floor)(d6:Df K "_law_wrong_fields" s__law_wrong_fields)(d7:Df K "is_outermost" s_is_outermost)(d8:Df K "places_beside" s_places_beside)(d9:Df K "reached" s_reached)(d10:Df K "have_hole" s_have_hole)(d11:Df K "is_whole" s_is_whole)(d12:Df K "are_fields" s_are_fields)(d13:Df K "hang_together" s_hang_together)(d14:Df K "is_length" s_is_length)(d15:Df K "floor_of" s_floor_of)(d16:Df K "_law_refused" s__law_refused)(d17:Df K "law" s_law)(z_ValueError:nsIn K mainGlobals "ValueError"=some none)(z_bool:nsIn K mainGlobals "bool"=some none)(z_int:nsIn K mainGlobals "int"=some none)(z_isinstance:nsIn K mainGlobals "isinstance"=some none)(z_len:nsIn K mainGlobals "len"=some none)(z_list:nsIn K mainGlobals "list"=some none)(z_range:nsIn K mainGlobals "range"=some none)(z_tuple:nsIn K mainGlobals "tuple"=some none)(z_ex:exOk K=true)
 : ∃ fd:FuncData,(∀ (s:Shared) (v:Value),BindsTo s fd ⟨[v],[]⟩ [("_law_script",v)])/\∀ base:Heap,K.In base->base.Ns mainGlobals mg->FnOk l.prog w K mg base CX0 6 fa fd ["_law_script"] (spV K 1 Φ_law):=by
 obtain @⟨f,oc,od,kV,dc,pm,an,cd,ct,sl,a,lk,c,k⟩:=d17
 cases hfa.symm.trans (mg_of X G a)
 have B:Blt mg:=⟨mg_none_of X G z_ValueError,mg_none_of X G z_bool,mg_none_of X G z_int,mg_none_of X G z_isinstance,mg_none_of X G z_len,mg_none_of X G z_list,mg_none_of X G z_range,mg_none_of X G z_tuple⟩
 have hE:ExM K mg:=⟨ExK.of z_ex,fun _ _ _ ns=>mg_of X G ns⟩
 have h_MOST_PLACES:=mg_of X G k_MOST_PLACES
 refine ⟨fnOf "law" "law" (defArgs s_law) (defBody s_law) (defScope s_law) .none kV dc pm an cd ct,fun s v=>.of_eq rfl,fun base _ _=>?_⟩
 have c__law_cell:Fn l.prog w K mg base _ _ _ _:=d0.fn X G (fun _ _ F=>ok__law_cell F B) fun _ _ _ _ _ _ us hl=>by obtain ⟨_,_,rfl⟩:=len2 hl;rfl
 have c__law_row:Fn l.prog w K mg base _ _ _ _:=d1.fn X G (fun _ _ F=>ok__law_row F B c__law_cell) fun _ _ _ _ _ _ us hl=>by obtain ⟨_,_,_,_,rfl⟩:=len4 hl;rfl
 have c__law_beside:Fn l.prog w K mg base _ _ _ _:=d2.fn X G (fun _ _ F=>ok__law_beside F B) fun _ _ _ _ _ _ us hl=>by obtain ⟨_,_,_,rfl⟩:=len3 hl;rfl
 have c__law_flood:Fn l.prog w K mg base _ _ _ _:=d3.fn X G (fun _ _ F=>ok__law_flood F B c__law_beside) fun _ _ _ _ _ _ us hl=>by obtain ⟨_,_,_,_,rfl⟩:=len4 hl;rfl
 have c__law_outside:Fn l.prog w K mg base _ _ _ _:=d4.fn X G (fun _ _ F=>ok__law_outside F B c__law_flood) fun _ _ _ _ _ _ us hl=>by obtain ⟨_,_,_,rfl⟩:=len3 hl;rfl
 have c__law_floor:Fn l.prog w K mg base _ _ _ _:=d5.fn X G (fun _ _ F=>ok__law_floor F B c__law_row c__law_flood c__law_outside c__law_cell) fun _ _ _ _ _ _ us hl=>by obtain ⟨_,_,rfl⟩:=len2 hl;rfl
 have c__law_wrong_fields:Fn l.prog w K mg base _ _ _ _:=d6.fn X G (fun _ _ F=>ok__law_wrong_fields F B) fun _ _ _ _ _ _ us hl=>by obtain ⟨_,_,rfl⟩:=len2 hl;rfl
 have c_is_outermost:Fn l.prog w K mg base _ _ _ _:=d7.fn X G (fun _ _ F=>ok_is_outermost F B) fun _ _ _ _ _ _ us hl=>by obtain ⟨_,_,_,rfl⟩:=len3 hl;rfl
 have c_places_beside:Fn l.prog w K mg base _ _ _ _:=d8.fn X G (fun _ _ F=>ok_places_beside F B) fun _ _ _ _ _ _ us hl=>by obtain ⟨_,_,_,rfl⟩:=len3 hl;rfl
 have c_reached:Fn l.prog w K mg base _ _ _ _:=d9.fn X G (fun _ _ F=>ok_reached F B c_places_beside) fun _ _ _ _ _ _ us hl=>by obtain ⟨_,_,_,_,rfl⟩:=len4 hl;rfl
 have c_have_hole:Fn l.prog w K mg base _ _ _ _:=d10.fn X G (fun _ _ F=>ok_have_hole F B c_is_outermost c_reached) fun _ _ _ _ _ _ us hl=>by obtain ⟨_,_,_,rfl⟩:=len3 hl;rfl
 have c_is_whole:Fn l.prog w K mg base _ _ _ _:=d11.fn X G (fun _ _ F=>ok_is_whole F B) fun _ _ _ _ _ _ us hl=>by obtain ⟨_,rfl⟩:=len1 hl;rfl
 have c_are_fields:Fn l.prog w K mg base _ _ _ _:=d12.fn X G (fun _ _ F=>ok_are_fields F B c_is_whole) fun _ _ _ _ _ _ us hl=>by obtain ⟨_,_,_,rfl⟩:=len3 hl;rfl
 have c_hang_together:Fn l.prog w K mg base _ _ _ _:=d13.fn X G (fun _ _ F=>ok_hang_together F B c_reached) fun _ _ _ _ _ _ us hl=>by obtain ⟨_,_,_,rfl⟩:=len3 hl;rfl
 have c_is_length:Fn l.prog w K mg base _ _ _ _:=d14.fn X G (fun _ _ F=>ok_is_length F B h_MOST_PLACES c_is_whole) fun _ _ _ _ _ _ us hl=>by obtain ⟨_,rfl⟩:=len1 hl;rfl
 have c_floor_of:Fn l.prog w K mg base _ _ _ _:=d15.fn X G (fun _ _ F=>ok_floor_of F B c_have_hole c_are_fields c_hang_together c_is_length) fun _ _ _ _ _ _ us hl=>by obtain ⟨_,_,_,rfl⟩:=len3 hl;rfl
 have e_floor_of:FnE l.prog w K mg base _ _ _ _:=d15.fnE X G (fun _ _ F=>okE_floor_of F B hE c_have_hole c_are_fields c_hang_together c_is_length) fun _ _ _ _ _ _ us hl=>by obtain ⟨_,_,_,rfl⟩:=len3 hl;rfl
 have c__law_refused:Fn l.prog w K mg base _ _ _ _:=d16.fn X G (fun _ _ F=>ok__law_refused F B hE e_floor_of c_floor_of) fun _ _ _ _ _ _ us hl=>by obtain ⟨_,_,_,rfl⟩:=len3 hl;rfl
 exact ok_law (fun_mk (st:=s_law) lk c k) B c__law_floor c__law_wrong_fields c__law_cell c__law_refused
theorem walk{l:PySem.W.OpenLaw}{q:Program}{loose:List Str}{XP:(Str->Option Value)->Heap->Prop}{YP:World->Heap->Prop}{d:DefRec}{K:Params->PySem.W.Frag}(hn:l.most=some 63)(hdf:d.params.defaults=[])
  (hY:∀ (w:World) (h:Heap),YP w h->(K w.params).In h)
  (F:∀ (w:World) (mg:Str->Option Value) (fa:Addr) (h:Heap),(K w.params).In h->h.Ns mainGlobals mg->mg d.name=some (.ref fa)->
   ∃ fd:FuncData,(∀ (s:Shared) (u:Value),BindsTo s fd ⟨[u],[]⟩ [("_law_script",u)])/\∀ base:Heap,(K w.params).In base->base.Ns mainGlobals mg->FnOk l.prog w (K w.params) mg base CX0 6 fa fd ["_law_script"] (spV (K w.params) 1 Φ_law)):
  PySem.W.WalkO q loose XP YP l.row.toRowW d [] (fun f vs=>PySem.call f vs):=
 L2.walk_ofB (n:=63) (k:=6) (x:="_law_script") (CX:=fun _=>CX0) (sp:=fun w=>spV (K w.params) 1 Φ_law) hn (by decide) hdf ⟨rfl,by decide,by decide⟩ hY F (fun _ _ a ns hl hb ho hS=>law_sp ho hS (law_true ns hl hb)) fun _ _ _ _ _ z=>z
end Cb
namespace PySem.W.Fast
def tw13317556932199754072:=0
def tw17093839626594353230:=0
def tw17445103625246117356:=0
def tw4841783825092674069:=0
def tw5430414704580473625:=0
def tw4254552397568446515:=0
def tw15616578460827213663:=0
def tw9555642861981198512:=0
def tw11530029940565930592:=0
def tw10143716698257124978:=0
def tw13858216632316210982:=0
def tw1788183263282928481:=0
def tw11424445782606197557:=0
def tw15886787288687695715:=0
def tw12359008150617565252:=0
def tw3237138738688904085:=0
def tw14009415991202406426:=0
def tw10321326522187634238:=0
def tw3784226534969005290:=0
def tw11845041022473641812:=0
def tw3660473022480879913:=0
def tw449364643560523139:=0
def tw17371715971416131010:=0
def tw1682321098819273323:=0
def tw3887690633419207503:=0
def tw13808000624401486467:=0
def tw7304556734021327884:=0
def tw11734330017594444653:=0
def tw6418987503780672400:=0
def tw5936645634707006433:=0
def tw4893069121805337835:=0
def tw12746297556854783346:=0
def tw10165789271013312081:=0
def tw10977388131020522191:=0
def tw10619985848942432784:=0
def tw13235688150110545891:=0
def tw2033986426194629036:=0
def tw3231486152127294219:=0
def tw14593785490115452165:=0
def tw11142458904559215163:=0
def tw14728772869677161454:=0
def tw3022847573167841224:=0
def tw1768630648351594257:=0
def tw5106081625994148997:=0
def tw16645729214987434211:=0
def tw17058572322358164053:=0
def tw12319615729524068815:=0
def tw1511555973600179413:=0
def tw5059713271515974413:=0
def tw8595716936751971626:=0
def tw7596186454127964537:=0
def tw2126329700106429648:=0
def tw9435472832844396632:=0
def tw1504399430948110076:=0
def tw15000821302879645045:=0
def tw5069380415654682009:=0
def tw3426773379202580565:=0
def tw8579394760946174242:=0
def tw11286964691910932931:=0
def tw9458122654867355581:=0
end PySem.W.Fast
open PySem PySem.W PyProof.Rows
set_option maxRecDepth 100000 in
set_option maxHeartbeats 0 in
theorem PySem.Challenge.cw_crossbrace_k02_no_floors_holds : PySem.Challenge.rw_crossbrace_k02_no_floors.Holds := by
 w_on;o_law;k_head;(case hw=>w_witness2)
 k_fill
 refine Cb.walk (l:=PySem.Challenge.rw_crossbrace_k02_no_floors) rfl rfl (fun w h Y=>PySem.W.kIn_of Y) ?F
 case F=>
  intro w mg fa h KX G hmg
  refine' Cb.all_mk KX G hmg ?_ ?_ ?_ ?_ ?_ ?_ ?_ ?_ ?_ ?_ ?_ ?_ ?_ ?_ ?_ ?_ ?_ ?_ ?_ ?_ ?_ ?_ ?_ ?_ ?_ ?_ ?_ ?_
  rotate_right;(kernel_rfl)
  try any_goals k_is
  try any_goals k_is
  try any_goals k_is
  try any_goals k_is
  any_goals exact .mk (by k_is) (by k_is) (by k_is) (by k_is)


