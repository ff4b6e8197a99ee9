import PyProof.Rows.All
import Wide.All
import OpenK.AllK
import Wide.FinOn
import Lean
import PyProof.EqAt
import PyProof.EqKinds
import PyProof.TupleCall
import KE.KDictList
import PyProof.P3Eq
import PyProof.NeData
import PyProof.P3In
import PyProof.FactsAll.NoneType
import PyProof.Draws
import PyProof.Rows.SetFrom
import PyProof.SetRoads
import PyProof.DictUpdate
import KE.KDictSum
import KE.KRevIter
import KE.KRevSl
import KE.KEqDict
import KE.KSortTup
import PyProof.Rows.SortRuns
import PyProof.Rows.SortKey
import PySem.Challenge.RW_crossbrace_k07_crossings_and_sides_of_st
set_option compiler.extract_closed false
set_option Elab.async false
set_option linter.all false
set_option maxRecDepth 100000
set_option maxHeartbeats 4000000
abbrev Ja:=@Option.bind_eq_some_iff
abbrev Jb:=@PySem.Heap.get?_push_of_some
abbrev Jc:=@List.mem_cons_self
abbrev Jd:=@List.getElem?_eq_getElem
abbrev Je:=@Option.bind_some
abbrev Jf:=@List.mem_cons_of_mem
abbrev Jg:=@Array.length_toList
abbrev Jh:=@List.mem_singleton
abbrev Ji:=@PySem.Heap.lt_size
abbrev Jj:=@Bool.false_ne_true
abbrev Jk:=@List.length_append
abbrev Jl:=@PySem.Heap.get?_push_size
abbrev Jm:=@Nat.le_refl
abbrev Jn:=@List.mem_append_right
abbrev Jo:=@List.map_cons
abbrev Jp:=@List.mem_map
abbrev Jq:=@Option.some.inj
abbrev Jr:=@List.mem_append_left
abbrev Js:=@Array.getElem?_toList
abbrev Jt:=@List.length_map
abbrev Ju:=@Array.getElem?_eq_some_iff
abbrev Jv:=@List.getElem?_eq_some_iff
abbrev Jw:=@List.mem_range
abbrev Jx:=@Nat.ne_of_lt
abbrev Jy:=@List.size_toArray
abbrev Jz:=@List.pairwise_append
abbrev JA:=@Option.map_eq_some_iff
abbrev JB:=@Classical.byContradiction
abbrev JC:=@List.append_assoc
abbrev JD:=@List.getD_eq_getElem?_getD
abbrev JE:=@Nat.lt_of_lt_of_le
abbrev JF:=@Array.getD_eq_getD_getElem?
abbrev JG:=@Bool.and_eq_true
abbrev JH:=@List.length_cons
abbrev JI:=@Int.mul_ediv_add_emod
abbrev JJ:=@List.nodup_append
abbrev JK:=@List.mem_append
abbrev JL:=@PyProof.Rows.KeyOrd.kle_trans
abbrev JM:=@List.zip_cons_cons
abbrev JN:=@Int.emod_lt_of_pos
abbrev JO:=@Array.toList_append
abbrev JP:=@List.getElem_mem
abbrev JQ:=@List.getElem?_map
abbrev JR:=@List.append_nil
abbrev JS:=@List.nodup_cons
abbrev JT:=@PySem.Heap.get?_update_self
abbrev JU:=@Int.emod_nonneg
abbrev JV:=@Nat.le_trans
abbrev JW:=@List.pairwise_map
abbrev JX:=@PyProof.Rows.KeyOrd.kle_of_klt
abbrev JY:=@List.mem_of_getElem?
abbrev JZ:=@List.pairwise_iff_getElem
abbrev Ka:=@List.mem_filter
abbrev Kb:=@Array.size_push
abbrev Kc:=@List.length_take
abbrev Kd:=@List.replicate_succ
abbrev Ke:=@List.getElem_of_mem
abbrev Kf:=@List.mem_iff_getElem?
abbrev Kg:=@Nat.le_of_lt_succ
abbrev Kh:=@Nat.not_lt_zero
abbrev Ki:=@PyProof.Rows.KeyOrd.kle_refl
abbrev Kj:=@List.getElem?_append_left
abbrev Kk:=@Array.getElem?_eq_getElem
abbrev Kl:=@List.any_cons
abbrev Km:=@List.length_singleton
abbrev Kn:=@Nat.succ_pos
abbrev Ko:=@List.take_append_drop
abbrev Kq:=@Nat.zero_le
abbrev Kr:=@PyProof.Rows.callWith_type1
abbrev Ks:=@PySem.Obj.data_mapFields
abbrev Kt:=@Array.getElem_toList
abbrev Ku:=@Nat.ne_of_gt
abbrev Kv:=@List.append_eq_nil_iff
abbrev Kw:=@List.flatten_cons
abbrev Ky:=@Nat.lt_succ_of_lt
abbrev Kz:=@Array.toList_push
abbrev KA:=@List.map_append
abbrev KB:=@List.cons_lt_cons_iff
abbrev KC:=@Nat.exists_eq_succ_of_ne_zero
abbrev KD:=@List.pairwise_cons
abbrev KF:=@PySem.Heap.size_push
abbrev KG:=@List.length_range
abbrev KH:=@List.find?_cons
abbrev KI:=@PySem.Heap.SameBut.update
abbrev KJ:=@PySem.Heap.get?_update_other
abbrev KL:=@List.map_map
abbrev KM:=@Nat.lt_irrefl
abbrev KN:=@List.getElem?_append_right
abbrev KO:=@List.nodup_iff_pairwise_ne
abbrev KP:=@List.length_drop
abbrev KQ:=@PySem.Obj.isFreed_of_fields
abbrev KR:=@List.length_filter_le
abbrev KS:=@PyProof.Rows.slot_tuple_getitem
abbrev KU:=@Nat.zero_add
abbrev KW:=@List.cons.injEq
abbrev KY:=@List.getElem?_set
abbrev KZ:=@List.length_eq_zero_iff
abbrev Qa:=@Nat.mod_lt
abbrev Qb:=@Nat.lt_of_succ_lt_succ
abbrev Qc:=@List.getElem?_eq_none
abbrev Qd:=@PySem.F.slot_tuple_iterator_next
abbrev Qe:=@Int.ediv_emod_unique
abbrev Qf:=@List.drop_eq_getElem_cons
abbrev Qg:=@List.mem_of_mem_drop
abbrev Qh:=@PySem.Around.under_plainId
abbrev Qi:=@Array.toList_reverse
abbrev Qj:=@Nat.lt_succ_self
abbrev Qk:=@List.any_eq_true
abbrev Ql:=@PySem.AutoSeq1.wpAny_loadPart'
abbrev Qm:=@PySem.mem_of_lookup
abbrev Qn:=@Nat.add_sub_cancel_left
abbrev Qo:=@List.mem_filterMap
abbrev Qp:=@Int.mul_one
abbrev Qq:=@List.sublist_cons_self
abbrev Qr:=@PySem.SetTable.insertAt_perm
abbrev Qs:=@List.not_lt
abbrev Qt:=@List.ext_getElem?
abbrev Qu:=@Array.size_append
abbrev Qw:=@Ne.symm
abbrev Qx:=@Int.mul_comm
abbrev Qy:=@List.Perm.append_left
abbrev Qz:=@Nat.le_of_not_lt
abbrev QA:=@Bool.and_eq_true_iff
abbrev QB:=@List.mem_of_mem_take
abbrev QC:=@List.all_eq_true
abbrev QD:=@Nat.le_add_right
abbrev QE:=@List.getElem_map
abbrev QF:=@Array.toList_setIfInBounds
abbrev QG:=@List.map_eq_nil_iff
abbrev QH:=@List.map_congr_left
abbrev QI:=@List.zipIdx_map_fst
abbrev QJ:=@List.foldl_cons
abbrev QK:=@List.mem_of_find?_eq_some
abbrev QL:=@Option.isNone_iff_eq_none
abbrev QM:=@PySem.Calls.spliced_cons
abbrev QN:=@Nat.lt_of_le_of_lt
abbrev QO:=@List.filter_append
namespace L2
open PySem PySem.Spec PyProof.Rows
noncomputable abbrev Key:=Sum Int Str
noncomputable def uF:Key->Value->Bool
 | .inl k,v=>Value.isInt k v
 | .inr x,v=>Value.isStrOf x v
noncomputable def znH(w:World):Key->Int
 | .inl k=>hashInt k
 | .inr x=>hashStr w x
theorem zJ:∀ {k:Key} {v:Value},uF k v=true->(∃ i t,k=Sum.inl i/\v=Value.int i t)∨(∃ x t,k=Sum.inr x/\v=Value.str x t)
 | .inl i,v,h=>by
  obtain ⟨t,e⟩:=Value.isInt_shape (k:=i) (v:=v) h
  exact .inl ⟨i,t,rfl,e⟩
 | .inr x,v,h=>by
  obtain ⟨t,e⟩:=Value.isStrOf_shape (x:=x) (v:=v) h
  exact .inr ⟨x,t,rfl,e⟩
theorem zeE(i:Int)(t:Tok):uF (.inl i) (.int i t)=true:=by simp [uF,Value.isInt]
theorem zeD(x:Str)(t:Tok):uF (.inr x) (.str x t)=true:=by simp [uF,Value.isStrOf]
theorem zlO(a b:Int):decide ((Sum.inl a:Key)=Sum.inl b)=(a == b):=by
 by_cases e:a=b
 ·subst e;simp
 ·have h:¬ (Sum.inl a:Key)=Sum.inl b:=fun q=>e (Sum.inl.inj q)
  rw [decide_eq_false h]
  exact (beq_eq_false_iff_ne.mpr e).symm
theorem zlL(a b:Str):decide ((Sum.inr a:Key)=Sum.inr b)=decide (a=b):=by
 by_cases e:a=b
 ·subst e;simp
 ·have h:¬ (Sum.inr a:Key)=Sum.inr b:=fun q=>e (Sum.inr.inj q)
  rw [decide_eq_false h,decide_eq_false e]
theorem zlN(a:Int)(b:Str):decide ((Sum.inl a:Key)=Sum.inr b)=false:=decide_eq_false (fun q=>nomatch q)
theorem zlM(a:Str)(b:Int):decide ((Sum.inr a:Key)=Sum.inl b)=false:=decide_eq_false (fun q=>nomatch q)
noncomputable def zC(prog:Program)(w:World):PySem.KeyKind prog w Key where
 is:=uF
 hash:=znH w
 inj:=fun v a b ha hb=>by
  rcases zJ ha with ⟨i,t,rfl,rfl⟩ | ⟨x,t,rfl,rfl⟩
  ·rcases zJ hb with ⟨j,u,rfl,e⟩ | ⟨y,u,rfl,e⟩
   ·injection e with e1 _;rw [e1]
   ·exact nomatch e
  ·rcases zJ hb with ⟨j,u,rfl,e⟩ | ⟨y,u,rfl,e⟩
   ·exact nomatch e
   ·injection e with e1 _;rw [e1]
 byValue:=fun k v h=>by
  rcases zJ h with ⟨i,t,rfl,rfl⟩ | ⟨x,t,rfl,rfl⟩<;>rfl
 pyHash:=fun hv h=>by
  rcases zJ hv with ⟨i,t,rfl,rfl⟩ | ⟨x,t,rfl,rfl⟩
  ·exact wpAny_pyHash_int h
  ·exact wpAny_pyHash_str h
 eqBool:=fun hu hv h=>by
  rcases zJ hu with ⟨i,t,rfl,rfl⟩ | ⟨x,t,rfl,rfl⟩
  ·rcases zJ hv with ⟨j,u,rfl,rfl⟩ | ⟨y,u,rfl,rfl⟩
   ·rw [zlO] at h;exact wpAny_eqBool_int h
   ·rw [zlN] at h;exact SeqAt.EqAt.int_str i t y u _ _ _ _ h
  ·rcases zJ hv with ⟨j,u,rfl,rfl⟩ | ⟨y,u,rfl,rfl⟩
   ·rw [zlM] at h;exact SeqAt.EqAt.str_int x t j u _ _ _ _ h
   ·rw [zlL] at h;exact wpAny_eqBool_str h
 «strs»:=fun k x t v h=>by
  rcases zJ h with ⟨i,u,rfl,e⟩ | ⟨y,u,rfl,e⟩
  ·exact nomatch e
  ·injection e with e1 _
   subst e1
   cases v<;>rfl
theorem zbb(prog:Program)(w:World)(i:Int)(t:Tok):(zC prog w).is (.inl i) (.int i t)=true:=zeE i t
theorem zba(prog:Program)(w:World)(x:Str)(t:Tok):(zC prog w).is (.inr x) (.str x t)=true:=zeD x t
inductive V where
 | non | bl (b:Bool) | int (i:Int) | str (x:Str) | byt (b:Array UInt8) | flt (b:UInt64) | ref (a:Addr) | ty (n:String)
 deriving DecidableEq
noncomputable def RelV:V->Value->Prop
 | .non,u=>u=Value.none
 | .bl b,u=>u=Value.bool b
 | .int i,u=>∃ t,u=Value.int i t
 | .str x,u=>∃ t,u=Value.str x t
 | .byt b,u=>∃ t,u=Value.bytes b t
 | .flt b,u=>∃ t,u=Value.float b t
 | .ref a,u=>u=Value.ref a
 | .ty n,u=>u=Value.type n
noncomputable abbrev Vals:List V->List Value->Prop:=Paired RelV
theorem Vals.length{xs:List V}{us:List Value}(r:Vals xs us):xs.length=us.length:=Paired.length r
theorem Vals.get:∀ {xs:List V} {us:List Value} {i:Nat} {x:V},Vals xs us->xs[i]?=some x->∃ u,us[i]?=some u/\RelV x u
 | _,_,_,_,.nil,e=>by simp at e
 | _,_,0,_,.cons r _,e=>by simp at e;subst e;exact ⟨_,rfl,r⟩
 | _,_,i+1,x,.cons _ t,e=>by
  obtain ⟨u,h1,h2⟩:=Vals.get (i:=i) (x:=x) t (by simpa using e)
  exact ⟨u,by simpa using h1,h2⟩
theorem Vals.set{x:V}{u:Value}(r:RelV x u):∀ {xs:List V} {us:List Value} (i:Nat),Vals xs us->Vals (xs.set i x) (us.set i u)
 | _,_,_,.nil=>.nil
 | _,_,0,.cons _ t=>.cons r t
 | _,_,i+1,.cons q t=>.cons q (Vals.set r i t)
theorem Vals.append:∀ {xs ys:List V} {us ws:List Value},Vals xs us->Vals ys ws->Vals (xs++ys) (us++ws)
 | _,_,_,_,.nil,s=>s
 | _,_,_,_,.cons r t,s=>.cons r (Vals.append t s)
theorem Vals.take:∀ {xs:List V} {us:List Value} (n:Nat),Vals xs us->Vals (xs.take n) (us.take n)
 | _,_,0,_=>.nil
 | _,_,_+1,.nil=>.nil
 | _,_,n+1,.cons r t=>.cons r (Vals.take n t)
theorem Vals.drop:∀ {xs:List V} {us:List Value} (n:Nat),Vals xs us->Vals (xs.drop n) (us.drop n)
 | _,_,0,r=>r
 | _,_,_+1,.nil=>.nil
 | _,_,n+1,.cons _ t=>Vals.drop n t
noncomputable def RelO:Option V->Option Value->Prop
 | some v,some u=>RelV v u
 | none,none=>True
 | _,_=>False
noncomputable def KV{κ:Type}:List (κ × V)->List (κ × Value)->Prop:=Paired fun (p:κ × V) (q:κ × Value)=>p.1=q.1/\RelV p.2 q.2
noncomputable def kV:Key->V
 | .inl i=>.int i
 | .inr x=>.str x
inductive HO where
 | lst (xs:List V)
 | tup (xs:List V)
 | dK (kvs:List (Key × V)) | dT (kvs:List (List Key × V))
 | set (S:Int->Bool) (n:Nat)
 | ins (C dx:Addr) (fs:List (Str × V))
 | own (x:Addr)
 | xd (fs:List (Str × V))
 | met (f x:Addr)
 | rng (lo hi:Int)
 | frz (o:Obj) (u:HO)
 | tbl (ps:Array Value)
 | ext (φ:Heap->Prop)
noncomputable abbrev Hp:=Addr->Option HO
noncomputable def upd(H:Hp)(a:Addr)(o:HO):Hp:=fun b=>if b=a then some o else H b
theorem zL:upd H a o a=some o:=by unfold upd;rw [if_pos rfl]
theorem zM{H:Hp}(h:b≠a):upd H a o b=H b:=by unfold upd;rw [if_neg h]
theorem zny{H:Hp}(h:H a=some o)(h':H b=some u)(d:o≠u):a≠b:=by
 intro e;subst e;rw [h] at h';exact d (Jq h')
theorem zd{H:Hp}(h:H a=some o)(h':H b=none):a≠b:=by
 intro e;subst e;rw [h] at h';cases h'
section
variable (P:Program) (w:World)
noncomputable def ObjOk(H:Hp)(h:Heap)(a:Addr):HO->Prop
 | .lst xs=>xs.length≤sizeLine/\∃ (its:List Value) (n:Nat),Vals xs its/\h.get? a=some { cls:=.type "list",data:=.seq its.toArray n }
 | .tup xs=>xs.length≤sizeLine/\∃ its:List Value,Vals xs its/\IsTup h a its.toArray
 | .dK kvs=>kvs.length≤sizeLine/\(a == sysModules)=false/\∃ vs,KV kvs vs/\h.DictOf (zC P w) a vs
 | .dT kvs=>kvs.length≤sizeLine/\(a == sysModules)=false/\∃ xs:List (List Key × Addr × Value),
   Paired (fun (p:List Key × V) (q:List Key × Addr × Value)=>p.1=q.1/\H q.2.1=some (.tup (p.1.map kV))/\RelV p.2 q.2.2) kvs xs/\
   ∃ o es ep,h.get? a=some o/\o.ExactDict/\o.data=.dict es ep/\es.toList=xs.map (entryOfKey (tupleKind (zC P w)))/\(xs.map (·.1)).Nodup
 | .set S n=>h.SetOf (intKind P w) a S n
 | .ins C dx fs=>H dx=some (.own a)/\fs.length≤1000/\dx≠a/\h.get? a=some (PySem.W.instObj C dx)/\
   ∃ mA,h.Ns1 dx mA/\(∀ f,RelO (fs.lookup f) (mA f))/\PySem.Within mA (fs.map (·.1))
 | .own _=>∃ o,h.get? a=some o
 | .xd fs=>∃ mA,h.Ns1 a mA/\∀ f,RelO (fs.lookup f) (mA f)
 | .rng lo hi=>∃ t u v,h.get? a=some { cls:=.type "range",data:=.fields #[.int lo t,.int hi u,.int 1 v] }
 | .frz o u=>h.get? a=some o/\ObjOk H h a u
 | .tbl ps=>h.get? a=some { cls:=.none,data:=.fields ps }
 | .met f x=>h.get? a=some (PySem.W.methodObj (.ref f) (.ref x))
 | .ext φ=>φ h/\(∃ o,h.get? a=some o)/\∀ h1 h2:Heap,φ h1->(∀ o,h1.get? a=some o->h2.get? a=some o)->φ h2
noncomputable def HOk(H:Hp)(h:Heap):Prop:=∀ a o,H a=some o->ObjOk P w H h a o
end
section
variable {P:Program} {w:World} {H H':Hp} {h h':Heap} {a:Addr} {o:HO}
theorem ObjOk.lt(x:ObjOk P w H h a o):a<h.objs.size:=by
 cases o with
 | lst xs=>obtain ⟨_,_,_,_,e⟩:=x;exact Ji e
 | tup xs=>obtain ⟨_,_,_,p⟩:=x;exact p.lt
 | dK kvs=>obtain ⟨_,_,_,_,o,_,_,e,_⟩:=x;exact Ji e
 | dT kvs=>obtain ⟨_,_,_,_,o,_,_,e,_⟩:=x;exact Ji e
 | set S n=>obtain ⟨o,_,_,_,e,_⟩:=x;exact Ji e
 | ins C dx fs=>obtain ⟨_,_,_,e,_⟩:=x;exact Ji e
 | own y=>obtain ⟨_,e⟩:=x;exact Ji e
 | xd fs=>obtain ⟨_,⟨_,_,_,e,_⟩,_⟩:=x;exact Ji e
 | rng lo hi=>obtain ⟨_,_,_,e⟩:=x;exact Ji e
 | frz ob u=>obtain ⟨e,_⟩:=x;exact Ji e
 | tbl ps=>exact Ji (show h.get? a=some _ from x)
 | met f y=>exact Ji (show h.get? a=some _ from x)
 | ext φ=>obtain ⟨_,⟨_,e⟩,_⟩:=x;exact Ji e
theorem Paired.mapP{α β:Type}{F G:α->β->Prop}:∀ {l₁:List α} {l₂:List β},Paired F l₁ l₂->(∀ a b,F a b->G a b)->Paired G l₁ l₂
 | _,_,.nil,_=>.nil
 | _,_,.cons r t,f=>.cons (f _ _ r) (Paired.mapP t f)
theorem ObjOk.stay(x:ObjOk P w H h a o)(k:∀ b u,(b=a∨H b=some (.own a))->h.get? b=some u->h'.get? b=some u)
  (ho:∀ b,H b=some (.own a)->H' b=some (.own a))(ht:∀ b xs,H b=some (.tup xs)->H' b=some (.tup xs)):ObjOk P w H' h' a o:=by
 induction o with
 | lst xs=>obtain ⟨z,its,n,r,e⟩:=x;exact ⟨z,its,n,r,k _ _ (.inl rfl) e⟩
 | tup xs=>obtain ⟨z,its,r,ob,e,c⟩:=x;exact ⟨z,its,r,ob,k _ _ (.inl rfl) e,c⟩
 | dK kvs=>obtain ⟨z,y,vs,r,ob,es,ep,e,c⟩:=x;exact ⟨z,y,vs,r,ob,es,ep,k _ _ (.inl rfl) e,c⟩
 | dT kvs=>
  obtain ⟨z,y,xs,r,ob,es,ep,e,c⟩:=x
  exact ⟨z,y,xs,Paired.mapP r fun p q z=>⟨z.1,ht _ _ z.2.1,z.2.2⟩,ob,es,ep,k _ _ (.inl rfl) e,c⟩
 | set S n=>obtain ⟨ob,es,ep,t,e,c⟩:=x;exact ⟨ob,es,ep,t,k _ _ (.inl rfl) e,c⟩
 | ins C dx fs=>
  obtain ⟨d,z,ne,e,mA,⟨od,es,ep,e2,c⟩,r⟩:=x
  exact ⟨ho _ d,z,ne,k _ _ (.inl rfl) e,mA,⟨od,es,ep,k _ _ (.inr d) e2,c⟩,r⟩
 | own y=>obtain ⟨ob,e⟩:=x;exact ⟨ob,k _ _ (.inl rfl) e⟩
 | xd fs=>obtain ⟨mA,⟨od,es,ep,e,c⟩,r⟩:=x;exact ⟨mA,⟨od,es,ep,k _ _ (.inl rfl) e,c⟩,r⟩
 | rng lo hi=>obtain ⟨t,u,v,e⟩:=x;exact ⟨t,u,v,k _ _ (.inl rfl) e⟩
 | frz ob u ih=>obtain ⟨e,q⟩:=x;exact ⟨k _ _ (.inl rfl) e,ih q⟩
 | tbl ps=>
  have e:h.get? a=some { cls:=.none,data:=.fields ps }:=x
  show h'.get? a=some { cls:=.none,data:=.fields ps }
  exact k a _ (.inl rfl) e
 | met f y=>
  have e:h.get? a=some (PySem.W.methodObj (.ref f) (.ref y)):=x
  show h'.get? a=some (PySem.W.methodObj (.ref f) (.ref y))
  exact k a _ (.inl rfl) e
 | ext φ=>obtain ⟨p,⟨o,e⟩,st⟩:=x;exact ⟨st _ _ p fun o q=>k _ _ (.inl rfl) q,⟨o,k _ _ (.inl rfl) e⟩,st⟩
theorem HOk.lt(x:HOk P w H h)(e:H a=some o):a<h.objs.size:=(x a o e).lt
theorem HOk.fresh(x:HOk P w H h)(e:h.objs.size≤a):H a=none:=by
 cases q:H a with
 | none=>rfl
 | some u=>exact absurd (JE (x.lt q) e) (KM _)
theorem HOk.kept(x:HOk P w H h)(k:∀ b u,h.get? b=some u->h'.get? b=some u):HOk P w H h':=fun a o e=>
 (x a o e).stay (fun b u _ q=>k b u q) (fun _ q=>q) fun _ _ q=>q
theorem HOk.laid(x:HOk P w H h)(k:∀ b u,h.get? b=some u->h'.get? b=some u)(hp:h.objs.size≤a)(new:ObjOk P w (upd H a o) h' a o):HOk P w (upd H a o) h':=fun b u e=>by
 have hn:=x.fresh hp
 by_cases hb:b=a
 ·subst hb;rw [zL] at e;cases e;exact new
 ·rw [zM hb] at e
  exact (x b u e).stay (fun c v _ q=>k c v q) (fun c q=>by rw [zM (zd q hn)];exact q) fun c xs q=>by rw [zM (zd q hn)];exact q
end
noncomputable def Rd(H:Hp)(a:Addr)(u:HO):Prop:=H a=some u∨∃ o,H a=some (.frz o u)
theorem Rd.ok(r:Rd H a u)(x:HOk P w H h):ObjOk P w H h a u:=by
 rcases r with r | ⟨o,r⟩
 ·exact x a u r
 ·obtain ⟨_,q⟩:=x a _ r
  exact q
noncomputable def Mut:Option HO->Prop
 | some (.lst _)=>True
 | some (.dK _)=>True
 | some (.dT _)=>True
 | some (.set _ _)=>True
 | some (.ins _ _ _)=>True
 | some (.ext _)=>True
 | _=>False
section
variable {P:Program} {w:World} {H:Hp} {h h':Heap} {x e:Addr} {o':HO}
theorem HOk.write(ok:HOk P w H h)(mu:Mut (H x))(he:e=x∨H e=some (.own x))(k:∀ b u,b≠e->h.get? b=some u->h'.get? b=some u)(heo:∃ u,h'.get? e=some u)
  (new:ObjOk P w (upd H x o') h' x o'):HOk P w (upd H x o') h':=fun b u q=>by
 have nown:∀ c y,H c=some (.own y)->c≠x:=fun c y r z=>by subst z;rw [r] at mu;exact mu
 have ntup:∀ c xs,H c=some (.tup xs)->c≠x:=fun c xs r z=>by subst z;rw [r] at mu;exact mu
 by_cases hb:b=x
 ·subst hb;rw [zL] at q;cases q;exact new
 ·rw [zM hb] at q
  by_cases hbe:b=e
  ·have q':H b=some (.own x):=by
    rcases he with z | z
    ·exact absurd (hbe.trans z) hb
    ·rw [hbe];exact z
   rw [q] at q';cases q'
   obtain ⟨v,hv⟩:=heo
   exact ⟨v,by rw [hbe];exact hv⟩
  ·refine (ok b u q).stay (fun c v hc r=>k c v ?_ r) (fun c r=>by rw [zM (nown c b r)];exact r) fun c xs r=>by rw [zM (ntup c xs r)];exact r
   rcases hc with rfl | hc
   ·exact hbe
   ·rintro rfl
    rcases he with z | z
    ·exact nown c b hc z
    ·rw [hc] at z;cases z;exact hb rfl
end
structure Un (fs ex:List Addr) (H H':Hp) (h h':Heap):Prop where
 keep:∀ b o,h.get? b=some o->H b=none->b ∉ fs->b ∉ ex->h'.get? b=some o
 slot:∀ b o,h.get? b=some o->H b=none->b ∈ fs->b ∉ ex->∃ sl,h'.get? b=some { o with slots:=sl }
 free:∀ b o,h.get? b=some o->H b=none->b ∉ ex->H' b=none
 there:∀ b o,h.get? b=some o->b ∉ ex->∃ o',h'.get? b=some o'
 tups:∀ b xs,H b=some (.tup xs)->H' b=some (.tup xs)
 frzs:∀ b o u,H b=some (.frz o u)->H' b=some (.frz o u)
 tbls:∀ b ps,H b=some (.tbl ps)->∃ more,H' b=some (.tbl (ps++more))
section
variable {fs fs' ex ex':List Addr} {H H1 H2:Hp} {h h1 h2 h':Heap} {a x e:Addr} {o:HO}
theorem Un.any(u:Un fs ex H H1 h h1){ob:Obj}(q:h.get? b=some ob)(n:H b=none)(hx:b ∉ ex):∃ sl,h1.get? b=some { ob with slots:=sl }:=by
 by_cases hb:b ∈ fs
 ·exact u.slot b ob q n hb hx
 ·exact ⟨ob.slots,u.keep b ob q n hb hx⟩
theorem Un.kept(k:∀ b u,h.get? b=some u->h'.get? b=some u):Un fs ex H H h h':=
 ⟨fun b ob q _ _ _=>k b ob q,fun b ob q _ _ _=>⟨ob.slots,k b ob q⟩,fun _ _ _ n _=>n,fun b ob q _=>⟨ob,k b ob q⟩,fun _ _ q=>q,fun _ _ _ q=>q,fun _ ps q=>⟨#[],by rw [q];simp⟩⟩
theorem Un.refl:Un fs ex H H h h:=Un.kept fun _ _ q=>q
theorem Un.laid(k:∀ b u,h.get? b=some u->h'.get? b=some u)(hp:h.objs.size≤a)(hn:H a=none):Un fs ex H (upd H a o) h h' where
 keep:=fun b u q _ _ _=>k b u q
 slot:=fun b u q _ _ _=>⟨u.slots,k b u q⟩
 free:=fun b u q n _=>by rw [zM (Jx (JE (Ji q) hp))];exact n
 there:=fun b u q _=>⟨u,k b u q⟩
 tups:=fun b xs q=>by rw [zM (zd q hn)];exact q
 frzs:=fun b u xs q=>by rw [zM (zd q hn)];exact q
 tbls:=fun b ps q=>⟨#[],by rw [zM (zd q hn),q];simp⟩
theorem Un.write(mu:Mut (H x))(he:e=x∨H e=some (.own x))(k:∀ b u,b≠e->h.get? b=some u->h'.get? b=some u)(heo:∃ u,h'.get? e=some u):Un fs ex H (upd H x o) h h':=by
 have hx:∀ b,H b=none->b≠x:=fun b n z=>by subst z;rw [n] at mu;exact mu
 have hb:∀ b,H b=none->b≠e:=fun b n z=>by
  subst z
  rcases he with r | r
  ·exact hx b n r
  ·rw [n] at r;cases r
 have hm:∀ b u,H b=some u->¬ Mut (some u)->b≠x:=fun b u q nm z=>by subst z;rw [q] at mu;exact nm mu
 refine ⟨fun b u q n _ _=>k b u (hb b n) q,fun b u q n _ _=>⟨u.slots,k b u (hb b n) q⟩,fun b u q n _=>by rw [zM (hx b n)];exact n,fun b u q _=>?_,
  fun b xs q=>by rw [zM (hm b _ q fun z=>z)];exact q,fun b u xs q=>by rw [zM (hm b _ q fun z=>z)];exact q,fun b ps q=>⟨#[],by rw [zM (hm b _ q fun z=>z),q];simp⟩⟩
 by_cases hbe:b=e
 ·subst hbe;exact heo
 ·exact ⟨u,k b u hbe q⟩
end
noncomputable def trk(h:Heap)(H:Hp):List Addr:=(List.range h.objs.size).filter fun a=>(H a).isSome
noncomputable def qt(h:Heap)(H:Hp):Heap:=PySem.W.hideAll h (trk h H)
theorem zeH(h:Heap)(H:Hp):(qt h H).objs.size=h.objs.size:=PySem.W.hideAll_size _ _
theorem zhb{h:Heap}{H:Hp}(e:h.get? b=some o)(n:H b=none):(qt h H).get? b=some o:=
 PySem.W.hideAll_get _ e fun hm=>by
  have q:(H b).isSome=true:=(Ka.mp hm).2
  rw [n] at q;simp at q
theorem zjf{h:Heap}{H:Hp}(e:(qt h H).get? b=some o):h.get? b=some o/\H b=none:=by
 have e':h.get? b=some o:=PySem.W.of_hideAll (trk h H) e
 refine ⟨e',?_⟩
 cases q:H b with
 | none=>rfl
 | some x=>
  have hm:b ∈ trk h H:=List.mem_filter.mpr ⟨List.mem_range.mpr (Heap.lt_size e'),by simp [q]⟩
  have z:(qt h H).get? b=none:=PySem.W.hideAll_none (trk h H) hm
  rw [z] at e;cases e
noncomputable def zjG(g h:Heap)(L:Addr):List (Addr × Obj):=(List.range h.objs.size).filterMap fun a=>if a=L∨(g.get? a).isSome=true then none else (h.get? a).map fun o=>(a,o)
noncomputable def yC(g h:Heap)(L d:Addr):List (Addr × Obj):=(zjG g h L).filter fun p=>decide (p.1≠d)
structure Mod (K:PySem.W.Frag) (mg:Str->Option Value) (base:Heap):Prop where
 kin:K.In base
 glob:base.Ns mainGlobals mg
 blt:∃ mb,base.Ns builtinsNs mb/\∀ x:Str,x≠"__name__"->mb x=bootBuiltins x
 nolimit:base.NoLimit
structure Cx where
 prog:Program
 w:World
 K:PySem.W.Frag
 mg:Str->Option Value
 base:Heap
 A:Around
 N:List Str
 s₀:Shared
 H₀:Hp
 env:Env
 outer:List Env
 stack:List Env
 ex:List Addr
 fn:Str->Bool
 calm:Bool
 pn:List (Addr × Obj)
 xe:Value->Shared->Prop
noncomputable def frs(l:List Env):List Addr:=l.filterMap (·.frame)
noncomputable abbrev Cx.fs(X:Cx):List Addr:=frs X.outer
noncomputable def Vis(sc:Scope)(x:Str):Prop:=sc.names.lookup x=some .local∨sc.names.lookup x=some .cell∨sc.names.lookup x=some .free
noncomputable def Loc(sc:Scope)(x:Str):Prop:=sc.names.lookup x=some .local∨sc.names.lookup x=some .cell
noncomputable def zpr(env:Env)(h:Heap)(m:Str->Option Value)(x:Str)(u:Value):Prop:=
 (env.kindOf x=some .local/\m x=some u)∨((env.kindOf x=some .cell∨env.kindOf x=some .free)/\∃ c,env.cells.lookup x=some c/\h.IsCell c (some u))
structure Cx.Ok (X:Cx):Prop where
 mod:Mod X.K X.mg X.base
 kind:X.env.scope.kind=.function
 glob:X.env.globals=mainGlobals
 blt:X.env.builtins=builtinsNs
 above:X.s₀.heap.objs.size≤X.env.locals
 inj:∀ x y c,X.env.cells.lookup x=some c->X.env.cells.lookup y=some c->x=y
 has:∀ x,(X.env.kindOf x=some .cell∨X.env.kindOf x=some .free)->∃ c,X.env.cells.lookup x=some c
 cab:∀ x c,X.fn x=true->X.env.cells.lookup x=some c->X.s₀.heap.objs.size≤c
 hd:X.calm=true->X.A.handled=none
 frames:X.A.frames=some X.stack
 stk:X.stack=X.outer∨(X.stack=X.env::X.outer/\X.env.frame=some X.env.locals)
 exf:∀ b ∈ X.ex,b≠X.env.locals/\∀ x c,X.env.cells.lookup x=some c->c≠b
 bs:∀ b o,X.base.get? b=some o->X.s₀.heap.get? b=some o/\X.H₀ b=none
 bsz:X.base.objs.size≤X.s₀.heap.objs.size
 noex:∀ b o,X.base.get? b=some o->b ∉ X.ex
 exfs:∀ b ∈ X.ex,b ∉ X.fs
 funs:X.s₀.heap.FunFrames X.base X.outer
 frf:∀ b ∈ X.fs,X.H₀ b=none
structure Inv (X:Cx) (pins:List (Addr × Obj)) (σ:List (Option V)) (H:Hp) (s:Shared):Prop where
 ok:X.Ok
 os:s.os=X.s₀.os
 bare:AllBare s.gens
 base:Un X.fs X.ex X.H₀ H X.s₀.heap s.heap
 loc:∃ m,s.heap.Ns X.env.locals m/\∀ (i:Nat) (x:Str) (v:V),X.N[i]?=some x->σ[i]?=some (some v)->Vis X.env.scope x->∃ u,RelV v u/\zpr X.env s.heap m x u
 cell:∀ x c,X.env.cells.lookup x=some c->∃ v,s.heap.IsCell c v
 free:H X.env.locals=none
 freeC:∀ x c,X.env.cells.lookup x=some c->H c=none
 pin:∀ p ∈ X.pn++pins,s.heap.get? p.1=some p.2/\H p.1=none/\p.1≠X.env.locals/\p.1 ∉ X.fs/\∀ v,p.2.data≠.cell v
 hok:HOk X.prog X.w H s.heap
 len:σ.length=X.N.length
section
variable {X:Cx} {pins:List (Addr × Obj)} {σ:List (Option V)} {H H':Hp} {s:Shared} {h':Heap}
theorem Cx.Ok.nofr(ok:X.Ok)(e:X.base.get? b=some o):b ∉ X.fs:=fun hb=>by
 have:=(ok.funs.mem hb).1
 rw [e] at this;cases this
theorem Inv.bs(I:Inv X pins σ H s):∀ b o,X.base.get? b=some o->s.heap.get? b=some o/\H b=none:=fun b o e=>
 ⟨I.base.keep b o (I.ok.bs b o e).1 (I.ok.bs b o e).2 (I.ok.nofr e) (I.ok.noex b o e),I.base.free b o (I.ok.bs b o e).1 (I.ok.bs b o e).2 (I.ok.noex b o e)⟩
theorem Inv.bk(I:Inv X pins σ H s):∀ b o,X.base.get? b=some o->s.heap.get? b=some o:=fun b o e=>(I.bs b o e).1
theorem Inv.mod(I:Inv X pins σ H s):Mod X.K X.mg X.base:=I.ok.mod
theorem Inv.kIn(I:Inv X pins σ H s):X.K.In s.heap:=I.ok.mod.kin.keeps I.bk
theorem Inv.lt(I:Inv X pins σ H s):X.env.locals<s.heap.objs.size:=let ⟨_,hn,_⟩:=I.loc;hn.lt
theorem Inv.sz(I:Inv X pins σ H s):X.s₀.heap.objs.size≤s.heap.objs.size:=JV I.ok.above (Nat.le_of_lt I.lt)
theorem Inv.nofs(I:Inv X pins σ H s)(h:s.heap.objs.size≤a):a ∉ X.fs:=fun hb=>by
 obtain ⟨_,o,ho,_⟩:=I.ok.funs.mem hb
 exact absurd (JE (Ji ho) (JV I.sz h)) (KM _)
theorem Inv.cne(I:Inv X pins σ H s):∀ x c,X.env.cells.lookup x=some c->c≠X.env.locals:=fun x c e z=>by
 obtain ⟨v,o,ho,hd⟩:=I.cell x c e
 obtain ⟨m,⟨o',es,ep,ho',hd',_⟩,_⟩:=I.loc
 rw [z,ho'] at ho;cases ho;rw [hd'] at hd;cases hd
theorem Inv.funs(I:Inv X pins σ H s):s.heap.FunFrames X.base X.outer:=by
 have all:∀ (l:List Env),(∀ b ∈ frs l,b ∈ X.fs)->X.s₀.heap.FunFrames X.base l->s.heap.FunFrames X.base l:=by
  intro l
  induction l with
  | nil=>intro _ _;trivial
  | cons env r ih=>
   intro hs hl
   obtain ⟨hk,⟨L,o,hf,hn,ho,hd⟩,hr⟩:=hl
   have hL:L ∈ X.fs:=hs L (by unfold frs;rw [List.filterMap_cons,hf];exact List.mem_cons_self)
   obtain ⟨sl,e⟩:=I.base.slot L o ho (I.ok.frf L hL) hL fun z=>I.ok.exfs L z hL
   exact ⟨hk,⟨L,_,hf,hn,e,hd⟩,ih (fun b hb=>hs b (by unfold frs;rw [List.filterMap_cons,hf];exact List.mem_cons_of_mem _ hb)) hr⟩
 exact all X.outer (fun _ hb=>hb) I.ok.funs
theorem Inv.stack(I:Inv X pins σ H s):s.heap.FunFrames X.base X.stack:=by
 rcases I.ok.stk with e | ⟨e,hf⟩
 ·rw [e];exact I.funs
 ·rw [e]
  obtain ⟨m,hn,_⟩:=I.loc
  refine .cons (by rw [I.ok.kind];decide) hf hn ?_ I.funs
  exact Heap.get?_none_of_le (JV I.ok.bsz I.ok.above)
theorem Inv.stkSub(I:Inv X pins σ H s):∀ b ∈ frs X.stack,b ∈ X.env.locals::X.fs:=fun b hb=>by
 rcases I.ok.stk with e | ⟨e,hf⟩
 ·rw [e] at hb;exact Jf _ hb
 ·rw [e] at hb
  unfold frs at hb
  rw [List.filterMap_cons,hf] at hb
  exact hb
theorem Inv.stkFree(I:Inv X pins σ H s):∀ b ∈ frs X.stack,H b=none:=fun b hb=>by
 rcases List.mem_cons.mp (I.stkSub b hb) with e | hb
 ·rw [e];exact I.free
 ·obtain ⟨_,o,ho,_⟩:=I.ok.funs.mem hb
  exact I.base.free b o ho (I.ok.frf b hb) fun z=>I.ok.exfs b z hb
theorem Inv.step{g':Array GenState}{t':Nat}{d':Drawn}{ch:List Addr}(I:Inv X pins σ H s)
  (hch:∀ b ∈ ch,(b ∈ X.ex∨X.s₀.heap.objs.size≤b)/\b≠X.env.locals/\(∀ x c,X.env.cells.lookup x=some c->c≠b)/\∀ p ∈ X.pn++pins,p.1≠b)
  (keep:∀ b o,b≠X.env.locals->b ∉ X.fs->b ∉ ch->s.heap.get? b=some o->H b=none->h'.get? b=some o)
  (slot:∀ b o,b≠X.env.locals->b ∈ X.fs->b ∉ ch->s.heap.get? b=some o->H b=none->∃ sl,h'.get? b=some { o with slots:=sl })(free:∀ b o,b ∉ ch->s.heap.get? b=some o->H b=none->H' b=none)
  (there:∀ b o,b ∉ ch->s.heap.get? b=some o->∃ o',h'.get? b=some o')
  (tups:∀ b xs,H b=some (.tup xs)->H' b=some (.tup xs))(frzs:∀ b o u,H b=some (.frz o u)->H' b=some (.frz o u))(tbls:∀ b ps,H b=some (.tbl ps)->∃ more,H' b=some (.tbl (ps++more)))
  (ns:∀ m,s.heap.Ns X.env.locals m->h'.Ns X.env.locals m)(hok:HOk X.prog X.w H' h')(hg:AllBare g'):
  Inv X pins σ H' { s with heap:=h',gens:=g',drawn:=d',toks:=t' }:=by
 have neL:∀ b o,X.s₀.heap.get? b=some o->b≠X.env.locals:=fun b o e=>Jx (JE (Ji e) I.ok.above)
 have neC:∀ b o,X.s₀.heap.get? b=some o->b ∉ X.ex->b ∉ ch:=fun b o e hx hb=>by
  rcases (hch b hb).1 with z | z
  ·exact hx z
  ·exact absurd (JE (Ji e) z) (KM _)
 have cellK:∀ x c,X.env.cells.lookup x=some c->∀ v,s.heap.IsCell c v->h'.IsCell c v:=fun x c e v ⟨o,ho,hd⟩=>by
  have nch:c ∉ ch:=fun z=>(hch c z).2.2.1 x c e rfl
  by_cases hc:c ∈ X.fs
  ·obtain ⟨sl,q⟩:=slot c o (I.cne x c e) hc nch ho (I.freeC x c e)
   exact ⟨_,q,hd⟩
  ·exact ⟨o,keep c o (I.cne x c e) hc nch ho (I.freeC x c e),hd⟩
 refine ⟨I.ok,I.os,hg,⟨fun b o e n hb hx=>?_,fun b o e n hb hx=>?_,fun b o e n hx=>?_,fun b o e hx=>?_,fun b xs e=>tups b xs (I.base.tups b xs e),fun b o xs e=>frzs b o xs (I.base.frzs b o xs e),fun b ps e=>?_⟩,?_,fun x c e=>?_,?_,fun x c e=>?_,fun p hp=>?_,hok,I.len⟩
 ·exact keep b o (neL b o e) hb (neC b o e hx) (I.base.keep b o e n hb hx) (I.base.free b o e n hx)
 ·obtain ⟨sl,e1⟩:=I.base.slot b o e n hb hx
  obtain ⟨sl',e2⟩:=slot b _ (neL b o e) hb (neC b o e hx) e1 (I.base.free b o e n hx)
  exact ⟨sl',e2⟩
 ·obtain ⟨o',e1⟩:=I.base.there b o e hx
  exact free b o' (neC b o e hx) e1 (I.base.free b o e n hx)
 ·obtain ⟨o',e1⟩:=I.base.there b o e hx
  exact there b o' (neC b o e hx) e1
 ·obtain ⟨m1,e1⟩:=I.base.tbls b ps e
  obtain ⟨m2,e2⟩:=tbls b _ e1
  exact ⟨m1++m2,by rw [e2,Array.append_assoc]⟩
 ·obtain ⟨m,hn,hl⟩:=I.loc
  refine ⟨m,ns m hn,fun i x v e1 e2 e3=>?_⟩
  obtain ⟨u,r,l⟩:=hl i x v e1 e2 e3
  refine ⟨u,r,?_⟩
  rcases l with l | ⟨k,c,e,z⟩
  ·exact .inl l
  ·exact .inr ⟨k,c,e,cellK x c e _ z⟩
 ·obtain ⟨v,z⟩:=I.cell x c e
  exact ⟨v,cellK x c e v z⟩
 ·obtain ⟨m,⟨o,_,_,ho,_⟩,_⟩:=I.loc
  exact free _ o (fun z=>(hch _ z).2.1 rfl) ho I.free
 ·obtain ⟨v,o,ho,hd⟩:=I.cell x c e
  exact free c o (fun z=>(hch c z).2.2.1 x c e rfl) ho (I.freeC x c e)
 ·obtain ⟨e,n,ne,nf,d⟩:=I.pin p hp
  have nch:p.1 ∉ ch:=fun z=>(hch p.1 z).2.2.2 p hp rfl
  exact ⟨keep p.1 p.2 ne nf nch e n,free p.1 p.2 nch e n,ne,nf,d⟩
theorem Inv.un(I:Inv X pins σ H s)(u:Un X.fs [] H H' s.heap h')(hok:HOk X.prog X.w H' h'):Inv X pins σ H' { s with heap:=h',toks:=t' }:=by
 obtain ⟨m,⟨o,es,ep,ho,r⟩,_⟩:=id I.loc
 obtain ⟨sl,hL⟩:=u.any ho I.free (by simp)
 exact I.step (g':=s.gens) (d':=s.drawn) (ch:=[]) (fun _ z=>nomatch z) (fun b o _ hb _ e n=>u.keep b o e n hb (by simp)) (fun b o _ hb _ e n=>u.slot b o e n hb (by simp)) (fun b o _ e n=>u.free b o e n (by simp)) (fun b o _ e=>u.there b o e (by simp)) u.tups u.frzs u.tbls (fun m' hm=>by
  obtain ⟨o',es',ep',ho',r'⟩:=hm
  rw [ho] at ho';cases ho'
  exact ⟨_,es',ep',hL,r'⟩) hok I.bare
theorem Inv.call(I:Inv X pins σ H s)(u:Un (frs X.stack) ch H H' s.heap h')(hok:HOk X.prog X.w H' h')(hg:AllBare g')
  (hch:∀ b ∈ ch,(b ∈ X.ex∨X.s₀.heap.objs.size≤b)/\b≠X.env.locals/\(∀ x c,X.env.cells.lookup x=some c->c≠b)/\∀ p ∈ X.pn++pins,p.1≠b):
  Inv X pins σ H' { s with heap:=h',gens:=g',drawn:=d',toks:=t' }:=by
 obtain ⟨m,⟨o,es,ep,ho,r⟩,_⟩:=id I.loc
 obtain ⟨sl,hL⟩:=u.any ho I.free fun z=>(hch _ z).2.1 rfl
 exact I.step (ch:=ch) hch (fun b o hL hb hc e n=>u.keep b o e n (fun z=>(List.mem_cons.mp (I.stkSub b z)).elim hL hb) hc) (fun b o _ _ hc e n=>u.any e n hc) (fun b o hc e n=>u.free b o e n hc) (fun b o hc e=>u.there b o e hc) u.tups u.frzs u.tbls (fun m' hm=>by
  obtain ⟨o',es',ep',ho',r'⟩:=hm
  rw [ho] at ho';cases ho'
  exact ⟨_,es',ep',hL,r'⟩) hok hg
theorem Inv.turned(I:Inv X pins σ H s)(k:∀ b o,b≠it->s.heap.get? b=some o->h'.get? b=some o)(hn:H it=none)(hL:it≠X.env.locals)
  (h1:it ∈ X.ex∨X.s₀.heap.objs.size≤it)(h2:∀ x c,X.env.cells.lookup x=some c->c≠it)(h3:∀ p ∈ X.pn++pins,p.1≠it):Inv X pins σ H { s with heap:=h',toks:=t' }:=by
 have nit:∀ b u,H b=some u->b≠it:=fun b u e z=>by rw [z,hn] at e;cases e
 refine I.step (g':=s.gens) (d':=s.drawn) (ch:=[it]) (fun b hb=>?_) (fun b o _ _ hc e _=>k b o (fun z=>hc (by simp [z])) e) (fun b o _ _ hc e _=>⟨o.slots,k b o (fun z=>hc (by simp [z])) e⟩) (fun _ _ _ _ n=>n)
  (fun b o hc e=>⟨o,k b o (fun z=>hc (by simp [z])) e⟩) (fun _ _ e=>e) (fun _ _ _ e=>e) (fun b ps e=>⟨#[],by rw [e];simp⟩) (fun m hm=>?_) (fun b u e=>?_) I.bare
 ·have e:b=it:=by simpa using hb
  subst e
  exact ⟨h1,hL,h2,h3⟩
 ·obtain ⟨o,es,ep,ho,r⟩:=hm
  exact ⟨o,es,ep,k _ o (Qw hL) ho,r⟩
 ·refine (I.hok b u e).stay (fun c v hc q=>k c v ?_ q) (fun _ q=>q) fun _ _ q=>q
  rcases hc with z | z
  ·rw [z];exact nit b u e
  ·exact nit c _ z
theorem Inv.tok(I:Inv X pins σ H s)(t:Nat):Inv X pins σ H { s with toks:=t }:=I.un (h':=s.heap) (t':=t) Un.refl I.hok
theorem Inv.kept(I:Inv X pins σ H s)(k:∀ b u,s.heap.get? b=some u->h'.get? b=some u):Inv X pins σ H { s with heap:=h',toks:=t' }:=I.un (Un.kept k) (I.hok.kept k)
theorem Inv.laid(I:Inv X pins σ H s)(k:∀ b u,s.heap.get? b=some u->h'.get? b=some u)(hp:s.heap.objs.size≤a)(new:ObjOk X.prog X.w (upd H a o) h' a o):
  Inv X pins σ (upd H a o) { s with heap:=h',toks:=t' }:=I.un (Un.laid k hp (I.hok.fresh hp)) (I.hok.laid k hp new)
theorem Inv.write(I:Inv X pins σ H s)(mu:Mut (H x))(he:e=x∨H e=some (.own x))(k:∀ b u,b≠e->s.heap.get? b=some u->h'.get? b=some u)(heo:∃ u,h'.get? e=some u)
  (new:ObjOk X.prog X.w (upd H x o) h' x o):Inv X pins σ (upd H x o) { s with heap:=h',toks:=t' }:=I.un (Un.write mu he k heo) (I.hok.write mu he k heo new)
theorem Inv.pins_of(I:Inv X pins σ H s)(h:∀ p ∈ pins',s.heap.get? p.1=some p.2/\H p.1=none/\p.1≠X.env.locals/\p.1 ∉ X.fs/\∀ v,p.2.data≠.cell v):Inv X pins' σ H s:=
 ⟨I.ok,I.os,I.bare,I.base,I.loc,I.cell,I.free,I.freeC,fun p hp=>(JK.mp hp).elim (fun z=>I.pin p (Jr _ z)) (h p),I.hok,I.len⟩
theorem zaY{N:List Str}(hN:N.Nodup){i j:Nat}{x:Str}(a:N[i]?=some x)(b:N[j]?=some x):i=j:=by
 obtain ⟨h1,e1⟩:=Jv.mp a
 obtain ⟨h2,e2⟩:=Jv.mp b
 exact (List.getElem_inj hN).mp (e1.trans e2.symm)
theorem zei{M:Model}{A:Around}{E:Value->Shared->Prop}{i:Nat}{x:Str}{v:V}{u:Value}{Q:Unit->Shared->Prop}(I:Inv X pins σ H s)(hN:X.N.Nodup)(hi:X.N[i]?=some x)(hx:Loc X.env.scope x)(r:RelV v u)
  (h:∀ s',Inv X pins (σ.set i (some v)) H s'->(∃ a,Heap.SameBut a s.heap s'.heap/\(a=X.env.locals∨X.env.cells.lookup x=some a))->Q () s')(hf:X.fn x=true∨X.env.scope.names.lookup x=some .local:=by first | exact .inl rfl | exact .inr rfl | assumption):wpAny M A (storeName X.env x u) Q E s:=by
 obtain ⟨m,hn,hl⟩:=id I.loc
 have hcls:(X.env.scope.kind == .class || (X.env.scope.kind == .module && X.env.locals != X.env.globals))=false:=by rw [I.ok.kind];rfl
 have hiσ:i<σ.length:=by rw [I.len];exact (Jv.mp hi).1
 have cne:=I.cne
 have tracked:∀ {a:Addr} {h':Heap},(∃ o,s.heap.get? a=some o/\H a=none)->Heap.SameBut a s.heap h'->HOk X.prog X.w H h':=fun {a h'} ha hs b ob e=>by
  obtain ⟨_,_,hfree⟩:=ha
  refine (I.hok b ob e).stay (fun c w' hc q=>(hs.2 c ?_).trans q) (fun _ q=>q) fun _ _ q=>q
  rintro rfl
  rcases hc with rfl | hc
  ·rw [hfree] at e;cases e
  ·rw [hfree] at hc;cases hc
 rcases hx with hk | hk
 ·refine wpAny_storeName_local hk hn (fun h' hn' hs=>?_) hcls
  obtain ⟨oL,_,_,hoL,_⟩:=id hn
  refine h _ ⟨I.ok,I.os,I.bare,⟨fun b o e n hb hx=>?_,fun b o e n hb hx=>?_,I.base.free,fun b o e hx=>?_,I.base.tups,I.base.frzs,I.base.tbls⟩,⟨_,hn',fun j y v' e1 e2 e3=>?_⟩,fun y c e=>?_,I.free,I.freeC,fun p hp=>?_,tracked ⟨oL,hoL,I.free⟩ hs,by simpa using I.len⟩ ⟨_,hs,.inl rfl⟩
  ·exact (hs.2 b (Jx (JE (Ji e) I.ok.above))).trans (I.base.keep b o e n hb hx)
  ·obtain ⟨sl,e1⟩:=I.base.slot b o e n hb hx
   exact ⟨sl,(hs.2 b (Jx (JE (Ji e) I.ok.above))).trans e1⟩
  ·obtain ⟨o',e1⟩:=I.base.there b o e hx
   exact ⟨o',(hs.2 b (Jx (JE (Ji e) I.ok.above))).trans e1⟩
  ·by_cases hj:j=i
   ·subst hj
    rw [hi] at e1;cases e1
    rw [List.getElem?_set_self hiσ] at e2
    cases e2
    exact ⟨u,r,.inl ⟨hk,by simp⟩⟩
   ·rw [List.getElem?_set_ne (Qw hj)] at e2
    obtain ⟨u',r',q⟩:=hl j y v' e1 e2 e3
    refine ⟨u',r',?_⟩
    rcases q with ⟨k,e⟩ | ⟨k,c,e,z⟩
    ·refine .inl ⟨k,?_⟩
     have:y≠x:=fun e=>hj (zaY hN e1 (e ▸ hi))
     simp [this,e]
    ·exact .inr ⟨k,c,e,z.sameBut hs (cne y c e)⟩
  ·obtain ⟨w',z⟩:=I.cell y c e
   exact ⟨w',z.sameBut hs (cne y c e)⟩
  ·obtain ⟨e,n,ne,nf,d⟩:=I.pin p hp
   exact ⟨(hs.2 p.1 ne).trans e,n,ne,nf,d⟩
 ·have hfn:X.fn x=true:=by
   rcases hf with z | z
   ·exact z
   ·rw [z] at hk;cases hk
  obtain ⟨c,hc⟩:=I.ok.has x (.inl hk)
  obtain ⟨w',z⟩:=I.cell x c hc
  refine wpAny_storeName_cell I.ok.kind hk hc z (fun h' hc' hs=>?_)
  obtain ⟨oc,hoc,hocd⟩:=id z
  refine h { s with heap:=h' } ⟨I.ok,I.os,I.bare,⟨fun b o e n hb hx=>?_,fun b o e n hb hx=>?_,I.base.free,fun b o e hx=>?_,I.base.tups,I.base.frzs,I.base.tbls⟩,⟨m,hn.sameBut hs (Ne.symm (cne x c hc)),fun j y v' e1 e2 e3=>?_⟩,fun y c' e=>?_,I.free,I.freeC,fun p hp=>?_,tracked ⟨oc,hoc,I.freeC x c hc⟩ hs,by simpa using I.len⟩ ⟨c,hs,.inr hc⟩
  ·exact (hs.2 b (Jx (JE (Ji e) (I.ok.cab x c hfn hc)))).trans (I.base.keep b o e n hb hx)
  ·obtain ⟨sl,e1⟩:=I.base.slot b o e n hb hx
   exact ⟨sl,(hs.2 b (Jx (JE (Ji e) (I.ok.cab x c hfn hc)))).trans e1⟩
  ·obtain ⟨o',e1⟩:=I.base.there b o e hx
   exact ⟨o',(hs.2 b (Jx (JE (Ji e) (I.ok.cab x c hfn hc)))).trans e1⟩
  ·by_cases hj:j=i
   ·subst hj
    rw [hi] at e1;cases e1
    rw [List.getElem?_set_self hiσ] at e2
    cases e2
    exact ⟨u,r,.inr ⟨.inl hk,c,hc,hc'⟩⟩
   ·rw [List.getElem?_set_ne (Qw hj)] at e2
    obtain ⟨u',r',q⟩:=hl j y v' e1 e2 e3
    refine ⟨u',r',?_⟩
    rcases q with q | ⟨k,c',e,z'⟩
    ·exact .inl q
    ·refine .inr ⟨k,c',e,z'.sameBut hs ?_⟩
     rintro rfl
     exact hj (zaY hN e1 (I.ok.inj _ _ _ e hc ▸ hi))
  ·by_cases hcc:c'=c
   ·subst hcc;exact ⟨_,hc'⟩
   ·obtain ⟨w2,z2⟩:=I.cell y c' e
    exact ⟨w2,z2.sameBut hs hcc⟩
  ·obtain ⟨e,n,ne,nf,d⟩:=I.pin p hp
   refine ⟨(hs.2 p.1 ?_).trans e,n,ne,nf,d⟩
   intro q
   rw [q,hoc] at e
   have q':oc=p.2:=Jq e
   exact d w' (by rw [← q'];exact hocd)
theorem zaD{Q:Unit->Shared->Prop}(I:Inv X pins σ H s)(hN:X.N.Nodup)(hi:X.N[i]?=some x)(hx:Loc X.env.scope x)(r:RelV v u)
  (h:∀ s',Inv X pins (σ.set i (some v)) H s'->Q () s')(hf:X.fn x=true∨X.env.scope.names.lookup x=some .local:=by first | exact .inl rfl | exact .inr rfl | assumption):wpAny M A (storeName X.env x u) Q E s:=
 zei I hN hi hx r (fun s' I' _=>h s' I') hf
theorem Inv.call'{s':Shared}(I:Inv X pins σ H s)(ho:s'.os=s.os)(u:Un (frs X.stack) ch H H' s.heap s'.heap)(hok:HOk X.prog X.w H' s'.heap)(hg:AllBare s'.gens)
  (hch:∀ b ∈ ch,(b ∈ X.ex∨X.s₀.heap.objs.size≤b)/\b≠X.env.locals/\(∀ x c,X.env.cells.lookup x=some c->c≠b)/\∀ p ∈ X.pn++pins,p.1≠b):Inv X pins σ H' s':=by
 obtain ⟨h',g',d',t',o'⟩:=s'
 have e:o'=s.os:=ho
 subst e
 exact I.call (g':=g') (t':=t') (d':=d') u hok hg hch
end
noncomputable abbrev XK:=Value->Option Addr->Hp->Prop
noncomputable abbrev St:=List (Option V)
noncomputable abbrev VK:=V->Hp->Prop
noncomputable abbrev TE:=St->Hp->VK->Prop
noncomputable abbrev TT:=St->Hp->(Bool->Hp->Prop)->Prop
noncomputable abbrev TA:=St->Hp->(List V->Hp->Prop)->Prop
structure Ends where
 nx:St->Hp->Prop
 rt:VK
 bk:St->Hp->Prop:=fun _ _=>False
 ct:St->Hp->Prop:=fun _ _=>False
noncomputable abbrev TS:=Ends->St->Hp->Prop
noncomputable def EP(X:Cx)(pins:List (Addr × Obj))(σ:St)(Q:VK)(u:Value)(s':Shared):Prop:=∃ v H',Inv X pins σ H' s'/\RelV v u/\Q v H'
noncomputable def TP(X:Cx)(pins:List (Addr × Obj))(σ:St)(Q:Bool->Hp->Prop)(b:Bool)(s':Shared):Prop:=∃ H',Inv X pins σ H' s'/\Q b H'
noncomputable def AP(X:Cx)(pins:List (Addr × Obj))(σ:St)(Q:List V->Hp->Prop)(us:List Value)(s':Shared):Prop:=∃ vs H',Inv X pins σ H' s'/\Vals vs us/\Q vs H'
noncomputable def SP(X:Cx)(pins:List (Addr × Obj))(D:Ends)(f:Flow)(s':Shared):Prop:=
 match f with
 | .next=>∃ σ' H',Inv X pins σ' H' s'/\D.nx σ' H'
 | .brk=>∃ σ' H',Inv X pins σ' H' s'/\D.bk σ' H'
 | .cont=>∃ σ' H',Inv X pins σ' H' s'/\D.ct σ' H'
 | .ret u=>∃ v σ' H',Inv X pins σ' H' s'/\RelV v u/\D.rt v H'
noncomputable def PE(X:Cx)(e:Expr)(t:TE):Prop:=
 ∀ (pins:List (Addr × Obj)) (s:Shared) (σ:St) (H:Hp) (Q:VK),Inv X pins σ H s->t σ H Q->wpAny (model X.prog X.w) X.A (eval e X.env) (EP X pins σ Q) X.xe s
noncomputable def PT(X:Cx)(e:Expr)(t:TT):Prop:=
 ∀ (pins:List (Addr × Obj)) (s:Shared) (σ:St) (H:Hp) (Q:Bool->Hp->Prop),Inv X pins σ H s->t σ H Q->wpAny (model X.prog X.w) X.A (isTrue e X.env (eval e X.env)) (TP X pins σ Q) X.xe s
noncomputable def PW(X:Cx)(e:Expr)(t:TT):Prop:=
 ∀ (whole:Sem Value) (pins:List (Addr × Obj)) (s:Shared) (σ:St) (H:Hp) (Q:Bool->Hp->Prop),Inv X pins σ H s->t σ H Q->wpAny (model X.prog X.w) X.A (isTrue e X.env whole) (TP X pins σ Q) X.xe s
theorem PW.pt(h:PW X e t):PT X e t:=h _
noncomputable def PA(X:Cx)(es:List Expr)(t:TA):Prop:=
 ∀ (pos:Pos) (pins:List (Addr × Obj)) (s:Shared) (σ:St) (H:Hp) (Q:List V->Hp->Prop),Inv X pins σ H s->t σ H Q->wpAny (model X.prog X.w) X.A (spliced (backTo pos (starEach es X.env))) (AP X pins σ Q) X.xe s
noncomputable def PS(X:Cx)(st:Stmt)(t:TS):Prop:=
 ∀ (pins:List (Addr × Obj)) (s:Shared) (σ:St) (H:Hp) (D:Ends),Inv X pins σ H s->t D σ H->wpAny (model X.prog X.w) X.A (exec st X.env) (SP X pins D) X.xe s
noncomputable def PSs(X:Cx)(st:List Stmt)(t:TS):Prop:=
 ∀ (pins:List (Addr × Obj)) (s:Shared) (σ:St) (H:Hp) (D:Ends),Inv X pins σ H s->t D σ H->wpAny (model X.prog X.w) X.A (execs st X.env) (SP X pins D) X.xe s
theorem thn{α:Type}{t:Sem α}{Q Q':α->Shared->Prop}{M:Model}{A:Around}{E:Value->Shared->Prop}{s:Shared}(h:wpAny M A t Q E s)(hQ:∀ a s,Q a s->Q' a s):wpAny M A t Q' E s:=wpAny_mono h hQ fun _ _ x=>x
section
variable {X:Cx}
noncomputable def vo(i:Nat):TE:=fun σ H Q=>∃ v,σ[i]?=some (some v)/\Q v H
noncomputable def tC(v:V):TE:=fun _ H Q=>Q v H
theorem zlh(hN:X.N[i]?=some x)(hv:Vis X.env.scope x)(hd:(x == ("__debug__":Str))=false:=by decide)(hcd:(x == ("__classdict__":Str))=false:=by decide):PE X (.Name x pos) (vo i):=by
 intro pins s σ H Q I h
 obtain ⟨v,e,h⟩:=h
 obtain ⟨m,hn,hl⟩:=I.loc
 obtain ⟨u,r,l⟩:=hl i x v hN e hv
 have fin:EP X pins σ Q u s:=⟨v,H,I,r,h⟩
 rcases l with ⟨hk,hm⟩ | ⟨hk,c,hc,hcell⟩
 ·exact wpAny_Name (wpAny_loadName_local I.ok.kind hk hn hm fin) hd
 ·rcases hk with hk | hk
  ·exact wpAny_Name (wpAny_loadName_cell I.ok.kind hk hc hcell fin) hd
  ·exact wpAny_Name (wpAny_loadName_free I.ok.kind hk hc hcell fin hcd) hd
theorem zlm{i j pos}:PE X (.Constant (.int i) j pos) (tC (.int i)):=fun _ _ _ H _ I h=>wpAny_Constant_int ⟨.int i,H,I.tok _,⟨_,rfl⟩,h⟩
theorem znk{b j pos}:PE X (.Constant (.bool b) j pos) (tC (.bl b)):=fun _ _ _ H _ I h=>Constant_bool ⟨.bl b,H,I,rfl,h⟩
theorem zlk{j pos}:PE X (.Constant .none j pos) (tC .non):=fun _ _ _ H _ I h=>Constant_none ⟨.non,H,I,rfl,h⟩
theorem zli{x j pos}:PE X (.Constant (.str x) j pos) (tC (.str x)):=fun _ _ _ H _ I h=>Calls.Constant_str ⟨.str x,H,I.tok _,⟨_,rfl⟩,h⟩
noncomputable def Gl(X:Cx)(x:Str):Prop:=X.env.kindOf x=some .globalImplicit
theorem qm{Q:Value->Shared->Prop}(I:Inv X pins σ H s)(hg:Gl X x)(hm:X.mg x=some u)(h:Q u s)
  (hd:(x == ("__debug__":Str))=false:=by decide):wpAny (model X.prog X.w) X.A (eval (.Name x pos) X.env) Q E s:=
 Calls.Name_function_global I.ok.kind hg (Calls.loadGlobal_global (by rw [I.ok.glob];exact I.mod.glob.keeps I.bk) hm h) hd
theorem x5{Q:Value->Shared->Prop}(I:Inv X pins σ H s)(hg:Gl X x)(hm:X.mg x=none)(hv:bootBuiltins x=some u)(h:Q u s)
  (hn:x≠"__name__":=by decide)(hd:(x == ("__debug__":Str))=false:=by decide):wpAny (model X.prog X.w) X.A (eval (.Name x pos) X.env) Q E s:=by
 obtain ⟨mb,h1,h2⟩:=I.mod.blt
 exact Calls.Name_function_global I.ok.kind hg (Calls.loadGlobal_builtin (by rw [I.ok.glob];exact I.mod.glob.keeps I.bk) hm (by rw [I.ok.blt];exact h1.keeps I.bk) ((h2 x hn).trans hv) h) hd
theorem zdi(hg:Gl X x)(hm:X.mg x=some u)(r:RelV v u)(hd:(x == ("__debug__":Str))=false:=by decide):PE X (.Name x pos) (tC v):=
 fun _ _ _ H _ I h=>qm I hg hm ⟨v,H,I,r,h⟩ hd
theorem ziY(hg:Gl X x)(hm:X.mg x=none)(hv:bootBuiltins x=some u)(r:RelV v u)(hn:x≠"__name__":=by decide)(hd:(x == ("__debug__":Str))=false:=by decide):PE X (.Name x pos) (tC v):=
 fun _ _ _ H _ I h=>x5 I hg hm hv ⟨v,H,I,r,h⟩ hn hd
variable {a b:Expr} {ta tb:TE} {pos:Pos}
variable {tA tB':TT} {yC:List Expr}
noncomputable def zoM(t u:TT):TT:=fun σ H Q=>t σ H fun c H1=>if c=true then u σ H1 Q else Q false H1
noncomputable def tOr(t u:TT):TT:=fun σ H Q=>t σ H fun c H1=>if c=true then Q true H1 else u σ H1 Q
noncomputable def zoI(t:TT):TT:=fun σ H Q=>t σ H fun c H1=>Q (!c) H1
theorem ziL(ha:PT X a tA):PW X (.BoolOp .And [a] pos) tA:=by
 intro wh pins s σ H Q I h
 refine isTrue_and (thn (ha pins s σ H Q I h) fun c s1 e=>?_)
 cases c with
 | true=>exact isTrue_and_nil e
 | false=>exact e
theorem zkT(ha:PT X a tA):PW X (.BoolOp .Or [a] pos) tA:=by
 intro wh pins s σ H Q I h
 refine isTrue_or (thn (ha pins s σ H Q I h) fun c s1 e=>?_)
 cases c with
 | false=>exact isTrue_or_nil e
 | true=>exact e
theorem zkU(ha:PT X a tA)(hb:PW X (.BoolOp .And (b::yC) pos) tB'):PW X (.BoolOp .And (a::b::yC) pos) (zoM tA tB'):=by
 intro wh pins s σ H Q I h
 refine isTrue_and (thn (ha pins s σ H _ I h) fun c s1 hq_=>?_)
 obtain ⟨H1,I1,q1⟩:=hq_
 cases c with
 | true=>exact hb wh pins s1 σ H1 Q I1 q1
 | false=>exact ⟨H1,I1,q1⟩
theorem zne(ha:PT X a tA)(hb:PW X (.BoolOp .Or (b::yC) pos) tB'):PW X (.BoolOp .Or (a::b::yC) pos) (tOr tA tB'):=by
 intro wh pins s σ H Q I h
 refine isTrue_or (thn (ha pins s σ H _ I h) fun c s1 hq_=>?_)
 obtain ⟨H1,I1,q1⟩:=hq_
 cases c with
 | true=>exact ⟨H1,I1,q1⟩
 | false=>exact hb wh pins s1 σ H1 Q I1 q1
theorem zkX(ha:PT X a tA):PT X (.UnaryOp .Not a pos) (zoI tA):=by
 intro pins s σ H Q I h
 exact isTrue_not (ha pins s σ H (fun c H1=>Q (!c) H1) I h)
theorem zlj{op}(h:PE X a t):PE X (.BoolOp op [a] pos) t:=fun pins s σ H Q I hw=>BoolOp_one (h pins s σ H Q I hw)
noncomputable def tIf(t:TT)(ta tb:TE):TE:=fun σ H Q=>t σ H fun c H1=>if c=true then ta σ H1 Q else tb σ H1 Q
theorem zgn{c:Expr}(hc:PT X c tA)(ha:PE X a ta)(hb:PE X b tb):PE X (.IfExp c a b pos) (tIf tA ta tb):=by
 intro pins s σ H Q I h
 refine wpAny_IfExp (thn (hc pins s σ H _ I h) fun d s1 hq_=>?_)
 obtain ⟨H1,I1,q1⟩:=hq_
 cases d with
 | true=>exact ha pins s1 σ H1 Q I1 q1
 | false=>exact hb pins s1 σ H1 Q I1 q1
end
noncomputable def SqL(K:PySem.W.Frag)(H:Hp)(a:Addr)(xs:List V):Prop:=
 Rd H a (.lst xs)∨
  ∃ (o:Obj) (its:Array Value) (n:Nat),K.lookup a=some o/\o.cls=.type "list"/\o.dict=none/\o.data=.seq its n/\its.size≤sizeLine/\Vals xs its.toList
noncomputable def SqT(K:PySem.W.Frag)(H:Hp)(a:Addr)(xs:List V):Prop:=
 Rd H a (.tup xs)∨
  ∃ (o:Obj) (its:Array Value) (n:Nat),K.lookup a=some o/\o.cls=.type "tuple"/\o.data=.seq its n/\its.size≤sizeLine/\Vals xs its.toList
noncomputable def zpp:Value->Option V
 | .none=>some .non
 | .bool b=>some (.bl b)
 | .int i _=>some (.int i)
 | .str x _=>some (.str x)
 | .bytes b _=>some (.byt b)
 | .float b _=>some (.flt b)
 | .ref a=>some (.ref a)
 | .type n=>some (.ty n)
 | _=>none
theorem RelV.abs(r:RelV x u):zpp u=some x:=by
 cases x with
 | non=>cases r;rfl
 | bl _=>cases r;rfl
 | int _=>obtain ⟨t,rfl⟩:=r;rfl
 | str _=>obtain ⟨t,rfl⟩:=r;rfl
 | byt _=>obtain ⟨t,rfl⟩:=r;rfl
 | flt _=>obtain ⟨t,rfl⟩:=r;rfl
 | ref _=>cases r;rfl
 | ty _=>cases r;rfl
theorem RelV.inj(r:RelV x u)(q:RelV y u):x=y:=Jq (r.abs.symm.trans q.abs)
theorem Vals.inj{xs ys:List V}{us:List Value}(h:Vals xs us):Vals ys us->xs=ys:=by
 induction h generalizing ys with
 | nil=>intro h;cases h;rfl
 | cons r t ih=>intro h;cases h with | cons r' t'=>rw [r.inj r',ih t']
section
variable {X:Cx} {pins:List (Addr × Obj)} {σ:St} {H:Hp} {s:Shared} {a:Addr} {xs ys:List V}
theorem SqL.of{K:PySem.W.Frag}(h:H a=some (.lst xs)):SqL K H a xs:=.inl (.inl h)
theorem SqT.of{K:PySem.W.Frag}(h:H a=some (.tup xs)):SqT K H a xs:=.inl (.inl h)
theorem Inv.list(I:Inv X pins σ H s)(h:SqL X.K H a xs):∃ its:List Value,Vals xs its/\PlainL s.heap a its.toArray/\xs.length≤sizeLine:=by
 rcases h with h | ⟨o,its,n,hk,hc,hd,hs,hz,r⟩
 ·obtain ⟨z,its,n,r,e⟩:=h.ok I.hok
  exact ⟨its,r,⟨_,n,e,rfl,rfl,rfl⟩,z⟩
 ·refine ⟨its.toList,r,⟨o,n,I.kIn a o hk,hc,hd,by simpa using hs⟩,?_⟩
  have e:=r.length
  simp only [Array.length_toList] at e
  omega
theorem Inv.tuple(I:Inv X pins σ H s)(h:SqT X.K H a xs):∃ its:List Value,Vals xs its/\IsTup s.heap a its.toArray/\xs.length≤sizeLine:=by
 rcases h with h | ⟨o,its,n,hk,hc,hs,hz,r⟩
 ·obtain ⟨z,its,r,p⟩:=h.ok I.hok
  exact ⟨its,r,p,z⟩
 ·refine ⟨its.toList,r,⟨o,I.kIn a o hk,hc,n,by simpa using hs⟩,?_⟩
  have e:=r.length
  simp only [Array.length_toList] at e
  omega
theorem Inv.list_inj(I:Inv X pins σ H s)(h:SqL X.K H a xs)(h':SqL X.K H a ys):xs=ys:=by
 obtain ⟨its,r,⟨o,n,e,_,_,d⟩,_⟩:=I.list h
 obtain ⟨its',r',⟨o',n',e',_,_,d'⟩,_⟩:=I.list h'
 rw [e] at e';cases e'
 rw [d] at d'
 injection d' with d1 _
 have:its=its':=by simpa using congrArg Array.toList d1
 subst this
 exact r.inj r'
theorem Inv.tuple_inj(I:Inv X pins σ H s)(h:SqT X.K H a xs)(h':SqT X.K H a ys):xs=ys:=by
 obtain ⟨its,r,⟨o,e,_,n,d⟩,_⟩:=I.tuple h
 obtain ⟨its',r',⟨o',e',_,n',d'⟩,_⟩:=I.tuple h'
 rw [e] at e';cases e'
 rw [d] at d'
 injection d' with d1 _
 have:its=its':=by simpa using congrArg Array.toList d1
 subst this
 exact r.inj r'
end
noncomputable abbrev Cx.wish(X:Cx)(E:Value->Shared->Prop):Cx:={ X with xe:=E }
noncomputable abbrev Cx.nox(X:Cx):Cx:=X.wish fun _ _=>False
theorem Cx.Ok.wish{X:Cx}(ok:X.Ok)(E:Value->Shared->Prop):(X.wish E).Ok:=
 ⟨ok.mod,ok.kind,ok.glob,ok.blt,ok.above,ok.inj,ok.has,ok.cab,ok.hd,ok.frames,ok.stk,ok.exf,ok.bs,ok.bsz,ok.noex,ok.exfs,ok.funs,ok.frf⟩
theorem Cx.Ok.unwish{X:Cx}(ok:(X.wish E).Ok):X.Ok:=
 ⟨ok.mod,ok.kind,ok.glob,ok.blt,ok.above,ok.inj,ok.has,ok.cab,ok.hd,ok.frames,ok.stk,ok.exf,ok.bs,ok.bsz,ok.noex,ok.exfs,ok.funs,ok.frf⟩
section
variable {X:Cx} {pins:List (Addr × Obj)} {σ:St} {H:Hp} {s:Shared} {E:Value->Shared->Prop}
theorem Inv.wish(I:Inv X pins σ H s)(E:Value->Shared->Prop):Inv (X.wish E) pins σ H s:=⟨I.ok.wish E,I.os,I.bare,I.base,I.loc,I.cell,I.free,I.freeC,I.pin,I.hok,I.len⟩
theorem Inv.unwish(I:Inv (X.wish E) pins σ H s):Inv X pins σ H s:=⟨I.ok.unwish,I.os,I.bare,I.base,I.loc,I.cell,I.free,I.freeC,I.pin,I.hok,I.len⟩
theorem SP.unwish(h:SP (X.wish E) pins D f s'):SP X pins D f s':=by
 cases f with
 | next=>obtain ⟨σ',H',I,q⟩:=h;exact ⟨σ',H',I.unwish,q⟩
 | brk=>obtain ⟨σ',H',I,q⟩:=h;exact ⟨σ',H',I.unwish,q⟩
 | cont=>obtain ⟨σ',H',I,q⟩:=h;exact ⟨σ',H',I.unwish,q⟩
 | ret u=>obtain ⟨v,σ',H',I,r,q⟩:=h;exact ⟨v,σ',H',I.unwish,r,q⟩
theorem PSs.nox{st:List Stmt}{t:TS}(h:PSs X.nox st t):PSs X st t:=fun pins s σ H D I hw=>
 wpAny_mono (h pins s σ H D (I.wish _) hw) (fun _ _ q=>q.unwish) fun _ _ z=>False.elim z
end
section
variable {X:Cx} {st:Stmt} {yC:List Stmt} {t u:TS} {e:Expr} {te:TE} {pos:Pos}
noncomputable def zfI:TS:=fun D σ H=>D.nx σ H
noncomputable def zoF(t u:TS):TS:=fun D σ H=>t { D with nx:=u D } σ H
theorem pss_nil:PSs X [] zfI:=fun _ _ σ H _ I h=>wpAny_execs_nil ⟨σ,H,I,h⟩
theorem zaP(h1:PS X st t)(h2:PSs X yC u):PSs X (st::yC) (zoF t u):=by
 intro pins s σ H D I h
 refine wpAny_execs_cons (thn (h1 pins s σ H { D with nx:=u D } I h) fun f s1 q=>?_)
 cases f with
 | next=>
  obtain ⟨σ',H',I',q⟩:=q
  exact h2 pins s1 σ' H' D I' q
 | ret v=>exact q
 | brk=>exact q
 | cont=>exact q
noncomputable def zkI:TS:=fun D σ H=>D.bk σ H
noncomputable def zmP:TS:=fun D σ H=>D.ct σ H
theorem ps_pass:PS X (.Pass pos) zfI:=fun _ _ σ H _ I h=>wpAny_Pass ⟨σ,H,I,h⟩
theorem ps_break:PS X (.Break pos) zkI:=fun _ _ σ H _ I h=>wpAny_Break ⟨σ,H,I,h⟩
theorem ps_continue:PS X (.Continue pos) zmP:=fun _ _ σ H _ I h=>wpAny_Continue ⟨σ,H,I,h⟩
theorem Inv.quiet(I:Inv X pins σ H s):interactive X.env=false:=by simp [interactive,I.ok.kind]
theorem ps_doc{x j pos pos'}:PS X (.Expr (.Constant (.str x) j pos) pos') zfI:=fun _ s σ H _ I h=>wpAny_Expr (Calls.Constant_str (show SP X _ _ .next { s with toks:=s.toks+1 } from ⟨σ,H,I.tok _,h⟩)) I.quiet
noncomputable def zcU(te:TE):TS:=fun D σ H=>te σ H fun _ H1=>D.nx σ H1
theorem qc(he:PE X e te)(hs:swapsWith e none pos.line X.env=pure false:=by rfl):PS X (.Expr e pos) (zcU te):=by
 intro pins s σ H D I h
 exact wpAny_Expr_any (thn (he pins s σ H _ I h) fun v s1 ⟨x,H1,I1,r1,q1⟩=>⟨σ,H1,I1,q1⟩) I.quiet hs
noncomputable def zoG(te:TE):TS:=fun D σ H=>te σ H D.rt
theorem zla(he:PE X e te):PS X (.Return (some e) pos) (zoG te):=by
 intro pins s σ H D I h
 exact wpAny_Return_some (thn (he pins s σ H _ I h) fun v s1 ⟨x,H1,I1,r1,q1⟩=>⟨x,σ,H1,I1,r1,q1⟩)
noncomputable def zmM:TS:=fun D _ H=>D.rt .non H
theorem ps_retN:PS X (.Return none pos) zmM:=fun _ _ σ H _ I h=>wpAny_Return_none ⟨.non,σ,H,I,rfl,h⟩
noncomputable def zoK(c:TT)(t u:TS):TS:=fun D σ H=>c σ H fun b H1=>if b=true then t D σ H1 else u D σ H1
theorem zng{c:Expr}{a b:List Stmt}{tc:TT}(hc:PT X c tc)(ha:PSs X a t)(hb:PSs X b u):PS X (.If c a b pos) (zoK tc t u):=by
 intro pins s σ H D I h
 refine wpAny_If (thn (hc pins s σ H _ I h) fun d s1 hq_=>?_)
 obtain ⟨H1,I1,q1⟩:=hq_
 cases d with
 | true=>exact ha pins s1 σ H1 D I1 q1
 | false=>exact hb pins s1 σ H1 D I1 q1
end
noncomputable abbrev TG:=V->St->Hp->(St->Hp->Prop)->Prop
noncomputable abbrev TGs:=List V->St->Hp->(St->Hp->Prop)->Prop
noncomputable def PG(X:Cx)(target:Expr)(t:TG):Prop:=
 ∀ (pins:List (Addr × Obj)) (s:Shared) (σ:St) (H:Hp) (v:V) (u:Value) (Q:St->Hp->Prop),Inv X pins σ H s->RelV v u->t v σ H Q->
  wpAny (model X.prog X.w) X.A (assign target X.env u) (fun _ s'=>∃ σ' H',Inv X pins σ' H' s'/\Q σ' H') X.xe s
noncomputable def PGs(X:Cx)(ts:List Expr)(t:TGs):Prop:=
 ∀ (pins:List (Addr × Obj)) (s:Shared) (σ:St) (H:Hp) (vs:List V) (us:List Value) (Q:St->Hp->Prop),Inv X pins σ H s->Vals vs us->t vs σ H Q->
  wpAny (model X.prog X.w) X.A (assignInOrder ((assignEach ts X.env).map (·.2)) us) (fun _ s'=>∃ σ' H',Inv X pins σ' H' s'/\Q σ' H') X.xe s
noncomputable abbrev zmr:=V->V->V->Hp->(Hp->Prop)->Prop
noncomputable def zoh(X:Cx)(t:zmr):Prop:=
 ∀ (pins:List (Addr × Obj)) (s:Shared) (σ:St) (H:Hp) (o i v:V) (ov iv u:Value) (Q:Hp->Prop),Inv X pins σ H s->RelV o ov->RelV i iv->RelV v u->t o i v H Q->
  wpAny (model X.prog X.w) X.A (setItem ov iv u) (fun _ s'=>∃ H',Inv X pins σ H' s'/\Q H') X.xe s
section
variable {X:Cx} {pos:Pos}
noncomputable def wd(i:Nat):TG:=fun v σ H Q=>Q (σ.set i (some v)) H
theorem zdh(hN:X.N.Nodup)(hi:X.N[i]?=some x)(hx:Loc X.env.scope x)(hf:X.fn x=true∨X.env.scope.names.lookup x=some .local:=by first | exact .inl rfl | exact .inr rfl | assumption):PG X (.Name x pos) (wd i):=by
 intro pins s σ H v u Q I r h
 exact wpAny_assign_Name (zaD I hN hi hx r (fun s' I'=>⟨_,H,I',h⟩) hf)
noncomputable def zpc:TGs:=fun vs σ H Q=>vs=[]/\Q σ H
noncomputable def znN(t:TG)(u:TGs):TGs:=fun vs σ H Q=>∃ v r,vs=v::r/\t v σ H fun σ' H'=>u r σ' H' Q
theorem pgs_nil:PGs X [] zpc:=by
 intro pins s σ H vs us Q I r h
 obtain ⟨e,h⟩:=h
 subst e
 cases r
 exact assignInOrder_nil ⟨σ,H,I,h⟩
theorem zgl{e:Expr}{es:List Expr}{t:TG}{u:TGs}(h1:PG X e t)(h2:PGs X es u)
  (hs:(assignEach (e::es) X.env).map (·.2)=assign e X.env::(assignEach es X.env).map (·.2):=by rfl):PGs X (e::es) (znN t u):=by
 intro pins s σ H vs us Q I r h
 obtain ⟨v,vr,e1,h⟩:=h
 subst e1
 cases r with
 | cons r rr=>
  rw [hs]
  refine assignInOrder_cons (thn (h1 pins s σ H _ _ _ I r h) fun _ s1 hq_=>?_)
  obtain ⟨σ1,H1,I1,q1⟩:=hq_
  exact h2 pins s1 σ1 H1 _ _ Q I1 rr q1
noncomputable def zpb(K:PySem.W.Frag)(n:Nat)(t:TGs):TG:=fun v σ H Q=>∃ a xs,v=.ref a/\SqT K H a xs/\xs.length=n/\t xs σ H Q
theorem zle(hc:X.calm=true)(h:PGs X es t)
  (hn:(assignEach es X.env).length=n:=by rfl)(hst:(assignEach es X.env).findIdx? (·.1)=none:=by rfl):PG X (.Tuple es k pos) (zpb X.K n t):=by
 intro pins s σ H v u Q I r hw
 obtain ⟨a,xs,e1,hq,hl,hw⟩:=hw
 subst e1
 cases r
 obtain ⟨its,rv,ht,hz⟩:=I.tuple hq
 refine assign_Tuple_tuple (I.ok.hd hc) ht (by simp [hn,← hl,rv.length]) hst fun h' hx=>?_
 have I1:Inv X pins σ H { s with heap:=h' }:=I.kept (t':=s.toks) fun b o e=>hx b o (Nat.ne_of_lt (Heap.lt_size e)) e
 exact h pins _ σ H xs _ Q I1 (by simpa using rv) hw
noncomputable def znM(to ti:TE)(t:zmr):TG:=fun v σ H Q=>to σ H fun o H1=>ti σ H1 fun i H2=>t o i v H2 fun H3=>Q σ H3
theorem zlf{o i:Expr}{to ti:TE}{t:zmr}(ho:PE X o to)(hi:PE X i ti)(hs:zoh X t)
  (ha:∀ v,assign (.Subscript o i pos) X.env v=(do
   let ov ← holding [v] (eval o X.env)
   let iv ← holding [v,ov] (eval i X.env)
   standAt pos
   holding [v,ov,iv] (setItem ov iv v)
   release [v,ov,iv] []):=by intro _;rfl):PG X (.Subscript o i pos) (znM to ti t):=by
 intro pins s σ H v u Q I r h
 rw [ha]
 refine wpAny_bind (wpAny_holding (thn (ho pins s σ H _ I h) fun ov s1 hq_=>?_))
 obtain ⟨x,H1,I1,r1,q1⟩:=hq_
 refine wpAny_bind (wpAny_holding (thn (hi pins s1 σ H1 _ I1 q1) fun iv s2 hq_=>?_))
 obtain ⟨y,H2,I2,r2,q2⟩:=hq_
 refine wpAny_bind (wpAny_standAt (wpAny_bind (wpAny_holding (thn (hs pins s2 σ H2 x y v ov iv u _ I2 r1 r2 r q2) fun _ s3 hq_=>?_))))
 obtain ⟨H3,I3,q3⟩:=hq_
 exact wpAny_release ⟨σ,H3,I3,q3⟩
noncomputable def vp(te:TE)(g:TG):TS:=fun D σ H=>te σ H fun x H1=>g x σ H1 D.nx
theorem zgh{tg e:Expr}{te:TE}{g:TG}(he:PE X e te)(hg:PG X tg g)(hs:swapsWithSole [tg] e pos.line X.env=pure false:=by rfl)(hw:swappedStores [tg] e X.env=pure none:=by rfl)
  (h1:(assignEach [tg] X.env).map (·.2)=[assign tg X.env]:=by rfl):PS X (.Assign [tg] e pos) (vp te g):=by
 intro pins s σ H D I h
 refine wpAny_Assign_stores (thn (he pins s σ H _ I h) fun v s1 ⟨x,H1,I1,r1,q1⟩=>?_) hs hw
 rw [h1]
 exact thn (hg pins s1 σ H1 x v _ I1 r1 q1) fun _ s2 q=>q
theorem zkZ{i:Nat}{x:Str}{e:Expr}{te:TE}{pos':Pos}(hN:X.N.Nodup)(hi:X.N[i]?=some x)(hx:Loc X.env.scope x)(he:PE X e te)(hs:swapsWith e (some (.Name x pos')) pos.line X.env=pure false:=by rfl)(hf:X.fn x=true∨X.env.scope.names.lookup x=some .local:=by first | exact .inl rfl | exact .inr rfl | assumption):
  PS X (.Assign [.Name x pos'] e pos) (vp te (wd i)):=by
 intro pins s σ H D I h
 refine wpAny_Assign_Name (thn (he pins s σ H _ I h) fun v s1 ⟨y,H1,I1,r1,q1⟩=>?_) hs
 exact zaD I1 hN hi hx r1 (fun s2 I2=>⟨_,H1,I2,q1⟩) hf
noncomputable def zkF(c:TT)(tb:TS):TS:=fun D σ H=>∃ W:Nat->St->Hp->Prop,(∃ m,W m σ H)/\∀ m σ H,W m σ H->
 c σ H fun b H1=>if b=true then ∃ N:St->Hp->Prop,(∀ σ' H',N σ' H'->∃ m',m'<m/\W m' σ' H')/\tb { D with nx:=N,ct:=N,bk:=D.nx } σ H1 else D.nx σ H1
theorem zgf{c:Expr}{body:List Stmt}{tc:TT}{tb:TS}(hp:PassesOwn (model X.prog X.w) X.A X.env X.xe)(hc:PT X c tc)(hb:PSs X body tb):PS X (.While c body [] pos) (zkF tc tb):=by
 intro pins s σ H D I h
 obtain ⟨W,⟨m0,w0⟩,turn⟩:=h
 refine wpAny_While (codeAny_whileLoop (fun n s'=>∃ σ' H',Inv X pins σ' H' s'/\W n σ' H') ?_ m0 ⟨σ,H,I,w0⟩)
 rintro n s1 ⟨σ1,H1,I1,w1⟩
 refine wpAny_passesOwn hp (thn (hc pins s1 σ1 H1 _ I1 (turn n σ1 H1 w1)) fun b s2 hq_=>?_)
 obtain ⟨H2,I2,q2⟩:=hq_
 cases b with
 | true=>
  obtain ⟨N,hN,q2⟩:=q2
  rw [if_pos rfl]
  refine wpAny_passesOwn hp (thn (hb pins s2 σ1 H2 _ I2 q2) fun f s3 q3=>?_)
  cases f with
  | next=>
   obtain ⟨σ3,H3,I3,n3⟩:=q3
   obtain ⟨m',hm,w3⟩:=hN σ3 H3 n3
   exact ⟨m',hm,σ3,H3,I3,w3⟩
  | cont=>
   obtain ⟨σ3,H3,I3,n3⟩:=q3
   obtain ⟨m',hm,w3⟩:=hN σ3 H3 n3
   exact ⟨m',hm,σ3,H3,I3,w3⟩
  | brk=>exact q3
  | ret v=>exact q3
 | false=>
  rw [if_neg Jj]
  exact wpAny_execs_nil ⟨σ1,H2,I2,q2⟩
end
structure It where
 go:Nat->Hp->Prop
 yld:Nat->Hp->V->Hp->Prop
 stop:Nat->Hp->Prop
noncomputable def vF(X:Cx)(pins:List (Addr × Obj))(H:Hp)(b:Addr):Prop:=
 H b=none/\b≠X.env.locals/\b ∉ X.fs/\(b ∈ X.ex∨X.s₀.heap.objs.size≤b)/\(∀ x c,X.env.cells.lookup x=some c->c≠b)/\∀ p ∈ X.pn++pins,p.1≠b
theorem Inv.fpOk{H H':Hp}{s:Shared}(I:Inv X pins σ H s)(hb:s.heap.objs.size≤b)(hn:H' b=none):vF X pins H' b:=by
 refine ⟨hn,Ku (JE I.lt hb),I.nofs hb,.inr (JV I.sz hb),fun x c e z=>?_,fun p hp z=>?_⟩
 ·obtain ⟨v,q⟩:=I.cell x c e
  exact absurd (JE q.lt (by rw [z];exact hb)) (KM _)
 ·exact absurd (JE (Ji (I.pin p hp).1) (by rw [z];exact hb)) (KM _)
structure Turn (P:Program) (w:World) (K:PySem.W.Frag) (tg:Expr) (J:It) (fp:List Addr) (it:Addr) (tn:Nat->Heap->Prop):Prop where
 mem:it ∈ fp
 obj:∀ i h,tn i h->∀ b ∈ fp,∃ o,h.get? b=some o/\∀ v,o.data≠.cell v
 keep:∀ i h h',tn i h->(∀ b ∈ fp,∀ o,h.get? b=some o->h'.get? b=some o)->tn i h'
 item:∀ (X:Cx),X.prog=P->X.w=w->X.K=K->X.calm=true->∀ (i:Nat) (pins:List (Addr × Obj)) (s:Shared) (σ:St) (H:Hp) (E:Value->Shared->Prop),Inv X pins σ H s->(∀ b ∈ fp,vF X pins H b)->tn i s.heap->J.go i H->
  wpAny (model P w) X.A (pyNext (.ref it)) (fun r s1=>∃ u,r=some u/\
   wpAny (model P w) X.A (letOwnedTupleGo tg (.ref it) u) (fun _ s2=>∃ x H',Inv X pins σ H' s2/\RelV x u/\J.yld i H x H'/\tn (i+1) s2.heap/\∀ b ∈ fp,H' b=none) E s1) E s
 done:∀ (X:Cx),X.prog=P->X.w=w->X.K=K->X.calm=true->∀ (i:Nat) (pins:List (Addr × Obj)) (s:Shared) (σ:St) (H:Hp) (E:Value->Shared->Prop),Inv X pins σ H s->(∀ b ∈ fp,vF X pins H b)->tn i s.heap->J.stop i H->
  wpAny (model P w) X.A (pyNext (.ref it)) (fun r s1=>r=none/\Inv X pins σ H s1) E s
 self:∀ (A:Around) (i:Nat) (s:Shared) (Q:Value->Shared->Prop) (E:Value->Shared->Prop),tn i s.heap->Q (.ref it) s->wpAny (model P w) A (pyIter (.ref it)) Q E s
noncomputable abbrev TI:=St->Hp->(It->Hp->Prop)->Prop
noncomputable def PIE(X:Cx)(pins:List (Addr × Obj))(σ:St)(tg:Expr)(R:It->Hp->Prop)(itv:Value)(s2:Shared):Prop:=
 ∃ (it:Addr) (fp:List Addr) (tn:Nat->Heap->Prop) (J:It) (H':Hp),itv=.ref it/\Inv X pins σ H' s2/\Turn X.prog X.w X.K tg J fp it tn/\tn 0 s2.heap/\(∀ b ∈ fp,vF X pins H' b)/\R J H'
noncomputable def PI(X:Cx)(tg iter:Expr)(wi:TI):Prop:=
 ∀ (pins:List (Addr × Obj)) (s:Shared) (σ:St) (H:Hp) (R:It->Hp->Prop),Inv X pins σ H s->wi σ H R->
  wpAny (model X.prog X.w) X.A (eval iter X.env) (fun v s1=>wpAny (model X.prog X.w) X.A (pyIter v) (PIE X pins σ tg R) X.xe s1) X.xe s
theorem zhd{s:Shared}{o:Obj}{Q:Unit->Shared->Prop}(ho:s.heap.get? it=some o)(hc:o.cls=.type n)(hd:o.data=.fields vs)(hn:["enumerate","zip","dict_itemiterator","dict_reverseitemiterator","odict_iterator","itertools.zip_longest","itertools.pairwise"].contains n=false)(hQ:Q () s):wpAny M A (letOwnedTupleGo tg (.ref it) u) Q E s:=by
 unfold letOwnedTupleGo
 cases tg<;>first
  | exact wpAny_pure hQ
  | (cases u<;>first
   | exact wpAny_pure hQ
   | (
    refine wpAny_bind (wpAny_load ho ?_)
    rw [hc,hd]
    show wpAny M A (if (["enumerate","zip","dict_itemiterator","dict_reverseitemiterator","odict_iterator","itertools.zip_longest","itertools.pairwise"].contains n && vs[0]? == some (rawInt _))=true then _ else _) Q E s
    rw [if_neg (by intro h;rw [hn,Bool.false_and] at h;cases h)]
    exact wpAny_pure hQ))
noncomputable def Itl(K:PySem.W.Frag)(a:Addr):It:=
 ⟨fun i H=>∃ xs x,SqL K H a xs/\xs[i]?=some x,fun i H x H'=>H'=H/\∀ xs,SqL K H a xs->xs[i]?=some x,fun i H=>∃ xs,SqL K H a xs/\xs.length≤i⟩
noncomputable def Itt(K:PySem.W.Frag)(a:Addr):It:=
 ⟨fun i H=>∃ xs x,SqT K H a xs/\xs[i]?=some x,fun i H x H'=>H'=H/\∀ xs,SqT K H a xs->xs[i]?=some x,fun i H=>∃ xs,SqT K H a xs/\xs.length≤i⟩
noncomputable def Itr(lo:Int)(n:Nat):It:=⟨fun i _=>i<n,fun i H x H'=>H'=H/\x=.int (lo+i),fun i _=>n≤i⟩
theorem zec{P:Program}{w:World}{K:PySem.W.Frag}{tg:Expr}(a it:Addr):Turn P w K tg (Itl K a) [it] it (fun i h=>h.IsListIter it a i) where
 mem:=by simp
 obj:=fun i h st b hb=>by
  have e:b=it:=by simpa using hb
  subst e
  obtain ⟨o,e,c,d⟩:=st
  exact ⟨o,e,fun v z=>by rw [d] at z;cases z⟩
 keep:=fun i h h' st k=>st.at fun o e=>k it (by simp) o e
 item:=by
  intro X hP hw hK hc i pins s σ H E I hf st hg
  subst hP hw hK
  obtain ⟨xs,x,hq,hx⟩:=hg
  obtain ⟨its,rv,p,hz⟩:=I.list hq
  obtain ⟨u,hu,ru⟩:=rv.get hx
  obtain ⟨f0,f1,f2,f3,f4,f5⟩:=hf it (by simp)
  refine wpAny_pyNext_list_item st p.isList (x:=u) (by simpa using hu) fun h' st' sb=>?_
  have I1:Inv X pins σ H { s with heap:=h' }:=I.turned (t':=s.toks) (fun b o hb e=>(sb.2 b hb).trans e) f0 f1 f3 f4 f5
  obtain ⟨o,e,c,d⟩:=id st'
  exact ⟨u,rfl,zhd (s:={ s with heap:=h' }) e c d (by decide) ⟨x,H,I1,ru,⟨rfl,fun ys hy=>by rw [I.list_inj hy hq];exact hx⟩,st',fun b hb=>(hf b hb).1⟩⟩
 done:=by
  intro X hP hw hK hc i pins s σ H E I hf st hg
  subst hP hw hK
  obtain ⟨xs,hq,hx⟩:=hg
  obtain ⟨its,rv,p,hz⟩:=I.list hq
  obtain ⟨f0,f1,f2,f3,f4,f5⟩:=hf it (by simp)
  have hl:=rv.length
  exact wpAny_pyNext_list_end (I.ok.hd hc) st p.isList (by simp;omega) fun h' eb=>⟨rfl,I.turned (t':=s.toks) (fun b o hb e=>eb b o hb e) f0 f1 f3 f4 f5⟩
 self:=fun _ _ _ _ _ st h=>wpAny_pyIter_listiter st h
theorem zbH{P:Program}{w:World}{K:PySem.W.Frag}{tg:Expr}(a it:Addr):Turn P w K tg (Itt K a) [it] it (fun i h=>h.IsTupleIter it a i) where
 mem:=by simp
 obj:=fun i h st b hb=>by
  have e:b=it:=by simpa using hb
  subst e
  obtain ⟨o,e,c,d⟩:=st
  exact ⟨o,e,fun v z=>by rw [d] at z;cases z⟩
 keep:=fun i h h' st k=>st.at fun o e=>k it (by simp) o e
 item:=by
  intro X hP hw hK hc i pins s σ H E I hf st hg
  subst hP hw hK
  obtain ⟨xs,x,hq,hx⟩:=hg
  obtain ⟨its,rv,p,hz⟩:=I.tuple hq
  obtain ⟨u,hu,ru⟩:=rv.get hx
  obtain ⟨f0,f1,f2,f3,f4,f5⟩:=hf it (by simp)
  refine wpAny_pyNext_tuple_item st (show s.heap.IsTuple a its.toArray from p) (x:=u) (by simpa using hu) fun h' st' sb=>?_
  have I1:Inv X pins σ H { s with heap:=h' }:=I.turned (t':=s.toks) (fun b o hb e=>(sb.2 b hb).trans e) f0 f1 f3 f4 f5
  obtain ⟨o,e,c,d⟩:=id st'
  exact ⟨u,rfl,zhd (s:={ s with heap:=h' }) e c d (by decide) ⟨x,H,I1,ru,⟨rfl,fun ys hy=>by rw [I.tuple_inj hy hq];exact hx⟩,st',fun b hb=>(hf b hb).1⟩⟩
 done:=by
  intro X hP hw hK hc i pins s σ H E I hf st hg
  subst hP hw hK
  obtain ⟨xs,hq,hx⟩:=hg
  obtain ⟨its,rv,p,hz⟩:=I.tuple hq
  obtain ⟨f0,f1,f2,f3,f4,f5⟩:=hf it (by simp)
  have hl:=rv.length
  exact wpAny_pyNext_tuple_end (I.ok.hd hc) st (show s.heap.IsTuple a its.toArray from p) (by simp;omega) fun h' eb=>⟨rfl,I.turned (t':=s.toks) (fun b o hb e=>eb b o hb e) f0 f1 f3 f4 f5⟩
 self:=fun _ _ _ _ _ st h=>wpAny_pyIter_tupleiter st h
theorem zbI{P:Program}{w:World}{K:PySem.W.Frag}{tg:Expr}(it:Addr)(lo:Int)(n:Nat):Turn P w K tg (Itr lo n) [it] it (fun i h=>IsRangeIter h it (lo+(i:Nat) * 1) ((n:Int) - (i:Nat)) 1) where
 mem:=by simp
 obj:=fun i h st b hb=>by
  have e:b=it:=by simpa using hb
  subst e
  exact ⟨_,st,fun v z=>by
   have z':Data.fields _=Data.cell v:=z
   cases z'⟩
 keep:=fun i h h' st k=>k it (by simp) _ st
 item:=by
  intro X hP hw hK hc i pins s σ H E I hf st hg
  subst hP hw hK
  obtain ⟨f0,f1,f2,f3,f4,f5⟩:=hf it (by simp)
  have W:=Walks.range (prog:=X.prog) (w:=X.w) (I.ok.hd hc) it lo 1 n
  refine W.item i s _ _ hg st fun v h' tk hv st' kk=>?_
  obtain ⟨t,rfl⟩:=hv
  have I1:Inv X pins σ H { s with heap:=h',toks:=tk }:=I.turned (fun b o hb e=>kk b o (by simpa using hb) e) f0 f1 f3 f4 f5
  refine ⟨_,rfl,zhd (s:={ s with heap:=h',toks:=tk }) (n:="range_iterator") st' rfl rfl (by decide) ⟨.int (lo+i),H,I1,⟨t,?_⟩,⟨rfl,rfl⟩,st',fun b hb=>(hf b hb).1⟩⟩
  rw [Qp]
 done:=by
  intro X hP hw hK hc i pins s σ H E I hf st hg
  subst hP hw hK
  obtain ⟨f0,f1,f2,f3,f4,f5⟩:=hf it (by simp)
  exact wpAny_pyNext_range_end (I.ok.hd hc) st (by have:n≤i:=hg;omega) fun h' eb=>⟨rfl,I.turned (t':=s.toks) (fun b o hb e=>eb b o hb e) f0 f1 f3 f4 f5⟩
 self:=fun _ _ _ _ _ st h=>wpAny_pyIter_rangeiter st h
section
variable {X:Cx} {tg:Expr}
noncomputable def znJ(K:PySem.W.Frag)(tl:TE):TI:=fun σ H R=>tl σ H fun x H1=>∃ a,x=.ref a/\(∃ xs,SqL K H1 a xs)/\R (Itl K a) H1
noncomputable def zpa(K:PySem.W.Frag)(tl:TE):TI:=fun σ H R=>tl σ H fun x H1=>∃ a,x=.ref a/\(∃ xs,SqT K H1 a xs)/\R (Itt K a) H1
theorem ziT{l:Expr}{tl:TE}(hl:PE X l tl):PI X tg l (znJ X.K tl):=by
 intro pins s σ H R I h
 refine thn (hl pins s σ H _ I h) fun v s1 ⟨x,H1,I1,r1,q1⟩=>?_
 obtain ⟨a,e,⟨xs,hq⟩,q⟩:=q1
 subst e
 cases r1
 obtain ⟨its,rv,p,hz⟩:=I1.list hq
 refine wpAny_pyIter_list p.isList ?_
 refine ⟨s1.heap.objs.size,[s1.heap.objs.size],_,_,H1,rfl,I1.kept (t':=s1.toks) fun b o e=>Jb _ e,zec a _,⟨_,Jl _ rfl,rfl,rfl⟩,fun b hb=>?_,q⟩
 have e:b=s1.heap.objs.size:=by simpa using hb
 subst e
 exact I1.fpOk (Jm _) (I1.hok.fresh (Jm _))
theorem zld{l:Expr}{tl:TE}(hl:PE X l tl):PI X tg l (zpa X.K tl):=by
 intro pins s σ H R I h
 refine thn (hl pins s σ H _ I h) fun v s1 ⟨x,H1,I1,r1,q1⟩=>?_
 obtain ⟨a,e,⟨xs,hq⟩,q⟩:=q1
 subst e
 cases r1
 obtain ⟨its,rv,p,hz⟩:=I1.tuple hq
 refine wpAny_pyIter_tuple (show s1.heap.IsTuple a its.toArray from p) ?_
 refine ⟨s1.heap.objs.size,[s1.heap.objs.size],_,_,H1,rfl,I1.kept (t':=s1.toks) fun b o e=>Jb _ e,zbH a _,⟨_,Jl _ rfl,rfl,rfl⟩,fun b hb=>?_,q⟩
 have e:b=s1.heap.objs.size:=by simpa using hb
 subst e
 exact I1.fpOk (Jm _) (I1.hok.fresh (Jm _))
theorem zfZ{pins:List (Addr × Obj)}{σ:St}{H:Hp}{s:Shared}{R:It->Hp->Prop}{E:Value->Shared->Prop}{lo hi:Int}{t u v:Tok}{tk:Nat}(I:Inv X pins σ H s)(h1 : -(2 ^ 62)≤lo)(h2:lo<2 ^ 62)(h3 : -(2 ^ 62)≤hi)(h4:hi<2 ^ 62)
  (q:R (Itr lo (hi - lo).toNat) H):wpAny (model X.prog X.w) X.A (pyIter (.ref s.heap.objs.size)) (PIE X pins σ tg R) E { s with heap:=s.heap.push { cls:=.type "range",data:=.fields #[.int lo t,.int hi u,.int 1 v] },toks:=tk }:=by
 refine wpAny_pyIter_range (IsRange.new ..) (small_one h1 h2 h3 h4) ?_
 have I1:Inv X pins σ H { s with heap:=s.heap.push { cls:=.type "range",data:=.fields #[.int lo t,.int hi u,.int 1 v] },toks:=tk }:=I.kept fun b o e=>Heap.get?_push_of_some _ e
 refine ⟨(s.heap.push { cls:=.type "range",data:=.fields #[.int lo t,.int hi u,.int 1 v] }).objs.size,[(s.heap.push { cls:=.type "range",data:=.fields #[.int lo t,.int hi u,.int 1 v] }).objs.size],_,_,H,rfl,
  I1.kept (t':=tk) fun b o e=>Jb _ e,zbI _ lo (hi - lo).toNat,?_,fun b hb=>?_,q⟩
 ·have e1:lo+((0:Nat):Int) * 1=lo:=by simp
  have e2:(((hi - lo).toNat:Nat):Int) - ((0:Nat):Int)=Builtin.Range.rangeSize lo hi 1:=by rw [rangeSize_one];split<;>omega
  show IsRangeIter _ _ (lo+((0:Nat):Int) * 1) ((((hi - lo).toNat:Nat):Int) - ((0:Nat):Int)) 1
  rw [e1,e2]
  exact Jl _ rfl
 ·have e:b=(s.heap.push { cls:=.type "range",data:=.fields #[.int lo t,.int hi u,.int 1 v] }).objs.size:=by simpa using hb
  subst e
  exact I1.fpOk (Jm _) (I1.hok.fresh (Jm _))
noncomputable def znI(ta:TA):TI:=fun σ H R=>ta σ H fun vs H1=>∃ j:Int,vs=[.int j]/\-(2 ^ 62)≤j/\j<2 ^ 62/\R (Itr 0 j.toNat) H1
theorem zet{a:Expr}{ta:TA}{p pos:Pos}(hg:Gl X "range")(hm:X.mg "range"=none)(ha:PA X [a] ta)(hs:starEach [a] X.env=[(false,eval a X.env)]:=by rfl):PI X tg (.Call (.Name "range" p) [a] [] pos) (znI ta):=by
 intro pins s σ H R I h
 refine Call_ (x5 I hg hm boot_range (Kr (thn (ha pos pins s σ H _ I h) fun us s1 ⟨vs,H1,I1,r1,q1⟩=>?_) hs rfl))
 obtain ⟨j,e,q1,q2,q⟩:=q1
 subst e
 cases r1 with
 | cons r rr=>
  cases rr
  obtain ⟨t,rfl⟩:=r
  exact call_range_1 (zfZ I1 (by omega) (by omega) q1 q2 (by simpa using q))
noncomputable def zoL(wi:TI)(g:TG)(tb:TS):TS:=fun D σ H=>wi σ H fun J H1=>∃ W:Nat->Nat->St->Hp->Prop,(∃ m,W 0 m σ H1)/\∀ i m σ H,W i m σ H->
 (J.stop i H/\D.nx σ H)∨(J.go i H/\∃ N:St->Hp->Prop,(∀ σ' H',N σ' H'->∃ m',m'<m/\W (i+1) m' σ' H')/\∀ x H',J.yld i H x H'->g x σ H' fun σ2 H2=>tb { D with nx:=N,ct:=N,bk:=D.nx } σ2 H2)
noncomputable def jd(fp:List Addr)(h:Heap):List (Addr × Obj):=fp.filterMap fun b=>(h.get? b).map fun o=>(b,o)
theorem xz{h:Heap}(hb:b ∈ fp)(e:h.get? b=some o):(b,o) ∈ jd fp h:=Qo.mpr ⟨b,hb,by rw [e];rfl⟩
theorem zey{h:Heap}{p:Addr × Obj}(hp:p ∈ jd fp h):p.1 ∈ fp/\h.get? p.1=some p.2:=by
 obtain ⟨b,hb,e⟩:=Qo.mp hp
 cases q:h.get? b with
 | none=>rw [q] at e;cases e
 | some o=>
  rw [q] at e
  have e':(b,o)=p:=Jq e
  subst e'
  exact ⟨hb,q⟩
theorem Inv.pinned{s:Shared}(I:Inv X pins σ H s)(hf:∀ b ∈ fp,vF X pins H b)(ho:∀ b ∈ fp,∃ o,s.heap.get? b=some o/\∀ v,o.data≠.cell v):Inv X (pins++jd fp s.heap) σ H s:=
 I.pins_of fun p hp=>(JK.mp hp).elim (fun z=>I.pin p (Jn _ z)) fun z=>by
  obtain ⟨hb,e⟩:=zey z
  obtain ⟨f0,f1,f2,_⟩:=hf p.1 hb
  obtain ⟨o,e',d⟩:=ho p.1 hb
  rw [e] at e';cases e'
  exact ⟨e,f0,f1,f2,d⟩
theorem Inv.unpinned(I:Inv X (pins++pl) σ H s):Inv X pins σ H s:=I.pins_of fun p hp=>I.pin p (Jn _ (Jr _ hp))
theorem zlb{iter:Expr}{body:List Stmt}{wi:TI}{g:TG}{tb:TS}{pos:Pos}(hp:PassesOwn (model X.prog X.w) X.A X.env X.xe)(hc:X.calm=true)(hi:PI X tg iter wi)(hg:PG X tg g)(hb:PSs X body tb)
  (hs:∀ x,foldedSetIterable iter X.env x=pure x:=by intro _;rfl):PS X (.For tg iter body [] pos) (zoL wi g tb):=by
 intro pins s σ H D I h
 refine wpAny_For (thn (hi pins s σ H _ I h) fun v s1 h1=>thn h1 fun itv s2 h2=>?_) hs
 obtain ⟨it,fp,tn,J,H2,e,I2,T,st2,f2,W,⟨m0,w0⟩,turn⟩:=h2
 subst e
 -- what stays true of the iterator's objects through the loop
 have stat:∀ {H':Hp},(∀ b ∈ fp,H' b=none)->∀ b ∈ fp,vF X pins H' b:=fun hn b hb=>⟨hn b hb,(f2 b hb).2⟩
 refine codeAny_forLoop_any (fun n s'=>∃ i σ' H',Inv X pins σ' H' s'/\tn i s'.heap/\(∀ b ∈ fp,H' b=none)/\W i n σ' H') ?_ m0 ⟨0,σ,H2,I2,st2,fun b hb=>(f2 b hb).1,w0⟩
 rintro n s3 ⟨i,σ3,H3,I3,st3,fr3,w3⟩
 rcases turn i n σ3 H3 w3 with ⟨stop,qn⟩ | ⟨go,N,hN,step⟩
 ·refine wpAny_passesOwn hp (thn (T.done X rfl rfl rfl hc i pins s3 σ3 H3 X.xe I3 (stat fr3) st3 stop) fun r s4 ⟨hr,I4⟩=>?_)
  subst hr
  exact wpAny_execs_nil ⟨σ3,H3,I4,qn⟩
 ·refine wpAny_passesOwn hp (thn (T.item X rfl rfl rfl hc i pins s3 σ3 H3 X.xe I3 (stat fr3) st3 go) fun r s4 ⟨u,hr,h4⟩=>?_)
  subst hr
  refine wpAny_passesOwn hp (thn h4 fun _ s5 hq_=>?_)
  obtain ⟨x,H5,I5,r5,y5,st5,fr5⟩:=hq_
  have I5':=I5.pinned (stat fr5) (T.obj _ _ st5)
  refine wpAny_passesOwn hp (thn (hg _ s5 σ3 H5 x u _ I5' r5 (step x H5 y5)) fun _ s6 hq_=>?_)
  obtain ⟨σ6,H6,I6,q6⟩:=hq_
  refine wpAny_passesOwn hp (thn (hb _ s6 σ6 H6 _ I6 q6) fun f s7 q7=>?_)
  have again:∀ {σ7:St} {H7:Hp},Inv X (pins++jd fp s5.heap) σ7 H7 s7->N σ7 H7->∃ m,m<n/\∃ i σ' H',Inv X pins σ' H' s7/\tn i s7.heap/\(∀ b ∈ fp,H' b=none)/\W i m σ' H':=fun {σ7 H7} I7 n7=>by
   obtain ⟨m',hm,w7⟩:=hN σ7 H7 n7
   refine ⟨m',hm,i+1,σ7,H7,I7.unpinned,T.keep _ _ _ st5 fun b hb o e=>(I7.pin (b,o) (Jn _ (Jn _ (xz hb e)))).1,fun b hb=>?_,w7⟩
   obtain ⟨o,e,d⟩:=T.obj _ _ st5 b hb
   exact (I7.pin (b,o) (Jn _ (Jn _ (xz hb e)))).2.1
  cases f with
  | next=>obtain ⟨σ7,H7,I7,n7⟩:=q7;exact again I7 n7
  | cont=>obtain ⟨σ7,H7,I7,n7⟩:=q7;exact again I7 n7
  | brk=>obtain ⟨σ7,H7,I7,q7⟩:=q7;exact ⟨σ7,H7,I7.unpinned,q7⟩
  | ret v=>obtain ⟨x7,σ7,H7,I7,r7,q7⟩:=q7;exact ⟨x7,σ7,H7,I7.unpinned,r7,q7⟩
end
noncomputable abbrev R2:=V->V->Hp->VK->Prop
noncomputable def OpR(X:Cx)(f:Value->Value->Sem Value)(r:R2):Prop:=
 ∀ (pins:List (Addr × Obj)) (s:Shared) (σ:St) (H:Hp) (x y:V) (v u:Value) (Q:VK),Inv X pins σ H s->RelV x v->RelV y u->r x y H Q->
  wpAny (model X.prog X.w) X.A (f v u) (EP X pins σ Q) X.xe s
noncomputable def CallR(X:Cx)(f:Value)(r:List V->Hp->VK->Prop):Prop:=
 ∀ (pins:List (Addr × Obj)) (s:Shared) (σ:St) (H:Hp) (xs:List V) (us:List Value) (Q:VK),Inv X pins σ H s->Vals xs us->r xs H Q->
  wpAny (model X.prog X.w) X.A (call f us) (EP X pins σ Q) X.xe s
noncomputable def zpq(X:Cx)(r:V->Hp->(Bool->Hp->Prop)->Prop):Prop:=
 ∀ (pins:List (Addr × Obj)) (s:Shared) (σ:St) (H:Hp) (x:V) (v:Value) (Q:Bool->Hp->Prop),Inv X pins σ H s->RelV x v->r x H Q->
  wpAny (model X.prog X.w) X.A (truthy v) (TP X pins σ Q) X.xe s
noncomputable def tOp(r:R2)(ta tb:TE):TE:=fun σ H Q=>ta σ H fun x H1=>tb σ H1 fun y H2=>r x y H2 Q
noncomputable def rI(C:Int->Int->Prop)(g:Int->Int->V):R2:=fun x y H Q=>∃ i j,x=.int i/\y=.int j/\C i j/\Q (g i j) H
noncomputable def rI0(g:Int->Int->V):R2:=fun x y H Q=>∃ i j,x=.int i/\y=.int j/\Q (g i j) H
section
variable {X:Cx} {a b c:Expr} {ta tb tc:TE} {pos:Pos}
theorem zml(ha:PE X a ta)(hb:PE X b tb){pins:List (Addr × Obj)}{s:Shared}{σ:St}{H:Hp}{R:V->V->Hp->Prop}(I:Inv X pins σ H s)
  (h:ta σ H fun x H1=>tb σ H1 fun y H2=>R x y H2){Q:Value->Shared->Prop}{f:Value->Value->Sem Value}
  (hf:∀ v u s2 x y H2,Inv X pins σ H2 s2->RelV x v->RelV y u->R x y H2->wpAny (model X.prog X.w) X.A (f v u) Q X.xe s2):
  wpAny (model X.prog X.w) X.A (eval a X.env) (fun v s₁=>wpAny (model X.prog X.w) X.A (eval b X.env) (fun u s₂=>wpAny (model X.prog X.w) X.A (f v u) Q X.xe s₂) X.xe s₁) X.xe s:=by
 refine thn (ha pins s σ H _ I h) fun v s1 ⟨x,H1,I1,r1,q1⟩=>?_
 refine thn (hb pins s1 σ H1 _ I1 q1) fun u s2 ⟨y,H2,I2,r2,q2⟩=>?_
 exact hf v u s2 x y H2 I2 r1 r2 q2
theorem znh(ho:OpR X (binaryOp op) r)(ha:PE X a ta)(hb:PE X b tb):PE X (.BinOp a op b pos) (tOp r ta tb):=by
 intro pins s σ H Q I h
 exact wpAny_BinOp (zml ha hb I h fun v u s2 x y H2 I2 rx ry q=>ho pins s2 σ H2 x y v u Q I2 rx ry q)
theorem opI{f:Value->Value->Sem Value}{C:Int->Int->Prop}{g:Int->Int->Int}
  (rule:∀ (i j:Int) (t u:Tok) (s:Shared) (Q:Value->Shared->Prop) (E:Value->Shared->Prop),C i j->Q (.int (g i j) s.toks) { s with toks:=s.toks+1 }->wpAny (model X.prog X.w) X.A (f (.int i t) (.int j u)) Q E s):
  OpR X f (rI C fun i j=>.int (g i j)):=by
 intro pins s σ H x y v u Q I rx ry h
 obtain ⟨i,j,rfl,rfl,hc,q⟩:=h
 obtain ⟨t,rfl⟩:=rx
 obtain ⟨t',rfl⟩:=ry
 exact rule i j t t' s _ _ hc ⟨.int (g i j),H,I.tok _,⟨_,rfl⟩,q⟩
theorem znx{f:Value->Value->Sem Value}{g:Int->Int->Int}
  (rule:∀ (i j:Int) (t u:Tok) (s:Shared) (Q:Value->Shared->Prop) (E:Value->Shared->Prop),Q (.int (g i j) s.toks) { s with toks:=s.toks+1 }->wpAny (model X.prog X.w) X.A (f (.int i t) (.int j u)) Q E s):
  OpR X f (rI0 fun i j=>.int (g i j)):=by
 intro pins s σ H x y v u Q I rx ry h
 obtain ⟨i,j,rfl,rfl,q⟩:=h
 obtain ⟨t,rfl⟩:=rx
 obtain ⟨t',rfl⟩:=ry
 exact rule i j t t' s _ _ ⟨.int (g i j),H,I.tok _,⟨_,rfl⟩,q⟩
theorem zjc{f:Value->Value->Sem Value}{g:Int->Int->Bool}
  (rule:∀ (i j:Int) (t u:Tok) (s:Shared) (Q:Value->Shared->Prop) (E:Value->Shared->Prop),Q (.bool (g i j)) s->wpAny (model X.prog X.w) X.A (f (.int i t) (.int j u)) Q E s):
  OpR X f (rI0 fun i j=>.bl (g i j)):=by
 intro pins s σ H x y v u Q I rx ry h
 obtain ⟨i,j,rfl,rfl,q⟩:=h
 obtain ⟨t,rfl⟩:=rx
 obtain ⟨t',rfl⟩:=ry
 exact rule i j t t' s _ _ ⟨.bl (g i j),H,I,rfl,q⟩
noncomputable def zoj(i j:Int):Prop:=0<j/\j<1073741824
noncomputable def zpM(i j:Int):Prop:=(-(2 ^ 64)<i/\i<2 ^ 64)∨(-(2 ^ 64)<j/\j<2 ^ 64)
theorem op_add:OpR X (binaryOp .Add) (rI0 fun i j=>.int (i+j)):=znx fun _ _ _ _ _ _ _ q=>add_int q
theorem zly:OpR X (binaryOp .Sub) (rI0 fun i j=>.int (i - j)):=znx fun _ _ _ _ _ _ _ q=>sub_int q
theorem zjb:OpR X (binaryOp .FloorDiv) (rI zoj fun i j=>.int (i / j)):=opI fun i j _ _ _ _ _ hc q=>by
 have h1:(0:Int)<j:=hc.1
 have h2:j<1073741824:=hc.2
 exact floordiv_int (by omega) (by rw [Int.fdiv_eq_ediv_of_nonneg i (by omega)];exact q) (.inl (PyProof.noPylong_small (by omega)))
theorem zlB:OpR X (binaryOp .Mod) (rI (fun _ j=>0<j) fun i j=>.int (i % j)):=opI fun i j _ _ _ _ _ hc q=>by
 have h1:(0:Int)<j:=hc
 exact mod_int' (by omega) (by rw [Int.fmod_eq_emod_of_nonneg i (by omega)];exact q)
theorem znt:OpR X (compareOp .Lt) (rI0 fun i j=>.bl (decide (i<j))):=zjc fun _ _ _ _ _ _ _ q=>lt_int q
theorem znu:OpR X (compareOp .LtE) (rI0 fun i j=>.bl (decide (i≤j))):=zjc fun _ _ _ _ _ _ _ q=>le_int q
theorem znv:OpR X (compareOp .Gt) (rI0 fun i j=>.bl (decide (j<i))):=zjc fun _ _ _ _ _ _ _ q=>gt_int q
theorem znw:OpR X (compareOp .GtE) (rI0 fun i j=>.bl (decide (j≤i))):=zjc fun _ _ _ _ _ _ _ q=>ge_int q
theorem OpR.or{r r':R2}(h:OpR X f r)(h':OpR X f r'):OpR X f (fun x y H Q=>r x y H Q∨r' x y H Q):=by
 intro pins s σ H x y v u Q I rx ry q
 rcases q with q | q
 ·exact h pins s σ H x y v u Q I rx ry q
 ·exact h' pins s σ H x y v u Q I rx ry q
theorem zcc(b:Expr)(h:op≠.In:=by decide)(h2:op≠.NotIn:=by decide):behindInMarks op b=false:=by
 have e1:(op == CmpOp.In)=false:=by cases op<;>first | rfl | exact absurd rfl h
 have e2:(op == CmpOp.NotIn)=false:=by cases op<;>first | rfl | exact absurd rfl h2
 cases b<;>simp [behindInMarks,e1,e2]
theorem ziW(ho:OpR X (compareOp op) r)(ha:PE X a ta)(hb:PE X b tb)(hm:behindInMarks op b=false):PE X (.Compare a [op] [b] pos) (tOp r ta tb):=by
 intro pins s σ H Q I h
 exact wpAny_Compare1 (zml ha hb I h fun v u s2 x y H2 I2 rx ry q=>ho pins s2 σ H2 x y v u Q I2 rx ry q) hm
noncomputable def zfH(t:TE):TT:=fun σ H Q=>t σ H fun x H'=>∃ k,x=.bl k/\Q k H'
theorem zde{op:CmpOp}{r:R2}(ho:OpR X (compareOp op) r)(ha:PE X a ta)(hb:PE X b tb)(hm:behindInMarks op b=false):PT X (.Compare a [op] [b] pos) (zfH (tOp r ta tb)):=by
 intro pins s σ H Q I h
 refine wpAny_isTrue_Compare1 (thn (ha pins s σ H _ I h) fun v s1 ⟨x,H1,I1,r1,q1⟩=>thn (hb pins s1 σ H1 _ I1 q1) fun u s2 ⟨y,H2,I2,r2,q2⟩=>
  thn (ho pins s2 σ H2 x y v u _ I2 r1 r2 q2) fun c s3 ⟨z,H3,I3,r3,k,e,q3⟩=>?_) hm
 subst e
 cases r3
 exact wpAny_truthy_bool ⟨H3,I3,q3⟩
noncomputable def zbM(r r':R2)(ta tb tc:TE):TE:=fun σ H Q=>ta σ H fun x H1=>tb σ H1 fun y H2=>r x y H2 fun z H3=>∃ k,z=.bl k/\
 (if k=true then tc σ H3 fun w' H4=>r' y w' H4 Q else Q (.bl false) H3)
theorem zgr{op op':CmpOp}{r r':R2}(ho:OpR X (compareOp op) r)(ho':OpR X (compareOp op') r')(ha:PE X a ta)(hb:PE X b tb)(hc:PE X c tc)
  (hm:lastMarks [op,op'] [b,c]=false:=by with_unfolding_all rfl):PE X (.Compare a [op,op'] [b,c] pos) (zbM r r' ta tb tc):=by
 intro pins s σ H Q I h
 refine Compare_chain (thn (ha pins s σ H _ I h) fun v s1 ⟨x,H1,I1,r1,q1⟩=>chain_link (thn (hb pins s1 σ H1 _ I1 q1) fun u s2 ⟨y,H2,I2,r2,q2⟩=>
  thn (ho pins s2 σ H2 x y v u _ I2 r1 r2 q2) fun d s3 ⟨z,H3,I3,r3,k,e,q3⟩=>?_)) hm
 subst e
 cases r3
 refine wpAny_truthy_bool ?_
 cases k with
 | false=>exact ite_ff ⟨.bl false,H3,I3,rfl,q3⟩
 | true=>exact ite_tt (chain_last (thn (hc pins s3 σ H3 _ I3 q3) fun w' s4 ⟨z',H4,I4,r4,q4⟩=>ho' pins s4 σ H4 y z' u w' Q I4 r2 r4 q4))
theorem zge{op op':CmpOp}{r r':R2}(ho:OpR X (compareOp op) r)(ho':OpR X (compareOp op') r')(ha:PE X a ta)(hb:PE X b tb)(hc:PE X c tc)
  (hm:lastMarks [op,op'] [b,c]=false:=by with_unfolding_all rfl):PT X (.Compare a [op,op'] [b,c] pos) (zfH (zbM r r' ta tb tc)):=by
 intro pins s σ H Q I h
 refine isTrue_chain (thn (ha pins s σ H _ I h) fun v s1 ⟨x,H1,I1,r1,q1⟩=>test_link (thn (hb pins s1 σ H1 _ I1 q1) fun u s2 ⟨y,H2,I2,r2,q2⟩=>
  thn (ho pins s2 σ H2 x y v u _ I2 r1 r2 q2) fun d s3 ⟨z,H3,I3,r3,k,e,q3⟩=>?_)) hm
 subst e
 cases r3
 refine wpAny_truthy_bool ?_
 cases k with
 | false=>
  obtain ⟨k',e',q'⟩:=q3
  cases e'
  exact ite_ff ⟨H3,I3,q'⟩
 | true=>
  refine ite_tt (test_last (thn (hc pins s3 σ H3 _ I3 q3) fun w' s4 ⟨z',H4,I4,r4,q4⟩=>thn (ho' pins s4 σ H4 y z' u w' _ I4 r2 r4 q4) fun d' s5 ⟨z2,H5,I5,r5,k2,e2,q5⟩=>?_))
  subst e2
  cases r5
  exact wpAny_truthy_bool ⟨H5,I5,q5⟩
noncomputable def zog(K:PySem.W.Frag)(x:V)(H:Hp)(k:Bool):Prop:=
 match x with
 | .non=>k=false
 | .bl b=>k=b
 | .int i=>k=(i != 0)
 | .str y=>y.length≤sizeLine/\k=((y.length:Int) != 0)
 | .byt y=>y.size≤sizeLine/\k=((y.size:Int) != 0)
 | .ref p=>(∃ xs,SqL K H p xs/\k=!xs.isEmpty)∨(∃ xs,SqT K H p xs/\k=!xs.isEmpty)∨∃ kvs,H p=some (.dK kvs)/\k=!kvs.isEmpty
 | _=>False
theorem zcn{κ:Type}{kvs:List (κ × V)}{vs:List (κ × Value)}(r:KV kvs vs):(!vs.isEmpty)=!kvs.isEmpty:=by
 cases r<;>rfl
theorem j5{xs:List V}{its:List Value}(r:Vals xs its):(!its.toArray.isEmpty)=!xs.isEmpty:=by
 cases r<;>simp
theorem vV:(sizeLine:Nat)<2 ^ 63:=by rw [sizeLine_eq];decide
theorem zkE:zpq X (fun x H Q=>∃ k,zog X.K x H k/\Q k H):=by
 intro pins s σ H x v Q I rx h
 obtain ⟨k,e,q⟩:=h
 have hl:=vV
 have hs:sizeLine=16777216:=sizeLine_eq
 cases x with
 | non=>
  cases rx
  have e':k=false:=e
  subst e'
  exact truthy_none ⟨H,I,q⟩
 | bl b=>
  cases rx
  have e':k=b:=e
  subst e'
  exact wpAny_truthy_bool ⟨H,I,q⟩
 | int i=>
  obtain ⟨t,rfl⟩:=rx
  have e':k=(i != 0):=e
  subst e'
  exact PySem.P.truthy_int ⟨H,I,q⟩
 | str y=>
  obtain ⟨t,rfl⟩:=rx
  obtain ⟨hy,e'⟩:y.length≤sizeLine/\k=((y.length:Int) != 0):=e
  subst e'
  exact PySem.P.truthy_str (by omega) ⟨H,I.tok _,q⟩
 | byt y=>
  obtain ⟨t,rfl⟩:=rx
  obtain ⟨hy,e'⟩:y.size≤sizeLine/\k=((y.size:Int) != 0):=e
  subst e'
  exact PySem.W.truthy_bytes (by omega) ⟨H,I.tok _,q⟩
 | ref p=>
  cases rx
  have e':(∃ xs,SqL X.K H p xs/\k=!xs.isEmpty)∨(∃ xs,SqT X.K H p xs/\k=!xs.isEmpty)∨∃ kvs,H p=some (.dK kvs)/\k=!kvs.isEmpty:=e
  rcases e' with ⟨xs,hx,e'⟩ | ⟨xs,hx,e'⟩ | ⟨kvs,hx,e'⟩
  ·subst e'
   obtain ⟨its,r,pl,hz⟩:=I.list hx
   have hlen:=r.length
   exact wpAny_truthy_list pl.isList (by simp only [List.size_toArray];omega) ⟨H,I.tok _,by rw [j5 r];exact q⟩
  ·subst e'
   obtain ⟨its,r,pl,hz⟩:=I.tuple hx
   have hlen:=r.length
   exact truthy_tuple pl (by simp only [List.size_toArray];omega) ⟨H,I.tok _,by rw [j5 r];exact q⟩
  ·subst e'
   obtain ⟨hz,hS,vs,r,m⟩:kvs.length≤sizeLine/\(p == sysModules)=false/\∃ vs,KV kvs vs/\s.heap.DictOf (zC X.prog X.w) p vs:=I.hok p _ hx
   have hlen:kvs.length=vs.length:=Paired.length r
   exact wpAny_truthy_dict hS m (by omega) ⟨H,I.tok _,by rw [zcn r];exact q⟩
 | _=>exact (show False from e).elim
theorem zgd(ha:PE X a ta)(he:∀ whole,isTrue a X.env whole=(do let v ← whole;standAt a.pos;holding [v] (truthy v))):
  PT X a (fun σ H Q=>ta σ H fun x H'=>∃ k,zog X.K x H' k/\Q k H'):=by
 intro pins s σ H Q I h
 exact isTrue_plain (thn (ha pins s σ H _ I h) fun v s1 ⟨x,H1,I1,r1,q1⟩=>zkE pins s1 σ H1 x v Q I1 r1 q1) (he _)
theorem zbZ:OpR X (binaryOp .Add) (fun x y H Q=>∃ i j,x=.str i/\y=.str j/\i.length+j.length≤sizeLine/\Q (.str (i++j)) H):=by
 intro pins s σ H x y v u Q I rx ry h
 obtain ⟨i,j,rfl,rfl,hz,q⟩:=h
 obtain ⟨t,rfl⟩:=rx
 obtain ⟨t',rfl⟩:=ry
 exact add_str (fun t' tk=>⟨.str (i++j),H,I.tok _,⟨_,rfl⟩,q⟩) hz
theorem zcO(r:Vals [x] us):∃ u,us=[u]/\RelV x u:=by
 cases r with
 | cons r1 r2=>cases r2;exact ⟨_,rfl,r1⟩
theorem zjK(r:Vals [x,y] us):∃ u w',us=[u,w']/\RelV x u/\RelV y w':=by
 cases r with
 | cons r1 r2=>
  cases r2 with
  | cons r3 r4=>cases r4;exact ⟨_,_,rfl,r1,r3⟩
end
structure ObjM (h:Heap) (x dx C:Addr) (mA:Str->Option Value):Prop where
 obj:h.get? x=some (PySem.W.instObj C dx)
 ns:h.Ns1 dx mA
 ne:dx≠x
theorem RelO.some_of(r:RelO (some v) o):∃ u,o=some u/\RelV v u:=by
 cases o with
 | none=>exact (show False from r).elim
 | some u=>exact ⟨u,rfl,r⟩
structure Cls (K:PySem.W.Frag) (C:Addr):Prop where
 pg:PySem.W.plainGet K C Str.empty=true
 hd:PySem.W.hasDictIn K C=true
 po:PySem.W.plainOver K C=true
 sa:PySem.W.findIn K (.ref C) "__setattr__"=some (some (.builtin "object.__setattr__"))
structure Con (K:PySem.W.Frag) (C:Addr) (f:Str) (v:V) (u:Value):Prop where
 at_:PySem.W.findIn K (.ref C) f=some (some u)
 rel:RelV v u
 get:PySem.W.specialIn K u "__get__"=some none
 cp:PySem.W.copiedNames.contains f=false
structure Meth (K:PySem.W.Frag) (C:Addr) (m:Str) (f:Addr):Prop where
 at_:PySem.W.findIn K (.ref C) m=some (some (.ref f))
 fn:PySem.W.isFn K (.ref f)=true
 kp:PySem.W.keepIn K (.ref f)=true
section
variable {X:Cx} {pins:List (Addr × Obj)} {σ:St} {H:Hp} {s:Shared} {A:Around} {E:Value->Shared->Prop} {Q:Value->Shared->Prop} {c:Value} {b:Bool}
inductive TyOf (K:PySem.W.Frag) (H:Hp):V->Value->Prop where
 | non:TyOf K H .non (.type "NoneType")
 | bl (x:Bool):TyOf K H (.bl x) (.type "bool")
 | int (i:Int):TyOf K H (.int i) (.type "int")
 | str (x:Str):TyOf K H (.str x) (.type "str")
 | flt (x:UInt64):TyOf K H (.flt x) (.type "float")
 | lst {a:Addr} {xs:List V} (e:H a=some (.lst xs)):TyOf K H (.ref a) (.type "list")
 | frz {a:Addr} {o:Obj} {xs:List V} (e:H a=some (.frz o (.lst xs))):TyOf K H (.ref a) (.type "list")
 | tup {a:Addr} {xs:List V} (e:H a=some (.tup xs)):TyOf K H (.ref a) (.type "tuple")
 | dK {a:Addr} {kvs:List (Key × V)} (e:H a=some (.dK kvs)):TyOf K H (.ref a) (.type "dict")
 | dT {a:Addr} {kvs:List (List Key × V)} (e:H a=some (.dT kvs)):TyOf K H (.ref a) (.type "dict")
 | ins {a C dx:Addr} {fs:List (Str × V)} (e:H a=some (.ins C dx fs)) (cl:Cls K C) (ha:PySem.W.findIn K (.ref C) "__class__"=some (some (.builtin "object.__class__")))
   (hn:PySem.W.specialIn K (.builtin "object.__class__") "__get__"=some (some (.builtin "getset_descriptor.__get__"))) (htk:PySem.W.takesIn K (.builtin "object.__class__")=some true)
   (hm:PySem.W.mroIn K C (.type "object")=some true):TyOf K H (.ref a) (.ref C)
end
structure Room (k:Nat) (A:Around):Prop where
 hd:A.handled=none
 dp:A.depth+3 * k+5<recursionLimit
 un:A.units+16 * k+200<cLine
theorem Room.mono(r:Room k A)(h:j≤k):Room j A:=⟨r.hd,by have:=r.dp;omega,by have:=r.un;omega⟩
theorem Room.deeper{A:Around}(r:Room (k+1) A)(env:Env):Room k (A.deeper env):=
 ⟨r.hd,by have:=r.dp;show A.depth+1+3 * k+5<_;omega,by have:=r.un;show A.units+3+16 * k+200<_;omega⟩
theorem Room.depth{A:Around}(r:Room k A):A.depth<recursionLimit:=by have:=r.dp;omega
theorem Room.units{A:Around}(r:Room k A):A.units+64<cLine:=by have:=r.un;omega
noncomputable def zef:TA:=fun _ H Q=>Q [] H
noncomputable def zcV(ta:TE)(tr:TA):TA:=fun σ H Q=>ta σ H fun x H1=>tr σ H1 fun xs H2=>Q (x::xs) H2
section
variable {X:Cx} {e:Expr} {es:List Expr} {te:TE} {t:TA} {pos:Pos}
theorem pa_nil:PA X [] zef:=fun _ _ _ _ H Q I h=>Calls.spliced_nil ⟨[],H,I,.nil,h⟩
theorem ww(ha:PE X e te)(hr:PA X es t)(hs:starEach (e::es) X.env=(false,eval e X.env)::starEach es X.env:=by rfl):PA X (e::es) (zcV te t):=by
 intro pos pins s σ H Q I h
 rw [hs]
 show wpAny _ _ (spliced ((false,eval e X.env)::backTo pos (starEach es X.env))) _ _ s
 refine QM (thn (ha pins s σ H _ I h) fun u s1 hq_=>?_)
 obtain ⟨x,H1,I1,r1,q1⟩:=hq_
 exact thn (hr pos pins s1 σ H1 _ I1 q1) fun us s2 ⟨xs,H2,I2,r2,q2⟩=>⟨x::xs,H2,I2,.cons r1 r2,q2⟩
noncomputable def zkG(t:TA):TE:=fun σ H Q=>t σ H fun xs H1=>xs.length≤sizeLine/\∀ p,H1 p=none->Q (.ref p) (upd H1 p (.tup xs))
noncomputable def zoJ(t:TA):TE:=fun σ H Q=>t σ H fun xs H1=>xs.length≤sizeLine/\∀ p,H1 p=none->Q (.ref p) (upd H1 p (.lst xs))
theorem zbW{x1}(h:PA X es t):PE X (.Tuple es x1 pos) (zkG t):=by
 intro pins s σ H Q I hq
 refine wpAny_Tuple_spliced (thn (h pos pins s σ H _ I hq) fun us s1 ⟨xs,H1,I1,r,z,q⟩=>⟨by rw [← r.length];exact z,?_⟩)
 have hf:H1 s1.heap.objs.size=none:=I1.hok.fresh (Jm _)
 refine ⟨.ref s1.heap.objs.size,upd H1 s1.heap.objs.size (.tup xs),I1.laid (t':=s1.toks) (fun b u e=>Jb _ e) (Jm _) ?_,rfl,q _ hf⟩
 exact ⟨z,us,r,⟨_,Jl _ rfl,rfl,_,rfl⟩⟩
theorem zll(h:PA X es t):PE X (.List es pos) (zoJ t):=by
 intro pins s σ H Q I hq
 refine wpAny_List_spliced (thn (h pos pins s σ H _ I hq) fun us s1 ⟨xs,H1,I1,r,z,q⟩=>⟨by rw [← r.length];exact z,?_⟩)
 have hf:H1 s1.heap.objs.size=none:=I1.hok.fresh (Jm _)
 refine ⟨.ref s1.heap.objs.size,upd H1 s1.heap.objs.size (.lst xs),I1.laid (t':=s1.toks) (fun b u e=>Jb _ e) (Jm _) ?_,rfl,q _ hf⟩
 exact ⟨z,us,0,r,Jl _ rfl⟩
end
noncomputable abbrev Sp:=List V->Hp->VK->XK->Prop
noncomputable abbrev CXT:=List Env->Hp->Shared->XK->Value->Shared->Prop
structure Env0 (P:Program) (w:World) (K:PySem.W.Frag) (mg:Str->Option Value) (base:Heap) (A:Around) (outer:List Env) (s:Shared) (H:Hp):Prop where
 frames:A.frames=some outer
 mod:Mod K mg base
 bs:∀ b o,base.get? b=some o->s.heap.get? b=some o/\H b=none
 bsz:base.objs.size≤s.heap.objs.size
 funs:s.heap.FunFrames base outer
 frf:∀ b ∈ frs outer,H b=none
 hok:HOk P w H s.heap
 bare:AllBare s.gens
noncomputable def CE(outer:List Env)(P:Program)(w:World)(H:Hp)(s:Shared)(Q:VK)(u:Value)(s':Shared):Prop:=
 ∃ v H',s'.os=s.os/\AllBare s'.gens/\Un (frs outer) [] H H' s.heap s'.heap/\HOk P w H' s'.heap/\RelV v u/\Q v H'
noncomputable def CR(CX:CXT)(outer:List Env)(P:Program)(w:World)(H:Hp)(s:Shared)(Q:VK)(E:XK)(r:Result)(s':Shared):Prop:=
 match r with
 | .ok (.ret u)=>CE outer P w H s Q u s'
 | .ok _=>False
 | .error e=>CX outer H s E e s'
structure FnOk (P:Program) (w:World) (K:PySem.W.Frag) (mg:Str->Option Value) (base:Heap) (CX:CXT) (k:Nat) (f:Addr) (fd:FuncData) (ps:List Str) (sp:Sp):Prop where
 len:∀ vs H Q E,sp vs H Q E->vs.length=ps.length
 run:∀ (A:Around) (outer:List Env) (s:Shared) (H:Hp) (args:Args) (us:List Value) (vs:List V) (Q:VK) (E:XK),Room k A->Env0 P w K mg base A outer s H->BindsTo s fd args (ps.zip us)->Vals vs us->sp vs H Q E->
  codeAny (model P w) A (.call (.ref f) args) (CR CX outer P w H s Q E) s
section
variable {X:Cx} {pins:List (Addr × Obj)} {σ:St} {H:Hp} {s s':Shared}
theorem Inv.env0(I:Inv X pins σ H s):Env0 X.prog X.w X.K X.mg X.base X.A X.stack s H:=
 ⟨I.ok.frames,I.ok.mod,I.bs,JV I.ok.bsz I.sz,I.stack,I.stkFree,I.hok,I.bare⟩
theorem Inv.after(I:Inv X pins σ H s)(h:CE X.stack X.prog X.w H s Q u s'):EP X pins σ Q u s':=by
 obtain ⟨v,H',os,bare,un,hok,r,q⟩:=h
 obtain ⟨hh,g,d,t,os'⟩:=s'
 obtain rfl:os'=s.os:=os
 exact ⟨v,H',I.call (h':=hh) (g':=g) (d':=d) (t':=t) (ch:=[]) un hok bare (fun b z=>absurd z (by simp)),r,q⟩
end
noncomputable def zcW(sp:Sp)(dvs:List V)(E:XK)(t:TA):TE:=fun σ H Q=>t σ H fun vs H1=>sp (vs++dvs) H1 Q E
noncomputable def Binds(K:PySem.W.Frag)(fd:FuncData)(ps:List Str)(ds:List Value):Prop:=
 ∀ (s:Shared) (us:List Value),K.In s.heap->(us++ds).length=ps.length->BindsTo s fd ⟨us,[]⟩ (ps.zip (us++ds))
theorem Binds.all{K:PySem.W.Frag}{fd:FuncData}{ps:List Str}(h:∀ us:List Value,us.length=ps.length->bindArgs fd ⟨us,[]⟩=pure (ps.zip us)):Binds K fd ps []:=fun s us _ hl=>by
 rw [JR] at hl ⊢
 exact .of_eq (h us hl)
noncomputable def zaj(CX:CXT)(X:Cx)(E:XK):Prop:=∀ (pins:List (Addr × Obj)) (σ:St) (H:Hp) (s:Shared) (e:Value) (s':Shared),Inv X pins σ H s->CX X.stack H s E e s'->X.xe e s'
section
variable {X:Cx} {CX:CXT} {k:Nat} {f C:Addr} {fd:FuncData} {ps:List Str} {sp:Sp} {dvs:List V} {ds:List Value} {E:XK} {x m:Str} {p pos apos:Pos} {e o:Expr} {es:List Expr} {ta:TE} {t:TA}
theorem zfU(F:FnOk X.prog X.w X.K X.mg X.base CX k f fd ps sp)(hr:Room k X.A)(hb:Binds X.K fd ps ds)(hd:Vals dvs ds)(hx:zaj CX X E)
  (I:Inv X pins σ H s)(r:Vals vs us)(h:sp (vs++dvs) H Q E):wpAny (model X.prog X.w) X.A (call (.ref f) us) (EP X pins σ Q) X.xe s:=by
 have r2:Vals (vs++dvs) (us++ds):=r.append hd
 have hl:(us++ds).length=ps.length:=by rw [← r2.length];exact F.len _ _ _ _ h
 refine wpAny_call (codeAny_mono (F.run X.A X.stack s H ⟨us,[]⟩ (us++ds) (vs++dvs) Q E hr I.env0 (hb s us I.kIn hl) r2 h) fun r s' hq=>?_)
 cases r with
 | error e=>exact hx pins σ H s e s' I hq
 | ok fl=>
  cases fl with
  | ret u=>exact I.after hq
  | next=>exact False.elim hq
  | brk=>exact False.elim hq
  | cont=>exact False.elim hq
theorem ziX(F:FnOk X.prog X.w X.K X.mg X.base CX k f fd ps sp)(hr:Room k X.A)(hg:Gl X x)(hm:X.mg x=some (.ref f))(hk:PySem.W.keepIn X.K (.ref f)=true)(hb:Binds X.K fd ps ds)(hd:Vals dvs ds)(hx:zaj CX X E)
  (ha:PA X (e::es) t)(hdb:(x == ("__debug__":Str))=false:=by decide)(he:starEach (e::es) X.env=(false,eval e X.env)::starEach es X.env:=by rfl)(hpl:(backTo pos (starEach es X.env)).any (·.1)=false:=by rfl):
  PE X (.Call (.Name x p) (e::es) [] pos) (zcW sp dvs E t):=by
 intro pins s σ H Q I h
 refine wpAny_Call_Name_kw (qm I hg hm ?_ hdb)
 refine PySem.W.callWith_K (h₀:=X.base) I.ok.mod.kin hk (thn (ha pos pins s σ H _ I h) fun us s1 ⟨vs,H1,I1,r,q⟩=>⟨I1.kIn,?_⟩) he hpl
 exact zfU F hr hb hd hx I1 r q
theorem zgt(F:FnOk X.prog X.w X.K X.mg X.base CX k f fd ps sp)(hr:Room k X.A)(hg:Gl X x)(hm:X.mg x=some (.ref f))(hk:PySem.W.keepIn X.K (.ref f)=true)(hb:Binds X.K fd ps ds)(hd:Vals dvs ds)(hx:zaj CX X E)
  (hdb:(x == ("__debug__":Str))=false:=by decide):PE X (.Call (.Name x p) [] [] pos) (zcW sp dvs E zef):=by
 intro pins s σ H Q I h
 refine wpAny_Call_Name_kw (qm I hg hm ?_ hdb)
 exact PySem.W.callWith_K0 I.kIn hk (zfU (us:=[]) F hr hb hd hx I .nil h)
structure Mk (K:PySem.W.Frag) (C f:Addr):Prop where
 makes:PySem.W.makesIn K C=true
 init:PySem.W.findIn K (.ref C) "__init__"=some (some (.ref f))
 fn:PySem.W.isFn K (.ref f)=true
 kp:PySem.W.keepIn K (.ref C)=true
end
section
variable {X:Cx} {CX:CXT} {k:Nat} {f C:Addr} {fd:FuncData} {ps ks:List Str} {sp:Sp} {E:XK} {x m:Str} {p pos apos kpos:Pos} {e o:Expr} {es:List Expr} {kws:List Keyword} {te ta:TE} {t tk:TA} {nm:Option Str}
structure KBinds (K:PySem.W.Frag) (fd:FuncData) (ps ks:List Str) (g:List Value->List Value->List Value) (gV:List V->List V->List V):Prop where
 to:∀ (s:Shared) (us ws:List Value),K.In s.heap->(g us ws).length=ps.length->BindsTo s fd ⟨us,ks.zip ws⟩ (ps.zip (g us ws))
 rel:∀ {vs:List V} {us:List Value} {zs:List V} {ws:List Value},Vals vs us->Vals zs ws->Vals (gV vs zs) (g us ws)
variable {g:List Value->List Value->List Value} {gV:List V->List V->List V}
end
structure FnScope (N P:List Str) (sc:Scope):Prop where
 kind:sc.kind=.function
 co:sc.isCoroutine=false
 gen:sc.isGenerator=false
 nd:N.Nodup
 pre:N.take P.length=P
 par:∀ x ∈ P,sc.names.lookup x=some .local∨sc.names.lookup x=some .cell
 nofree:∀ y ∈ sc.names,y.2≠.free
theorem qH{kindOf:Str->Option NameKind}{x:Str}:∀ {binds:List (Str × Value)} {m:Str->Option Value},(∀ v,(x,v) ∉ binds)->bindL kindOf binds m x=m x
 | [],_,_=>rfl
 | (n,v)::r,m,h=>by
  unfold bindL
  rw [qH fun w hw=>h w (Jf _ hw)]
  split
  ·have:x≠n:=by rintro rfl;exact h v Jc
   simp [this]
  ·rfl
theorem qJ{kindOf:Str->Option NameKind}{x:Str}:∀ {binds:List (Str × Value)} {m:Str->Option Value},(∀ v,(x,v) ∉ binds)->bindC kindOf binds m x=m x
 | [],_,_=>rfl
 | (n,v)::r,m,h=>by
  unfold bindC
  rw [qJ fun w hw=>h w (Jf _ hw)]
  split
  ·rfl
  ·have:x≠n:=by rintro rfl;exact h v Jc
   simp [this]
theorem qI{kindOf:Str->Option NameKind}{x:Str}{v:Value}:∀ {P:List Str} {vs:List Value} {i:Nat} {m:Str->Option Value},P.Nodup->P[i]?=some x->vs[i]?=some v->kindOf x=some .local->
  bindL kindOf (P.zip vs) m x=some v
 | [],_,_,_,_,h,_,_=>by simp at h
 | _::_,[],_,_,_,_,h,_=>by simp at h
 | p::P,w::vs,0,m,nd,h1,h2,hk=>by
  simp at h1 h2;subst h1;subst h2
  show bindL kindOf ((p,w)::P.zip vs) m p=_
  unfold bindL
  rw [qH fun v hv=>(JS.mp nd).1 (List.of_mem_zip hv).1,if_pos hk]
  simp
 | p::P,w::vs,i+1,m,nd,h1,h2,hk=>by
  show bindL kindOf ((p,w)::P.zip vs) m x=_
  unfold bindL
  exact qI (i:=i) (List.nodup_cons.mp nd).2 (by simpa using h1) (by simpa using h2) hk
theorem qK{kindOf:Str->Option NameKind}{x:Str}{v:Value}:∀ {P:List Str} {vs:List Value} {i:Nat} {m:Str->Option Value},P.Nodup->P[i]?=some x->vs[i]?=some v->kindOf x≠some .local->
  bindC kindOf (P.zip vs) m x=some v
 | [],_,_,_,_,h,_,_=>by simp at h
 | _::_,[],_,_,_,_,h,_=>by simp at h
 | p::P,w::vs,0,m,nd,h1,h2,hk=>by
  simp at h1 h2;subst h1;subst h2
  show bindC kindOf ((p,w)::P.zip vs) m p=_
  unfold bindC
  rw [qJ fun v hv=>(JS.mp nd).1 (List.of_mem_zip hv).1,if_neg hk]
  simp
 | p::P,w::vs,i+1,m,nd,h1,h2,hk=>by
  show bindC kindOf ((p,w)::P.zip vs) m x=_
  unfold bindC
  exact qK (i:=i) (List.nodup_cons.mp nd).2 (by simpa using h1) (by simpa using h2) hk
noncomputable def start(N:List Str)(vs:List V):St:=vs.map some++List.replicate (N.length - vs.length) none
noncomputable def zcx(CX:CXT)(P:Program)(w:World)(K:PySem.W.Frag)(mg:Str->Option Value)(base:Heap)(N:List Str)(qual:Str)(scope:Scope)(f:Addr)(cd:Value)(A:Around)(outer:List Env)(s:Shared)(H:Hp)(E:XK):Cx where
 prog:=P
 w:=w
 K:=K
 mg:=mg
 base:=base
 A:=A.deeper (envOfC qual scope s.heap.objs.size f cd)
 N:=N
 s₀:=s
 H₀:=H
 env:=envOfC qual scope s.heap.objs.size f cd
 outer:=outer
 stack:=envOfC qual scope s.heap.objs.size f cd::outer
 ex:=[]
 calm:=true
 fn:=fun _=>true
 pn:=[]
 xe:=fun e s'=>wpAny (model P w) (A.deeper (envOfC qual scope s.heap.objs.size f cd)) (leaving (envOfC qual scope s.heap.objs.size f cd) e) (fun _ s''=>CX outer H s E e s'') (fun e' s''=>CX outer H s E e' s'') s'
theorem zbv{sc:Scope}(h:sc.names.lookup x=some .cell):∃ c,(cellsFrom n sc.names []).lookup x=some c:=by
 have q:=PySem.W.cellsFrom_some sc.names n [] (.inl h)
 exact Option.isSome_iff_exists.mp q
theorem zeF{CX:CXT}{P:Program}{w:World}{K:PySem.W.Frag}{mg:Str->Option Value}{base:Heap}{N ps:List Str}{qual:Str}{scope:Scope}{f:Addr}{cd:Value}{A:Around}{outer:List Env}{s s1:Shared}{H:Hp}{E:XK}{us:List Value}{vs:List V}
  (S:FnScope N ps scope)(hd:A.handled=none)(e0:Env0 P w K mg base A outer s H)(hl:vs.length=ps.length)(r:Vals vs us)
  (x:InCallC s s.heap.objs.size (bindL (envOfC qual scope s.heap.objs.size f cd).kindOf (ps.zip us) fun _=>none) (cellsFrom (s.heap.objs.size+1) scope.names []) (bindC (envOfC qual scope s.heap.objs.size f cd).kindOf (ps.zip us) fun _=>none) s1):
  Inv (zcx CX P w K mg base N qual scope f cd A outer s H E) [] (start N vs) H s1:=by
 have hpl:ps.length≤N.length:=by have:=congrArg List.length S.pre;rw [Kc] at this;omega
 obtain ⟨h1,tk,rfl,hk⟩:=x.done
 have noA:∀ b:Addr,b ∉ (zcx CX P w K mg base N qual scope f cd A outer s H E).ex:=fun b z=>absurd (show b ∈ ([]:List Addr) from z) (by simp)
 refine ⟨⟨e0.mod,S.kind,rfl,rfl,Jm _,fun y z c h1 h2=>?_,fun y hy=>?_,fun y c _ h=>?_,fun _=>hd,Around.frames_deeper e0.frames,.inr ⟨rfl,rfl⟩,fun b z=>absurd z (noA b),e0.bs,e0.bsz,fun b _ _=>noA b,fun b z=>absurd z (noA b),e0.funs,e0.frf⟩,
  rfl,e0.bare,Un.kept hk,⟨_,x.toInCall.ns,fun i y v h1 h2 h3=>?_⟩,fun y c h=>⟨_,x.cell y c h⟩,e0.hok.fresh (Nat.le_refl _),fun y c h=>?_,fun p hp=>absurd (show p ∈ ([]:List (Addr × Obj)) from hp) (by simp),e0.hok.kept hk,?_⟩
 ·exact name_of_addr x.apart (Qm h1) (Qm h2)
 ·have hy:scope.names.lookup y=some .cell∨scope.names.lookup y=some .free:=hy
  rcases hy with hy | hy
  ·exact zbv hy
  ·exact absurd rfl (S.nofree _ (Qm hy))
 ·exact Nat.le_of_lt (x.above y c (Qm h))
 ·have hi:i<vs.length:=by
   unfold start at h2
   by_cases hi:i<vs.length
   ·exact hi
   ·rw [List.getElem?_append_right (by simpa using hi)] at h2
    rw [List.getElem?_replicate] at h2
    split at h2<;>cases h2
  have ha:vs[i]?=some v:=by
   unfold start at h2
   rw [List.getElem?_append_left (by simpa using hi),List.getElem?_map] at h2
   cases e:vs[i]? with
   | none=>rw [e] at h2;cases h2
   | some a=>rw [e] at h2;cases h2;rfl
  obtain ⟨u,hu,rv⟩:=r.get ha
  have hp:ps[i]?=some y:=by
   rw [← S.pre,List.getElem?_take_of_lt (by omega)];exact h1
  have ndP:ps.Nodup:=by rw [← S.pre];exact S.nd.sublist (List.take_sublist _ _)
  refine ⟨u,rv,?_⟩
  rcases S.par y (List.mem_of_getElem? hp) with k | k
  ·exact .inl ⟨k,qI ndP hp hu k⟩
  ·obtain ⟨c,e⟩:=zbv (n:=s.heap.objs.size+1) k
   refine .inr ⟨.inl k,c,e,?_⟩
   have q:=x.cell y c e
   rw [qK ndP hp hu (by show scope.names.lookup y≠_;rw [k];decide)] at q
   exact q
 ·exact e0.hok.fresh (Nat.le_of_lt (x.above y c (Qm h)))
 ·unfold start
  show _=N.length
  rw [Jk,Jt,List.length_replicate]
  omega
theorem znO{CX:CXT}{P:Program}{w:World}{K:PySem.W.Frag}{mg:Str->Option Value}{base:Heap}{k:Nat}{f:Addr}{name qual:Str}{params:Arguments}{body:List Stmt}{scope:Scope}{dV kV doc pm cdv ct oc:Value}{an od:Option Addr}{osl:Array (Option Value)}{N ps:List Str}{sp:Sp}(lk:K.lookup f=some ⟨oc,od,.func (PySem.W.fnOf name qual params body scope dV kV doc pm an cdv ct),osl⟩)(hcd:PySem.W.codeIn K cdv qual=true)(S:FnScope N ps scope)(len:∀ vs H Q E,sp vs H Q E->vs.length=ps.length)(hbody:∀ (A:Around) (outer:List Env) (s:Shared) (H:Hp) (vs:List V) (Q:VK) (E:XK),Room k (A.deeper (envOfC qual scope s.heap.objs.size f cdv))->sp vs H Q E->
 ∃ t,PSs (zcx CX P w K mg base N qual scope f cdv A outer s H E) body t/\t { nx:=fun _ H'=>Q .non H',rt:=Q } (start N vs) H):
 FnOk P w K mg base CX (k+1) f (PySem.W.fnOf name qual params body scope dV kV doc pm an cdv ct) ps sp:=by
 refine ⟨len,fun A outer s H args us vs Q E hr e0 hb r hsp=>?_⟩
 have hl:=len _ _ _ _ hsp
 have KX:K.In s.heap:=e0.mod.kin.keeps fun b o e=>(e0.bs b o e).1
 have lim:s.heap.NoLimit:=e0.mod.nolimit.keeps fun b o e=>(e0.bs b o e).1
 have hkind:∀ y ∈ ps.zip us,scope.names.lookup y.1=some .local∨(scope.names.lookup y.1=some .cell/\((cellsFrom (s.heap.objs.size+1) scope.names []).lookup y.1).isSome=true):=fun ⟨n,v⟩ hy=>by
  rcases S.par n (List.of_mem_zip hy).1 with q | q
  ·exact .inl q
  ·exact .inr ⟨q,PySem.W.cellsFrom_some _ _ _ (.inl q)⟩
 refine codeAny_call_function hr.depth (KX _ _ lk) rfl S.co S.gen rfl (PySem.W.codeRec_of KX hcd) (hb _ _ _ _ ?_)
 refine wpAny_newFunctionEnv_cells S.kind hkind fun env he s1 x=>?_
 subst he
 refine ⟨lim.keeps x.toInCall.keep,codeAny_func ?_⟩
 obtain ⟨t,ht,hq⟩:=hbody A outer s H vs Q E (hr.deeper _) hsp
 have I:Inv (zcx CX P w K mg base N qual scope f cdv A outer s H E) [] (start N vs) H s1:=zeF S hr.hd e0 hl r x
 refine wpAny_mono (ht [] s1 (start N vs) H _ I hq) (fun fl s' hs=>?_) fun e s' hs=>hs
 have fin:∀ {σ':St} {H':Hp} {v:V} {u:Value},Inv (zcx CX P w K mg base N qual scope f cdv A outer s H E) [] σ' H' s'->RelV v u->Q v H'->CE outer P w H s Q u s':=
  fun {σ' H' v u} J rv q=>⟨v,H',J.os,J.bare,J.base,J.hok,rv,q⟩
 cases fl with
 | ret u=>
  obtain ⟨v,σ',H',J,rv,q⟩:=hs
  exact fin J rv q
 | next=>
  obtain ⟨σ',H',J,q⟩:=hs
  exact fin (v:=V.non) (u:=Value.none) J rfl q
 | brk=>
  obtain ⟨_,_,_,q⟩:=hs
  exact False.elim q
 | cont=>
  obtain ⟨_,_,_,q⟩:=hs
  exact False.elim q
section
variable {X:Cx} {x:Str} {p pos:Pos} {e:Expr} {es:List Expr} {t:TA} {id T:String} {r:List V->Hp->VK->Prop}
noncomputable def tCB(r:List V->Hp->VK->Prop)(t:TA):TE:=fun σ H Q=>t σ H fun vs H1=>r vs H1 Q
theorem zgs(hc:CallR X (.builtin id) r)(hg:Gl X x)(hm:X.mg x=none)(hv:bootBuiltins x=some (.builtin id))(ha:PA X (e::es) t)(hn:x≠"__name__":=by decide)(hdb:(x == ("__debug__":Str))=false:=by decide)
  (he:starEach (e::es) X.env=(false,eval e X.env)::starEach es X.env:=by rfl)(hpl:(backTo pos (starEach es X.env)).any (·.1)=false:=by rfl):PE X (.Call (.Name x p) (e::es) [] pos) (tCB r t):=by
 intro pins s σ H Q I h
 refine wpAny_Call_Name_kw (x5 I hg hm hv ?_ hn hdb)
 exact PyProof.Rows.callWith_builtin1 (thn (ha pos pins s σ H _ I h) fun us s1 ⟨vs,H1,I1,r1,q1⟩=>hc pins s1 σ H1 vs us Q I1 r1 q1) he hpl
theorem zeu(hc:CallR X (.type T) r)(hg:Gl X x)(hm:X.mg x=none)(hv:bootBuiltins x=some (.type T))(ha:PA X (e::es) t)(hn:x≠"__name__":=by decide)(hdb:(x == ("__debug__":Str))=false:=by decide)
  (he:starEach (e::es) X.env=(false,eval e X.env)::starEach es X.env:=by rfl)(hpl:(backTo pos (starEach es X.env)).any (·.1)=false:=by rfl):PE X (.Call (.Name x p) (e::es) [] pos) (tCB r t):=by
 intro pins s σ H Q I h
 refine wpAny_Call_Name_kw (x5 I hg hm hv ?_ hn hdb)
 exact Kr (thn (ha pos pins s σ H _ I h) fun us s1 ⟨vs,H1,I1,r1,q1⟩=>hc pins s1 σ H1 vs us Q I1 r1 q1) he hpl
end
end L2
namespace HT
open PySem PyProof.Rows
section
variable {prog:Program} {w:World} {A:Around} {E:Value->Shared->Prop} {s:Shared}
theorem cat_tup{vs ws:List Value}{Q:Value->Shared->Prop}(ht:IsTup s.heap t vs.toArray)(hb:IsTup s.heap b ws.toArray)(hv:vs≠[])
  (h1:ws=[]->Q (.ref t) s)(h2:ws≠[]->Q (.ref s.heap.objs.size) { s with heap:=s.heap.push { cls:=.type "tuple",data:=.seq (vs++ws).toArray } })
  (hsz:vs.length+ws.length≤sizeLine):wpAny (model prog w) A (binaryOp .Add (.ref t) (.ref b)) Q E s:=by
 obtain ⟨⟨cls,dd,data,sl⟩,ho,hc,n,hd⟩:=id ht
 obtain ⟨⟨cls2,dd2,data2,sl2⟩,ho2,hc2,n2,hd2⟩:=id hb
 simp only at hc hd hc2 hd2
 subst hc hd hc2 hd2
 have e:vs.toArray++ws.toArray=(vs++ws).toArray:=by simp
 by_cases hw:ws=[]
 ·exact concat_meets ⟨_,ho,rfl⟩ ⟨_,ho2,rfl⟩ noFill_tuple_add seq_tuple_add PySem.F.slot_tuple_add PySem.F.entry_tuple_add (PySem.F.args_tuple_add_2 _ _)
   (tuple_addW1 t b vs.toArray ws.toArray n n2 dd dd2 sl sl2 (by simpa using hv) (by simp [hw])) ⟨ho,ho2,h1 hw⟩
 ·refine concat_meets ⟨_,ho,rfl⟩ ⟨_,ho2,rfl⟩ noFill_tuple_add seq_tuple_add PySem.F.slot_tuple_add PySem.F.entry_tuple_add (PySem.F.args_tuple_add_2 _ _)
   (tuple_addW2 t b vs.toArray ws.toArray n n2 dd dd2 sl sl2 (by simpa using hv) (by simpa using hw) (by rw [List.size_toArray,List.size_toArray];exact hsz)) ⟨ho,ho2,?_⟩
  rw [e]
  exact h2 hw
noncomputable def sIx(n d:Nat):Option Int->Nat
 | none=>d
 | some v=>if v<0 then (v+(n:Int)).toNat else min v.toNat n
theorem zkM(n d:Nat)(hd:d≤n)(o:Option Int):sIx n d o≤n:=by
 cases o with
 | none=>exact hd
 | some v=>
  show (if v<0 then (v+(n:Int)).toNat else min v.toNat n)≤n
  by_cases hv:v<0
  ·rw [if_pos hv];omega
  ·rw [if_neg hv];exact Nat.min_le_right _ _
theorem zdJ(v:Int)(n d:Nat):(if v<0 then max (v+(n:Int)) 0 else min v (n:Int))=((sIx n d (some v):Nat):Int):=by
 show (if v<0 then max (v+(n:Int)) 0 else min v (n:Int))=(((if v<0 then (v+(n:Int)).toNat else min v.toNat n):Nat):Int)
 by_cases hv:v<0
 ·simp only [if_pos hv];omega
 ·simp only [if_neg hv];omega
theorem zcJ(lo hi:Option Int)(n:Nat):Builtin.Slice.sliceAdjust lo hi 1 (n:Int)=(((sIx n 0 lo:Nat):Int),((sIx n n hi:Nat):Int)):=by
 have h1:¬ ((1:Int)<0):=by omega
 unfold Builtin.Slice.sliceAdjust
 simp only [h1,if_false]
 refine Prod.ext ?_ ?_
 ·cases lo with
  | none=>rfl
  | some v=>exact zdJ v n 0
 ·cases hi with
  | none=>rfl
  | some v=>exact zdJ v n n
theorem zbV(i j:Nat):Builtin.Slice.slicePlaces (i:Int) (j:Int) 1=j - i:=by
 unfold Builtin.Slice.slicePlaces
 have h1:(1:Int) > 0:=by omega
 simp only [h1,if_true,Int.ediv_one]
 split<;>omega
theorem jW{Q:Option Int->Shared->Prop}(p:IsPart v o)(h:Q o s):wpAny (model prog w) A (Builtin.Slice.slicePartIndex v) Q E s:=by
 cases p with
 | none=>exact slicePart_none h
 | int i t=>exact slicePart_int h
theorem sliceApplied_gen{sl:Addr}{vl vu:Value}{lo hi:Option Int}{n:Nat}{Q:Int × Int × Nat->Shared->Prop}(hs:s.heap.IsSliceOf sl vl vu .none)(pl:IsPart vl lo)(pu:IsPart vu hi)
  (h:Q (((sIx n 0 lo:Nat):Int),1,sIx n n hi - sIx n 0 lo) s):wpAny (model prog w) A (Builtin.Slice.sliceApplied (.ref sl) (pure (n:Int))) Q E s:=by
 obtain ⟨os,hos,hcs,hds⟩:=id hs
 unfold Builtin.Slice.sliceApplied Builtin.Slice.sliceFields
 refine wpAny_bind (wpAny_bind (wpAny_field hos hds (x:=vl) rfl (wpAny_bind (wpAny_field hos hds (x:=vu) rfl (wpAny_bind (wpAny_field hos hds (x:=.none) rfl (wpAny_pure ?_)))))))
 refine wpAny_bind (slicePart_none ?_)
 show wpAny _ _ (if ((1:Int) == 0)=true then _ else _) _ _ s
 rw [if_neg (by decide)]
 refine wpAny_bind (jW pl (wpAny_bind (jW pu (wpAny_bind (wpAny_pure ?_)))))
 show wpAny _ _ (match Builtin.Slice.sliceAdjust lo hi 1 (n:Int) with | (lo,hi)=>pure (lo,(1:Int),Builtin.Slice.slicePlaces lo hi 1)) _ _ s
 rw [zcJ lo hi n]
 show wpAny _ _ (pure (((sIx n 0 lo:Nat):Int),(1:Int),Builtin.Slice.slicePlaces ((sIx n 0 lo:Nat):Int) ((sIx n n hi:Nat):Int) 1)) _ _ s
 rw [zbV]
 exact wpAny_pure h
theorem zgj(xs:Array Value)(i k:Nat):((List.range k).filterMap fun (m:Nat)=>xs[((i:Int)+(m:Int) * 1).toNat]?).toArray=((xs.toList.drop i).take k).toArray:=by
 have e:(fun (m:Nat)=>xs[((i:Int)+(m:Int) * 1).toNat]?)=fun m=>xs[i+m]?:=by
  funext m
  have:((i:Int)+(m:Int) * 1).toNat=i+m:=by omega
  rw [this]
 rw [e]
 have:=pick_run xs i k
 rw [List.filterMap_map] at this
 have e2:((fun x=>xs[x]?) ∘ fun x=>i+x)=fun m=>xs[i+m]?:=rfl
 rw [e2] at this
 rw [this]
theorem getItem_tuple_cut{t sl:Addr}{items:Array Value}{vl vu:Value}{lo hi:Option Int}{Q:Value->Shared->Prop}(ht:IsTup s.heap t items)(hs:s.heap.IsSliceOf sl vl vu .none)(pl:IsPart vl lo)(pu:IsPart vu hi)
  (hw:¬ (sIx items.size 0 lo=0/\sIx items.size items.size hi=items.size))
  (h:Q (.ref s.heap.objs.size) { s with heap:=s.heap.push { cls:=.type "tuple",data:=.seq ((items.toList.drop (sIx items.size 0 lo)).take (sIx items.size items.size hi - sIx items.size 0 lo)).toArray } })
  (hsz:items.size≤sizeLine):wpAny (model prog w) A (getItem (.ref t) (.ref sl)) Q E s:=by
 have htake:sizeOk (.seq ((items.toList.drop (sIx items.size 0 lo)).take (sIx items.size items.size hi - sIx items.size 0 lo)).toArray):=by
  show ((items.toList.drop (sIx items.size 0 lo)).take (sIx items.size items.size hi - sIx items.size 0 lo)).toArray.size≤sizeLine
  rw [Jy,Kc,KP,Jg]
  omega
 have hj:sIx items.size items.size hi≤items.size:=zkM _ _ (Jm _) hi
 obtain ⟨os,hos,hcs,hds⟩:=id hs
 have hTs:s.TypeIs (.ref sl) "slice":=⟨os,hos,hcs⟩
 unfold getItem
 try with_reducible refine wpAny_holding ?_
 first | refine wpAny_bind (wpAny_pure ?_) | skip
 refine wpAny_bind (wpAny_sequenceKey ht.typeIs (by decide) ?_)
 refine wpAny_bind (wpAny_callSpecial?_slot (name:=Str.ofString "__getitem__") ht.typeIs KS
  (wpAny_call_entry KS ht.typeIs entry_tuple_getitem ?_ (args_tuple_getitem _ _)))
 show wpAny _ _ (Builtin.Tuple.tupleItemsOf (.ref t) >>= _) _ _ s
 refine wpAny_bind (tupleItemsOf_ ht ?_)
 refine wpAny_bind (wpAny_typeOf hTs ?_)
 rw [if_pos (by decide)]
 refine wpAny_bind (sliceApplied_gen hs pl pu ?_)
 have hno:¬ ((((sIx items.size 0 lo:Nat):Int) == 0 && (1:Int) == 1 && (sIx items.size items.size hi - sIx items.size 0 lo) == items.size)=true):=by
  intro q
  rw [JG,JG] at q
  have q1:((sIx items.size 0 lo:Nat):Int)=0:=eq_of_beq q.1.1
  have q2:sIx items.size items.size hi - sIx items.size 0 lo=items.size:=eq_of_beq q.2
  exact hw ⟨by omega,by omega⟩
 show wpAny _ _ (if (((sIx items.size 0 lo:Nat):Int) == 0 && (1:Int) == 1 && (sIx items.size items.size hi - sIx items.size 0 lo) == items.size)=true then _ else _) _ _ s
 rw [if_neg hno,zgj]
 first
  | exact wpAny_bind (m:=Builtin.Tuple.tupleExact _) (wpAny_newObj_type (wpAny_pure ⟨_,rfl,wpAny_pure h⟩) htake)
  | exact wpAny_bind (m:=Builtin.Tuple.tupleExact _) (wpAny_newObj_type (wpAny_bind (wpAny_pure (wpAny_pure ⟨_,rfl,wpAny_pure h⟩))) htake)
  | exact wpAny_bind (wpAny_bind (m:=Builtin.Tuple.tupleExact _) (wpAny_newObj_type (wpAny_pure (wpAny_pure ⟨_,rfl,wpAny_pure h⟩)) htake))
  | exact wpAny_bind (wpAny_bind (m:=Builtin.Tuple.tupleExact _) (wpAny_newObj_type (wpAny_pure ⟨_,rfl,wpAny_pure h⟩) htake))
end
end HT
namespace L2
open PySem PySem.Spec PyProof.Rows
noncomputable abbrev TO:=St->Hp->(Option Int->Hp->Prop)->Prop
noncomputable def PO(X:Cx)(e:Option Expr)(t:TO):Prop:=
 ∀ (pins:List (Addr × Obj)) (s:Shared) (σ:St) (H:Hp) (Q:Option Int->Hp->Prop),Inv X pins σ H s->t σ H Q->
  wpAny (model X.prog X.w) X.A (evalPart e X.env) (fun u s'=>∃ o H',Inv X pins σ H' s'/\IsPart u o/\Q o H') X.xe s
noncomputable def ziA:TO:=fun _ H Q=>Q none H
noncomputable def zmN(t:TE):TO:=fun σ H Q=>t σ H fun x H1=>∃ i,x=.int i/\Q (some i) H1
section
variable {X:Cx} {e:Expr} {te:TE} {lo hi:Option Expr} {tl th:TO} {pos p2:Pos}
theorem ziS:PO X none ziA:=by
 intro pins s σ H Q I h
 rw [evalPart_none]
 exact wpAny_pure ⟨none,H,I,.none,h⟩
theorem ziR(h:PE X e te):PO X (some e) (zmN te):=by
 intro pins s σ H Q I hw
 rw [evalPart_some]
 refine thn (h pins s σ H _ I hw) fun u s1 ⟨x,H1,I1,r1,q1⟩=>?_
 obtain ⟨i,rfl,q⟩:=q1
 obtain ⟨t,rfl⟩:=r1
 exact ⟨some i,H1,I1,.int i t,q⟩
noncomputable def SlR(X:Cx)(r:V->Option Int->Option Int->Hp->VK->Prop):Prop:=
 ∀ (pins:List (Addr × Obj)) (s:Shared) (σ:St) (H:Hp) (x:V) (v vl vu:Value) (lo hi:Option Int) (sl:Addr) (Q:VK),Inv X pins σ H s->RelV x v->s.heap.IsSliceOf sl vl vu .none->IsPart vl lo->IsPart vu hi->r x lo hi H Q->
  ∃ T id,typeLookup (.type T) "__getitem__"=pure (some (.builtin id))/\s.TypeIs v T/\wpAny (model X.prog X.w) X.A (getItem v (.ref sl)) (EP X pins σ Q) X.xe s
theorem SlR.or{r r':V->Option Int->Option Int->Hp->VK->Prop}(h:SlR X r)(h':SlR X r'):SlR X (fun x lo hi H Q=>r x lo hi H Q∨r' x lo hi H Q):=by
 intro pins s σ H x v vl vu lo hi sl Q I rx hs pl pu q
 rcases q with q | q
 ·exact h pins s σ H x v vl vu lo hi sl Q I rx hs pl pu q
 ·exact h' pins s σ H x v vl vu lo hi sl Q I rx hs pl pu q
noncomputable def tSl(r:V->Option Int->Option Int->Hp->VK->Prop)(te:TE)(tl th:TO):TE:=fun σ H Q=>te σ H fun x H1=>tl σ H1 fun l H2=>th σ H2 fun u H3=>r x l u H3 Q
theorem zgm{r:V->Option Int->Option Int->Hp->VK->Prop}(hr:SlR X r)(he:PE X e te)(hl:PO X lo tl)(hu:PO X hi th):PE X (.Subscript e (.Slice lo hi none p2) pos) (tSl r te tl th):=by
 intro pins s σ H Q I h
 refine Subscript_ (thn (he pins s σ H _ I h) fun v s1 hq_=>?_)
 obtain ⟨x,H1,I1,r1,q1⟩:=hq_
 refine wpAny_Slice (thn (hl pins s1 σ H1 _ I1 q1) fun vl s2 ⟨l,H2,I2,pl,q2⟩=>thn (hu pins s2 σ H2 _ I2 q2) fun vu s3 ⟨u,H3,I3,pu,q3⟩=>?_)
 rw [evalPart_none]
 refine wpAny_pure ?_
 have I4:Inv X pins σ H3 { s3 with heap:=s3.heap.push { cls:=.type "slice",data:=.fields #[vl,vu,.none] } }:=I3.kept (t':=s3.toks) fun b ob q=>Heap.get?_push_of_some _ q
 obtain ⟨T,id,hT,ht,hg⟩:=hr pins { s3 with heap:=s3.heap.push { cls:=.type "slice",data:=.fields #[vl,vu,.none] } } σ H3 x v vl vu l u s3.heap.objs.size Q I4 r1 (Heap.IsSliceOf.new ..) pl pu q3
 show wpAny (model X.prog X.w) X.A (subscriptTail e (.Slice lo hi none p2) v (.ref s3.heap.objs.size)) (EP X pins σ Q) X.xe { s3 with heap:=s3.heap.push { cls:=.type "slice",data:=.fields #[vl,vu,.none] } }
 exact tail_any (ops:=[.ref s3.heap.objs.size,v]) ht hT hg (by with_unfolding_all rfl)
noncomputable def kH(xs:List V)(lo hi:Option Int):List V:=(xs.drop (HT.sIx xs.length 0 lo)).take (HT.sIx xs.length xs.length hi - HT.sIx xs.length 0 lo)
theorem u5(xs:List V)(lo hi:Option Int):(kH xs lo hi).length≤xs.length:=by
 unfold kH
 rw [Kc,KP]
 exact JV (Nat.min_le_right _ _) (Nat.sub_le _ _)
noncomputable def zoP(K:PySem.W.Frag):V->Option Int->Option Int->Hp->VK->Prop:=fun x lo hi H Q=>∃ a xs,x=.ref a/\SqT K H a xs/\
 ¬ (HT.sIx xs.length 0 lo=0/\HT.sIx xs.length xs.length hi=xs.length)/\∀ p,H p=none->Q (.ref p) (upd H p (.tup (kH xs lo hi)))
theorem zkL:SlR X (zoP X.K):=by
 intro pins s σ H x v vl vu lo hi sl Q I rx hs pl pu h
 obtain ⟨a,xs,rfl,hx,hw,q⟩:=h
 cases rx
 obtain ⟨its,r,ht,hz⟩:=I.tuple hx
 have hlen:its.toArray.size=xs.length:=by rw [Jy];exact r.length.symm
 refine ⟨"tuple",_,PyProof.Rows.slot_tuple_getitem.lookup,ht.typeIs,?_⟩
 refine HT.getItem_tuple_cut ht hs pl pu (by rw [hlen];exact hw) ?_ (by rw [hlen];exact hz)
 rw [hlen]
 refine ⟨.ref s.heap.objs.size,_,I.laid (t':=s.toks) (o:=.tup (kH xs lo hi)) (fun b ob q=>Jb _ q) (Jm _) ?_,rfl,q _ (I.hok.fresh (Jm _))⟩
 exact ⟨JV (u5 xs lo hi) hz,_,(r.drop (HT.sIx xs.length 0 lo)).take (HT.sIx xs.length xs.length hi - HT.sIx xs.length 0 lo),IsTup.new _ _⟩
noncomputable def zga(K:PySem.W.Frag):R2:=fun x y H Q=>∃ a b xs ys,x=.ref a/\y=.ref b/\SqT K H a xs/\SqT K H b ys/\xs≠[]/\xs.length+ys.length≤sizeLine/\
 (ys=[]->Q (.ref a) H)/\(ys≠[]->∀ p,H p=none->Q (.ref p) (upd H p (.tup (xs++ys))))
theorem Vals.nil_iff(r:Vals xs us):us=[] ↔ xs=[]:=by
 cases r with
 | nil=>simp
 | cons _ _=>simp
theorem op_catT:OpR X (binaryOp .Add) (zga X.K):=by
 intro pins s σ H x y v u Q I rx ry h
 obtain ⟨a,b,xs,ys,rfl,rfl,ha,hb,hx,hz,q1,q2⟩:=h
 cases rx
 cases ry
 obtain ⟨its,r1,p1,_⟩:=I.tuple ha
 obtain ⟨its2,r2,p2,_⟩:=I.tuple hb
 refine HT.cat_tup p1 p2 (fun z=>hx (r1.nil_iff.mp z)) (fun z=>⟨.ref a,H,I,rfl,q1 (r2.nil_iff.mp z)⟩) (fun z=>?_) (by rw [← r1.length,← r2.length];exact hz)
 refine ⟨.ref s.heap.objs.size,_,I.laid (t':=s.toks) (o:=.tup (xs++ys)) (fun b ob q=>Jb _ q) (Jm _) ?_,rfl,q2 (fun w=>z (r2.nil_iff.mpr w)) _ (I.hok.fresh (Jm _))⟩
 exact ⟨by rw [Jk];exact hz,_,r1.append r2,IsTup.new _ _⟩
end
noncomputable def ixN(n:Nat)(i:Int):Option Nat:=if 0≤i then (if i<n then some i.toNat else none) else if -(n:Int)≤i then some (i+n).toNat else none
noncomputable def atI{α:Type}(xs:List α)(i:Int):Option α:=(ixN xs.length i).bind fun j=>xs[j]?
theorem zdv(h:ixN n i=some j):seqIndex? i n=some j/\j<n/\-(n:Int)≤i/\i<n:=by
 unfold ixN at h
 by_cases h0:0≤i
 ·rw [if_pos h0] at h
  by_cases h1:i<n
  ·rw [if_pos h1] at h
   have e:i.toNat=j:=Jq h
   exact ⟨by rw [seqIndex_of h0 h1,e],by omega,by omega,h1⟩
  ·rw [if_neg h1] at h;cases h
 ·rw [if_neg h0] at h
  by_cases h1 : -(n:Int)≤i
  ·rw [if_pos h1] at h
   have e:(i+n).toNat=j:=Jq h
   exact ⟨by rw [seqIndex_neg (by omega) h1,e],by omega,h1,by omega⟩
  ·rw [if_neg h1] at h;cases h
theorem zag{α:Type}{xs:List α}{i:Int}{v:α}(h:atI xs i=some v):∃ j,seqIndex? i xs.length=some j/\xs[j]?=some v/\j<xs.length/\-(xs.length:Int)≤i/\i<xs.length:=by
 unfold atI at h
 cases e:ixN xs.length i with
 | none=>rw [e] at h;cases h
 | some j=>
  rw [e] at h
  obtain ⟨h1,h2,h3,h4⟩:=zdv e
  exact ⟨j,h1,h,h2,h3,h4⟩
theorem atI_nat{α:Type}{xs:List α}{j:Nat}{v:α}(h:xs[j]?=some v):atI xs (j:Int)=some v:=by
 have hj:j<xs.length:=(Jv.mp h).1
 have e:ixN xs.length (j:Int)=some j:=by
  unfold ixN
  rw [if_pos (by omega),if_pos (by omega)];simp
 unfold atI;rw [e];exact h
noncomputable def zdO(b:Expr):Prop:=∀ o i,subscripted b false o i=operate [o,i] (getItem o i)
noncomputable def IxR(X:Cx)(r:R2):Prop:=
 ∀ (value slice:Expr) (pins:List (Addr × Obj)) (s:Shared) (σ:St) (H:Hp) (x y:V) (v u:Value) (Q:VK),Inv X pins σ H s->RelV x v->RelV y u->r x y H Q->
  subscripted slice false v u=operate [v,u] (getItem v u)->wpAny (model X.prog X.w) X.A (subscriptTail value slice v u) (EP X pins σ Q) X.xe s
noncomputable def MtR(X:Cx)(id:String)(r:V->List V->Hp->VK->Prop):Prop:=
 ∀ (pins:List (Addr × Obj)) (s:Shared) (σ:St) (H:Hp) (x:V) (xs:List V) (v:Value) (us:List Value) (Q:VK),Inv X pins σ H s->RelV x v->Vals xs us->r x xs H Q->
  wpAny (model X.prog X.w) X.A (call (.builtin id) (v::us)) (EP X pins σ Q) X.xe s
section
variable {X:Cx} {a b:Expr} {ta tb:TE} {pos:Pos}
theorem IxR.or{r r':R2}(h:IxR X r)(h':IxR X r'):IxR X (fun x y H Q=>r x y H Q∨r' x y H Q):=by
 intro value slice pins s σ H x y v u Q I rx ry q hs
 rcases q with q | q
 ·exact h value slice pins s σ H x y v u Q I rx ry q hs
 ·exact h' value slice pins s σ H x y v u Q I rx ry q hs
theorem zjT(hr:IxR X r)(ha:PE X a ta)(hb:PE X b tb)(hs:zdO b):PE X (.Subscript a b pos) (tOp r ta tb):=by
 intro pins s σ H Q I h
 exact Subscript_ (zml ha hb I h fun v u s2 x y H2 I2 rx ry q=>hr a b pins s2 σ H2 x y v u Q I2 rx ry q (hs _ _))
noncomputable def znc(K:PySem.W.Frag):R2:=fun x y H Q=>∃ p xs i v,x=.ref p/\y=.int i/\SqL K H p xs/\atI xs i=some v/\Q v H
noncomputable def zna(K:PySem.W.Frag):R2:=fun x y H Q=>∃ p xs i v,x=.ref p/\y=.int i/\SqT K H p xs/\atI xs i=some v/\Q v H
noncomputable def znb:R2:=fun x y H Q=>∃ z i c,x=.str z/\y=.int i/\z.length≤sizeLine/\atI z.cps.toList i=some c/\Q (.str ⟨#[c]⟩) H
theorem ix_list:IxR X (znc X.K):=by
 intro value slice pins s σ H x y v u Q I rx ry h hs
 obtain ⟨p,xs,i,z,rfl,rfl,hq,he,q⟩:=h
 cases rx
 obtain ⟨t,rfl⟩:=ry
 obtain ⟨its,r,pl,hz⟩:=I.list hq
 obtain ⟨j,h1,h2,h3,h4,h5⟩:=zag he
 obtain ⟨w,ew,rw'⟩:=r.get h2
 have hl:=r.length
 have hn:=vV
 have fin:EP X pins σ Q w s:=⟨z,H,I,rw',q⟩
 by_cases h0:0≤i
 ·have hj:i.toNat=j:=by
   rw [seqIndex_of h0 h5] at h1
   exact Jq h1
  exact item_listR pl.isList h0 (by omega) (by rw [hj];simpa using ew) fin hs
 ·have hj:(i+(its.toArray.size:Int)).toNat=j:=by
   rw [seqIndex_neg (by omega) h4] at h1
   rw [Jy,← hl]
   exact Jq h1
  exact subscriptTail_builtinR (x:=w) pl.isList.typeIs slot_list_getitem.lookup
   (wpAny_getItem_list_neg (Q:=fun r s'=>r=w/\EP X pins σ Q r s') pl.isList (by omega) (by rw [List.size_toArray]<;>omega) (by omega) (by rw [hj];simpa using ew) ⟨rfl,fin⟩) hs
theorem ix_tup:IxR X (zna X.K):=by
 intro value slice pins s σ H x y v u Q I rx ry h hs
 obtain ⟨p,xs,i,z,rfl,rfl,hq,he,q⟩:=h
 cases rx
 obtain ⟨t,rfl⟩:=ry
 obtain ⟨its,r,pl,hz⟩:=I.tuple hq
 obtain ⟨j,h1,h2,h3,h4,h5⟩:=zag he
 obtain ⟨w,ew,rw'⟩:=r.get h2
 have hl:=r.length
 have hn:=vV
 have fin:EP X pins σ Q w s:=⟨z,H,I,rw',q⟩
 exact subscriptTail_builtinR (x:=w) pl.typeIs slot_tuple_getitem.lookup
  (getItem_tuple (j:=j) (Q:=fun r s'=>r=w/\EP X pins σ Q r s') pl (by omega) (by omega) (by rw [List.size_toArray,← hl];exact h1) (by simpa using ew) ⟨rfl,fin⟩) hs
theorem zlP:IxR X znb:=by
 intro value slice pins s σ H x y v u Q I rx ry h hs
 obtain ⟨z,i,c,rfl,rfl,hz,he,q⟩:=h
 obtain ⟨t,rfl⟩:=rx
 obtain ⟨t',rfl⟩:=ry
 obtain ⟨j,h1,h2,h3,h4,h5⟩:=zag he
 have hl:z.cps.toList.length=z.length:=by simp [Str.length]
 rw [hl] at h1 h4 h5
 have hn:=vV
 exact tail_any (typeIs_str s z t) slot_str_getitem.lookup (getItem_str (c:=c) (by
  have e1:decide (i < -(2 ^ 63:Int))=false:=decide_eq_false (by omega)
  have e2:decide (i ≥ 2 ^ 63)=false:=decide_eq_false (by omega)
  rw [e1,e2,Bool.or_false]) (by rw [h1];simpa using h2) ⟨.str ⟨#[c]⟩,H,I.tok _,⟨_,rfl⟩,q⟩) hs
noncomputable def rIx(K:PySem.W.Frag):R2:=fun x y H Q=>znc K x y H Q∨zna K x y H Q∨znb x y H Q
theorem zgV:IxR X (rIx X.K):=ix_list.or (ix_tup.or zlP)
theorem zch(its:List Value)(n j:Nat)(u:Value):Obj.mapSeq (·.setIfInBounds j u) { cls:=.type "list",data:=.seq its.toArray n }={ cls:=.type "list",data:=.seq (its.set j u).toArray n }:=by
 simp [Obj.mapSeq]
theorem Inv.lst{pins:List (Addr × Obj)}{σ:St}{H:Hp}{s:Shared}{p:Addr}{xs:List V}(I:Inv X pins σ H s)(h:H p=some (.lst xs)):
  ∃ (its:List Value) (n:Nat),Vals xs its/\s.heap.get? p=some { cls:=.type "list",data:=.seq its.toArray n }/\xs.length≤sizeLine:=by
 obtain ⟨z,its,n,r,e⟩:=I.hok p _ h
 exact ⟨its,n,r,e,z⟩
theorem Inv.lstUpd{H:Hp}{s:Shared}{xs ys:List V}{its its':List Value}(I:Inv X pins σ H s)(h:H p=some (.lst xs))
  (ho:s.heap.get? p=some { cls:=.type "list",data:=.seq its.toArray n })(hf:f { cls:=.type "list",data:=.seq its.toArray n }={ cls:=.type "list",data:=.seq its'.toArray n' })(r:Vals ys its')(hz:ys.length≤sizeLine)(t:Nat):
  Inv X pins σ (upd H p (.lst ys)) { s with heap:=s.heap.update p f,toks:=t }:=by
 have e:(s.heap.update p f).get? p=some { cls:=.type "list",data:=.seq its'.toArray n' }:=by
  rw [JT f ho (by rw [hf]<;>rfl),hf]
 refine I.write (x:=p) (e:=p) (by rw [h];trivial) (.inl rfl) (fun b u hb q=>(KJ _ _ (Qw hb)).trans q) ⟨_,e⟩ ?_
 exact ⟨hz,its',n',r,e⟩
noncomputable def zjQ:V->V->V->Hp->(Hp->Prop)->Prop:=fun o i v H Q=>∃ p xs k j,o=.ref p/\i=.int k/\H p=some (.lst xs)/\ixN xs.length k=some j/\Q (upd H p (.lst (xs.set j v)))
theorem zfQ:zoh X zjQ:=by
 intro pins s σ H o i v ov iv u Q I ro ri rv h
 obtain ⟨p,xs,k,j,rfl,rfl,hp,hj,q⟩:=h
 cases ro
 obtain ⟨t,rfl⟩:=ri
 obtain ⟨its,n,r,ho,hz⟩:=I.lst hp
 obtain ⟨h1,h2,h3,h4⟩:=zdv hj
 have hl:=r.length
 have hn:=vV
 have I':Inv X pins σ (upd H p (.lst (xs.set j v))) { s with heap:=s.heap.update p (Obj.mapSeq (·.setIfInBounds j u)) }:=
  I.lstUpd hp ho (zch its n j u) (r.set rv j) (by rw [List.length_set];exact hz) s.toks
 by_cases h0:0≤k
 ·have hk:k.toNat=j:=by
   rw [seqIndex_of h0 h4] at h1
   exact Jq h1
  exact PySem.W.ki_setAt ho h0 (by omega) (by rw [Jy,← hl];exact h4) (by rw [hk];exact ⟨_,I',q⟩)
 ·have hk:(k+(its.toArray.size:Int)).toNat=j:=by
   rw [seqIndex_neg (by omega) h3] at h1
   rw [Jy,← hl]
   exact Jq h1
  exact PySem.W.ki_setBack ho (by omega) (by rw [Jy,← hl];exact h3) (by omega) (by rw [hk];exact ⟨_,I',q⟩)
theorem qT(lo hi:Option Int)(n:Nat):(sliceBounds lo hi none n).1=((HT.sIx n 0 lo:Nat):Int)/\(sliceBounds lo hi none n).2.1=((HT.sIx n n hi:Nat):Int)/\(sliceBounds lo hi none n).2.2=1:=by
 refine ⟨?_,?_,rfl⟩
 ·cases lo with
  | none=>simp [sliceBounds,HT.sIx]
  | some i=>
   simp only [sliceBounds,HT.sIx,Option.getD_none,show (1:Int) > 0 by decide,if_true]
   by_cases h:i<0
   ·simp only [h,if_true]<;>omega
   ·simp only [h,if_false]<;>omega
 ·cases hi with
  | none=>simp [sliceBounds,HT.sIx]
  | some i=>
   simp only [sliceBounds,HT.sIx,Option.getD_none,show (1:Int) > 0 by decide,if_true]
   by_cases h:i<0
   ·simp only [h,if_true]<;>omega
   ·simp only [h,if_false]<;>omega
theorem kR(its:List Value)(lo hi:Option Int):slicePick its.toArray lo hi none=((its.drop (HT.sIx its.length 0 lo)).take (HT.sIx its.length its.length hi - HT.sIx its.length 0 lo)).toArray:=by
 obtain ⟨h1,h2,h3⟩:=qT lo hi its.toArray.size
 unfold slicePick
 rw [h1,h2,h3]
 simp only [sliceRange_one,pick_run,List.size_toArray]<;>rfl
noncomputable def zoQ(K:PySem.W.Frag):V->Option Int->Option Int->Hp->VK->Prop:=fun x lo hi H Q=>∃ a xs,x=.ref a/\SqL K H a xs/\∀ p,H p=none->Q (.ref p) (upd H p (.lst (kH xs lo hi)))
theorem sl_list:SlR X (zoQ X.K):=by
 intro pins s σ H x v vl vu lo hi sl Q I rx hs pl pu h
 obtain ⟨a,xs,rfl,hx,q⟩:=h
 cases rx
 obtain ⟨its,r,ht,hz⟩:=I.list hx
 have hlen:=r.length
 refine ⟨"list",_,slot_list_getitem.lookup,ht.isList.typeIs,?_⟩
 refine wpAny_getItem_list_slice ht.isList hs pl pu .none (by simp) ?_ (by rw [List.size_toArray]<;>omega)
 rw [kR,← hlen]
 refine ⟨.ref s.heap.objs.size,_,I.laid (t':=s.toks) (o:=.lst (kH xs lo hi)) (fun b ob q=>Jb _ q) (Jm _) ?_,rfl,q _ (I.hok.fresh (Jm _))⟩
 exact ⟨JV (u5 xs lo hi) hz,_,0,(r.drop (HT.sIx xs.length 0 lo)).take (HT.sIx xs.length xs.length hi - HT.sIx xs.length 0 lo),Jl _ rfl⟩
noncomputable def wI:V->Bool
 | .non=>true
 | .bl _=>true
 | .int _=>true
 | .str _=>true
 | _=>false
noncomputable def eqV:V->V->Bool
 | .non,.non=>true
 | .bl a,.bl b=>a == b
 | .bl a,.int b=>(if a then 1 else 0) == b
 | .int a,.bl b=>a == (if b then 1 else 0)
 | .int a,.int b=>a == b
 | .str a,.str b=>a == b
 | _,_=>false
theorem zmc(ry:RelV y u)(rx:RelV x v)(fy:wI y=true)(fx:wI x=true):SeqAt.EqAt A s u v (eqV y x):=by
 cases y with
 | non=>
  cases ry
  cases x with
  | non=>cases rx;exact SeqAt.EqAt.same _
  | bl b=>cases rx;exact SeqAt.EqAt.none_bool b
  | int b=>obtain ⟨t,rfl⟩:=rx;exact SeqAt.EqAt.none_int b t
  | str b=>obtain ⟨t,rfl⟩:=rx;exact SeqAt.EqAt.none_str b t
  | _=>exact absurd (show false=true from fx) Jj
 | bl a=>
  cases ry
  cases x with
  | non=>cases rx;exact SeqAt.EqAt.bool_none a
  | bl b=>cases rx;exact SeqAt.EqAt.bool_bool a b
  | int b=>obtain ⟨t,rfl⟩:=rx;exact SeqAt.EqAt.bool_int a b t
  | str b=>obtain ⟨t,rfl⟩:=rx;exact SeqAt.EqAt.bool_str a b t
  | _=>exact absurd (show false=true from fx) Jj
 | int a=>
  obtain ⟨t',rfl⟩:=ry
  cases x with
  | non=>cases rx;exact SeqAt.EqAt.int_none a t'
  | bl b=>cases rx;exact SeqAt.EqAt.int_bool a t' b
  | int b=>obtain ⟨t,rfl⟩:=rx;exact SeqAt.EqAt.int_int a t' b t
  | str b=>obtain ⟨t,rfl⟩:=rx;exact SeqAt.EqAt.int_str a t' b t
  | _=>exact absurd (show false=true from fx) Jj
 | str a=>
  obtain ⟨t',rfl⟩:=ry
  cases x with
  | non=>cases rx;exact SeqAt.EqAt.str_none a t'
  | bl b=>cases rx;exact SeqAt.EqAt.str_bool a t' b
  | int b=>obtain ⟨t,rfl⟩:=rx;exact SeqAt.EqAt.str_int a t' b t
  | str b=>obtain ⟨t,rfl⟩:=rx;exact SeqAt.EqAt.str_str a t' b t
  | _=>exact absurd (show false=true from fx) Jj
 | _=>exact absurd (show false=true from fy) Jj
noncomputable def eqU(x:V)(u:Value):Bool:=match u with
 | .none=>eqV .non x
 | .bool b=>eqV (.bl b) x
 | .int i _=>eqV (.int i) x
 | .str z _=>eqV (.str z) x
 | _=>false
theorem zhr(r:RelV y u)(f:wI y=true):eqU x u=eqV y x:=by
 cases y with
 | non=>cases r;rfl
 | bl b=>cases r;rfl
 | int i=>obtain ⟨t,rfl⟩:=r;rfl
 | str z=>obtain ⟨t,rfl⟩:=r;rfl
 | _=>exact absurd (show false=true from f) Jj
theorem uX{x:V}:∀ {xs:List V} {us:List Value},Vals xs us->xs.all wI=true->us.any (eqU x)=xs.any fun y=>eqV y x
 | _,_,.nil,_=>rfl
 | y::xs,u::us,.cons r t,f=>by
  rw [List.all_cons,JG] at f
  rw [Kl,Kl,zhr r f.1,uX t f.2]
theorem wW{A:Around}{s:Shared}{x:V}{v:Value}(rx:RelV x v)(fx:wI x=true):∀ {xs:List V} {us:List Value},Vals xs us->xs.all wI=true->∀ u ∈ us,SeqAt.EqAt A s u v (eqU x u)
 | _,_,.nil,_=>fun u hu=>by cases hu
 | y::xs,u::us,.cons r t,f=>fun u' hu=>by
  rw [List.all_cons,JG] at f
  rcases List.mem_cons.mp hu with rfl | hu
  ·rw [zhr r f.1];exact zmc r rx f.1 fx
  ·exact wW rx fx t f.2 u' hu
noncomputable def inV(x:V)(xs:List V):Bool:=xs.any fun y=>eqV y x
noncomputable def rIn(K:PySem.W.Frag)(neg:Bool):R2:=fun x y H Q=>∃ p xs,y=.ref p/\(SqL K H p xs∨SqT K H p xs)/\wI x=true/\xs.all wI=true/\Q (.bl (if neg then !inV x xs else inV x xs)) H
theorem zev:OpR X (compareOp .In) (rIn X.K false):=by
 intro pins s σ H x y v u Q I rx ry h
 obtain ⟨p,xs,rfl,hq,fx,fs,q⟩:=h
 cases ry
 rcases hq with hq | hq
 ·obtain ⟨its,r,pl,hz⟩:=I.list hq
  refine SeqAt.in_listAt (eqU x) pl.isList (fun w hw=>wW rx fx r fs w (by simpa using hw)) ⟨.bl _,H,I,rfl,?_⟩
  rw [show its.toArray.any (eqU x)=its.any (eqU x) by simp,uX r fs]
  exact q
 ·obtain ⟨its,r,pl,hz⟩:=I.tuple hq
  refine SeqAt.in_tupleAt (eqU x) pl (fun w hw=>wW rx fx r fs w (by simpa using hw)) ⟨.bl _,H,I,rfl,?_⟩
  rw [show its.toArray.any (eqU x)=its.any (eqU x) by simp,uX r fs]
  exact q
theorem qf:OpR X (compareOp .NotIn) (rIn X.K true):=by
 intro pins s σ H x y v u Q I rx ry h
 obtain ⟨p,xs,rfl,hq,fx,fs,q⟩:=h
 cases ry
 rcases hq with hq | hq
 ·obtain ⟨its,r,pl,hz⟩:=I.list hq
  refine SeqAt.notIn_listAt (eqU x) pl.isList (fun w hw=>wW rx fx r fs w (by simpa using hw)) ⟨.bl _,H,I,rfl,?_⟩
  rw [show its.toArray.any (eqU x)=its.any (eqU x) by simp,uX r fs]
  exact q
 ·obtain ⟨its,r,pl,hz⟩:=I.tuple hq
  refine SeqAt.notIn_tupleAt (eqU x) pl (fun w hw=>wW rx fx r fs w (by simpa using hw)) ⟨.bl _,H,I,rfl,?_⟩
  rw [show its.toArray.any (eqU x)=its.any (eqU x) by simp,uX r fs]
  exact q
theorem call_len_seq:CallR X (.builtin "len") (fun xs H Q=>∃ p ys,xs=[.ref p]/\(SqL X.K H p ys∨SqT X.K H p ys)/\Q (.int ys.length) H):=by
 intro pins s σ H xs us Q I r h
 obtain ⟨p,ys,rfl,hq,q⟩:=h
 obtain ⟨u,rfl,rx⟩:=zcO r
 cases rx
 have hn:=vV
 rcases hq with hq | hq
 ·obtain ⟨its,r',pl,hz⟩:=I.list hq
  have hlen:=r'.length
  exact Calls.call_len_list pl.isList (by simp only [List.size_toArray]<;>omega) ⟨.int ys.length,H,I.tok _,⟨s.toks+1,by rw [List.size_toArray,hlen]⟩,q⟩
 ·obtain ⟨its,r',pl,hz⟩:=I.tuple hq
  have hlen:=r'.length
  exact len_tuple pl (by simp only [List.size_toArray]<;>omega) ⟨.int ys.length,H,I.tok _,⟨s.toks+1,by rw [List.size_toArray,hlen]⟩,q⟩
theorem zad:CallR X (.builtin "len") (fun xs H Q=>∃ z,xs=[.str z]/\z.length≤sizeLine/\Q (.int z.length) H):=by
 intro pins s σ H xs us Q I r h
 obtain ⟨z,rfl,hz,q⟩:=h
 obtain ⟨u,rfl,t,rfl⟩:=zcO r
 have hn:=vV
 exact len_str (by omega) ⟨.int z.length,H,I.tok _,⟨_,rfl⟩,q⟩
theorem CallR.or{r r':List V->Hp->VK->Prop}(h:CallR X f r)(h':CallR X f r'):CallR X f (fun xs H Q=>r xs H Q∨r' xs H Q):=by
 intro pins s σ H xs us Q I rs q
 rcases q with q | q
 ·exact h pins s σ H xs us Q I rs q
 ·exact h' pins s σ H xs us Q I rs q
theorem kf:CallR X (.type "tuple") (fun xs H Q=>∃ p ys,xs=[.ref p]/\((SqL X.K H p ys/\∀ l,H l=none->Q (.ref l) (upd H l (.tup ys)))∨(SqT X.K H p ys/\Q (.ref p) H))):=by
 intro pins s σ H xs us Q I r h
 obtain ⟨p,ys,rfl,h⟩:=h
 obtain ⟨u,rfl,rx⟩:=zcO r
 cases rx
 rcases h with ⟨hq,q⟩ | ⟨hq,q⟩
 ·obtain ⟨its,r',pl,hz⟩:=I.list hq
  have hlen:=r'.length
  refine call_tuple_list pl.isList (fun h' kp=>?_) (by simp only [List.size_toArray]<;>omega)
  have I1:Inv X pins σ H { s with heap:=h' }:=I.kept (t':=s.toks) kp
  have I2:Inv X pins σ (upd H h'.objs.size (.tup ys)) { s with heap:=h'.push { cls:=.type "tuple",data:=.seq its.toArray } }:=
   I1.laid (t':=s.toks) (fun b o e=>Jb _ e) (Jm _) (show ObjOk X.prog X.w _ _ _ (.tup ys) from ⟨hz,its,r',IsTup.new _ _⟩)
  exact ⟨.ref h'.objs.size,_,I2,rfl,q _ (I1.hok.fresh (Jm _))⟩
 ·obtain ⟨its,r',pl,hz⟩:=I.tuple hq
  exact call_tuple_same pl ⟨.ref p,H,I,rfl,q⟩
noncomputable def tyV(K:PySem.W.Frag)(T:String)(x:V)(H:Hp):Prop:=match x with
 | .str _=>T="str"
 | .int _=>T="int"
 | .ref p=>(T="list"/\∃ xs,SqL K H p xs)∨(T="tuple"/\∃ o,K.lookup p=some o/\o.cls=.type "tuple"/\o.dict=none)∨
   (T="dict"/\((∃ kvs,H p=some (.dK kvs))∨∃ kvs,H p=some (.dT kvs)))∨(T="set"/\∃ S n,H p=some (.set S n))
 | _=>False
theorem zfD{s:Shared}(I:Inv X pins σ H s)(r:RelV x v)(ty:tyV X.K T x H):
  s.TypeIs v T/\∀ a,v=.ref a->∃ ob,s.heap.get? a=some ob/\ob.dict=none:=by
 cases x with
 | str z=>
  obtain ⟨t,rfl⟩:=r
  cases (show T="str" from ty)
  exact ⟨typeIs_str s z t,fun _ e=>nomatch e⟩
 | int i=>
  obtain ⟨t,rfl⟩:=r
  cases (show T="int" from ty)
  exact ⟨typeIs_int s i t,fun _ e=>nomatch e⟩
 | ref p=>
  cases r
  rcases ty with ⟨rfl,xs,hq⟩ | ⟨rfl,o,hk,hc,hd⟩ | ⟨rfl,hk⟩ | ⟨rfl,S,n,hk⟩
  ·obtain ⟨its,_,pl,_⟩:=I.list hq
   refine ⟨pl.isList.typeIs,fun a e=>?_⟩
   cases e
   obtain ⟨o,n,e,c,hd,_⟩:=pl
   exact ⟨o,e,hd⟩
  ·refine ⟨⟨o,I.kIn p o hk,hc⟩,fun a e=>?_⟩
   cases e
   exact ⟨o,I.kIn _ o hk,hd⟩
  ·have z:∃ o,s.heap.get? p=some o/\o.ExactDict:=by
    rcases hk with ⟨kvs,hk⟩ | ⟨kvs,hk⟩
    ·obtain ⟨_,_,_,_,o,_,_,e,ex,_⟩:=I.hok p _ hk
     exact ⟨o,e,ex⟩
    ·obtain ⟨_,_,_,_,o,_,_,e,ex,_⟩:=I.hok p _ hk
     exact ⟨o,e,ex⟩
   obtain ⟨o,e,ex⟩:=z
   refine ⟨⟨o,e,ex.1⟩,fun a e2=>?_⟩
   cases e2
   exact ⟨o,e,ex.2.1⟩
  ·obtain ⟨o,_,_,_,e,ex,_⟩:=I.hok p _ hk
   refine ⟨⟨o,e,ex.1⟩,fun a e2=>?_⟩
   cases e2
   exact ⟨o,e,ex.2.1⟩
 | _=>exact False.elim ty
noncomputable def zmQ(K:PySem.W.Frag)(T:String)(r:V->List V->Hp->VK->Prop)(to:TE):TE:=fun σ H Q=>to σ H fun x H1=>tyV K T x H1/\r x [] H1 Q
noncomputable def tBM(K:PySem.W.Frag)(T:String)(r:V->List V->Hp->VK->Prop)(to:TE)(t:TA):TE:=fun σ H Q=>to σ H fun x H1=>tyV K T x H1/\t σ H1 fun xs H2=>r x xs H2 Q
variable {o e:Expr} {es:List Expr} {to:TE} {t:TA} {name:Str} {apos cpos:Pos} {T id:String} {r:V->List V->Hp->VK->Prop}
theorem zlp(pa:PlainAttrs T)(slot:Slot T name id)(hty:typeOf (.builtin id)=pure (.type "method_descriptor"))(hm:MtR X id r)(ho:PE X o to)
  (hbase:attributeBase o name X.env (eval o X.env)=eval o X.env:=by rfl)(hline:(apos.endLine == cpos.line)=true:=by rfl):PE X (.Call (.Attribute o name apos) [] [] cpos) (zmQ X.K T r to):=by
 intro pins s σ H Q I h
 refine wpAny_Call_method0_late hbase hline (thn (ho pins s σ H _ I h) fun v s1 hq_=>?_)
 obtain ⟨x,H1,I1,r1,ty,q1⟩:=hq_
 obtain ⟨h1,h2⟩:=zfD I1 r1 ty
 exact ⟨T,id,pa,slot,hty,h1,h2,Calls.callWith_builtin rfl (PySem.evalArgs_none (hm pins s1 σ H1 x [] v [] Q I1 r1 .nil q1))⟩
theorem zgu(pa:PlainAttrs T)(slot:Slot T name id)(hty:typeOf (.builtin id)=pure (.type "method_descriptor"))(hm:MtR X id r)(ho:PE X o to)(ha:PA X (e::es) t)
  (hbase:attributeBase o name X.env (eval o X.env)=eval o X.env:=by rfl)
  (hfew:((backTo cpos (starEach (e::es) X.env)).all (fun x=>!x.1) && (backToKw cpos (keywordEach [] X.env)).all (fun x=>x.1.isSome)
   && decide ((e::es).length+([]:List Keyword).length+(if ([]:List Keyword).isEmpty then 0 else 1)<30))=true:=by rfl)
  (hline:(apos.endLine == cpos.line)=true:=by rfl)(hs:starEach (e::es) X.env=(false,eval e X.env)::starEach es X.env:=by rfl)(hplain:(backTo cpos (starEach es X.env)).any (·.1)=false:=by rfl):
  PE X (.Call (.Attribute o name apos) (e::es) [] cpos) (tBM X.K T r to t):=by
 intro pins s σ H Q I h
 refine wpAny_Call_method_late hbase hfew hline rfl (thn (ho pins s σ H _ I h) fun v s1 hq_=>?_)
 obtain ⟨x,H1,I1,r1,ty,q1⟩:=hq_
 obtain ⟨h1,h2⟩:=zfD I1 r1 ty
 refine ⟨T,id,pa,slot,hty,h1,h2,?_⟩
 have hA:=ha cpos pins s1 σ H1 _ I1 q1
 rw [hs] at hA ⊢
 refine Calls.callWith_builtin (by show (false || (backTo cpos (starEach es X.env)).any (·.1))=false;rw [hplain]<;>rfl) (Calls.evalArgs_plain ?_)
 exact thn hA fun us s2 ⟨vs,H2,I2,r2,q2⟩=>hm pins s2 σ H2 x vs v us Q I2 r1 r2 q2
end
noncomputable def MtM(X:Cx)(id:String)(r:V->List V->Hp->VK->Prop):Prop:=
 ∀ (pins:List (Addr × Obj)) (s:Shared) (σ:St) (H:Hp) (x:V) (xs:List V) (v:Value) (us:List Value) (Q:VK),Inv X pins σ H s->RelV x v->Vals xs us->r x xs H Q->
  wpAny (model X.prog X.w) X.A (call (.builtin id) (v::us)) (EP X pins σ Q) X.xe s
theorem Vals.one{x:V}{us:List Value}(h:Vals [x] us):∃ u,us=[u]/\RelV x u:=by
 cases h with | cons r t=>cases t;exact ⟨_,rfl,r⟩
theorem Vals.zero:∀ {us:List Value},Vals [] us->us=[]
 | _,.nil=>rfl
theorem Vals.dropLast{xs:List V}{us:List Value}(h:Vals xs us):Vals xs.dropLast us.dropLast:=by
 induction h with
 | nil=>exact .nil
 | cons r t ih=>
  cases t with
  | nil=>exact .nil
  | cons q t'=>exact .cons r ih
theorem Vals.rep{xs:List V}{us:List Value}(h:Vals xs us):∀ k:Nat,Vals (List.replicate k xs).flatten (List.replicate k us).flatten
 | 0=>.nil
 | k+1=>by
  rw [Kd,Kd,Kw,Kw]
  exact Vals.append h (Vals.rep h k)
theorem zct{α:Type}(l:List α):l.eraseIdx (l.length - 1)=l.dropLast:=List.eraseIdx_length_sub_one
theorem qD(its:List Value):∀ (k:Nat) (acc:List Value),
  List.foldl (fun x1 x2=>x1++x2) acc.toArray (List.replicate k its.toArray)=(acc++(List.replicate k its).flatten).toArray
 | 0,acc=>by simp
 | k+1,acc=>by
  have e:acc.toArray++its.toArray=(acc++its).toArray:=by simp
  have e2:(acc++its)++(List.replicate k its).flatten=acc++(List.replicate (k+1) its).flatten:=by
   rw [Kd,Kw,JC]
  rw [← e2,← qD its k (acc++its),← e,Kd,QJ]
section
variable {X:Cx} {pins:List (Addr × Obj)} {σ:St} {H:Hp} {s:Shared} {l b:Addr} {xs ys zs:List V}
theorem Inv.lset{its its':List Value}{f:Array Value->Array Value}(I:Inv X pins σ H s)(hH:H l=some (.lst xs))
  (e:s.heap.get? l=some { cls:=.type "list",data:=.seq its.toArray n })(hf:f its.toArray=its'.toArray)(hv:Vals ys its')(hz:ys.length≤sizeLine):
  Inv X pins σ (upd H l (.lst ys)) { s with heap:=s.heap.update l (Obj.mapSeq f),toks:=t' }:=by
 have q:=PySem.IsL.update e f
 rw [hf] at q
 refine I.write (x:=l) (e:=l) (by rw [hH];exact trivial) (.inl rfl) (fun b' u hb hu=>(KJ s.heap (Obj.mapSeq f) (Qw hb)).trans hu) ⟨_,q⟩ ?_
 exact ⟨hz,its',_,hv,q⟩
theorem Inv.lnew{its:List Value}(I:Inv X pins σ H s)(hv:Vals ys its)(hz:ys.length≤sizeLine):
  Inv X pins σ (upd H s.heap.objs.size (.lst ys)) { s with heap:=s.heap.push { cls:=.type "list",data:=.seq its.toArray },toks:=t' }:=
 I.laid (fun _ _ q=>Jb _ q) (Jm _) ⟨hz,its,0,hv,Jl _ rfl⟩
theorem Inv.fresh(I:Inv X pins σ H s):H s.heap.objs.size=none:=I.hok.fresh (Jm _)
theorem Inv.lstM(I:Inv X pins σ H s)(hH:H l=some (.lst xs)):xs.length≤sizeLine/\∃ (its:List Value) (n:Nat),Vals xs its/\xs.length=its.length/\s.heap.get? l=some { cls:=.type "list",data:=.seq its.toArray n }:=by
 obtain ⟨z,its,n,r,e⟩:=I.hok l _ hH
 exact ⟨z,its,n,r,r.length,e⟩
theorem ji(h:n≤sizeLine):Builtin.List.listTooLong n=false:=by
 unfold Builtin.List.listTooLong
 exact decide_eq_false (by omega)
end
section
variable {X:Cx}
noncomputable def qb:V->List V->Hp->VK->Prop:=fun x vs H Q=>∃ l xs y,x=.ref l/\vs=[y]/\H l=some (.lst xs)/\xs.length<sizeLine/\Q .non (upd H l (.lst (xs++[y])))
theorem uc:MtM X "list.append" qb:=by
 intro pins s σ H x vs v us Q I rx rv h
 obtain ⟨l,xs,y,rfl,rfl,hH,hz,q⟩:=h
 cases rx
 obtain ⟨u,rfl,ru⟩:=rv.one
 obtain ⟨z,its,n,r,hl,e⟩:=I.lstM hH
 refine call_meets F.slot_list_append ⟨_,e,rfl⟩ F.entry_list_append (F.args_list_append_2 _ _) (PySem.list_append l its.toArray n u (by rw [Jy];omega)) ⟨e,?_⟩
 refine ⟨.non,_,I.lset (its':=its++[u]) hH e (by simp) (r.append (.cons ru .nil)) ?_,rfl,q⟩
 rw [Jk,Km]
 omega
noncomputable def qa:V->List V->Hp->VK->Prop:=fun x vs H Q=>∃ l b xs zs,x=.ref l/\vs=[.ref b]/\H l=some (.lst xs)/\H b=some (.lst zs)/\xs.length+zs.length≤sizeLine/\Q .non (upd H l (.lst (xs++zs)))
theorem mt_extend:MtM X "list.extend" qa:=by
 intro pins s σ H x vs v us Q I rx rv h
 obtain ⟨l,b,xs,zs,rfl,rfl,hH,hB,hz,q⟩:=h
 cases rx
 obtain ⟨u,rfl,ru⟩:=rv.one
 cases ru
 obtain ⟨z,its,n,r,hl,e⟩:=I.lstM hH
 obtain ⟨z2,its2,n2,r2,hl2,e2⟩:=I.lstM hB
 have hsz:its.toArray.size+its2.toArray.size≤sizeLine:=by rw [Jy,Jy];omega
 have hlong:¬ (!its.toArray.isEmpty && Builtin.List.listTooLong (its.toArray.size+its2.toArray.size))=true:=by
  rw [ji hsz,Bool.and_false]
  exact Jj
 refine call_meets F.slot_list_extend ⟨_,e,rfl⟩ F.entry_list_extend (F.args_list_extend_2 _ _)
  (AutoSeq1.list_extend_list_list_0 l its.toArray n b its2.toArray n2 hlong (by rw [Jy];omega) (by omega)) ⟨e,e2,?_⟩
 refine ⟨.non,_,I.lset (its':=its++its2) hH e (by simp) (r.append r2) ?_,rfl,q⟩
 rw [Jk]
 omega
noncomputable def zmZ:V->List V->Hp->VK->Prop:=fun x vs H Q=>∃ l xs y,x=.ref l/\vs=[]/\H l=some (.lst xs)/\xs[xs.length - 1]?=some y/\Q y (upd H l (.lst xs.dropLast))
theorem zlH:MtM X "list.pop" zmZ:=by
 intro pins s σ H x vs v us Q I rx rv h
 obtain ⟨l,xs,y,rfl,rfl,hH,hy,q⟩:=h
 cases rx
 have hus:=rv.zero
 subst hus
 obtain ⟨z,its,n,r,hl,e⟩:=I.lstM hH
 obtain ⟨u,hu,ru⟩:=r.get hy
 have hy':its.toArray[its.toArray.size - 1]?=some u:=by
  show its.toArray[its.length - 1]?=some u
  rw [← Js,← hl]
  exact hu
 refine call_meets F.slot_list_pop ⟨_,e,rfl⟩ F.entry_list_pop (F.args_list_pop_1 _) (MeetsSeq.list_pop_last l its.toArray n u hy' (by rw [Jy];omega)) ⟨e,?_⟩
 refine ⟨y,_,I.lset (its':=its.dropLast) hH e ?_ r.dropLast ?_,ru,q⟩
 ·show its.toArray.eraseIdxIfInBounds (its.toArray.size - 1)=its.dropLast.toArray
  rw [Jy,List.eraseIdxIfInBounds_toArray,zct]
 ·rw [List.length_dropLast]
  omega
noncomputable def zkS:R2:=fun x y H Q=>∃ l b xs zs,x=.ref l/\y=.ref b/\H l=some (.lst xs)/\H b=some (.lst zs)/\xs.length+zs.length≤sizeLine/\∀ p,H p=none->Q (.ref p) (upd H p (.lst (xs++zs)))
theorem op_cat:OpR X (binaryOp .Add) zkS:=by
 intro pins s σ H x y v u Q I rx ry h
 obtain ⟨l,b,xs,zs,rfl,rfl,hH,hB,hz,q⟩:=h
 cases rx
 cases ry
 obtain ⟨z,its,n,r,hl,e⟩:=I.lstM hH
 obtain ⟨z2,its2,n2,r2,hl2,e2⟩:=I.lstM hB
 refine PySem.P.add_list e e2 ?_ (by rw [Jy,Jy];omega)
 have ea:its.toArray++its2.toArray=(its++its2).toArray:=by simp
 rw [ea]
 exact ⟨.ref _,_,I.lnew (t':=s.toks) (r.append r2) (by rw [Jk];omega),rfl,q _ I.fresh⟩
noncomputable def zkQ:R2:=fun x y H Q=>∃ l k xs,x=.ref l/\y=.int k/\H l=some (.lst xs)/\-(2 ^ 63)≤k/\k<2 ^ 63/\xs.length * k.toNat≤sizeLine/\
 ∀ p,H p=none->Q (.ref p) (upd H p (.lst (List.replicate k.toNat xs).flatten))
theorem zjl{α:Type}(xs:List α)(k:Nat):(List.replicate k xs).flatten.length=k * xs.length:=by
 induction k with
 | zero=>simp
 | succ k ih=>rw [Kd,Kw,Jk,ih,Nat.succ_mul,Nat.add_comm]
theorem zlz:OpR X (binaryOp .Mult) zkQ:=by
 intro pins s σ H x y v u Q I rx ry h
 obtain ⟨l,k,xs,rfl,rfl,hH,h1,h2,hz,q⟩:=h
 cases rx
 obtain ⟨t,rfl⟩:=ry
 obtain ⟨z,its,n,r,hl,e⟩:=I.lstM hH
 have hlen:its.toArray.size * k.toNat≤sizeLine:=by rw [Jy,← hl];exact hz
 have hcap:¬ its.toArray.size * k.toNat > (2 ^ 63 - 1) / 8:=by
  have:(sizeLine:Nat)≤(2 ^ 63 - 1) / 8:=by decide
  omega
 have hfit:¬ (!Builtin.List.listFitsIndex k)=true:=by
  rw [fitsIndex_both h1 h2]
  exact Jj
 have hlong:¬ Builtin.List.listTooLong (its.toArray.size * k.toNat)=true:=by
  rw [ji hlen]
  exact Jj
 have hnew:List.foldl (fun x1 x2=>x1++x2) #[] (List.replicate (if its.toArray.isEmpty=true then 0 else k.toNat) its.toArray)=(List.replicate k.toNat its).flatten.toArray:=by
  have f0:∀ m:Nat,List.foldl (fun x1 x2=>x1++x2) #[] (List.replicate m its.toArray)=(List.replicate m its).flatten.toArray:=fun m=>by
   have:=qD its m []
   rw [List.nil_append] at this
   exact this
  rw [f0]
  cases its with
  | nil=>simp
  | cons a r'=>rw [if_neg (by simp)]
 refine wpAny_binaryOp_repeat_ref (T:="list") (U:="int") (by decide) ⟨_,e,rfl⟩ (fun s'=>typeIs_int s' k t) noFill_list_mul F.fills_int_mul F.slot_int_rmul repeat_list F.slot_int_index.lookup
  (call_meets F.slot_int_rmul (typeIs_int s k t) F.entry_int_rmul (F.args_int_rmul_2 _ _) (int___rmul___int_list k t l its.toArray n)
   ⟨e,rfl,⟨_,e,rfl⟩,call_meets F.slot_list_mul ⟨_,e,rfl⟩ F.entry_list_mul (F.args_list_mul_2 _ _) (AutoListH.list___mul___list_int_3 l its.toArray n k t hfit hcap hlong) ⟨e,?_⟩⟩)
 rw [hnew]
 exact ⟨.ref _,_,I.lnew (t':=s.toks) (r.rep k.toNat) (by rw [zjl,Nat.mul_comm];exact hz),rfl,q _ I.fresh⟩
end
section
variable {κ:Type} [DecidableEq κ]
noncomputable def xT(kvs:List (κ × V))(k:κ):Option V:=(kvs.find? fun kv=>decide (kv.1=k)).map (·.2)
noncomputable def vD(kvs:List (κ × V))(k:κ)(v:V):List (κ × V):=
 if (kvs.any fun kv=>decide (kv.1=k))=true then kvs.map (fun kv=>if kv.1=k then (kv.1,v) else kv) else kvs++[(k,v)]
noncomputable def zpA(kvs:List (κ × V))(k:κ):List (κ × V):=kvs.filter fun kv=>decide (kv.1≠k)
theorem xh{p:κ × V}(e:p.1=k):xT (p::r) k=some p.2:=by simp [xT,List.find?_cons,e]
theorem vj{p:κ × V}(e:¬ p.1=k):xT (p::r) k=xT r k:=by simp [xT,List.find?_cons,e]
theorem wM(k:κ):∀ kvs:List (κ × V),(kvs.any fun kv=>decide (kv.1=k))=(xT kvs k).isSome
 | []=>rfl
 | p::r=>by
  rw [Kl]
  by_cases e:p.1=k
  ·simp only [xh e,decide_eq_true e,Bool.true_or,Option.isSome_some]
  ·rw [vj e,decide_eq_false e,Bool.false_or];exact wM k r
theorem ux(kvs:List (κ × V))(k:κ)(v:V):(vD kvs k v).length≤kvs.length+1:=by
 unfold vD
 split
 ·rw [Jt];omega
 ·rw [Jk,JH,List.length_nil];omega
theorem RelO.isSome_eq{o:Option V}{u:Option Value}(r:RelO o u):o.isSome=u.isSome:=by
 cases o with
 | none=>cases u with
  | none=>rfl
  | some _=>exact (show False from r).elim
 | some _=>cases u with
  | none=>exact (show False from r).elim
  | some _=>rfl
theorem RelO.getD{o:Option V}{u:Option Value}(r:RelO o u)(rd:RelV d d'):RelV (o.getD d) (u.getD d'):=by
 cases o with
 | none=>cases u with
  | none=>exact rd
  | some _=>exact (show False from r).elim
 | some _=>cases u with
  | none=>exact (show False from r).elim
  | some _=>exact r
theorem KV.val(r:KV kvs vs)(k:κ):RelO (xT kvs k) (valueAt vs k):=by
 unfold KV at r
 induction r with
 | nil=>exact True.intro
 | @cons p q ps qs h t ih=>
  obtain ⟨h1,h2⟩:=h
  by_cases e:p.1=k
  ·have e':q.1=k:=h1.symm.trans e
   have b:valueAt (q::qs) k=some q.2:=by simp [valueAt,List.find?_cons,e']
   rw [xh e,b];exact h2
  ·have e':¬ q.1=k:=fun z=>e (h1.trans z)
   have b:valueAt (q::qs) k=valueAt qs k:=by simp [valueAt,List.find?_cons,e']
   rw [vj e,b];exact ih
theorem KV.any{kvs:List (κ × V)}{vs:List (κ × Value)}(r:KV kvs vs)(k:κ):(kvs.any fun kv=>decide (kv.1=k))=vs.any fun kv=>decide (kv.1=k):=by
 unfold KV at r
 induction r with
 | nil=>rfl
 | cons h t ih=>rw [Kl,Kl,ih,h.1]
theorem KV.repl{kvs:List (κ × V)}{vs:List (κ × Value)}(r:KV kvs vs)(k:κ)(ry:RelV y u):
  KV (kvs.map fun kv=>if kv.1=k then (kv.1,y) else kv) (vs.map fun kv=>if kv.1=k then (kv.1,u) else kv):=by
 unfold KV at r ⊢
 induction r with
 | nil=>exact .nil
 | @cons p q ps qs h t ih=>
  rw [Jo,Jo]
  refine .cons ?_ ih
  obtain ⟨h1,h2⟩:=h
  by_cases e:p.1=k
  ·rw [if_pos e,if_pos (h1.symm.trans e)];exact ⟨h1,ry⟩
  ·rw [if_neg e,if_neg (fun z=>e (h1.trans z))];exact ⟨h1,h2⟩
theorem KV.put(r:KV kvs vs)(k:κ)(ry:RelV y u):KV (vD kvs k y) (stored vs k u):=by
 unfold vD stored
 rw [r.any k]
 by_cases e:(vs.any fun kv=>decide (kv.1=k))=true
 ·rw [if_pos e,if_pos e];exact r.repl k ry
 ·rw [if_neg e,if_neg e];exact Paired.snoc r ⟨rfl,ry⟩
theorem KV.length{kvs:List (κ × V)}{vs:List (κ × Value)}(r:KV kvs vs):kvs.length=vs.length:=Paired.length r
end
theorem qC(r:RelV (kV k) u):(zC P w).is k u=true:=by
 cases k with
 | inl i=>obtain ⟨t,e⟩:=(show ∃ t,u=Value.int i t from r);subst e;exact zbb P w i t
 | inr x=>obtain ⟨t,e⟩:=(show ∃ t,u=Value.str x t from r);subst e;exact zba P w x t
theorem ue{P:Program}{w:World}:∀ {ks:List Key} {us:List Value},Vals (ks.map kV) us->ItemsAre (zC P w) ks us
 | [],_,r=>by rw [List.map_nil] at r;cases r;exact .nil
 | k::ks,_,r=>by
  rw [Jo] at r
  cases r with
  | cons h t=>exact .cons (qC h) (ue t)
noncomputable abbrev KT(H:Hp):List (List Key × V)->List (List Key × Addr × Value)->Prop:=Paired fun p q=>p.1=q.1/\H q.2.1=some (.tup (p.1.map kV))/\RelV p.2 q.2.2
theorem KT.val(r:KT H kvs xs)(k:List Key):RelO (xT kvs k) ((atKey xs k).map (·.2)):=by
 induction r with
 | nil=>exact True.intro
 | @cons p q ps qs h t ih=>
  obtain ⟨h1,_,h2⟩:=h
  by_cases e:p.1=k
  ·have e':q.1=k:=h1.symm.trans e
   have b:atKey (q::qs) k=some q.2:=by simp [atKey,List.find?_cons,e']
   rw [xh e,b];exact h2
  ·have e':¬ q.1=k:=fun z=>e (h1.trans z)
   have b:atKey (q::qs) k=atKey qs k:=by simp [atKey,List.find?_cons,e']
   rw [vj e,b];exact ih
theorem KT.repl{kvs:List (List Key × V)}{xs:List (List Key × Addr × Value)}(r:KT H kvs xs)(k:List Key)(ry:RelV y u):
  KT H (kvs.map fun kv=>if kv.1=k then (kv.1,y) else kv) (xs.map (putAt k u)):=by
 induction r with
 | nil=>exact .nil
 | @cons p q ps qs h t ih=>
  rw [Jo,Jo]
  refine .cons ?_ ih
  obtain ⟨h1,h2,h3⟩:=h
  unfold putAt
  by_cases e:p.1=k
  ·rw [if_pos e,if_pos (h1.symm.trans e)];exact ⟨h1,h2,ry⟩
  ·rw [if_neg e,if_neg (fun z=>e (h1.trans z))];exact ⟨h1,h2,h3⟩
theorem KT.put{H:Hp}(r:KT H kvs xs)(k:List Key)(hb:H b=some (.tup (k.map kV)))(ry:RelV y u):
  KT H (vD kvs k y) (storedH xs k b u):=by
 have e:(kvs.any fun kv=>decide (kv.1=k))=(atKey xs k).isSome:=by
  rw [wM,(r.val k).isSome_eq,Option.isSome_map]
 unfold vD storedH
 rw [e]
 by_cases q:(atKey xs k).isSome=true
 ·rw [if_pos q,if_pos q];exact r.repl k ry
 ·rw [if_neg q,if_neg q];exact Paired.snoc r ⟨rfl,hb,ry⟩
theorem KT.keeps{H H':Hp}(r:KT H kvs xs)(ht:∀ b ys,H b=some (.tup ys)->H' b=some (.tup ys)):KT H' kvs xs:=
 Paired.mapP r fun _ _ z=>⟨z.1,ht _ _ z.2.1,z.2.2⟩
section
variable {P:Program} {w:World} {H:Hp} {h:Heap} {a:Addr}
theorem zjP(ok:HOk P w H h)(e:Rd H a u):ObjOk P w H h a u:=e.ok ok
theorem u0{kvs:List (Key × V)}(ok:HOk P w H h)(e:Rd H a (.dK kvs)):kvs.length≤sizeLine/\(a == sysModules)=false/\∃ vs,KV kvs vs/\h.DictOf (zC P w) a vs:=
 show ObjOk P w H h a (.dK kvs) from zjP ok e
theorem zhu{kvs:List (Key × V)}(ok:HOk P w H h)(e:H a=some (.dK kvs)):kvs.length≤sizeLine/\(a == sysModules)=false/\∃ vs,KV kvs vs/\h.DictOf (zC P w) a vs:=u0 ok (.inl e)
theorem ud{ks:List Key}(ok:HOk P w H h)(e:H a=some (.tup (ks.map kV))):(tupleKind (zC P w)).is h ks a:=by
 obtain ⟨_,its,r,o,h1,h2,n,h3⟩:=(show ObjOk P w H h a (.tup (ks.map kV)) from ok a _ e)
 exact ⟨o,its.toArray,n,h1,h2,h3,by simpa using ue r⟩
theorem kD{kvs:List (List Key × V)}(ok:HOk P w H h)(e:Rd H a (.dT kvs)):kvs.length≤sizeLine/\(a == sysModules)=false/\
  ∃ xs,KT H kvs xs/\h.DictOfH (tupleKind (zC P w)) a xs:=by
 obtain ⟨z,y,xs,r,o,es,ep,h1,h2,h3,h4,h5⟩:=(show ObjOk P w H h a (.dT kvs) from zjP ok e)
 refine ⟨z,y,xs,r,o,es,ep,h1,h2,h3,h4,fun x hx=>?_,h5⟩
 have all:∀ {l:List (List Key × V)} {m:List (List Key × Addr × Value)},KT H l m->∀ x ∈ m,(tupleKind (zC P w)).is h x.1 x.2.1:=by
  intro l m q
  induction q with
  | nil=>intro x hx;exact nomatch hx
  | @cons p q ps qs hq t ih=>
   intro x hx
   rcases List.mem_cons.mp hx with e | hx
   ·subst e
    exact ud ok (by rw [← hq.1];exact hq.2.1)
   ·exact ih x hx
 exact all r x hx
theorem znW{kvs:List (List Key × V)}(ok:HOk P w H h)(e:H a=some (.dT kvs)):kvs.length≤sizeLine/\(a == sysModules)=false/\
  ∃ xs,KT H kvs xs/\h.DictOfH (tupleKind (zC P w)) a xs:=kD ok (.inl e)
end
noncomputable def DGet(H:Hp)(a:Addr)(y:V)(r:Option V):Prop:=
 (∃ kvs k,Rd H a (.dK kvs)/\y=kV k/\r=xT kvs k)∨∃ kvs k b,Rd H a (.dT kvs)/\y=.ref b/\H b=some (.tup (k.map kV))/\r=xT kvs k
noncomputable def DPut(H:Hp)(a:Addr)(y v:V)(H':Hp):Prop:=
 (∃ kvs k,H a=some (.dK kvs)/\y=kV k/\kvs.length<sizeLine/\H'=upd H a (.dK (vD kvs k v)))∨
 ∃ kvs k b,H a=some (.dT kvs)/\y=.ref b/\H b=some (.tup (k.map kV))/\kvs.length<sizeLine/\H'=upd H a (.dT (vD kvs k v))
theorem DGet.k{H:Hp}{a:Addr}{kvs:List (Key × V)}{k:Key}(e:H a=some (.dK kvs)):DGet H a (kV k) (xT kvs k):=.inl ⟨kvs,k,.inl e,rfl,rfl⟩
theorem DGet.t{H:Hp}{k:List Key}(e:H a=some (.dT kvs))(eb:H b=some (.tup (k.map kV))):DGet H a (.ref b) (xT kvs k):=.inr ⟨kvs,k,b,.inl e,rfl,eb,rfl⟩
theorem DPut.k{H:Hp}{a:Addr}{kvs:List (Key × V)}{k:Key}{v:V}(e:H a=some (.dK kvs))(hl:kvs.length<sizeLine):DPut H a (kV k) v (upd H a (.dK (vD kvs k v))):=.inl ⟨kvs,k,e,rfl,hl,rfl⟩
theorem DPut.t{H:Hp}{kvs:List (List Key × V)}{k:List Key}(e:H a=some (.dT kvs))(eb:H b=some (.tup (k.map kV)))(hl:kvs.length<sizeLine):
  DPut H a (.ref b) v (upd H a (.dT (vD kvs k v))):=.inr ⟨kvs,k,b,e,rfl,eb,hl,rfl⟩
section
variable {X:Cx} {pins:List (Addr × Obj)} {σ:St} {H:Hp} {s:Shared} {a:Addr} {y v:V} {u r:Value} {o:Option V} {A:Around} {E:Value->Shared->Prop}
theorem Inv.big(I:Inv X pins σ H s):sysModules<s.heap.objs.size:=by
 have h:mainGlobals<s.heap.objs.size:=(I.mod.glob.keeps I.bk).lt
 exact Nat.lt_trans (by decide) h
theorem zeR{Q:Value->Shared->Prop}(hu:A.units+1<cLine)(I:Inv X pins σ H s)(g:DGet H a y (some v))(ry:RelV y u)(h:∀ w' s',Inv X pins σ H s'->RelV v w'->Q w' s'):
  wpAny (model X.prog X.w) A (getItem (.ref a) u) Q E s:=by
 rcases g with ⟨kvs,k,e,ey,l⟩ | ⟨kvs,k,b,e,ey,eb,l⟩
 ·subst ey
  obtain ⟨z,hd,vs,rel,dd⟩:=u0 I.hok e
  obtain ⟨w',hw,rw'⟩:=RelO.some_of (v:=v) (o:=valueAt vs k) (by rw [l];exact rel.val k)
  exact wpAny_getItem_of (qC ry) dd.mapOf hw (h w' _ (I.tok _) rw')
 ·subst ey
  cases (show u=Value.ref b from ry)
  obtain ⟨z,hd,xs,rel,dd⟩:=kD I.hok e
  obtain ⟨w',hw,rw'⟩:=RelO.some_of (v:=v) (o:=(atKey xs k).map (·.2)) (by rw [l];exact rel.val k)
  obtain ⟨p,hp,hp2⟩:=JA.mp hw
  refine wpAny_getItem_heap (tupleKind_room_in1 hu) (ud I.hok eb) dd hp ?_
  rw [hp2]
  exact h w' _ (I.tok _) rw'
theorem zph{Q:Value->Shared->Prop}(hu:A.units+1<cLine)(I:Inv X pins σ H s)(g:DGet H a y o)(ry:RelV y u)(h:∀ s',Inv X pins σ H s'->Q (.bool o.isSome) s'):
  wpAny (model X.prog X.w) A (compareOp .In u (.ref a)) Q E s:=by
 rcases g with ⟨kvs,k,e,ey,l⟩ | ⟨kvs,k,b,e,ey,eb,l⟩
 ·subst ey
  obtain ⟨z,hd,vs,rel,dd⟩:=u0 I.hok e
  refine wpAny_in_of (qC ry) hd dd.mapOf ?_
  rw [← (rel.val k).isSome_eq,← l]
  exact h _ (I.tok _)
 ·subst ey
  cases (show u=Value.ref b from ry)
  obtain ⟨z,hd,xs,rel,dd⟩:=kD I.hok e
  refine wpAny_in_heap (tupleKind_room_in1 hu) (ud I.hok eb) hd dd ?_
  have q:=(rel.val k).isSome_eq
  rw [Option.isSome_map] at q
  rw [← q,← l]
  exact h _ (I.tok _)
theorem zjE{Q:Value->Shared->Prop}(hu:A.units+1<cLine)(I:Inv X pins σ H s)(g:DGet H a y o)(ry:RelV y u)(h:∀ s',Inv X pins σ H s'->Q (.bool (!o.isSome)) s'):
  wpAny (model X.prog X.w) A (compareOp .NotIn u (.ref a)) Q E s:=by
 rcases g with ⟨kvs,k,e,ey,l⟩ | ⟨kvs,k,b,e,ey,eb,l⟩
 ·subst ey
  obtain ⟨z,hd,vs,rel,dd⟩:=u0 I.hok e
  refine wpAny_notIn_of (qC ry) hd dd.mapOf ?_
  rw [← (rel.val k).isSome_eq,← l]
  exact h _ (I.tok _)
 ·subst ey
  cases (show u=Value.ref b from ry)
  obtain ⟨z,hd,xs,rel,dd⟩:=kD I.hok e
  refine wpAny_notIn_heap (tupleKind_room_in1 hu) (ud I.hok eb) hd dd ?_
  have q:=(rel.val k).isSome_eq
  rw [Option.isSome_map] at q
  rw [← q,← l]
  exact h _ (I.tok _)
theorem zdG{h':Heap}(I:Inv X pins σ H s)(mu:Mut (H a))(hs:Heap.SameBut a s.heap h')(he:∃ q,h'.get? a=some q)(new:ObjOk X.prog X.w (upd H a ob) h' a ob):
  Inv X pins σ (upd H a ob) { s with heap:=h',toks:=t' }:=
 I.write (x:=a) (e:=a) mu (.inl rfl) (fun b q hb z=>(hs.2 b hb).trans z) he new
theorem zmf{h':Heap}{kvs:List (Key × V)}(z:kvs.length≤sizeLine)(hd:(a == sysModules)=false)(rel:KV kvs vs)(dd:h'.DictOf (zC P w) a vs):
  ObjOk P w H' h' a (.dK kvs):=⟨z,hd,vs,rel,dd⟩
theorem zeQ{Q:Unit->Shared->Prop}(hu:A.units+1<cLine)(I:Inv X pins σ H s)(g:DPut H a y v H')(ry:RelV y u)(rv:RelV v r)(h:∀ s',Inv X pins σ H' s'->Q () s'):
  wpAny (model X.prog X.w) A (setItem (.ref a) u r) Q E s:=by
 rcases g with ⟨kvs,k,e,ey,l,eH⟩ | ⟨kvs,k,b,e,ey,eb,l,eH⟩
 ·subst ey eH
  obtain ⟨z,hd,vs,rel,dd⟩:=zhu I.hok e
  have hz:vs.length≤sizeLine:=by rw [← rel.length];exact z
  have hl:(vD kvs k v).length≤sizeLine:=by have:=ux kvs k v;omega
  refine wpAny_setItem_pairs (hsz:=hz) (qC ry) dd fun h' dd' hs=>h _ ?_
  have he:∃ q,h'.get? a=some q:=let ⟨q,_,_,hq,_⟩:=dd';⟨q,hq⟩
  exact zdG I (by rw [e];exact True.intro) hs he (zmf hl hd (rel.put k rv) dd')
 ·subst ey eH
  cases (show u=Value.ref b from ry)
  obtain ⟨z,hd,xs,rel,dd⟩:=znW I.hok e
  have hz:xs.length≤sizeLine:=by rw [← Paired.length rel];exact z
  have hl:(vD kvs k v).length≤sizeLine:=by have:=ux kvs k v;omega
  refine wpAny_setItem_heap (hsz:=hz) (tupleKind_room_in1 hu) (ud I.hok eb) dd fun h' dd' hs=>h _ ?_
  obtain ⟨q,es,ep,hq,h2,h3,h4,_,h5⟩:=dd'
  refine zdG I (by rw [e];exact True.intro) hs ⟨q,hq⟩ ⟨hl,hd,_,(rel.put k eb rv).keeps fun c ys ec=>?_,q,es,ep,hq,h2,h3,h4,h5⟩
  rw [zM (zny ec e (fun z=>nomatch z))]
  exact ec
end
section
variable {X:Cx} {pins:List (Addr × Obj)} {σ:St} {H:Hp} {s:Shared} {a:Addr} {kvs:List (Key × V)} {k:Key} {u:Value} {A:Around} {E:Value->Shared->Prop}
theorem zoa{Q:Value->Shared->Prop}(I:Inv X pins σ H s)(e:Rd H a (.dK kvs))(h:∀ t s',Inv X pins σ H s'->Q (.int kvs.length t) s'):wpAny (model X.prog X.w) A (call (.builtin "len") [.ref a]) Q E s:=by
 obtain ⟨z,hd,vs,rel,dd⟩:=u0 I.hok e
 refine call_len_dict hd dd (by rw [← rel.length];rw [sizeLine_eq] at z;omega) ?_
 rw [← rel.length]
 exact h _ _ (I.tok _)
end
noncomputable def zoi(i:Expr):Prop:=∀ ov iv,subscripted i false ov iv=operate [ov,iv] (getItem ov iv)
theorem ziB{prog:Program}{w:World}{A:Around}{E:Value->Shared->Prop}{s:Shared}{env:Env}{value slice:Expr}{pos:Pos}{T id:String}{Q:Value->Shared->Prop}
  (hl:typeLookup (.type T) "__getitem__"=pure (some (.builtin id)))(hs:zoi slice)
  (h:wpAny (model prog w) A (eval value env) (fun o s₁=>wpAny (model prog w) A (eval slice env) (fun i s₂=>s₂.TypeIs o T/\wpAny (model prog w) A (getItem o i) Q E s₂) E s₁) E s):
  wpAny (model prog w) A (eval (.Subscript value slice pos) env) Q E s:=by
 refine Subscript_ (wpAny_mono h (fun o s₁ h₁=>wpAny_mono h₁ (fun i s₂ h₂=>?_) fun _ _ x=>x) fun _ _ x=>x)
 obtain ⟨hT,h₂⟩:=h₂
 unfold subscriptTail
 refine wpAny_bind ?_
 rw [getitemInPython_of_ne hT.not_modules]
 refine wpAny_bind (wpAny_specialOf hT hl ?_)
 have fin:wpAny (model prog w) A (subscripted slice false o i) (fun r s₃=>wpAny (model prog w) A (letTemporaryGo value o r >>= fun _=>pure r) Q E s₃) E s₂:=by
  rw [hs o i]
  exact wpAny_operating (wpAny_mono h₂ (fun r s₃ h₃=>wpAny_bind (wpAny_letTemporaryGo (wpAny_pure h₃))) fun _ _ x=>x)
 first
  | exact wpAny_pure (wpAny_bind fin)
  | exact wpAny_bind (wpAny_pure (wpAny_bind fin))
  | exact wpAny_bind fin
theorem zbr{s:Shared}(I:Inv X pins σ H s)(g:DGet H a y o):s.TypeIs (.ref a) "dict":=by
 rcases g with ⟨kvs,k,e,_,_⟩ | ⟨kvs,k,b,e,_,_,_⟩
 ·obtain ⟨_,_,vs,_,dd⟩:=u0 I.hok e
  exact dd.typeIs
 ·obtain ⟨_,_,xs,_,dd⟩:=kD I.hok e
  exact dd.typeIs
noncomputable def zmO(td ty:TE):TE:=fun σ H Q=>td σ H fun x H1=>ty σ H1 fun y H2=>∃ a v,x=.ref a/\DGet H2 a y (some v)/\Q v H2
noncomputable def zdb(td ty tv:TE):TS:=fun D σ H=>tv σ H fun v H1=>td σ H1 fun x H2=>ty σ H2 fun y H3=>∃ a H4,x=.ref a/\DPut H3 a y v H4/\D.nx σ H4
section
variable {X:Cx} {o i e value:Expr} {pos pos' tpos:Pos} {td ty tv:TE}
theorem zdj(hu:X.A.units+1<cLine)(ho:PE X o td)(hi:PE X i ty)(hs:zoi i):PE X (.Subscript o i pos) (zmO td ty):=by
 intro pins s σ H Q I h
 refine ziB PySem.F.slot_dict_getitem.lookup hs (thn (ho pins s σ H _ I h) fun u s1 ⟨x,H1,I1,rx,q1⟩=>thn (hi pins s1 σ H1 _ I1 q1) fun iv s2 ⟨y,H2,I2,ry,a,v,ex,g,q2⟩=>?_)
 subst ex
 obtain rfl:u=Value.ref a:=rx
 exact ⟨zbr I2 g,zeR hu I2 g ry fun w' s3 I3 rw'=>⟨v,H2,I3,rw',q2⟩⟩
theorem zdf(hu:X.A.units+1<cLine)(ho:PE X o td)(hi:PE X i ty)(hv:PE X value tv)(hs:swapsWith value (some (.Subscript o i pos')) pos.line X.env=pure false):
  PS X (.Assign [.Subscript o i pos'] value pos) (zdb td ty tv):=by
 intro pins s σ H D I h
 refine wpAny_Assign_Subscript (thn (hv pins s σ H _ I h) fun r s1 ⟨v,H1,I1,rv,q1⟩=>thn (ho pins s1 σ H1 _ I1 q1) fun u s2 ⟨x,H2,I2,rx,q2⟩=>thn (hi pins s2 σ H2 _ I2 q2) fun iv s3 ⟨y,H3,I3,ry,a,H4,ex,g,q3⟩=>?_) hs
 subst ex
 obtain rfl:u=Value.ref a:=rx
 exact zeQ hu I3 g ry rv fun s4 I4=>⟨σ,H4,I4,q3⟩
end
theorem zhv(h:Heap)(hb:sysModules<h.objs.size):ObjOk P w H (h.push { cls:=.type "dict",data:=.dict #[] }) h.objs.size (.dK []):=
 ⟨Kq _,beq_eq_false_iff_ne.mpr (Qw (Jx hb)),[],.nil,Heap.DictOf.new h⟩
theorem zht(h:Heap)(hb:sysModules<h.objs.size):ObjOk P w H (h.push { cls:=.type "dict",data:=.dict #[] }) h.objs.size (.dT []):=
 ⟨Kq _,beq_eq_false_iff_ne.mpr (Qw (Jx hb)),[],.nil,_,#[],0,Jl _ rfl,⟨rfl,rfl,rfl⟩,rfl,rfl,List.nodup_nil⟩
noncomputable def zfK:TE:=fun _ H Q=>∀ p,H p=none->Q (.ref p) (upd H p (.dK []))
noncomputable def zfJ:TE:=fun _ H Q=>∀ p,H p=none->Q (.ref p) (upd H p (.dT []))
section
variable {X:Cx} {pos:Pos}
theorem zgp:PE X (.Dict [] [] pos) zfK:=fun pins s σ H Q I h=>
 wpAny_Dict_empty ⟨.ref s.heap.objs.size,_,I.laid (a:=s.heap.objs.size) (o:=.dK []) (t':=s.toks) (fun _ _ q=>Jb _ q) (Jm _) (zhv s.heap I.big),rfl,h _ (I.hok.fresh (Jm _))⟩
theorem zgo:PE X (.Dict [] [] pos) zfJ:=fun pins s σ H Q I h=>
 wpAny_Dict_empty ⟨.ref s.heap.objs.size,_,I.laid (a:=s.heap.objs.size) (o:=.dT []) (t':=s.toks) (fun _ _ q=>Jb _ q) (Jm _) (zht s.heap I.big),rfl,h _ (I.hok.fresh (Jm _))⟩
end
structure M1 (X:Cx) (o:Expr) (m:Str) (apos:Pos) (e:Expr) (cpos:Pos):Prop where
 base:attributeBase o m X.env (eval o X.env)=eval o X.env
 few:((backTo cpos (starEach [e] X.env)).all (fun x=>!x.1) && (backToKw cpos (keywordEach [] X.env)).all (fun x=>x.1.isSome)
  && decide (([e]:List Expr).length+([]:List Keyword).length+(if ([]:List Keyword).isEmpty then 0 else 1)<30))=true
 line:(apos.endLine == cpos.line)=true
 trees:backTo cpos (starEach [e] X.env)=[(false,eval e X.env)]
structure M2 (X:Cx) (o:Expr) (m:Str) (apos:Pos) (e f:Expr) (cpos:Pos):Prop where
 base:attributeBase o m X.env (eval o X.env)=eval o X.env
 few:((backTo cpos (starEach [e,f] X.env)).all (fun x=>!x.1) && (backToKw cpos (keywordEach [] X.env)).all (fun x=>x.1.isSome)
  && decide (([e,f]:List Expr).length+([]:List Keyword).length+(if ([]:List Keyword).isEmpty then 0 else 1)<30))=true
 line:(apos.endLine == cpos.line)=true
 trees:backTo cpos (starEach [e,f] X.env)=[(false,eval e X.env),(false,eval f X.env)]
noncomputable def IsD(H:Hp)(a:Addr):Prop:=(∃ kvs,Rd H a (.dK kvs))∨∃ kvs,Rd H a (.dT kvs)
theorem zlR{s:Shared}(I:Inv X pins σ H s)(d:IsD H a):
  s.TypeIs (.ref a) "dict"/\(∀ b,Value.ref a=.ref b->∃ ob,s.heap.get? b=some ob/\ob.dict=none)/\(a == sysModules)=false:=by
 rcases d with ⟨kvs,e⟩ | ⟨kvs,e⟩
 ·obtain ⟨_,hd,vs,_,dd⟩:=u0 I.hok e
  refine ⟨dd.typeIs,fun b q=>?_,hd⟩
  cases q
  obtain ⟨ob,_,_,h1,h2,_⟩:=dd
  exact ⟨ob,h1,h2.2.1⟩
 ·obtain ⟨_,hd,xs,_,dd⟩:=kD I.hok e
  refine ⟨dd.typeIs,fun b q=>?_,hd⟩
  cases q
  obtain ⟨ob,_,_,h1,h2,_⟩:=dd
  exact ⟨ob,h1,h2.2.1⟩
section
variable {X:Cx} {pins:List (Addr × Obj)} {σ:St} {H:Hp} {s:Shared} {a:Addr} {y d:V} {u r:Value} {o:Option V} {A:Around} {E:Value->Shared->Prop}
theorem zmh{Q:Value->Shared->Prop}(hu:A.units+1<cLine)(I:Inv X pins σ H s)(g:DGet H a y o)(ry:RelV y u)(rd:RelV d r)(h:∀ w' s',Inv X pins σ H s'->RelV (o.getD d) w'->Q w' s'):
  wpAny (model X.prog X.w) A (call (.builtin "dict.get") [.ref a,u,r]) Q E s:=by
 rcases g with ⟨kvs,k,e,ey,l⟩ | ⟨kvs,k,b,e,ey,eb,l⟩
 ·subst ey
  obtain ⟨z,hd,vs,rel,dd⟩:=u0 I.hok e
  refine call_meetsIn PySem.F.slot_dict_get dd.typeIs PySem.F.entry_dict_get (PySem.F.args_dict_get_3 _ _ _) (meets_dict_get_default (zC X.prog X.w) a (qC ry) hd r) ⟨_,dd.mapOf,h _ _ (I.tok _) ?_⟩
  rw [l]
  exact (rel.val k).getD rd
 ·subst ey
  cases (show u=Value.ref b from ry)
  obtain ⟨z,hd,xs,rel,dd⟩:=kD I.hok e
  refine call_meetsIn PySem.F.slot_dict_get dd.typeIs PySem.F.entry_dict_get (PySem.F.args_dict_get_3 _ _ _) (meetsH_dict_get_default (tupleKind (zC X.prog X.w)) a b hd r) ⟨tupleKind_room_in1 hu,k,xs,ud I.hok eb,dd,h _ _ (I.tok _) ?_⟩
  rw [l]
  exact (rel.val k).getD rd
end
noncomputable def zkH(td ty tx:TE):TE:=fun σ H Q=>td σ H fun x H1=>∃ a,x=.ref a/\IsD H1 a/\ty σ H1 fun y H2=>tx σ H2 fun z H3=>∃ o,DGet H3 a y o/\Q (o.getD z) H3
section
variable {X:Cx} {o e f:Expr} {apos cpos:Pos} {td ty tx:TE}
theorem zgq(hu:X.A.units+1<cLine)(ho:PE X o td)(he:PE X e ty)(hf:PE X f tx)(m:M2 X o "get" apos e f cpos):PE X (.Call (.Attribute o "get" apos) [e,f] [] cpos) (zkH td ty tx):=by
 intro pins s σ H Q I h
 refine wpAny_Call_method m.base m.few m.line PySem.F.plainAttrs_dict PySem.F.slot_dict_get PySem.F.type_dict_get (thn (ho pins s σ H _ I h) fun u s1 hq_=>?_)
 obtain ⟨x,H1,I1,rx,a,ex,d,q1⟩:=hq_
 subst ex
 obtain rfl:u=Value.ref a:=rx
 obtain ⟨t1,t2,_⟩:=zlR I1 d
 refine ⟨t1,t2,?_⟩
 rw [m.trees]
 refine Calls.callWith_builtin rfl (Calls.evalArgs_plain (QM (thn (he pins s1 σ H1 _ I1 q1) fun iv s2 ⟨y,H2,I2,ry,q2⟩=>
  QM (thn (hf pins s2 σ H2 _ I2 q2) fun fv s3 ⟨z,H3,I3,rz,ov,g,q3⟩=>Calls.spliced_nil ?_))))
 exact zmh hu I3 g ry rz fun w' s4 I4 rw'=>⟨_,H3,I4,rw',q3⟩
end
end L2
namespace Att
open PySem PySem.W PySem.Calls PyProof.Rows
theorem jB:∀ (ns:List Int) (vs:List Value),WellAll P h vs (ns.map WData.int)->IntsAre vs ns:=by
 intro ns
 induction ns with
 | nil=>
  intro vs w
  rw [List.map_nil] at w
  cases w
  exact .nil
 | cons n ns ih=>
  intro vs w
  rw [Jo] at w
  cases w with
  | cons a b=>
   cases a
   exact .cons _ _ (ih _ b)
theorem zep{l:OpenLaw}(hn:l.most=some n){h:Heap}
  (hpre:l.row.toRowW.claim.pre args=true)(hwl:WellAll P h vals args):
  ∃ a vs ns,vals=[Value.ref a]/\args=[WData.list (ns.map WData.int)]/\h.get? a=some { cls:=.type "list",data:=.seq vs.toArray }/\IntsAre vs ns/\ns.length≤n:=by
 have hsh:WShape.hasAll [] args [.list .int]=true:=(pre_splitW hpre).1
 have hc:l.pre.holds [] { args:=args }=true:=(pre_splitW hpre).2
 obtain ⟨d,r,rfl,h1,h2⟩:=hasAllW_cons hsh
 obtain rfl:=hasAllW_nil h2
 obtain ⟨xs,rfl,h3⟩:=hasW_list h1
 obtain ⟨ns,rfl⟩:=items_int h3
 have hlen:ns.length≤n:=by
  unfold OpenLaw.pre at hc
  have h4:(WTm.not (.lt (.lit (.int (n:Int))) (.len (.arg 0)))).holds [] { args:=[.list (ns.map .int)] }=true:=by
   have h4:=(holds_andW hc).1
   rw [hn] at h4
   exact h4
  have h5:=condW_of h4 (w_not (w_lt w_lit (w_len_list (w_arg rfl))))
  rw [Jt] at h5
  refine Qz fun q=>?_
  have q':(n:Int)<((ns.length:Nat):Int):=by omega
  first
   | (rw [decide_eq_true q'] at h5;exact absurd h5 (by decide))
   | (simp at h5;omega)
 cases hwl with
 | cons w1 w2=>
  cases w2
  cases w1 with
  | list ho hall=>exact ⟨_,_,ns,rfl,rfl,ho,jB ns _ hall,hlen⟩
theorem zeq(l:OpenLaw)(args:List WData):l.row.toRowW.claim.post args (.bool true) args=true:=
 postW_of (r:=l.row.toRowW) (X:=(true == true))
  (show WShape.has [] (.bool true) .bool=true by first | rfl | decide | simp [WShape.has,WShape.arms,WShape.armsAll])
  (show (WTm.eq .res (.lit (.bool true))).value [] { args:=args,res:=some (.bool true),after:=args }=some (.bool (true == true)) from w_eq_bool (w_res rfl) w_lit) rfl
end Att
namespace L2
open PySem PySem.Spec PyProof.Rows
theorem ki:∀ {vs:List Value} {ns:List Int},IntsAre vs ns->Vals (ns.map V.int) vs
 | _,_,.nil=>.nil
 | _,_,.cons n t h=>.cons ⟨t,rfl⟩ (ki h)
noncomputable def zjH(H:Hp):Prop:=∀ b,H b=none∨∃ o xs,H b=some (.frz o (.lst xs))
theorem zgQ{K:PySem.W.Frag}{mg mb:Str->Option Value}{CX:CXT}{sp:Sp}{s₁:Shared}{vs:List Value}{ns:List Int}
  (KX:K.In s₁.heap)(hns:s₁.heap.Ns mainGlobals mg)(hb:s₁.heap.Ns builtinsNs mb)(hbb:∀ x:Str,x≠"__name__"->mb x=bootBuiltins x)(hlim:s₁.heap.NoLimit)(hg:s₁.gens=#[])
  (ha:s₁.heap.get? a=some { cls:=.type "list",data:=.seq vs.toArray })(hi:IntsAre vs ns)(hl:ns.length≤sizeLine)(hr:Room k callerA)
  (F:∀ base:Heap,K.In base->base.Ns mainGlobals mg->FnOk P w K mg base CX k fa fd [x] sp)(hbind:∀ (s:Shared) (u:Value),BindsTo s fd ⟨[u],[]⟩ [(x,u)])
  (hsp:∀ H:Hp,zjH H->SqL K H a (ns.map V.int)->sp [.ref a] H (fun v _=>v=.bl true) fun _ _ _=>False)
  (hCX:∀ H e s',CX [] H s₁ (fun _ _ _=>False) e s'->False):
  codeAny (model P w) callerA (.call (.ref fa) ⟨[.ref a],[]⟩) (fun r s'=>r=.ok (.ret (.bool true))/\OldK s₁.heap s'.heap/\s'.os=s₁.os/\AllBare s'.gens) s₁:=by
 have rv:=ki hi
 have lenV:=hi.length
 -- from an abstract heap in which nothing but the script may be tracked
 have core:∀ H:Hp,zjH H->SqL K H a (ns.map V.int)->HOk P w H s₁.heap->(∀ b,H b≠none->b=a)->(H a≠none->K.lookup a=none)->
   codeAny (model P w) callerA (.call (.ref fa) ⟨[.ref a],[]⟩) (fun r s'=>r=.ok (.ret (.bool true))/\OldK s₁.heap s'.heap/\s'.os=s₁.os/\AllBare s'.gens) s₁:=by
  intro H hO hS hok hA hK
  have base_of:∀ {b:Addr} {o:Obj},s₁.heap.get? b=some o->H b=none->(qt s₁.heap H).get? b=some o:=fun e n=>zhb e n
  have noA:∀ {b:Addr} {o:Obj} {es:Array DictEntry} {ep:Nat},s₁.heap.get? b=some o->o.data=.dict es ep->H b=none:=fun {b o es ep} e d=>by
   cases q:H b with
   | none=>rfl
   | some u=>
    have e':b=a:=hA b (by rw [q];simp)
    subst e'
    rw [ha] at e;cases e
    have d':Data.seq vs.toArray _=Data.dict es ep:=d
    cases d'
  have nsK:∀ {b:Addr} {m:Str->Option Value},s₁.heap.Ns b m->(qt s₁.heap H).Ns b m:=fun {b m} ⟨o,es,ep,e,d,r⟩=>⟨o,es,ep,base_of e (noA e d),d,r⟩
  have hKb:K.In (qt s₁.heap H):=fun b o e=>base_of (KX b o e) (by
   cases q:H b with
   | none=>rfl
   | some u=>
    have e':b=a:=hA b (by rw [q];simp)
    subst e'
    rw [hK (by rw [q];simp)] at e;cases e)
  have hM:Mod K mg (qt s₁.heap H):=⟨hKb,nsK hns,⟨mb,nsK hb,hbb⟩,let ⟨mc,h1,h2⟩:=hlim;⟨mc,nsK h1,h2⟩⟩
  have e0:Env0 P w K mg (qt s₁.heap H) callerA [] s₁ H:=⟨rfl,hM,fun b o e=>zjf e,Nat.le_of_eq (zeH _ _),trivial,fun b hb=>absurd (show b ∈ ([]:List Addr) from hb) (by simp),hok,.of_eq hg⟩
  refine codeAny_mono ((F _ hKb (nsK hns)).run callerA [] s₁ H ⟨[.ref a],[]⟩ [.ref a] [.ref a] _ _ hr e0 (hbind s₁ (.ref a)) (.cons rfl .nil) (hsp H hO hS)) fun r s' h=>?_
  cases r with
  | error e=>exact (hCX H e s' h).elim
  | ok fl=>
   cases fl with
   | next=>exact False.elim h
   | brk=>exact False.elim h
   | cont=>exact False.elim h
   | ret u=>
    obtain ⟨v,H',os,bare,un,hok',r',q⟩:=h
    have q':v=.bl true:=q
    subst q'
    obtain rfl:u=Value.bool true:=r'
    refine ⟨rfl,OldK.of_keep fun b o e=>?_,os,bare⟩
    cases q:H b with
    | none=>exact un.keep b o e q (by intro z;exact absurd (show b ∈ ([]:List Addr) from z) (by simp)) (by simp)
    | some u=>
     rcases hO b with z | ⟨ob,xs,z⟩
     ·rw [q] at z;cases z
     ·have z2:=un.frzs b ob _ z
      obtain ⟨e1,_⟩:=hok b _ z
      obtain ⟨e2,_⟩:=hok' b _ z2
      rw [e] at e1;cases e1
      exact e2
 cases hk:K.lookup a with
 | some o=>
  -- the script is one of the module's own objects
  have e:=KX a o hk
  rw [ha] at e
  cases e
  refine core (fun _=>none) (fun _=>.inl rfl) (.inr ⟨_,vs.toArray,_,hk,rfl,rfl,rfl,by rw [List.size_toArray,lenV];exact hl,by simpa using rv⟩) (fun b u z=>by have z':(none:Option HO)=some u:=z;cases z') (fun b z=>absurd rfl z) fun z=>absurd rfl z
 | none=>
  refine core (fun b=>if b=a then some (.frz { cls:=.type "list",data:=.seq vs.toArray } (.lst (ns.map V.int))) else none) (fun b=>?_) (.inl (.inr ⟨{ cls:=.type "list",data:=.seq vs.toArray },if_pos rfl⟩)) (fun b u z=>?_) (fun b z=>?_) fun _=>hk
  ·by_cases hb:b=a
   ·exact .inr ⟨_,_,if_pos hb⟩
   ·exact .inl (if_neg hb)
  ·by_cases hb:b=a
   ·have z':=(if_pos hb).symm.trans z
    cases z'
    subst hb
    exact ⟨ha,by rw [Jt];exact hl,vs,_,rv,ha⟩
   ·have z':=(if_neg hb).symm.trans z
    cases z'
  ·by_cases hb:b=a
   ·exact hb
   ·exact absurd (if_neg hb) z
noncomputable def wE(s:Stmt):Arguments:=match s with
 | .FunctionDef _ a _ _ _ _ _ _ _ _=>a
 | _=>{ posonlyargs:=[],args:=[],vararg:=none,kwonlyargs:=[],kw_defaults:=[],kwarg:=none,defaults:=[] }
noncomputable def yr(s:Stmt):List Stmt:=match s with
 | .FunctionDef _ _ b _ _ _ _ _ _ _=>b
 | _=>[]
noncomputable def zH(s:Stmt):Scope:=match s with
 | .FunctionDef _ _ _ _ _ _ sc _ _ _=>sc
 | _=>{ kind:=.function,names:=[],isGenerator:=false,isCoroutine:=false }
noncomputable abbrev CX0:CXT:=fun _ _ _ _ _ _=>False
noncomputable abbrev E0:XK:=fun _ _ _=>False
theorem zjU:zaj CX0 X E0:=fun _ _ _ _ _ _ _ h=>h.elim
structure Fun (K:PySem.W.Frag) (x qual:Str) (st:Stmt) (f:Addr) (fd:FuncData):Prop where
 ex:∃ (oc:Value) (od:Option Addr) (kV doc pm:Value) (an:Option Addr) (cdv ct:Value) (osl:Array (Option Value)),
  fd=PySem.W.fnOf x qual (wE st) (yr st) (zH st) .none kV doc pm an cdv ct/\K.lookup f=some ⟨oc,od,.func fd,osl⟩/\PySem.W.codeIn K cdv qual=true
 kp:PySem.W.keepIn K (.ref f)=true
section
variable {P:Program} {w:World} {K:PySem.W.Frag} {mg:Str->Option Value} {base:Heap}
theorem Fun.ok{x qual:Str}{st:Stmt}{f:Addr}{fd:FuncData}{N ps:List Str}{k:Nat}{sp:Sp}(F:Fun K x qual st f fd)(S:FnScope N ps (zH st))(len:∀ vs H Q E,sp vs H Q E->vs.length=ps.length)
  (hbody:∀ (cdv:Value) (A:Around) (outer:List Env) (s:Shared) (H:Hp) (vs:List V) (Q:VK) (E:XK),Room k (A.deeper (envOfC qual (zH st) s.heap.objs.size f cdv))->sp vs H Q E->
   ∃ t,PSs (zcx CX0 P w K mg base N qual (zH st) f cdv A outer s H E).nox (yr st) t/\t { nx:=fun _ H'=>Q .non H',rt:=Q } (start N vs) H):FnOk P w K mg base CX0 (k+1) f fd ps sp:=by
 obtain ⟨oc,od,kV,doc,pm,an,cdv,ct,osl,rfl,lk,hcd⟩:=F.ex
 refine znO lk hcd S len fun A outer s H vs Q E hr hsp=>?_
 obtain ⟨t,h,q⟩:=hbody cdv A outer s H vs Q E hr hsp
 exact ⟨t,h.nox,q⟩
theorem Fun.binds{x qual:Str}{st:Stmt}{f:Addr}{fd:FuncData}{ps:List Str}(F:Fun K x qual st f fd)
  (h:∀ (kV doc pm:Value) (an:Option Addr) (cdv ct:Value) (us:List Value),us.length=ps.length->bindArgs (PySem.W.fnOf x qual (wE st) (yr st) (zH st) .none kV doc pm an cdv ct) ⟨us,[]⟩=pure (ps.zip us)):Binds K fd ps []:=by
 obtain ⟨oc,od,kV,doc,pm,an,cdv,ct,osl,rfl,lk,hcd⟩:=F.ex
 exact .all (h kV doc pm an cdv ct)
theorem zhh{x qual:Str}{st:Stmt}{f:Addr}{oc:Value}{od an:Option Addr}{osl:Array (Option Value)}{kV doc pm cdv ct:Value}(l:K.lookup f=some ⟨oc,od,.func (PySem.W.fnOf x qual (wE st) (yr st) (zH st) .none kV doc pm an cdv ct),osl⟩)
  (c:PySem.W.codeIn K cdv qual=true)(k:PySem.W.keepIn K (.ref f)=true):Fun K x qual st f (PySem.W.fnOf x qual (wE st) (yr st) (zH st) .none kV doc pm an cdv ct):=⟨⟨oc,od,kV,doc,pm,an,cdv,ct,osl,rfl,l,c⟩,k⟩
end
theorem znK{A:Around}(hr:Room k A):A.units+1<cLine:=QN (Nat.add_le_add_left (by decide:1≤64) _) hr.units
section
variable {X:Cx}
theorem pv(i:Nat)(hN:X.N[i]?=some x:=by rfl)(hv:Vis X.env.scope x:=by first | exact Or.inl rfl | exact Or.inr (Or.inl rfl) | exact Or.inr (Or.inr rfl))(hd:(x == ("__debug__":Str))=false:=by decide)
  (hcd:(x == ("__classdict__":Str))=false:=by decide):PE X (.Name x pos) (vo i):=zlh hN hv hd hcd
theorem call_lenD:CallR X (.builtin "len") (fun xs H Q=>∃ a kvs,xs=[V.ref a]/\H a=some (.dK kvs)/\Q (.int kvs.length) H):=by
 intro pins s σ H xs us Q I r h
 obtain ⟨a,kvs,rfl,ha,q⟩:=h
 obtain ⟨u,rfl,ru⟩:=zcO r
 cases ru
 exact zoa I (.inl ha) fun t s' I'=>⟨.int kvs.length,H,I',⟨t,rfl⟩,q⟩
end
noncomputable def Same(H H':Hp):Prop:=∀ b o,H b=some o->H' b=some o
theorem Same.refl(H:Hp):Same H H:=fun _ _ h=>h
theorem Same.trans(a:Same H H1)(b:Same H1 H2):Same H H2:=fun c o h=>b c o (a c o h)
theorem Same.free{H H':Hp}(e:Same H H')(h:H' l=Option.none):H l=Option.none:=by
 cases q:H l with
 | none=>rfl
 | some o=>
  rw [e l o q] at h
  cases h
theorem Same.seq{K:PySem.W.Frag}{H H':Hp}{a:Addr}{xs:List V}(e:Same H H')(h:SqL K H a xs):SqL K H' a xs:=by
 rcases h with (h | ⟨o,h⟩) | h
 ·exact .inl (.inl (e _ _ h))
 ·exact .inl (.inr ⟨o,e _ _ h⟩)
 ·exact .inr h
theorem j8{α β:Type}{f:α->β->Sem (ForInStep β)}(g:β->α->β):∀ (l:List α) (c:β),(∀ x ∈ l,∀ c,f x c=pure (.yield (g c x)))->forIn l c f=pure (l.foldl g c)
 | [],_,_=>rfl
 | x::l,c,h=>by
  rw [List.forIn_cons,h x Jc,pure_bind]
  exact j8 g l _ fun y hy=>h y (Jf _ hy)
noncomputable def yX(cells:List (Str × Addr))(cs:List (Str × Addr))(y:Str × NameKind):List (Str × Addr):=
 if (y.2 == NameKind.free)=true then (match cells.lookup y.1 with | some c=>(y.1,c)::cs | none=>cs) else cs
noncomputable def zcD(scope:Scope)(cells:List (Str × Addr)):List (Str × Addr):=scope.names.foldl (yX cells) []
theorem kL{scope:Scope}{env:Env}(h:∀ y ∈ scope.names,(y.2 == NameKind.free)=true->∃ c,env.cells.lookup y.1=some c):closureFor scope env=pure (zcD scope env.cells):=by
 simp only [closureFor]
 rw [j8 (yX env.cells) _ _ (fun y hy c=>?_)]
 ·rfl
 ·obtain ⟨n,k⟩:=y
  by_cases e:(k == NameKind.free)=true
  ·obtain ⟨a,ha⟩:=h _ hy e
   have ha':List.lookup n env.cells=some a:=ha
   simp [yX,cellOf,ha',e]
  ·simp [yX,e]
theorem zR{x n:Str}{α:Type}{c:α}{r:List (Str × α)}:List.lookup x ((n,c)::r)=if x=n then some c else r.lookup x:=by
 rw [List.lookup_cons]
 by_cases e:x=n
 ·subst e;simp
 ·rw [if_neg e]
  have:(x == n)=false:=by simpa using e
  rw [this]
theorem zcC{cells:List (Str × Addr)}:∀ (names:List (Str × NameKind)) (acc:List (Str × Addr)),(∀ x c,acc.lookup x=some c->cells.lookup x=some c)->∀ x c,(names.foldl (yX cells) acc).lookup x=some c->cells.lookup x=some c
 | [],_,h=>h
 | y::r,acc,h=>by
  refine zcC r (yX cells acc y) fun x c e=>?_
  unfold yX at e
  split at e
  ·split at e
   ·rename_i c' hc'
    rw [zR] at e
    split at e
    ·rename_i hx;cases e;rw [hx];exact hc'
    ·exact h x c e
   ·exact h x c e
  ·exact h x c e
theorem zdK{cells:List (Str × Addr)}{x:Str}:∀ (names:List (Str × NameKind)) (acc:List (Str × Addr)),(acc.lookup x).isSome=true->((names.foldl (yX cells) acc).lookup x).isSome=true
 | [],_,h=>h
 | y::r,acc,h=>by
  refine zdK r (yX cells acc y) ?_
  unfold yX
  split
  ·split
   ·rw [zR];split
    ·rfl
    ·exact h
   ·exact h
  ·exact h
theorem zhE{cells:List (Str × Addr)}{x:Str}(hc:(cells.lookup x).isSome=true):∀ (names:List (Str × NameKind)) (acc:List (Str × Addr)) (k:NameKind),(k == NameKind.free)=true->(x,k) ∈ names->((names.foldl (yX cells) acc).lookup x).isSome=true
 | [],_,_,_,h=>nomatch h
 | y::r,acc,k,hk,h=>by
  rcases List.mem_cons.mp h with e | h
  ·refine zdK r (yX cells acc y) ?_
   subst e
   obtain ⟨c,hc⟩:=Option.isSome_iff_exists.mp hc
   unfold yX
   rw [if_pos hk]
   simp [hc]
  ·exact zhE hc r _ k hk h
theorem v4{env:Env}{x:Str}{k:NameKind}:∀ {names:List (Str × NameKind)},
  (names.map fun (n,k)=>if (k == NameKind.free && env.scope.kind == .function && env.kindOf n == some .cell) then (n,NameKind.cell) else (n,k)).lookup x=some k->∃ k0,(x,k0) ∈ names/\(k=k0∨(k0 == NameKind.free)=true)
 | [],h=>by simp at h
 | (n,j)::r,h=>by
  rw [Jo] at h
  by_cases hx:x=n
  ·subst hx
   by_cases hc:(j == NameKind.free && env.scope.kind == .function && env.kindOf x == some .cell)=true
   ·refine ⟨j,Jc,.inr ?_⟩
    simp only [Bool.and_eq_true] at hc
    exact hc.1.1
   ·dsimp only at h
    rw [if_neg hc,zR,if_pos rfl] at h
    cases h
    exact ⟨k,Jc,.inl rfl⟩
  ·have h':(r.map fun (n,k)=>if (k == NameKind.free && env.scope.kind == .function && env.kindOf n == some .cell) then (n,NameKind.cell) else (n,k)).lookup x=some k:=by
    dsimp only at h
    by_cases hc:(j == NameKind.free && env.scope.kind == .function && env.kindOf n == some .cell)=true
    ·rw [if_pos hc,zR,if_neg hx] at h;exact h
    ·rw [if_neg hc,zR,if_neg hx] at h;exact h
   obtain ⟨k0,h1,h2⟩:=v4 h'
   exact ⟨k0,Jf _ h1,h2⟩
theorem v5{env:Env}{x:Str}:∀ {names:List (Str × NameKind)},names.lookup x=some .free->
  (names.map fun (n,k)=>if (k == NameKind.free && env.scope.kind == .function && env.kindOf n == some .cell) then (n,NameKind.cell) else (n,k)).lookup x=some .cell∨
  (names.map fun (n,k)=>if (k == NameKind.free && env.scope.kind == .function && env.kindOf n == some .cell) then (n,NameKind.cell) else (n,k)).lookup x=some .free
 | [],h=>by simp at h
 | (n,j)::r,h=>by
  rw [Jo]
  dsimp only
  by_cases hx:x=n
  ·subst hx
   rw [zR,if_pos rfl] at h
   cases h
   by_cases hc:(NameKind.free == NameKind.free && env.scope.kind == .function && env.kindOf x == some .cell)=true
   ·rw [if_pos hc,zR,if_pos rfl];exact .inl rfl
   ·rw [if_neg hc,zR,if_pos rfl];exact .inr rfl
  ·rw [zR,if_neg hx] at h
   have ih:=v5 (env:=env) h
   by_cases hc:(j == NameKind.free && env.scope.kind == .function && env.kindOf n == some .cell)=true
   ·rw [if_pos hc,zR,if_neg hx];exact ih
   ·rw [if_neg hc,zR,if_neg hx];exact ih
noncomputable def cN(own:List Str)(js:List Nat)(N:List Str):List Str:=own++js.map fun j=>N.getD j ""
noncomputable def cS(own:List Str)(js:List Nat)(σ:St):St:=own.map (fun _=>none)++js.map fun j=>(σ[j]?).join
noncomputable def zb (X : Cx) (own : List Str) (js : List Nat) (scope : Scope) (C : Addr) (s₀ : Shared) (H₀ : Hp) (fp : List Addr) : Cx :=
  { prog := X.prog, w := X.w, K := X.K, mg := X.mg, base := X.base, A := X.A, N := cN own js X.N, s₀ := s₀, H₀ := H₀, env := compEnvC scope (zcD scope X.env.cells) C X.env, outer := X.stack, stack := X.stack,
    ex := fp, fn := fun _ => false, calm := X.calm, pn := [], xe := fun _ _ => False }
noncomputable def u7(js:List Nat)(scope:Scope)(kindOf:Str->Option NameKind)(N:List Str):Bool:=
 (scope.kind == .function) && scope.names.all (fun y=>!(y.2 == .cell) && (!(y.2 == .free) || kindOf y.1 == some .cell || kindOf y.1 == some .free) && (!(y.2 == .local) || scope.names.lookup y.1 == some .local)) &&
  js.all fun j=>scope.names.lookup (N.getD j "") == some .free
structure CompOk (js:List Nat) (scope:Scope) (kindOf:Str->Option NameKind) (N:List Str):Prop where
 kind:scope.kind=.function
 nocell:∀ y ∈ scope.names,y.2≠.cell
 free:∀ y ∈ scope.names,(y.2 == NameKind.free)=true->kindOf y.1=some .cell∨kindOf y.1=some .free
 loc:∀ y ∈ scope.names,y.2=.local->scope.names.lookup y.1=some .local
 used:∀ j ∈ js,scope.names.lookup (N.getD j "")=some .free
theorem qF{js:List Nat}{scope:Scope}{kindOf:Str->Option NameKind}{N:List Str}(h:u7 js scope kindOf N=true):CompOk js scope kindOf N:=by
 unfold u7 at h
 simp only [Bool.and_eq_true,List.all_eq_true] at h
 obtain ⟨⟨h1,h2⟩,h3⟩:=h
 refine ⟨by simpa using h1,fun y hy e=>?_,fun y hy e=>?_,fun y hy e=>?_,fun j hj=>by simpa using h3 j hj⟩
 ·have:=(h2 y hy).1.1
  rw [e] at this
  exact absurd this (by decide)
 ·have:=(h2 y hy).1.2
  rw [e] at this
  simpa using this
 ·have:=(h2 y hy).2
  rw [e] at this
  simpa using this
theorem jt{α:Type}{x:Str}{a:α}:∀ {l:List (Str × α)},l.lookup x=some a->(x,a) ∈ l
 | [],h=>by simp at h
 | (n,c)::r,h=>by
  rw [zR] at h
  split at h
  ·rename_i e;cases h;subst e;exact List.mem_cons_self
  ·exact Jf _ (jt h)
section
variable {X:Cx} {pins:List (Addr × Obj)} {σ:St} {H:Hp} {s:Shared} {own:List Str} {js:List Nat} {scope:Scope}
theorem zcA{h₁:Heap}(ok:CompOk js scope X.env.kindOf X.N)(I:Inv X pins σ H s)(hC:C=s.heap.objs.size)(hns:h₁.Ns C m0)(keep:∀ b o,s.heap.get? b=some o->h₁.get? b=some o)(hf:∀ b ∈ fp,vF X pins H b)(hlt:∀ b ∈ fp,b<s.heap.objs.size):
 Inv (zb X own js scope C s H fp) [] (cS own js σ) H { s with heap:=h₁,toks:=t }:=by
 have sub:=zcC (cells:=X.env.cells) scope.names [] (by simp)
 have has:∀ x k0,(x,k0) ∈ scope.names->(k0 == NameKind.free)=true->∃ c,(zcD scope X.env.cells).lookup x=some c:=fun x k0 m hk=>by
  obtain ⟨c,hc⟩:=I.ok.has x (ok.free _ m hk)
  exact Option.isSome_iff_exists.mp (zhE (by rw [hc];rfl) scope.names [] k0 hk m)
 refine ⟨⟨I.ok.mod,ok.kind,I.ok.glob,I.ok.blt,Nat.le_of_eq hC.symm,fun x y c hx hy=>I.ok.inj x y c (sub x c hx) (sub y c hy),fun x hx=>?_,fun x c h=>absurd (show false=true from h) (by decide),I.ok.hd,I.ok.frames,.inl rfl,fun b hb=>⟨?_,fun x c hc=>(hf b hb).2.2.2.2.1 x c (sub x c hc)⟩,I.bs,JV I.ok.bsz I.sz,fun b o e hb=>?_,fun b hb hb2=>?_,I.stack,I.stkFree⟩,
  rfl,I.bare,Un.kept keep,⟨m0,hns,fun i x v e1 e2 e3=>?_⟩,fun x c e=>?_,?_,fun x c e=>I.freeC x c (sub x c e),(fun p hp=>nomatch hp),I.hok.kept keep,?_⟩
 ·have hx':∃ k,(k=NameKind.cell∨k=NameKind.free)/\(relabel scope X.env).names.lookup x=some k:=by
   rcases hx with hx | hx
   ·exact ⟨_,.inl rfl,hx⟩
   ·exact ⟨_,.inr rfl,hx⟩
  obtain ⟨k,hk,hl⟩:=hx'
  obtain ⟨k0,m,e⟩:=v4 hl
  have hfree:(k0 == NameKind.free)=true:=by
   rcases e with e | e
   ·subst e
    rcases hk with hk | hk
    ·exact absurd hk (ok.nocell _ m)
    ·rw [hk];rfl
   ·exact e
  exact has x k0 m hfree
 ·rw [hC];exact Jx (hlt b hb)
 ·rcases (hf b hb).2.2.2.1 with z | z
  ·exact I.ok.noex b o e z
  ·exact absurd (JE (Ji e) (JV I.ok.bsz z)) (KM _)
 ·rcases List.mem_cons.mp (I.stkSub b hb2) with e | e
  ·exact (hf b hb).2.1 e
  ·exact (hf b hb).2.2.1 e
 ·have key:∃ j,j ∈ js/\x=X.N.getD j ""/\σ[j]?=some (some v):=by
   have e1:(own++js.map fun j=>X.N.getD j "")[i]?=some x:=e1
   have e2:(own.map (fun _=>none)++js.map fun j=>(σ[j]?).join)[i]?=some (some v):=e2
   by_cases hi:i<own.length
   ·rw [List.getElem?_append_left (by simpa using hi),List.getElem?_map] at e2
    cases q:own[i]? with
    | none=>rw [q] at e2;simp at e2
    | some y=>rw [q] at e2;simp at e2
   ·have hi':own.length≤i:=Qz hi
    rw [KN hi',JQ] at e1
    rw [List.getElem?_append_right (by simpa using hi'),List.getElem?_map,List.length_map] at e2
    cases q:js[i - own.length]? with
    | none=>rw [q] at e1;simp at e1
    | some j=>
     rw [q] at e1 e2
     refine ⟨j,JY q,?_,?_⟩
     ·have:=Jq e1;exact this.symm
     ·have e2':(σ[j]?).join=some v:=Jq e2
      cases z:σ[j]? with
      | none=>rw [z] at e2';simp at e2'
      | some w=>
       rw [z] at e2';have:w=some v:=by simpa using e2'
       rw [this]
  obtain ⟨j,hj,hx,hσ⟩:=key
  have hu:=ok.used j hj
  rw [← hx] at hu
  have hm:=jt hu
  obtain ⟨m,hn,hl⟩:=I.loc
  have hjl:j<X.N.length:=by rw [← I.len];exact (Jv.mp hσ).1
  have hN:X.N[j]?=some x:=by
   rw [hx,Jd hjl]
   simp [List.getD,List.getElem?_eq_getElem hjl]
  have kx:=ok.free _ hm rfl
  obtain ⟨u,r,l⟩:=hl j x v hN hσ (.inr kx)
  refine ⟨u,r,.inr ⟨v5 hu,?_⟩⟩
  rcases l with ⟨hk,_⟩ | ⟨hk,c,hc,cell⟩
  ·have kx':X.env.kindOf x=some .cell∨X.env.kindOf x=some .free:=kx
   rw [hk] at kx'
   rcases kx' with z | z<;>cases z
  ·obtain ⟨c',hc'⟩:=has x _ hm rfl
   have:=sub x c' hc'
   rw [hc] at this;cases this
   obtain ⟨o,ho,hd⟩:=cell
   exact ⟨c,hc',o,keep _ _ ho,hd⟩
 ·obtain ⟨v,o,ho,hd⟩:=I.cell x c (sub x c e)
  exact ⟨v,o,keep _ _ ho,hd⟩
 ·show H C=none
  rw [hC];exact I.hok.fresh (Jm _)
 ·show (own.map (fun _=>none)++js.map fun j=>(σ[j]?).join).length=(own++js.map fun j=>X.N.getD j "").length
  simp
theorem zfd(I:Inv X pins σ H s)(hf:∀ b ∈ fp,vF X pins H b)(J:Inv (zb X own js scope C s H fp) p2 σ2 H2 s'):Inv X pins σ H2 s':=
 I.call' J.os J.base J.hok J.bare fun b hb=>⟨(hf b hb).2.2.2.1,(hf b hb).2.1,(hf b hb).2.2.2.2.1,(hf b hb).2.2.2.2.2⟩
end
noncomputable def PTs(X:Cx)(ifs:List Expr)(t:TT):Prop:=
 ∀ (pins:List (Addr × Obj)) (s:Shared) (σ:St) (H:Hp) (Q:Bool->Hp->Prop),Inv X pins σ H s->t σ H Q->
  wpAny (model X.prog X.w) X.A (forIn ifs true fun c r=>if r=true then do let ok ← isTrue c X.env (eval c X.env);pure (ForInStep.yield ok) else pure (ForInStep.yield r)) (TP X pins σ Q) X.xe s
noncomputable def zoC:TT:=fun _ H Q=>Q true H
theorem ziO:PTs X [] zoC:=fun _ _ _ H _ I h=>wpAny_tests_nil ⟨H,I,h⟩
theorem ziN(h:PT X c t):PTs X [c] t:=fun pins s σ H Q I hw=>wpAny_tests_one (h pins s σ H Q I hw)
theorem zfc{R:Result->Shared->Prop}(I:Nat->Shared->Prop)
  (turn:∀ n s,I n s->wpAny (model prog w) A (pyNext it) (fun r s₁=>match r with
   | none=>R (.ok .next) s₁
   | some v=>wpAny (model prog w) A (letOwnedTupleGo target it v) (fun _ s₁'=>wpAny (model prog w) A (assign target env v) (fun _ s₂=>
     wpAny (model prog w) A (forIn ifs true fun c r=>if r=true then do let ok ← isTrue c env (eval c env);pure (ForInStep.yield ok) else pure (ForInStep.yield r)) (fun ok s₃=>
      if ok=true then wpAny (model prog w) A (eval elt env) (fun x s₄=>
       wpAny (model prog w) A (call (.builtin "list.append") [acc,x]) (fun _ s₅=>∃ m,m<n/\I m s₅) (fun _ _=>False) s₄) (fun _ _=>False) s₃
      else ∃ m,m<n/\I m s₃) (fun _ _=>False) s₂) (fun _ _=>False) s₁') (fun _ _=>False) s₁) (fun _ _=>False) s)
  (n:Nat)(h:I n s):codeAny (model prog w) A (.compLoop (.ListComp elt [⟨target,iter,ifs,0⟩] scope pos) 0 it acc env) R s:=by
 refine codeAny_loop rfl I (fun n s hI=>?_) n h
 show wpAny _ A ((compTurn (.ListComp elt [⟨target,iter,ifs,0⟩] scope pos) 0 it acc env).onRaise (fun x=>do noteFrame x env;theTreesLotGoes x)) _ _ s
 refine wpAny_noted ?_
 rw [compTurn_list]
 refine wpAny_bind (wpAny_standAt (wpAny_bind (wpAny_mono (turn n s hI) (fun r s₁ h₁=>?_) fun _ _ h'=>h'.elim)))
 cases r with
 | none=>exact wpAny_pure h₁
 | some v=>
  refine wpAny_bind (wpAny_mono h₁ (fun _ s₁' h₁'=>?_) fun _ _ h'=>h'.elim)
  refine wpAny_bind (wpAny_mono h₁' (fun _ s₂ h₂=>wpAny_bind (wpAny_mono h₂ (fun ok s₃ h₃=>?_) fun _ _ h'=>h'.elim)) fun _ _ h'=>h'.elim)
  cases ok with
  | false=>exact wpAny_pure ⟨rfl,h₃⟩
  | true=>
   exact wpAny_bind (wpAny_bind (wpAny_mono h₃ (fun x s₄ h₄=>wpAny_bind (wpAny_mono h₄ (fun _ s₅ h₅=>wpAny_pure (wpAny_pure ⟨rfl,h₅⟩)) fun _ _ h'=>h'.elim)) fun _ _ h'=>h'.elim))
noncomputable def zmU(t:TT)(σ:St)(H:Hp)(Q:Bool->Hp->Prop):Prop:=t σ H Q
noncomputable def zmW(t:TE)(σ:St)(H:Hp)(Q:VK):Prop:=t σ H Q
noncomputable def zmV(g:TG)(v:V)(σ:St)(H:Hp)(Q:St->Hp->Prop):Prop:=g v σ H Q
noncomputable def zoc(Q:VK)(D:Addr)(H:Hp):Prop:=Q (.ref D) H
noncomputable def zfL(wi:TI)(own:List Str)(js:List Nat)(g:Addr->Shared->Hp->List Addr->TG)(tt:Addr->Shared->Hp->List Addr->TT)(te:Addr->Shared->Hp->List Addr->TE):TE:=fun σ H Q=>wi σ H fun J H1=>∀ C s₀ H₀ fp D,H1 D=none->
 ∃ W:Nat->Nat->St->Hp->Prop,(∃ m,W 0 m (cS own js σ) (upd H1 D (.lst [])))/\∀ i m σ1 H2,W i m σ1 H2->
  (J.stop i H2/\zoc Q D H2)∨(J.go i H2/\∀ x H3,J.yld i H2 x H3->zmV (g C s₀ H₀ fp) x σ1 H3 fun σ2 H4=>zmU (tt C s₀ H₀ fp) σ2 H4 fun b H5=>
   if b=true then zmW (te C s₀ H₀ fp) σ2 H5 fun y H6=>∃ ys,H6 D=some (.lst ys)/\ys.length<sizeLine/\∃ m',m'<m/\W (i+1) m' σ2 (upd H6 D (.lst (ys++[y]))) else ∃ m',m'<m/\W (i+1) m' σ2 H5)
section
variable {X:Cx} {own:List Str} {js:List Nat} {scope:Scope} {tg elt iter:Expr} {ifs:List Expr} {pos:Pos} {g:Addr->Shared->Hp->List Addr->TG} {tt:Addr->Shared->Hp->List Addr->TT} {te:Addr->Shared->Hp->List Addr->TE}
theorem kJ{H1:Hp}{s2:Shared}{tn:Nat->Heap->Prop}{J:It}{RR:Value->Addr->Result->Shared->Prop}{Qv:V->Hp->Prop}
  (hc:X.calm=true)(ok:CompOk js scope X.env.kindOf X.N)(hg:∀ C s₀ H₀ fp,PG (zb X own js scope C s₀ H₀ fp) tg (g C s₀ H₀ fp))(ht:∀ C s₀ H₀ fp,PTs (zb X own js scope C s₀ H₀ fp) ifs (tt C s₀ H₀ fp))(he:∀ C s₀ H₀ fp,PE (zb X own js scope C s₀ H₀ fp) elt (te C s₀ H₀ fp))
  (I:Inv X pins σ H1 s2)(T:Turn X.prog X.w X.K tg J fp it tn)(st:tn 0 s2.heap)(hf:∀ b ∈ fp,vF X pins H1 b)
  (h:∀ C s₀ H₀ fp D,H1 D=none->∃ W:Nat->Nat->St->Hp->Prop,(∃ m,W 0 m (cS own js σ) (upd H1 D (.lst [])))/\∀ i m σ1 H2,W i m σ1 H2->
   (J.stop i H2/\zoc Qv D H2)∨(J.go i H2/\∀ x H3,J.yld i H2 x H3->zmV (g C s₀ H₀ fp) x σ1 H3 fun σ2 H4=>zmU (tt C s₀ H₀ fp) σ2 H4 fun b H5=>
    if b=true then zmW (te C s₀ H₀ fp) σ2 H5 fun y H6=>∃ ys,H6 D=some (.lst ys)/\ys.length<sizeLine/\∃ m',m'<m/\W (i+1) m' σ2 (upd H6 D (.lst (ys++[y]))) else ∃ m',m'<m/\W (i+1) m' σ2 H5))
  (hRR:∀ D C H2 s' oC m,s'.heap.get? C=some oC->s'.heap.Ns C m->(∀ v,oC.data≠.cell v)->vF X pins H2 C->Inv X pins σ H2 s'->Qv (.ref D) H2->RR (.ref D) C (.ok .next) s'):
  wpAny (model X.prog X.w) X.A (newList []) (fun acc s₃=>wpAny (model X.prog X.w) X.A (newFunctionEnv scope X.env.globals (zcD scope X.env.cells) [] X.env.qual none .none (some X.env)) (fun cenv s₄=>
   codeAny (model X.prog X.w) X.A (.compStart (.ListComp elt [⟨tg,iter,ifs,0⟩] scope pos) 0 (.ref it) acc { cenv with scope:=relabel scope X.env }) (RR acc cenv.locals) s₄) E s₃) E s2:=by
 refine wpAny_newObj_type (wpAny_newFunctionEnv ok.nocell (by intro y hy;simp at hy) (fun h₁ hns₁ hsb₁=>?_) ok.kind)
 dsimp only at hns₁ hsb₁ ⊢
 have hD:H1 s2.heap.objs.size=none:=I.hok.fresh (Jm _)
 have I3:Inv X pins σ (upd H1 s2.heap.objs.size (.lst [])) { s2 with heap:=s2.heap.push { cls:=.type "list",dict:=none,data:=.seq ([]:List Value).toArray } }:=
  I.laid (t':=s2.toks) (fun b u e=>Jb _ e) (Jm _) ⟨Kq _,[],0,.nil,Jl _ rfl⟩
 have hlt2:∀ b ∈ fp,b<s2.heap.objs.size:=fun b hb=>let ⟨o,e,_⟩:=T.obj 0 _ st b hb;Ji e
 generalize hH2:s2.heap.push { cls:=.type "list",dict:=none,data:=.seq ([]:List Value).toArray }=heap2 at hns₁ hsb₁ I3 ⊢
 have sz2:heap2.objs.size=s2.heap.objs.size+1:=by rw [← hH2,KF]
 have keep12:∀ b o,s2.heap.get? b=some o->heap2.get? b=some o:=fun b o e=>hH2 ▸ Jb _ e
 have keep:∀ b o,heap2.get? b=some o->h₁.get? b=some o:=fun b o e=>hsb₁.extBut b o (Jx (Ji e)) (Jb _ e)
 have hf3:∀ b ∈ fp,vF X pins (upd H1 s2.heap.objs.size (.lst [])) b:=fun b hb=>⟨by rw [zM (Jx (hlt2 b hb))];exact (hf b hb).1,(hf b hb).2⟩
 have hlt3:∀ b ∈ fp,b<heap2.objs.size:=fun b hb=>by rw [sz2];exact Ky (hlt2 b hb)
 generalize hDd:s2.heap.objs.size=D at *
 have I4:=zcA (own:=own) (js:=js) (t:=s2.toks+([]:List (Str × Value)).length) ok I3 rfl hns₁ keep hf3 hlt3
 have st4:tn 0 h₁:=T.keep 0 _ _ st fun b _ o e=>keep b o (keep12 b o e)
 obtain ⟨W,⟨m0,w0⟩,turn⟩:=h heap2.objs.size { s2 with heap:=heap2 } (upd H1 D (.lst [])) fp D hD
 -- facts about the block's frame
 have hXl:X.env.locals<heap2.objs.size:=I3.lt
 have loop:∀ s₃:Shared,s₃={ s2 with heap:=h₁,toks:=s2.toks+([]:List (Str × Value)).length }->
   codeAny (model X.prog X.w) X.A (.compLoop (.ListComp elt [⟨tg,iter,ifs,0⟩] scope pos) 0 (.ref it) (.ref D) (compEnvC scope (zcD scope X.env.cells) heap2.objs.size X.env)) (RR (.ref D) heap2.objs.size) s₃:=by
  rintro s₃ rfl
  generalize hXX:zb X own js scope heap2.objs.size { s2 with heap:=heap2 } (upd H1 D (.lst [])) fp=X' at I4
  have eP:X'.prog=X.prog:=by rw [← hXX];rfl
  have eW:X'.w=X.w:=by rw [← hXX];rfl
  have eK:X'.K=X.K:=by rw [← hXX];rfl
  have eA:X'.A=X.A:=by rw [← hXX];rfl
  have eC:X'.calm=true:=by rw [← hXX];exact hc
  have eE:X'.env=compEnvC scope (zcD scope X.env.cells) heap2.objs.size X.env:=by rw [← hXX];rfl
  have eL:X'.env.locals=heap2.objs.size:=by rw [← hXX];rfl
  have eX:X'.xe=fun _ _=>False:=by rw [← hXX];rfl
  have eex:X'.ex=fp:=by rw [← hXX];rfl
  have epn:X'.pn=[]:=by rw [← hXX];rfl
  have efs:X'.fs=frs X.stack:=by rw [← hXX];rfl
  have ecl:X'.env.cells=zcD scope X.env.cells:=by rw [← hXX];rfl
  have sub:=zcC (cells:=X.env.cells) scope.names [] (by simp)
  have stat:∀ {H':Hp},(∀ b ∈ fp,H' b=none)->∀ b ∈ fp,vF X' [] H' b:=fun {H'} hn b hb=>by
   refine ⟨hn b hb,by rw [eL];exact Jx (hlt3 b hb),?_,.inl (by rw [eex];exact hb),fun x c hc=>?_,fun p hp=>?_⟩
   ·rw [efs]
    intro hb2
    rcases List.mem_cons.mp (I3.stkSub b hb2) with e | e
    ·exact (hf3 b hb).2.1 e
    ·exact (hf3 b hb).2.2.1 e
   ·rw [ecl] at hc
    exact (hf3 b hb).2.2.2.2.1 x c (sub x c hc)
   ·rw [epn] at hp;exact nomatch hp
  have hg':=hg heap2.objs.size { s2 with heap:=heap2 } (upd H1 D (.lst [])) fp
  have ht':=ht heap2.objs.size { s2 with heap:=heap2 } (upd H1 D (.lst [])) fp
  have he':=he heap2.objs.size { s2 with heap:=heap2 } (upd H1 D (.lst [])) fp
  rw [hXX] at hg' ht' he'
  rw [← eE]
  refine zfc (fun n s'=>∃ i σ' H',Inv X' [] σ' H' s'/\tn i s'.heap/\(∀ b ∈ fp,H' b=none)/\W i n σ' H') ?_ m0 ⟨0,_,_,I4,st4,fun b hb=>(hf3 b hb).1,w0⟩
  rintro n s3 ⟨i,σ3,H3,I3',st3,fr3,w3⟩
  rcases turn i n σ3 H3 w3 with ⟨stop,qn⟩ | ⟨go,step⟩
  ·have:=T.done X' eP eW eK eC i [] s3 σ3 H3 (fun _ _=>False) I3' (stat fr3) st3 stop
   rw [eA] at this
   refine thn this fun r s4 ⟨hr,I5⟩=>?_
   subst hr
   obtain ⟨m,hn,_⟩:=I5.loc
   obtain ⟨oC,es,ep,hoC,hd,_⟩:=id hn
   rw [eL] at hoC hn
   have hback:Inv X pins σ H3 s4:=zfd I3 hf3 (hXX ▸ I5)
   refine hRR _ _ H3 s4 oC m hoC hn (fun v z=>by rw [hd] at z;cases z) ?_ hback qn
   have hfree:H3 heap2.objs.size=none:=by have:=I5.free;rw [eL] at this;exact this
   refine ⟨hfree,Ku hXl,I3.nofs (Jm _),.inr I3.sz,fun x c e z=>?_,fun p hp z=>?_⟩
   ·obtain ⟨v,q⟩:=I3.cell x c e
    exact absurd q.lt (by rw [z];exact KM _)
   ·exact absurd (Ji (I3.pin p hp).1) (by rw [z];exact KM _)
  ·have:=T.item X' eP eW eK eC i [] s3 σ3 H3 (fun _ _=>False) I3' (stat fr3) st3 go
   rw [eA] at this
   refine thn this fun r s4 ⟨u,hr,h4⟩=>?_
   subst hr
   refine thn h4 fun _ s5 ⟨x,H5,I5,r5,y5,st5,fr5⟩=>?_
   have I5':=I5.pinned (stat fr5) (T.obj _ _ st5)
   have h6:=hg' _ s5 σ3 H5 x u _ I5' r5 (step x H5 y5)
   rw [eP,eW,eA,eX] at h6
   refine thn h6 fun _ s6 ⟨σ6,H6,I6,q6⟩=>?_
   have h7:=ht' _ s6 σ6 H6 _ I6 q6
   rw [eP,eW,eA,eX] at h7
   refine thn h7 fun b s7 ⟨H7,I7,q7⟩=>?_
   have again:∀ {s8:Shared} {H8:Hp},Inv X' ([]++jd fp s5.heap) σ6 H8 s8->(∃ m',m'<n/\W (i+1) m' σ6 H8)->∃ m,m<n/\∃ i σ' H',Inv X' [] σ' H' s8/\tn i s8.heap/\(∀ b ∈ fp,H' b=none)/\W i m σ' H':=fun {s8 H8} I8 ⟨m',hm,w8⟩=>by
    refine ⟨m',hm,i+1,σ6,H8,I8.unpinned,T.keep _ _ _ st5 fun b hb o e=>(I8.pin (b,o) (Jn _ (Jn _ (xz hb e)))).1,fun b hb=>?_,w8⟩
    obtain ⟨o,e,d⟩:=T.obj _ _ st5 b hb
    exact (I8.pin (b,o) (Jn _ (Jn _ (xz hb e)))).2.1
   cases b with
   | false=>exact again I7 q7
   | true=>
    have h8:=he' _ s7 σ6 H7 _ I7 q7
    rw [eP,eW,eA,eX] at h8
    refine thn h8 fun v s8 ⟨y,H8,I8,r8,ys,hys,hz,q8⟩=>?_
    have h9:=uc (X:=X') _ s8 σ6 H8 (.ref D) [y] (.ref D) [v] (fun _ H9=>H9=upd H8 D (.lst (ys++[y]))) I8 rfl (.cons r8 .nil) ⟨D,ys,y,rfl,rfl,hys,hz,rfl⟩
    rw [eP,eW,eA,eX] at h9
    refine thn h9 fun _ s9 ⟨v9,H9,I9,r9,e9⟩=>?_
    subst e9
    exact again I9 q8
 exact codeAny_compStart_list (loop _ rfl) (T.self _ 0 _ _ _ st4 (loop _ rfl))
theorem zni(hc:X.calm=true)(hi:PI X tg iter wi)(hg:∀ C s₀ H₀ fp,PG (zb X own js scope C s₀ H₀ fp) tg (g C s₀ H₀ fp))(ht:∀ C s₀ H₀ fp,PTs (zb X own js scope C s₀ H₀ fp) ifs (tt C s₀ H₀ fp))(he:∀ C s₀ H₀ fp,PE (zb X own js scope C s₀ H₀ fp) elt (te C s₀ H₀ fp))
  (ok:u7 js scope X.env.kindOf X.N=true:=by first | rfl | decide +kernel)(hs:∀ x,foldedSetIterable iter X.env x=pure x:=by intro _;rfl):
  PE X (.ListComp elt [⟨tg,iter,ifs,0⟩] scope pos) (zfL wi own js g tt te):=by
 intro pins s σ H Q I h
 have ok:=qF ok
 rw [eval_ListComp]
 refine wpAny_comprehension_free (use:=none) rfl hs (kL fun y hy e=>I.ok.has _ (ok.free y hy e)) ok.kind ok.loc (thn (hi pins s σ H _ I h) fun v s1 h1=>thn h1 fun itv s2 h2=>?_)
 obtain ⟨it,fp,tn,J,H2,e,I2,T,st2,f2,q⟩:=h2
 subst e
 refine kJ (RR:=fun acc C=>compPost (model X.prog X.w) X.A X.xe none (EP X pins σ Q) acc C) hc ok hg ht he I2 T st2 f2 q ?_
 intro D C H3 s' oC m hoC hn hd hfp I' q'
 refine ⟨m,hn,fun h' hs'=>⟨.ref D,H3,?_,rfl,q'⟩⟩
 exact I'.turned (t':=s'.toks) (fun b o hb e=>(hs'.2 b hb).trans e) hfp.1 hfp.2.1 hfp.2.2.2.1 hfp.2.2.2.2.1 hfp.2.2.2.2.2
theorem ziP{py spos:Pos}(hN:X.N.Nodup)(hi':X.N[i]?=some y)(hx:Loc X.env.scope y)(hc:X.calm=true)(hi:PI X tg iter wi)(hg:∀ C s₀ H₀ fp,PG (zb X own js scope C s₀ H₀ fp) tg (g C s₀ H₀ fp))
  (ht:∀ C s₀ H₀ fp,PTs (zb X own js scope C s₀ H₀ fp) ifs (tt C s₀ H₀ fp))(he:∀ C s₀ H₀ fp,PE (zb X own js scope C s₀ H₀ fp) elt (te C s₀ H₀ fp))
  (ok:u7 js scope X.env.kindOf X.N=true:=by first | rfl | decide +kernel)(hs:∀ x,foldedSetIterable iter X.env x=pure x:=by intro _;rfl)
  (hsw:swapsWith (.ListComp elt [⟨tg,iter,ifs,0⟩] scope pos) (some (.Name y py)) spos.line X.env=pure true:=by rfl)(hf:X.fn y=true∨X.env.scope.names.lookup y=some .local:=by first | exact .inl rfl | exact .inr rfl | assumption):
  PS X (.Assign [.Name y py] (.ListComp elt [⟨tg,iter,ifs,0⟩] scope pos) spos) (vp (zfL wi own js g tt te) (wd i)):=by
 intro pins s σ H D I h
 have ok:=qF ok
 rw [exec_Assign_Name_used _ _ _ _ hsw]
 refine wpAny_bind (wpAny_standAt (wpAny_bind ?_))
 show wpAny _ X.A (do let _ ← comprehension (.ListComp elt [⟨tg,iter,ifs,0⟩] scope pos) scope X.env _ (newList []) false (eval iter X.env) (some (assign (.Name y py) X.env))) _ _ s
 refine wpAny_bind (wpAny_mono (wpAny_comprehension_free (use:=some (assign (.Name y py) X.env)) (Q:=fun _ s'=>SP X pins D .next s') rfl hs (kL fun y hy e=>I.ok.has _ (ok.free y hy e)) ok.kind ok.loc (thn (hi pins s σ H _ I h) fun v s1 h1=>thn h1 fun itv s2 h2=>?_))
  (fun _ s' hq=>wpAny_pure (wpAny_pure hq)) fun _ _ e=>e)
 obtain ⟨it,fp,tn,J,H2,e,I2,T,st2,f2,q⟩:=h2
 subst e
 refine kJ (Qv:=fun x H1=>wd i x σ H1 D.nx) (RR:=fun acc C=>compPost (model X.prog X.w) X.A X.xe (some (assign (.Name y py) X.env)) (fun _ s'=>SP X pins D .next s') acc C) hc ok hg ht he I2 T st2 f2 q ?_
 intro Da C H3 s' oC m hoC hn hd hfp I' q'
 have I'':Inv X (pins++[(C,oC)]) σ H3 s':=I'.pins_of fun p hp=>(JK.mp hp).elim (fun z=>I'.pin p (Jn _ z)) fun z=>by
  rw [Jh.mp z]
  exact ⟨hoC,hfp.1,hfp.2.1,hfp.2.2.1,hd⟩
 refine thn (zdh (pos:=py) hN hi' hx hf _ s' σ H3 (.ref Da) (.ref Da) _ I'' rfl q') fun _ s'' ⟨σ4,H4,I4,q4⟩=>?_
 have hC4:=I4.pin (C,oC) (Jn _ (Jn _ Jc))
 refine ⟨m,hn.at' fun o e=>?_,fun h' hs'=>⟨σ4,H4,?_,q4⟩⟩
 ·rw [hoC] at e;cases e;exact hC4.1
 ·have I5:Inv X pins σ4 H4 s'':=I4.unpinned
  exact I5.turned (t':=s''.toks) (fun b o hb e=>(hs'.2 b hb).trans e) hC4.2.1 hfp.2.1 hfp.2.2.2.1 hfp.2.2.2.2.1 hfp.2.2.2.2.2
end
structure Fn (P:Program) (w:World) (K:PySem.W.Frag) (mg:Str->Option Value) (base:Heap) (x:Str) (k:Nat) (ps:List Str) (sp:Sp):Prop where
 ex:∃ f fd,FnOk P w K mg base CX0 k f fd ps sp/\mg x=some (.ref f)/\PySem.W.keepIn K (.ref f)=true/\Binds K fd ps []
theorem znj{X:Cx}(F:Fn X.prog X.w X.K X.mg X.base x k ps sp)(hr:Room k X.A)(hg:Gl X x)(ha:PA X (e::es) t)
  (hdb:(x == ("__debug__":Str))=false:=by decide)(he:starEach (e::es) X.env=(false,eval e X.env)::starEach es X.env:=by rfl)(hpl:(backTo pos (starEach es X.env)).any (·.1)=false:=by rfl):
  PE X (.Call (.Name x p) (e::es) [] pos) (zcW sp [] E0 t):=by
 obtain ⟨f,fd,F,hm,hk,hb⟩:=F.ex
 exact ziX F hr hg hm hk hb .nil zjU ha hdb he hpl
section
variable {prog:Program} {w:World} {A:Around} {E:Value->Shared->Prop} {s:Shared}
theorem qE{it t:Addr}{items:Array Value}(hne:t≠it):∀ (n i:Nat) (s:Shared) (Q:List Value->Shared->Prop),s.heap.IsListIter it t i->s.heap.IsList t items->i+n≤items.size->
  (∀ h',h'.IsListIter it t (i+n)->Heap.SameBut it s.heap h'->Q ((items.toList.drop i).take n) { s with heap:=h' })->wpAny (model prog w) A (draw (.ref it) n) Q E s
 | 0,i,s,Q,hit,_,_,hQ=>by
  show wpAny _ _ (pure []) Q E s
  exact wpAny_pure (by simpa using hQ s.heap hit (Heap.SameBut.refl ..))
 | n+1,i,s,Q,hit,ht,hle,hQ=>by
  have hlt:i<items.size:=by omega
  show wpAny _ _ (pyNext (.ref it) >>= _) Q E s
  refine wpAny_bind (wpAny_pyNext_list_item hit ht (x:=items[i]) (by simp [hlt]) fun h₁ hit₁ hs₁=>?_)
  refine wpAny_bind (wpAny_holding (qE hne n (i+1) _ _ hit₁ (ht.extBut hs₁.extBut hne) (by omega) fun h₂ hit₂ hs₂=>wpAny_pure ?_))
  have hd:items.toList.drop i=items[i]::items.toList.drop (i+1):=by simp [List.drop_eq_getElem_cons,hlt]
  have:=hQ h₂ (by rw [show i+(n+1)=i+1+n by omega];exact hit₂) (hs₁.trans hs₂)
  rw [hd,List.take_succ_cons] at this
  exact this
theorem ua{items:Array Value}{Q:List Value->Shared->Prop}(hh:A.handled=none)(ht:s.heap.IsList t items)
  (hQ:∀ h',Heap.ExtBut s.heap.objs.size s.heap h'->Q items.toList { s with heap:=h' }):wpAny (model prog w) A (unpackItems (.ref t) items.size none) Q E s:=by
 have hlt:t≠s.heap.objs.size:=by obtain ⟨o,ho,_⟩:=ht;exact Jx (Ji ho)
 unfold unpackItems
 refine wpAny_bind ?_
 ·unfold notIterableAtAll
  refine wpAny_bind (wpAny_specialOf ht.typeIs slot_list_iter.lookup ?_)
  refine wpAny_pure ?_
  simp only [Bool.false_eq_true,if_false]
  refine wpAny_bind (wpAny_holding (wpAny_pyIter_list ht ?_))
  have hpush:(s.heap.push { cls:=.type "list_iterator",data:=.fields #[.ref t,.int 0 0] }).IsList t items:=by
   obtain ⟨o,ho,r⟩:=ht
   exact ⟨o,Jb _ ho,r⟩
  refine wpAny_bind (wpAny_holding (qE hlt items.size 0 _ _ ⟨_,Jl _ rfl,rfl,rfl⟩ hpush (by omega) fun h₁ hit₁ hs₁=>?_))
  have hall:List.take items.size (List.drop 0 items.toList)=items.toList:=by
   rw [List.drop_zero];exact List.take_of_length_le (by simp)
  rw [hall]
  rw [if_neg (by simp)]
  have ht₁:h₁.IsList t items:=hpush.extBut hs₁.extBut hlt
  refine wpAny_bind (wpAny_holding (wpAny_pyNext_list_end hh hit₁ ht₁ (by simp) fun h₂ he₂=>?_))
  simp only [Option.isSome_none,Bool.false_eq_true,if_false]
  refine wpAny_pure (hQ h₂ fun b o hb e=>he₂ b o hb (hs₁.extBut b o hb (Jb _ e)))
theorem uU{x1}{items:Array Value}(hh:A.handled=none)(ht:s.heap.IsList t items)
  (hn:(assignEach elts env).length=items.size)(hstar:(assignEach elts env).findIdx? (·.1)=none)
  (h:∀ h',Heap.ExtBut s.heap.objs.size s.heap h'->wpAny (model prog w) A (assignInOrder ((assignEach elts env).map (·.2)) items.toList) Q E { s with heap:=h' }):
  wpAny (model prog w) A (assign (.Tuple elts x1 pos) env (.ref t)) Q E s:=by
 rw [assign_Tuple]
 refine wpAny_bind (wpAny_standAt ?_)
 unfold unpack
 rw [hn,hstar]
 exact wpAny_bind (wpAny_holding (ua hh ht h))
end
section
variable {X:Cx} {pos:Pos}
noncomputable def zpd(K:PySem.W.Frag)(n:Nat)(t:TGs):TG:=fun v σ H Q=>∃ a xs,v=.ref a/\SqL K H a xs/\xs.length=n/\t xs σ H Q
theorem zlg(hc:X.calm=true)(h:PGs X es t)
  (hn:(assignEach es X.env).length=n:=by rfl)(hst:(assignEach es X.env).findIdx? (·.1)=none:=by rfl):PG X (.Tuple es k pos) (zpd X.K n t):=by
 intro pins s σ H v u Q I r hw
 obtain ⟨a,xs,e1,hq,hl,hw⟩:=hw
 subst e1
 cases r
 obtain ⟨its,rv,ht,hz⟩:=I.list hq
 refine uU (I.ok.hd hc) ht.isList (by simp [hn,← hl,rv.length]) hst fun h' hx=>?_
 have I1:Inv X pins σ H { s with heap:=h' }:=I.kept (t':=s.toks) fun b o e=>hx b o (Nat.ne_of_lt (Heap.lt_size e)) e
 exact h pins _ σ H xs _ Q I1 (by simpa using rv) hw
end
section
variable {prog:Program} {w:World} {A:Around} {E:Value->Shared->Prop} {s:Shared}
theorem vE{t sl:Addr}{items:Array Value}{vl vu:Value}{lo hi:Option Int}{Q:Value->Shared->Prop}(ht:IsTup s.heap t items)(hs:s.heap.IsSliceOf sl vl vu .none)(pl:IsPart vl lo)(pu:IsPart vu hi)
  (hw:HT.sIx items.size 0 lo=0/\HT.sIx items.size items.size hi=items.size)(h:Q (.ref t) s):wpAny (model prog w) A (getItem (.ref t) (.ref sl)) Q E s:=by
 obtain ⟨os,hos,hcs,hds⟩:=id hs
 have hTs:s.TypeIs (.ref sl) "slice":=⟨os,hos,hcs⟩
 unfold getItem
 try with_reducible refine wpAny_holding ?_
 first | refine wpAny_bind (wpAny_pure ?_) | skip
 refine wpAny_bind (wpAny_sequenceKey ht.typeIs (by decide) ?_)
 refine wpAny_bind (wpAny_callSpecial?_slot (name:=Str.ofString "__getitem__") ht.typeIs KS
  (wpAny_call_entry KS ht.typeIs entry_tuple_getitem ?_ (args_tuple_getitem _ _)))
 show wpAny _ _ (Builtin.Tuple.tupleItemsOf (.ref t) >>= _) _ _ s
 refine wpAny_bind (tupleItemsOf_ ht ?_)
 refine wpAny_bind (wpAny_typeOf hTs ?_)
 rw [if_pos (by decide)]
 refine wpAny_bind (HT.sliceApplied_gen hs pl pu ?_)
 have hyes:(((HT.sIx items.size 0 lo:Nat):Int) == 0 && (1:Int) == 1 && (HT.sIx items.size items.size hi - HT.sIx items.size 0 lo) == items.size)=true:=by
  rw [hw.1,hw.2];simp
 show wpAny _ _ (if (((HT.sIx items.size 0 lo:Nat):Int) == 0 && (1:Int) == 1 && (HT.sIx items.size items.size hi - HT.sIx items.size 0 lo) == items.size)=true then _ else _) _ _ s
 rw [if_pos hyes]
 refine wpAny_bind ?_
 unfold Builtin.Tuple.tupleIsExact
 refine wpAny_bind (wpAny_typeOf ht.typeIs (wpAny_pure ?_))
 rw [if_pos (by decide)]
 first
  | exact wpAny_bind (wpAny_rule (wpAny_pure ⟨_,rfl,wpAny_pure h⟩))
  | exact wpAny_bind (wpAny_rule (wpAny_bind (wpAny_pure (wpAny_pure ⟨_,rfl,wpAny_pure h⟩))))
  | exact wpAny_bind (wpAny_rule (wpAny_bind (wpAny_pure ⟨_,rfl,wpAny_pure h⟩)))
end
section
variable {X:Cx}
noncomputable def zmY(K:PySem.W.Frag):V->Option Int->Option Int->Hp->VK->Prop:=fun x lo hi H Q=>∃ a xs,x=.ref a/\SqT K H a xs/\(kH xs lo hi=xs->Q (.ref a) H)/\∀ p,H p=none->Q (.ref p) (upd H p (.tup (kH xs lo hi)))
theorem ziE:SlR X (zmY X.K):=by
 intro pins s σ H x v vl vu lo hi sl Q I rx hs pl pu h
 obtain ⟨a,xs,rfl,hx,q1,q2⟩:=h
 by_cases hw:HT.sIx xs.length 0 lo=0/\HT.sIx xs.length xs.length hi=xs.length
 ·cases rx
  obtain ⟨its,r,ht,hz⟩:=I.tuple hx
  have hlen:its.toArray.size=xs.length:=by rw [Jy];exact r.length.symm
  refine ⟨"tuple",_,PyProof.Rows.slot_tuple_getitem.lookup,ht.typeIs,?_⟩
  refine vE ht hs pl pu (by rw [hlen];exact hw) ⟨.ref a,H,I,rfl,q1 ?_⟩
  unfold kH
  rw [hw.1,hw.2]
  simp
 ·exact zkL pins s σ H _ v vl vu lo hi sl Q I rx hs pl pu ⟨a,xs,rfl,hx,hw,q2⟩
theorem zcM:∀ {ns:List String} {us:List Value},Vals (ns.map V.ty) us->us=ns.map Value.type
 | [],_,h=>by cases h;rfl
 | n::ns,_,h=>by
  cases h with
  | cons r t=>cases r;rw [zcM t];rfl
theorem op_mulB:OpR X (binaryOp .Mult) (rI IntMulOk fun i j=>.int (i * j)):=opI fun _ _ _ _ _ _ _ hc q=>mul_int q hc
theorem je(hu:X.A.units+1<cLine):OpR X (compareOp .In) (fun x y H Q=>∃ a o,y=.ref a/\DGet H a x o/\Q (.bl o.isSome) H):=by
 intro pins s σ H x y v u Q I rx ry h
 obtain ⟨a,o,rfl,g,q⟩:=h
 cases ry
 exact zph hu I g rx fun s' I'=>⟨.bl _,H,I',rfl,q⟩
theorem kW(hu:X.A.units+1<cLine):OpR X (compareOp .NotIn) (fun x y H Q=>∃ a o,y=.ref a/\DGet H a x o/\Q (.bl (!o.isSome)) H):=by
 intro pins s σ H x y v u Q I rx ry h
 obtain ⟨a,o,rfl,g,q⟩:=h
 cases ry
 exact zjE hu I g rx fun s' I'=>⟨.bl _,H,I',rfl,q⟩
noncomputable def zjI(K:PySem.W.Frag)(H:Hp)(y x:V)(b:Bool):Prop:=
 (∃ p xs,y=.ref p/\(SqL K H p xs∨SqT K H p xs)/\wI x=true/\xs.all wI=true/\b=inV x xs)∨∃ a o,y=.ref a/\DGet H a x o/\b=o.isSome
theorem zew(hu:X.A.units+1<cLine):OpR X (compareOp .In) (fun x y H Q=>∃ b,zjI X.K H y x b/\Q (.bl b) H):=by
 intro pins s σ H x y v u Q I rx ry h
 obtain ⟨b,h | h,q⟩:=h
 ·obtain ⟨p,xs,rfl,h1,h2,h3,rfl⟩:=h
  exact zev pins s σ H x _ v u Q I rx ry ⟨p,xs,rfl,h1,h2,h3,q⟩
 ·obtain ⟨a,o,rfl,h1,rfl⟩:=h
  exact je hu pins s σ H x _ v u Q I rx ry ⟨a,o,rfl,h1,q⟩
theorem qg(hu:X.A.units+1<cLine):OpR X (compareOp .NotIn) (fun x y H Q=>∃ b,zjI X.K H y x b/\Q (.bl (!b)) H):=by
 intro pins s σ H x y v u Q I rx ry h
 obtain ⟨b,h | h,q⟩:=h
 ·obtain ⟨p,xs,rfl,h1,h2,h3,rfl⟩:=h
  exact qf pins s σ H x _ v u Q I rx ry ⟨p,xs,rfl,h1,h2,h3,q⟩
 ·obtain ⟨a,o,rfl,h1,rfl⟩:=h
  exact kW hu pins s σ H x _ v u Q I rx ry ⟨a,o,rfl,h1,q⟩
end
mutual
inductive Rep (K:PySem.W.Frag) (H:Hp):V->PyData->Prop
 | non:Rep K H .non .none
 | bl (b:Bool):Rep K H (.bl b) (.bool b)
 | int (i:Int):Rep K H (.int i) (.int i)
 | str (x:Str):Rep K H (.str x) (.str x)
 | list {a:Addr} {xs:List V} {ds:List PyData}:SqL K H a xs->Reps K H xs ds->Rep K H (.ref a) (.list ds)
 | tuple {a:Addr} {xs:List V} {ds:List PyData}:SqT K H a xs->Reps K H xs ds->Rep K H (.ref a) (.tuple ds)
inductive Reps (K:PySem.W.Frag) (H:Hp):List V->List PyData->Prop
 | nil:Reps K H [] []
 | cons {x:V} {d:PyData} {xs:List V} {ds:List PyData}:Rep K H x d->Reps K H xs ds->Reps K H (x::xs) (d::ds)
end
theorem Same.tup{K:PySem.W.Frag}{H H':Hp}{a:Addr}{xs:List V}(e:Same H H')(h:SqT K H a xs):SqT K H' a xs:=by
 rcases h with (h | ⟨o,h⟩) | h
 ·exact .inl (.inl (e _ _ h))
 ·exact .inl (.inr ⟨o,e _ _ h⟩)
 ·exact .inr h
mutual
theorem Rep.same{K:PySem.W.Frag}{H H':Hp}(e:Same H H'):∀ {x:V} {d:PyData},Rep K H x d->Rep K H' x d
 | _,_,.non=>.non
 | _,_,.bl b=>.bl b
 | _,_,.int i=>.int i
 | _,_,.str x=>.str x
 | _,_,.list h r=>.list (e.seq h) (Reps.same e r)
 | _,_,.tuple h r=>.tuple (e.tup h) (Reps.same e r)
theorem Reps.same{K:PySem.W.Frag}{H H':Hp}(e:Same H H'):∀ {xs:List V} {ds:List PyData},Reps K H xs ds->Reps K H' xs ds
 | _,_,.nil=>.nil
 | _,_,.cons h t=>.cons (Rep.same e h) (Reps.same e t)
end
mutual
theorem Rep.reads{X:Cx}{pins:List (Addr × Obj)}{σ:St}{H:Hp}{s:Shared}(I:Inv X pins σ H s):∀ {x:V} {d:PyData} {u:Value},Rep X.K H x d->RelV x u->∃ as,Reads s.heap u d as
 | _,_,_,.non,r=>by cases r;exact ⟨_,.none⟩
 | _,_,_,.bl b,r=>by cases r;exact ⟨_,.bool b⟩
 | _,_,_,.int i,r=>by obtain ⟨t,rfl⟩:=r;exact ⟨_,.int i t⟩
 | _,_,_,.str x,r=>by obtain ⟨t,rfl⟩:=r;exact ⟨_,.str x t⟩
 | _,_,_,.list h q,r=>by
  cases r
  obtain ⟨its,rv,⟨o,n,e,c,d,hd⟩,hz⟩:=I.list h
  obtain ⟨as,ra⟩:=Reps.reads I q rv
  exact ⟨_,.list e c hd (by simpa using ra)⟩
 | _,_,_,.tuple h q,r=>by
  cases r
  obtain ⟨its,rv,⟨o,e,c,n,hd⟩,hz⟩:=I.tuple h
  obtain ⟨as,ra⟩:=Reps.reads I q rv
  exact ⟨_,.tuple e c hd (by simpa using ra)⟩
theorem Reps.reads{X:Cx}{pins:List (Addr × Obj)}{σ:St}{H:Hp}{s:Shared}(I:Inv X pins σ H s):∀ {xs:List V} {ds:List PyData} {us:List Value},Reps X.K H xs ds->Vals xs us->∃ as,ReadsAll s.heap us ds as
 | _,_,_,.nil,r=>by cases r;exact ⟨_,.nil⟩
 | _,_,_,.cons h t,r=>by
  cases r with
  | cons r1 r2=>
   obtain ⟨as,ra⟩:=Rep.reads I h r1
   obtain ⟨bs,rb⟩:=Reps.reads I t r2
   exact ⟨_,.cons ra rb⟩
end
section
variable {X:Cx}
open PySem.SeqAt in
theorem zlD(hu:X.A.units+64<cLine):OpR X (compareOp .Eq) (fun x y H Q=>∃ d e,Rep X.K H x d/\Rep X.K H y e/\d.canLay0=true/\e.canLay0=true/\d.depth≤64/\Q (.bl (PyData.eqv d e)) H):=by
 intro pins s σ H x y v u Q I rx ry h
 obtain ⟨d,e,hd,he,h1,h2,h3,q⟩:=h
 obtain ⟨as,ra⟩:=hd.reads I rx
 obtain ⟨bs,rb⟩:=he.reads I ry
 exact compareEq_reads ra rb h1 h2 (by have:=Nat.min_le_left d.depth e.depth;omega) ⟨.bl _,H,I,rfl,q⟩
open PySem.SeqAt in
theorem zlA(hu:X.A.units+64<cLine):OpR X (compareOp .NotEq) (fun x y H Q=>∃ d e,Rep X.K H x d/\Rep X.K H y e/\d.canLay0=true/\e.canLay0=true/\d.depth≤64/\Q (.bl (!PyData.eqv d e)) H):=by
 intro pins s σ H x y v u Q I rx ry h
 obtain ⟨d,e,hd,he,h1,h2,h3,q⟩:=h
 obtain ⟨as,ra⟩:=hd.reads I rx
 obtain ⟨bs,rb⟩:=he.reads I ry
 exact compareNe_reads ra rb h1 h2 (by have:=Nat.min_le_left d.depth e.depth;omega) ⟨.bl _,H,I,rfl,q⟩
end
section
variable {X:Cx} {pos:Pos}
theorem zlo(hg:Gl X x)(hm:X.mg x=none)(hv:bootBuiltins x=some (.type T))(hn:x≠"__name__":=by decide)(hd:(x == ("__debug__":Str))=false:=by decide):PE X (.Name x pos) (tC (.ty T)):=
 ziY hg hm hv (show RelV (.ty T) (.type T) from rfl) hn hd
theorem ziV(hg:Gl X x)(hm:X.mg x=some (.int i t))(hd:(x == ("__debug__":Str))=false:=by decide):PE X (.Name x pos) (tC (.int i)):=
 zdi hg hm (show RelV (.int i) (.int i t) from ⟨t,rfl⟩) hd
end
noncomputable def cW(D:Addr)(xs:List V)(τ:St)(Pv:Nat->List V->Hp->Prop)(i m:Nat)(σ:St)(H:Hp):Prop:=
 ∃ o ys,σ=o::τ/\H D=some (.lst ys)/\ys.length≤i/\i≤xs.length/\m=xs.length - i/\Pv i ys H
noncomputable def zpI(D:Addr)(xs:List V)(τ:St)(Pv:Nat->List V->Hp->Prop)(i:Nat)(x:V)(y:V)(H6:Hp):Prop:=
 ∃ ys,H6 D=some (.lst ys)/\ys.length<sizeLine/\∃ m',m'<xs.length - i/\cW D xs τ Pv (i+1) m' (some x::τ) (upd H6 D (.lst (ys++[y])))
noncomputable def zpB(D:Addr)(xs:List V)(τ:St)(Pv:Nat->List V->Hp->Prop)(i:Nat)(x:V)(H5:Hp):Prop:=
 ∃ m',m'<xs.length - i/\cW D xs τ Pv (i+1) m' (some x::τ) H5
theorem zZ{H H':Hp}(s:Same H H')(hD:H D=none):Same H (upd H' D o):=fun b u e=>by
 rw [zM (zd e hD)]
 exact s b u e
theorem bits_of_weight:∀ (ns:List Int),PySem.W.WData.weightAll (ns.map PySem.W.WData.int)≤2 ^ 20->∀ n ∈ ns,Builtin.Int.intBits n≤1048576
 | [],_,_,h=>nomatch h
 | m::ns,hw,n,h=>by
  rw [Jo] at hw
  unfold PySem.W.WData.weightAll at hw
  rcases List.mem_cons.mp h with rfl | h
  ·have:PySem.W.WData.weight (PySem.W.WData.int n)=Builtin.Int.intBits n:=by unfold PySem.W.WData.weight Builtin.Int.intBits;rfl
   omega
  ·exact bits_of_weight ns (by omega) n h
end L2
namespace Att
open PySem PySem.W PySem.Calls PyProof.Rows
theorem attach_callB{l:OpenLaw}{YP:World->Heap->Prop}{d:DefRec}
  (hn:l.most=some n)(hdf:d.params.defaults=[])
  (call:∀ (w:World) (s₀ s₁:Shared) (mg mb:Str->Option Value) (fa:Addr) (o:Obj) (pm cd doc:Value) (a:Addr) (vs:List Value) (ns:List Int),
   Ground q loose [] XP w s₀ mg mb s₁.heap->YP w s₁.heap->
   s₁.heap.get? fa=some o->o.data=.func (docDef d.name d.params d.body d.scope pm cd doc)->s₁.heap.CodeRec cd d.name->mg d.name=some (.ref fa)->
   s₁.heap.get? a=some { cls:=.type "list",data:=.seq vs.toArray }->IntsAre vs ns->ns.length≤n->(∀ m ∈ ns,Builtin.Int.intBits m≤1048576)->s₁.gens=#[]->
   codeAny (model l.prog w) callerA (.call (.ref fa) ⟨[.ref a],[]⟩) (fun r s'=>r=.ok (.ret (.bool true))/\OldK s₁.heap s'.heap/\s'.os=s₁.os/\AllBare s'.gens) s₁):
  WalkO q loose XP YP l.row.toRowW d [] (fun f vs=>PySem.call f vs):=by
 intro w s₀ s₁ mg mb G Y fa o pm cd doc dV kV ho hd hcd hD hmg hg args vals as hpre hlay hrd hwl hlo
 obtain rfl:dV=.none:=Dflts.none hD hdf
 obtain rfl:kV=.none:=Dflts.noKw hD
 obtain ⟨a,vs,ns,rfl,rfl,hobj,hints,hlen⟩:=zep hn hpre hwl
 have hb:∀ m ∈ ns,Builtin.Int.intBits m≤1048576:=by
  refine L2.bits_of_weight ns ?_
  have h1:WData.layable (WData.list (ns.map WData.int))=true:=by simpa [WData.layableAll] using hlay
  unfold WData.layable at h1
  have h2:=of_decide_eq_true (QA.mp h1).2
  unfold WData.weight at h2
  exact h2
 refine enter_call (codeAny_mono (call w s₀ s₁ mg mb fa o pm cd doc a vs ns G Y ho (fd_plain hd) hcd hmg hobj hints hlen hb hg) fun r s' hq=>?_)
 obtain ⟨rfl,h2,h3,h4⟩:=hq
 exact ⟨.inl ⟨.bool true,.bool true,[],rfl,fun _=>rfl,.bool true,zeq l _,fun _=>⟨List.Pairwise.nil,fun _ hm=>(nomatch hm)⟩⟩,h2,h3,h4⟩
end Att
namespace L2
open PySem PySem.Spec PyProof.Rows
theorem walk_ofB{l:PySem.W.OpenLaw}{YP:World->Heap->Prop}{d:DefRec}{K:Params->PySem.W.Frag}{CX:World->CXT}{sp:World->Sp}
  (hn:l.most=some n)(hn2:n≤sizeLine)(hdf:d.params.defaults=[])(hr:Room k callerA)
  (hY:∀ (w:World) (h:Heap),YP w h->(K w.params).In h)
  (F:∀ (w:World) (mg:Str->Option Value) (fa:Addr) (h:Heap),(K w.params).In h->h.Ns mainGlobals mg->mg d.name=some (.ref fa)->
   ∃ fd:FuncData,(∀ (s:Shared) (u:Value),BindsTo s fd ⟨[u],[]⟩ [(x,u)])/\
    ∀ base:Heap,(K w.params).In base->base.Ns mainGlobals mg->FnOk l.prog w (K w.params) mg base (CX w) k fa fd [x] (sp w))
  (hsp:∀ (w:World) (H:Hp) (a:Addr) (ns:List Int),ns.length≤n->(∀ m ∈ ns,Builtin.Int.intBits m≤1048576)->zjH H->SqL (K w.params) H a (ns.map V.int)->sp w [.ref a] H (fun v _=>v=.bl true) fun _ _ _=>False)
  (hCX:∀ (w:World) (H:Hp) (s:Shared) (e:Value) (s':Shared),CX w [] H s (fun _ _ _=>False) e s'->False):
  PySem.W.WalkO q loose XP YP l.row.toRowW d [] (fun f vs=>PySem.call f vs):=by
 refine Att.attach_callB hn hdf fun w s₀ s₁ mg mb fa o pm cd doc a vs ns G Y ho hd hcd hmg hobj hints hlen hb hg=>?_
 have KX:=hY w _ Y
 obtain ⟨fd,hbd,hF⟩:=F w mg fa _ KX G.T.g hmg
 exact zgQ KX G.T.g G.T.b G.T.builtins G.T.nolimit hg hobj hints (JV hlen hn2) hr hF hbd (fun H hO hS=>hsp w H a ns hlen hb hO hS) fun H e s'=>hCX w H s₁ e s'
section
variable {prog:Program} {w:World} {A:Around} {E:Value->Shared->Prop} {s:Shared}
theorem xO(s:Shared):s.TypeIs .none "NoneType":=by first | exact rfl | trivial | (unfold Shared.TypeIs;trivial)
theorem vi{Q:Int->Shared->Prop}(h:Q 0xFCA86420 { s with toks:=s.toks+1 }):wpAny (model prog w) A (pyHash .none) Q E s:=by
 unfold pyHash
 unfold pyHashByItsType
 have hv:[Value.none].any Value.onHeap=false:=rfl
 refine wpAny_bind ?_
 rw [cRoomFor,if_neg (by rw [hv];exact Jj)];refine wpAny_pure ?_
 refine wpAny_bind (wpAny_specialOf (xO s) PySem.F.slot_NoneType_hash.lookup ?_)
 show wpAny _ _ (if (some (Value.builtin "NoneType.__hash__") == some Value.none)=true then _ else _) Q E s
 rw [if_neg (by rw [beq_builtin_none];exact Jj)]
 refine wpAny_bind (wpAny_specialOf (xO s) PySem.F.slot_NoneType_hash.lookup ?_)
 show wpAny _ _ (callSpecialIfBoundUnlessNone? .none "__hash__" _ >>= _) Q E s
 refine wpAny_bind (wpAny_callSpecialIfBoundUnlessNone?_slot (xO s) PySem.F.slot_NoneType_hash
  (wpAny_call_entry PySem.F.slot_NoneType_hash (xO s) PySem.F.entry_NoneType_hash
   (show wpAny _ _ (do ret (← mkInt 0xFCA86420)) _ _ s from wpAny_ret_mkInt ?_) (PySem.F.args_NoneType_hash_1 _)))
 show wpAny _ _ (if (decide (-(2:Int) ^ 63≤0xFCA86420) && decide ((0xFCA86420:Int)<2 ^ 63))=true then _ else _) Q E _
 rw [if_pos (by decide)]
 exact wpAny_pure h
end
noncomputable def qe(prog:Program)(w:World):PySem.KeyKind prog w (Option Key) where
 is:=fun o v=>match o with | some k=>uF k v | none=>(v == Value.none)
 hash:=fun o=>match o with | some k=>znH w k | none=>0xFCA86420
 inj:=fun v a b ha hb=>by
  cases a with
  | none=>
   have ha:v=Value.none:=eq_of_beq ha
   subst ha
   cases b with
   | none=>rfl
   | some k=>rcases zJ hb with ⟨_,_,_,e⟩ | ⟨_,_,_,e⟩<;>cases e
  | some k=>
   cases b with
   | none=>
    have hb:v=Value.none:=eq_of_beq hb
    subst hb
    rcases zJ ha with ⟨_,_,_,e⟩ | ⟨_,_,_,e⟩<;>cases e
   | some k'=>rw [(zC prog w).inj v k k' ha hb]
 byValue:=fun k v h=>by
  cases k with
  | none=>have h:v=Value.none:=eq_of_beq h;subst h;rfl
  | some k=>exact (zC prog w).byValue k v h
 pyHash:=fun {A E s k v Q} hv h=>by
  cases k with
  | none=>have hv:v=Value.none:=eq_of_beq hv;subst hv;exact vi h
  | some k=>exact (zC prog w).pyHash (k:=k) hv h
 eqBool:=fun {A E s a b u v Q} hu hv h=>by
  cases a with
  | none=>
   have hu:u=Value.none:=eq_of_beq hu
   subst hu
   cases b with
   | none=>
    have hv:v=Value.none:=eq_of_beq hv
    subst hv
    exact SeqAt.EqAt.same .none _ _ _ _ (by simpa using h)
   | some k=>
    have h:Q false s:=by simpa using h
    rcases zJ hv with ⟨i,t,rfl,rfl⟩ | ⟨x,t,rfl,rfl⟩
    ·exact SeqAt.EqAt.none_int i t _ _ _ _ h
    ·exact SeqAt.EqAt.none_str x t _ _ _ _ h
  | some k=>
   cases b with
   | none=>
    have hv:v=Value.none:=eq_of_beq hv
    subst hv
    have h:Q false s:=by simpa using h
    rcases zJ hu with ⟨i,t,rfl,rfl⟩ | ⟨x,t,rfl,rfl⟩
    ·exact SeqAt.EqAt.int_none i t _ _ _ _ h
    ·exact SeqAt.EqAt.str_none x t _ _ _ _ h
   | some k'=>
    refine (zC prog w).eqBool (a:=k) (b:=k') hu hv ?_
    have e:decide (some k=some k')=decide (k=k'):=by by_cases z:k=k'<;>simp [z]
    rw [e] at h
    exact h
 «strs»:=fun k x t v h=>by
  cases k with
  | none=>
   have z:Value.str x t=Value.none:=eq_of_beq h
   cases z
  | some k=>exact (zC prog w).strs k x t v h
theorem zbc{h:Heap}{f:Key->Option Value}(m:h.MapOf (zC P w) a f):h.MapOf (qe P w) a (fun o=>match o with | some k=>f k | none=>none):=by
 obtain ⟨o,es,ep,h1,h2,h3,h4,h5⟩:=m
 refine ⟨o,es,ep,h1,h2,h3,fun e he=>?_,fun k=>?_⟩
 ·obtain ⟨k,a1,a2⟩:=h4 e he
  exact ⟨some k,a1,a2⟩
 ·cases k with
  | some k=>exact h5 k
  | none=>
   unfold findBy
   rw [Option.map_eq_none_iff,Array.find?_eq_none]
   intro e he z
   obtain ⟨k,a1,a2⟩:=h4 e he
   have z:e.key=Value.none:=eq_of_beq z
   rw [z] at a1
   rcases zJ a1 with ⟨_,_,_,e⟩ | ⟨_,_,_,e⟩<;>cases e
section
variable {X:Cx}
theorem zaS(hu:X.A.units+1<cLine):OpR X (compareOp .In) (fun x y H Q=>∃ a,y=.ref a/\((∃ o,DGet H a x o/\Q (.bl o.isSome) H)∨(∃ kvs,x=.non/\H a=some (.dK kvs)/\Q (.bl false) H))):=by
 intro pins s σ H x y v u Q I rx ry h
 obtain ⟨a,rfl,h | h⟩:=h
 ·obtain ⟨o,g,q⟩:=h
  exact je hu pins s σ H x _ v u Q I rx ry ⟨a,o,rfl,g,q⟩
 ·obtain ⟨kvs,rfl,ha,q⟩:=h
  cases ry
  cases rx
  obtain ⟨z,hd,vs,rel,dd⟩:=zhu I.hok ha
  exact wpAny_in_of (knd:=qe X.prog X.w) (k:=none) rfl hd (zbc dd.mapOf) ⟨.bl false,H,I.tok _,rfl,q⟩
end
end L2
namespace CB
inductive Reach (R:Int->Int->Prop) (S A:Int->Prop):Int->Prop where
 | start {p:Int}:A p->S p->Reach R S A p
 | step {p q:Int}:Reach R S A p->R p q->S q->Reach R S A q
theorem Reach.inS{R S A}{p:Int}(h:Reach R S A p):S p:=by
 cases h with
 | start _ h=>exact h
 | step _ _ h=>exact h
theorem Reach.mono{R:Int->Int->Prop}{S S' A A':Int->Prop}(hA:∀ p,A p->S p->Reach R S' A' p)(hS:∀ p,Reach R S A p->S' p){p:Int}(h:Reach R S A p):Reach R S' A' p:=by
 induction h with
 | start a s=>exact hA _ a s
 | step h r s ih=>exact .step ih r (hS _ (.step h r s))
theorem zS:∀ (xs ys:List Int),xs.Nodup->(∀ x ∈ xs,x ∈ ys)->xs.length≤ys.length
 | [],ys,_,_=>Kq _
 | x::xs,ys,nd,h=>by
  have hx:x ∈ ys:=h x Jc
  have nd':=JS.mp nd
  have ih:=zS xs (ys.erase x) nd'.2 fun z hz=>by
   have hzx:z≠x:=fun e=>nd'.1 (e ▸ hz)
   exact (List.mem_erase_of_ne hzx).mpr (h z (Jf _ hz))
  rw [List.length_erase_of_mem hx] at ih
  have:0<ys.length:=List.length_pos_of_mem hx
  simp only [List.length_cons]
  omega
structure Dfs (R:Int->Int->Prop) (S A:Int->Prop) (found waiting:List Int):Prop where
 nd:found.Nodup
 sound:∀ p ∈ found,Reach R S A p
 soundW:∀ p ∈ waiting,Reach R S A p
 starts:∀ p,A p->S p->p ∈ found∨p ∈ waiting
 closed:∀ p ∈ found,∀ q,R p q->S q->q ∈ found∨q ∈ waiting
section
variable {R:Int->Int->Prop} {S A:Int->Prop} {found ws nbs:List Int} {p:Int}
theorem Dfs.init{starts:List Int}(h:∀ q,q ∈ starts ↔ A q/\S q):Dfs R S A [] starts:=
 ⟨List.nodup_nil,(fun _ h=>nomatch h),fun p hp=>.start ((h p).mp hp).1 ((h p).mp hp).2,fun p a s=>.inr ((h p).mpr ⟨a,s⟩),(fun _ h=>nomatch h)⟩
theorem Dfs.old(d:Dfs R S A found (ws++[p]))(hp:p ∈ found):Dfs R S A found ws:=by
 refine ⟨d.nd,d.sound,fun q hq=>d.soundW q (Jr _ hq),fun q a s=>?_,fun q hq r hr s=>?_⟩
 ·rcases d.starts q a s with h | h
  ·exact .inl h
  ·rcases List.mem_append.mp h with h | h
   ·exact .inr h
   ·rw [Jh.mp h];exact .inl hp
 ·rcases d.closed q hq r hr s with h | h
  ·exact .inl h
  ·rcases List.mem_append.mp h with h | h
   ·exact .inr h
   ·rw [Jh.mp h];exact .inl hp
theorem Dfs.new(d:Dfs R S A found (ws++[p]))(hp:p ∉ found)(hn:∀ q,q ∈ nbs ↔ R p q/\S q):Dfs R S A (found++[p]) (ws++nbs):=by
 have rp:Reach R S A p:=d.soundW p (Jn _ Jc)
 have mv:∀ q,q ∈ found∨q ∈ ws++[p]->q ∈ found++[p]∨q ∈ ws++nbs:=fun q h=>by
  rcases h with h | h
  ·exact .inl (Jr _ h)
  ·rcases List.mem_append.mp h with h | h
   ·exact .inr (Jr _ h)
   ·exact .inl (Jn _ h)
 refine ⟨?_,fun q hq=>?_,fun q hq=>?_,fun q a s=>mv q (d.starts q a s),fun q hq r hr s=>?_⟩
 ·rw [JJ]
  refine ⟨d.nd,by simp,fun a ha b hb=>?_⟩
  rw [Jh.mp hb]
  exact fun e=>hp (e ▸ ha)
 ·rcases List.mem_append.mp hq with h | h
  ·exact d.sound q h
  ·rw [Jh.mp h];exact rp
 ·rcases List.mem_append.mp hq with h | h
  ·exact d.soundW q (Jr _ h)
  ·exact .step rp ((hn q).mp h).1 ((hn q).mp h).2
 ·rcases List.mem_append.mp hq with h | h
  ·exact mv r (d.closed q h r hr s)
  ·rw [Jh.mp h] at hr
   exact .inr (Jn _ ((hn r).mpr ⟨hr,s⟩))
theorem Dfs.done(d:Dfs R S A found [])(q:Int):q ∈ found ↔ Reach R S A q:=by
 refine ⟨d.sound q,fun h=>?_⟩
 induction h with
 | start a s=>rcases d.starts _ a s with h | h;exact h;exact nomatch h
 | step h r s ih=>rcases d.closed _ ih _ r s with h | h;exact h;exact nomatch h
end
noncomputable def Place(w h p:Int):Prop:=0≤p/\p<w * h
noncomputable def Adj(w p q:Int):Prop:=(q=p+1/\p / w=q / w)∨(q+1=p/\p / w=q / w)∨q=p+w∨q+w=p
noncomputable def Rim(w h p:Int):Prop:=p % w=0∨p % w=w - 1∨p / w=0∨p / w=h - 1
noncomputable def yS(w h p:Int):List Int:=
 (if 0<p % w then [p - 1] else [])++(if p % w<w - 1 then [p+1] else [])++(if 0<p / w then [p - w] else [])++(if p / w<h - 1 then [p+w] else [])
theorem six{w:Int}(h1:1≤w)(h6:w≤6):w=1∨w=2∨w=3∨w=4∨w=5∨w=6:=by omega
theorem zaE{w p:Int}(w1:1≤w)(h:p % w<w - 1):(p+1) / w=p / w/\(p+1) % w=p % w+1:=by
 have e:=JI p w
 have:=JU p (show w≠0 by omega)
 exact (Qe (by omega)).mpr ⟨by omega,by omega,by omega⟩
theorem zbx{w p:Int}(w1:1≤w)(h:0<p % w):(p - 1) / w=p / w/\(p - 1) % w=p % w - 1:=by
 have e:=JI p w
 have:=JN p (show 0<w by omega)
 exact (Qe (by omega)).mpr ⟨by omega,by omega,by omega⟩
theorem zfV{w p:Int}(w1:1≤w)(h:p / w=(p+1) / w):p % w<w - 1:=by
 have e:=JI p w
 have e':=JI (p+1) w
 have:=JN (p+1) (show 0<w by omega)
 rw [← h] at e'
 omega
theorem zer(w1:1≤w)(hp:Place w h p):0≤p / w/\p / w<h:=by
 obtain ⟨p0,p1⟩:=hp
 exact ⟨Int.ediv_nonneg p0 (by omega),Int.ediv_lt_of_lt_mul (by omega) (by rw [Qx];exact p1)⟩
theorem zgJ{c:Prop}[Decidable c]:(q ∈ (if c then [a] else []:List Int)) ↔ c/\q=a:=by
 by_cases h:c
 ·simp [h]
 ·simp [h]
theorem zhL{w p:Int}(w1:1≤w)(h:p % w=0):(p - 1) / w=p / w - 1:=by
 have e:=JI p w
 refine ((Qe (r:=w - 1) (show 0<w by omega)).mpr ⟨?_,by omega,by omega⟩).1
 rw [Int.mul_sub,Qp];omega
theorem zhi{w p:Int}(w1:1≤w)(h:p % w=w - 1):(p+1) / w=p / w+1:=by
 have e:=JI p w
 refine ((Qe (r:=0) (show 0<w by omega)).mpr ⟨?_,by omega,by omega⟩).1
 rw [Int.mul_add,Qp];omega
theorem ziH(w1:1≤w)(hp:Place w h p):0≤p / w/\p / w<h/\(0≤p - w ↔ 0<p / w)/\(p+w<w * h ↔ p / w<h - 1)/\(p % w<w - 1->p+1<w * h)/\p % w≤p:=by
 have e:=JI p w
 have a0:=JU p (show w≠0 by omega)
 have a1:=JN p (show 0<w by omega)
 have hw:0≤w:=by omega
 have mono:∀ {a b:Int},a≤b->w * a≤w * b:=fun h=>Int.mul_le_mul_of_nonneg_left h hw
 obtain ⟨p0,p1⟩:=hp
 have q0:0≤p / w:=Int.ediv_nonneg p0 hw
 have q1:p / w<h:=by
  refine JB fun z=>?_
  have:=mono (show h≤p / w by omega)
  omega
 have m1:=mono (show p / w+1≤h by omega)
 rw [Int.mul_add,Qp] at m1
 refine ⟨q0,q1,⟨fun z=>JB fun y=>?_,fun z=>?_⟩,⟨fun z=>JB fun y=>?_,fun z=>?_⟩,fun z=>by omega,by have:=Int.mul_nonneg hw q0;omega⟩
 ·have:p / w=0:=by omega
  rw [this,Int.mul_zero] at e
  omega
 ·have:=mono (show 1≤p / w by omega)
  rw [Qp] at this
  omega
 ·have:=mono (show h≤p / w+1 by omega)
  rw [Int.mul_add,Qp] at this
  omega
 ·have:=mono (show p / w+2≤h by omega)
  rw [Int.mul_add] at this
  omega
theorem zcg{w h p q:Int}(w1:1≤w)(w6:w≤6)(hp:Place w h p):q ∈ yS w h p ↔ Place w h q/\Adj w p q:=by
 obtain ⟨r0,r1,r2,r3,r4,r5⟩:=ziH w1 hp
 have a0:=JU p (show w≠0 by omega)
 have a1:=JN p (show 0<w by omega)
 obtain ⟨p0,p1⟩:=hp
 have b1:=fun z=>(zbx (w:=w) (p:=p) w1 z).1
 have b2:=fun z=>zhL (w:=w) (p:=p) w1 z
 have f1:=fun z=>(zaE (w:=w) (p:=p) w1 z).1
 have f2:=fun z=>zhi (w:=w) (p:=p) w1 z
 unfold yS
 simp only [List.mem_append,zgJ]
 generalize p % w=b at *
 generalize ha:p / w=a at *
 unfold Place Adj
 rw [ha]
 constructor
 ·rintro (((⟨z,rfl⟩ | ⟨z,rfl⟩) | ⟨z,rfl⟩) | ⟨z,rfl⟩)
  ·exact ⟨⟨by omega,by omega⟩,.inr (.inl ⟨by omega,(b1 z).symm⟩)⟩
  ·exact ⟨⟨by omega,r4 z⟩,.inl ⟨rfl,(f1 z).symm⟩⟩
  ·exact ⟨⟨r2.mpr z,by omega⟩,.inr (.inr (.inr (by omega)))⟩
  ·exact ⟨⟨by omega,r3.mpr z⟩,.inr (.inr (.inl rfl))⟩
 ·rintro ⟨⟨q0,q1⟩,⟨rfl,z⟩ | ⟨y,z⟩ | rfl | y⟩
  ·refine .inl (.inl (.inr ⟨JB fun x=>?_,rfl⟩))
   have:=f2 (by omega)
   omega
  ·obtain rfl:q=p - 1:=by omega
   refine .inl (.inl (.inl ⟨JB fun x=>?_,rfl⟩))
   have:=b2 (by omega)
   omega
  ·exact .inr ⟨r3.mp q1,rfl⟩
  ·obtain rfl:q=p - w:=by omega
   exact .inl (.inr ⟨r2.mp q0,rfl⟩)
theorem Adj.symm{w p q:Int}(h:Adj w p q):Adj w q p:=by
 unfold Adj at *
 rcases h with ⟨a,b⟩ | ⟨a,b⟩ | a | a
 ·exact .inr (.inl ⟨by omega,b.symm⟩)
 ·exact .inl ⟨by omega,b.symm⟩
 ·exact .inr (.inr (.inr (by omega)))
 ·exact .inr (.inr (.inl (by omega)))
theorem kc(w h p:Int):(yS w h p).length≤4:=by
 unfold yS
 have:∀ (c:Prop) [Decidable c] (a:Int),(if c then [a] else []:List Int).length≤1:=fun c _ a=>by
  by_cases h:c<;>simp [h]
 have h1:=this (0<p % w) (p - 1)
 have h2:=this (p % w<w - 1) (p+1)
 have h3:=this (0<p / w) (p - w)
 have h4:=this (p / w<h - 1) (p+w)
 simp only [List.length_append]
 omega
structure IsFloor (w h:Int) (F:List Int):Prop where
 w1:1≤w
 w6:w≤6
 h1:1≤h
 h6:h≤6
 ne:F≠[]
 rise:F.Pairwise (·<·)
 inn:∀ p ∈ F,Place w h p
 conn:∀ p ∈ F,Reach (Adj w) (· ∈ F) (fun q=>F.head?=some q) p
 noh:∀ p,Place w h p->p ∉ F->Reach (Adj w) (fun q=>Place w h q/\q ∉ F) (Rim w h) p
theorem yL{F:List Int}(h:F.Pairwise (·<·)):F.Nodup:=h.imp fun h e=>by omega
noncomputable def zK(w h:Int):List Int:=(List.range (w * h).toNat).map fun (n:Nat)=>(n:Int)
theorem mem_places{w h p:Int}:p ∈ zK w h ↔ Place w h p:=by
 unfold zK Place
 simp only [List.mem_map,List.mem_range]
 constructor
 ·rintro ⟨n,hn,rfl⟩;omega
 ·intro hp;exact ⟨p.toNat,by omega,by omega⟩
theorem zaQ(w h:Int):(zK w h).Pairwise (·<·):=by
 unfold zK
 rw [JW]
 exact List.pairwise_lt_range.imp fun h=>by omega
theorem zlY{w h:Int}(w1:1≤w)(w6:w≤6)(h1:1≤h)(h6:h≤6){L O:Int->Prop}{a:Int}(hL:∀ p,L p->Place w h p)(ha:L a)
  (conn:∀ p,L p->Reach (Adj w) L (·=a) p)(hO:∀ p,O p ↔ Reach (Adj w) (fun q=>Place w h q/\¬ L q) (Rim w h) p)[DecidablePred O]:
  IsFloor w h ((zK w h).filter fun p=>!decide (O p)):=by
 have mem:∀ p,p ∈ ((zK w h).filter fun p=>!decide (O p)) ↔ Place w h p/\¬ O p:=fun p=>by
  rw [Ka,mem_places]
  simp
 have LO:∀ p,L p->¬ O p:=fun p hp ho=>((hO p).mp ho).inS.2 hp
 have hne:((zK w h).filter fun p=>!decide (O p))≠[]:=fun e=>by
  have:a ∈ ((zK w h).filter fun p=>!decide (O p)):=(mem a).mpr ⟨hL a ha,LO a ha⟩
  rw [e] at this;exact nomatch this
 -- within: from any field a row of fields leads left to L
 have toL:∀ (n:Nat) (p:Int),(p % w).toNat=n->Place w h p->¬ O p->¬ L p->∃ q,L q/\Reach (Adj w) (fun q=>Place w h q/\¬ O q) (·=q) p/\Reach (Adj w) (fun q=>Place w h q/\¬ O q) (·=p) q:=by
  intro n
  induction n with
  | zero=>
   intro p e hp ho hl
   refine absurd ((hO p).mpr (.start (.inl ?_) ⟨hp,hl⟩)) ho
   have:=JU p (show w≠0 by omega)
   omega
  | succ n ih=>
   intro p e hp ho hl
   have hm:0<p % w:=by omega
   obtain ⟨m1,m2⟩:=zbx w1 hm
   have pl:Place w h (p - 1):=by
    have hp0:p≠0:=fun e=>by rw [e,Int.zero_emod] at hm;omega
    exact ⟨by have:=hp.1;omega,by have:=hp.2;omega⟩
   have e':((p - 1) % w).toNat=n:=by omega
   have adj:Adj w p (p - 1):=.inr (.inl ⟨Int.sub_add_cancel p 1,m1.symm⟩)
   by_cases hl':L (p - 1)
   ·exact ⟨p - 1,hl',.step (.start rfl ⟨pl,LO _ hl'⟩) adj.symm ⟨hp,ho⟩,.step (.start rfl ⟨hp,ho⟩) adj ⟨pl,LO _ hl'⟩⟩
   ·have ho':¬ O (p - 1):=fun z=>ho ((hO p).mpr (.step ((hO _).mp z) adj.symm ⟨hp,hl⟩))
    obtain ⟨q,hq,r1,r2⟩:=ih (p - 1) e' pl ho' hl'
    refine ⟨q,hq,.step r1 adj.symm ⟨hp,ho⟩,r2.mono (fun z e _=>?_) fun z hz=>hz.inS⟩
    rw [e]
    exact .step (.start rfl ⟨hp,ho⟩) adj ⟨pl,ho'⟩
 -- L is within one reach of a
 have mono:∀ p,L p->Reach (Adj w) (fun q=>Place w h q/\¬ O q) (·=a) p:=fun p hp=>(conn p hp).mono (fun q e s=>.start e ⟨hL q s,LO q s⟩) fun q r=>⟨hL q r.inS,LO q r.inS⟩
 have fromA:∀ p,Place w h p->¬ O p->Reach (Adj w) (fun q=>Place w h q/\¬ O q) (·=a) p:=fun p hp ho=>by
  by_cases hl:L p
  ·exact mono p hl
  ·obtain ⟨q,hq,r1,_⟩:=toL _ p rfl hp ho hl
   exact r1.mono (fun z e _=>e ▸ mono q hq) fun z r=>r.inS
 have rev:∀ (S:Int->Prop) (b p:Int),Reach (Adj w) S (·=b) p->Reach (Adj w) S (·=p) b:=fun S b p r=>by
  induction r with
  | start e s=>subst e;exact .start rfl s
  | @step p q r adj s ih=>exact ih.mono (fun z e sz=>by subst e;exact .step (.start rfl s) adj.symm sz) fun z r=>r.inS
 have cn:∀ (S:Int->Prop) (b p:Int),Reach (Adj w) S (·=a) b->Reach (Adj w) S (·=a) p->Reach (Adj w) S (·=b) p:=fun S b p rb rp=>
  rp.mono (fun z e s=>by subst e;exact rev S _ _ rb) fun z r=>r.inS
 refine ⟨w1,w6,h1,h6,hne,(zaQ w h).sublist List.filter_sublist,fun p hp=>((mem p).mp hp).1,fun p hp=>?_,fun p hp hn=>?_⟩
 ·cases hF:((zK w h).filter fun p=>!decide (O p)) with
  | nil=>exact absurd hF hne
  | cons b r=>
   have hb:b ∈ ((zK w h).filter fun p=>!decide (O p)):=by rw [hF];exact Jc
   rw [hF] at hp
   have hp':p ∈ ((zK w h).filter fun p=>!decide (O p)):=by rw [hF];exact hp
   have:=cn _ b p (fromA b ((mem b).mp hb).1 ((mem b).mp hb).2) (fromA p ((mem p).mp hp').1 ((mem p).mp hp').2)
   refine this.mono (fun q e s=>.start (by subst e;rfl) ?_) fun q r=>?_
   ·rw [← hF];exact (mem q).mpr s
   ·rw [← hF];exact (mem q).mpr r.inS
 ·have ho:O p:=JB fun z=>hn ((mem p).mpr ⟨hp,z⟩)
  have all:∀ q,Reach (Adj w) (fun q=>Place w h q/\¬ L q) (Rim w h) q->Place w h q/\q ∉ ((zK w h).filter fun p=>!decide (O p)):=fun q r=>
   ⟨r.inS.1,fun z=>((mem q).mp z).2 ((hO q).mpr r)⟩
  exact ((hO p).mp ho).mono (fun q ri s=>.start ri (all q (.start ri s))) fun q r=>all q r
noncomputable abbrev Pt:=Int × Int
noncomputable def Nb(p q:Pt):Prop:=(q.1=p.1+1/\q.2=p.2)∨(q.1+1=p.1/\q.2=p.2)∨(q.1=p.1/\q.2=p.2+1)∨(q.1=p.1/\q.2+1=p.2)
noncomputable def Clo(a u:Int->Int->Int)(p:Pt):Prop:=a p.1 p.2+u (p.1+1) p.2=u p.1 p.2+a p.1 (p.2+1)
noncomputable def AcS(S:Pt->Prop)(x y:Int):Prop:=S (x,y)∨S (x,y - 1)
noncomputable def UpS(S:Pt->Prop)(x y:Int):Prop:=S (x,y)∨S (x - 1,y)
noncomputable def zax(f:Int->Int->Int)(x y v:Int):Int->Int->Int:=fun i j=>if i=x/\j=y then v else f i j
theorem wq:zax f x y v x y=v:=by simp [zax]
theorem xN{f:Int->Int->Int}(h:¬ (i=x/\j=y)):zax f x y v i j=f i j:=by simp [zax,h]
noncomputable def Ord(G:Pt->Prop):List Pt->Prop
 | []=>True
 | p::r=>(∃ q,Nb p q/\(q ∈ r∨¬ G q))/\p ∉ r/\Ord G r
theorem extend(G:Pt->Prop):∀ (L:List Pt) (S:Pt->Prop) (a u:Int->Int->Int),(∀ p,S p->G p)->(∀ p ∈ L,G p/\¬ S p)->Ord G L->(∀ p,S p->Clo a u p)->
  ∃ a' u',(∀ x y,AcS S x y->a' x y=a x y)/\(∀ x y,UpS S x y->u' x y=u x y)/\∀ p,(S p∨p ∈ L)->Clo a' u' p
 | [],S,a,u,_,_,_,hc=>⟨a,u,fun _ _ _=>rfl,fun _ _ _=>rfl,fun p h=>h.elim (hc p) fun z=>nomatch z⟩
 | p::L,S,a,u,hS,hL,hO,hc=>by
  obtain ⟨⟨q,nb,hq⟩,hp,hO⟩:=hO
  obtain ⟨x,y⟩:=p
  obtain ⟨i,j⟩:=q
  have qS:¬ S (i,j):=fun z=>hq.elim (fun m=>(hL _ (Jf _ m)).2 z) fun g=>g (hS _ z)
  have pS:¬ S (x,y):=(hL _ Jc).2
  -- the exit's side takes what is lacking
  have key:∃ a1 u1,(∀ X Y,AcS S X Y->a1 X Y=a X Y)/\(∀ X Y,UpS S X Y->u1 X Y=u X Y)/\Clo a1 u1 (x,y):=by
   have ne:∀ X Y,S (X,Y)->¬ (X=x/\Y=y)/\¬ (X=i/\Y=j):=fun X Y z=>⟨fun e=>pS (by rw [← e.1,← e.2];exact z),fun e=>qS (by rw [← e.1,← e.2];exact z)⟩
   unfold Nb at nb
   dsimp only at nb
   rcases nb with ⟨e1,e2⟩ | ⟨e1,e2⟩ | ⟨e1,e2⟩ | ⟨e1,e2⟩
   ·refine ⟨a,zax u (x+1) y (u x y+a x (y+1) - a x y),fun _ _ _=>rfl,fun X Y h=>xN fun e=>?_,?_⟩
    ·unfold UpS at h
     rcases h with h | h
     ·exact (ne _ _ h).2 (by omega)
     ·exact (ne _ _ h).1 (by omega)
    ·unfold Clo;dsimp only
     rw [wq,xN (by omega)];omega
   ·refine ⟨a,zax u x y (a x y+u (x+1) y - a x (y+1)),fun _ _ _=>rfl,fun X Y h=>xN fun e=>?_,?_⟩
    ·unfold UpS at h
     rcases h with h | h
     ·exact (ne _ _ h).1 (by omega)
     ·exact (ne _ _ h).2 (by omega)
    ·unfold Clo;dsimp only
     rw [wq,xN (by omega)];omega
   ·refine ⟨zax a x (y+1) (a x y+u (x+1) y - u x y),u,fun X Y h=>xN fun e=>?_,fun _ _ _=>rfl,?_⟩
    ·unfold AcS at h
     rcases h with h | h
     ·exact (ne _ _ h).2 (by omega)
     ·exact (ne _ _ h).1 (by omega)
    ·unfold Clo;dsimp only
     rw [wq,xN (by omega)];omega
   ·refine ⟨zax a x y (u x y+a x (y+1) - u (x+1) y),u,fun X Y h=>xN fun e=>?_,fun _ _ _=>rfl,?_⟩
    ·unfold AcS at h
     rcases h with h | h
     ·exact (ne _ _ h).1 (by omega)
     ·exact (ne _ _ h).2 (by omega)
    ·unfold Clo;dsimp only
     rw [wq,xN (by omega)];omega
  obtain ⟨a1,u1,k1,k2,k3⟩:=key
  have clo1:∀ r,S r->Clo a1 u1 r:=fun r hr=>by
   obtain ⟨X,Y⟩:=r
   have h1:=hc _ hr
   unfold Clo at h1 ⊢
   dsimp only at h1 ⊢
   rw [k1 X Y (.inl hr),k1 X (Y+1) (.inr (by rw [show Y+1 - 1=Y by omega];exact hr)),k2 X Y (.inl hr),k2 (X+1) Y (.inr (by rw [show X+1 - 1=X by omega];exact hr))]
   exact h1
  obtain ⟨a2,u2,g1,g2,g3⟩:=extend G L (fun r=>S r∨r=(x,y)) a1 u1 (fun r h=>h.elim (hS r) fun e=>by rw [e];exact (hL _ Jc).1)
   (fun r hr=>⟨(hL r (Jf _ hr)).1,fun z=>z.elim (hL r (Jf _ hr)).2 fun e=>hp (e ▸ hr)⟩) hO (fun r h=>h.elim (clo1 r) fun e=>by rw [e];exact k3)
  refine ⟨a2,u2,fun X Y h=>?_,fun X Y h=>?_,fun r h=>?_⟩
  ·rw [g1 X Y (h.elim (fun z=>.inl (.inl z)) fun z=>.inr (.inl z)),k1 X Y h]
  ·rw [g2 X Y (h.elim (fun z=>.inl (.inl z)) fun z=>.inr (.inl z)),k2 X Y h]
  ·refine g3 r ?_
   rcases h with h | h
   ·exact .inl (.inl h)
   ·rcases List.mem_cons.mp h with h | h
    ·exact .inl (.inr h)
    ·exact .inr h
noncomputable def pt(w p:Int):Pt:=(p % w,p / w)
theorem zkJ(w1:1≤w)(p:Int):(p+w) / w=p / w+1/\(p+w) % w=p % w:=by
 have d:(p+w) / w=p / w+1:=(Int.add_ediv_of_dvd_right (Int.dvd_refl w)).trans (by rw [Int.ediv_self (by omega)])
 refine ⟨d,?_⟩
 have a:=JI p w
 have b:=JI (p+w) w
 rw [d,Int.mul_add,Qp] at b
 omega
end CB
set_option maxHeartbeats 4000000
namespace CB
noncomputable def zP(d s:Int)(k:Nat):List Int:=(List.range k).map fun (i:Nat)=>s+i * d
theorem mem_chain:x ∈ zP d s k ↔ ∃ i:Nat,i<k/\x=s+i * d:=by
 unfold zP
 rw [Jp]
 exact ⟨fun ⟨i,h,e⟩=>⟨i,Jw.mp h,e.symm⟩,fun ⟨i,h,e⟩=>⟨i,Jw.mpr h,e.symm⟩⟩
theorem vf(d s:Int)(k:Nat):zP d s (k+1)=zP d s k++[s+k * d]:=by
 unfold zP
 rw [List.range_succ,KA];rfl
theorem zdL(d s:Int):zP d s 1=[s]:=by simp [zP]
theorem qG(d s:Int)(k:Nat):(zP d s k).length=k:=by simp [zP]
theorem qR(i:Nat)(d:Int):((i+1:Nat):Int) * d=i * d+d:=by rw [Int.natCast_succ,Int.add_mul,Int.one_mul]
theorem zdo{i j:Nat}{d:Int}(hd:0<d)(h:i<j):(i:Int) * d<j * d:=Int.mul_lt_mul_of_pos_right (by omega) hd
theorem zgG{i j:Nat}{d:Int}(hd:0<d)(h:(i:Int) * d=j * d):i=j:=by
 rcases Nat.lt_trichotomy i j with z | z | z
 ·have:=zdo hd z;omega
 ·exact z
 ·have:=zdo hd z;omega
theorem wo{d:Int}(hd:0<d)(s:Int)(k:Nat):(zP d s k).Nodup:=by
 unfold zP
 rw [KO,JW]
 exact List.Pairwise.imp (fun h e=>h (zgG hd (by omega))) (KO.mp List.nodup_range)
section
variable {F:List Int} {d:Int} {stop:Int->Bool} {pre:List Int} {ps qs:List (Int × Nat)} {f:Int}
noncomputable def yF(F:List Int)(d:Int)(stop:Int->Bool)(f:Int):Bool:=stop f || !decide (f - d ∈ F)
structure Runs0 (F:List Int) (d:Int) (stop:Int->Bool) (pre:List Int) (ps:List (Int × Nat)):Prop where
 heads:ps.map (·.1)=pre.filter (yF F d stop)
 pos:∀ x ∈ ps,1≤x.2
 inn:∀ x ∈ ps,∀ i:Nat,i<x.2->x.1+i * d ∈ pre/\(0<i->stop (x.1+i * d)=false)
 mx:∀ x ∈ ps,x.1+x.2 * d ∈ pre->stop (x.1+x.2 * d)=true
structure Runs (F:List Int) (d:Int) (stop:Int->Bool) (pre:List Int) (ps:List (Int × Nat)):Prop extends Runs0 F d stop pre ps where
 cov:∀ f ∈ pre,∃ x ∈ ps,∃ i:Nat,i<x.2/\f=x.1+i * d
theorem Runs.start(r:Runs0 F d stop pre ps){x:Int × Nat}(hx:x ∈ ps):x.1 ∈ pre/\yF F d stop x.1=true:=by
 have:x.1 ∈ ps.map (·.1):=Jp.mpr ⟨x,hx,rfl⟩
 rw [r.heads] at this
 exact Ka.mp this
theorem Runs.same(r:Runs0 F d stop pre ps)(sub:∀ p ∈ pre,p ∈ F){x y:Int × Nat}(hx:x ∈ ps)(hy:y ∈ ps)(hi:i<x.2)(hj:j<y.2)(e:x.1+i * d=y.1+j * d):x.1=y.1:=by
 have key:∀ {x y:Int × Nat},x ∈ ps->y ∈ ps->∀ {i j:Nat},j<y.2->x.1+i * d=y.1+j * d->i<j->False:=by
  intro x y hx hy i j hj e h
  obtain ⟨m,rfl⟩:∃ m,j=i+(m+1):=⟨j - i - 1,by omega⟩
  have e1:x.1=y.1+((m+1:Nat):Int) * d:=by
   have:((i+(m+1):Nat):Int) * d=i * d+((m+1:Nat):Int) * d:=by rw [Int.natCast_add,Int.add_mul]
   omega
  have i1:=r.inn y hy (m+1) (by omega)
  have i2:=r.inn y hy m (by omega)
  have e2:x.1 - d=y.1+m * d:=by have:=qR m d;omega
  have s:=(Runs.start r hx).2
  unfold yF at s
  rw [e2,e1,i1.2 (by omega)] at s
  simp [sub _ i2.1] at s
 rcases Nat.lt_trichotomy i j with h | h | h
 ·exact (key hx hy hj e h).elim
 ·subst h;omega
 ·exact (key hy hx hi e.symm h).elim
theorem Runs.clash(r:Runs0 F d stop pre ps)(sub:∀ p ∈ pre,p ∈ F){x y:Int × Nat}(hx:x ∈ ps)(hy:y ∈ ps)(e:x.1=y.1+((q+1:Nat):Int) * d)(hq:q+1<y.2):False:=by
 have i1:=r.inn y hy (q+1) hq
 have i2:=r.inn y hy q (by omega)
 have e2:x.1 - d=y.1+q * d:=by have:=qR q d;omega
 have s:=(Runs.start r hx).2
 unfold yF at s
 rw [e2,e,i1.2 (by omega)] at s
 simp [sub _ i2.1] at s
theorem Runs.heads_nd(r:Runs0 F d stop pre ps)(nd:pre.Nodup):(ps.map (·.1)).Nodup:=by rw [r.heads];exact nd.filter _
theorem Runs.ix(r:Runs0 F d stop pre ps)(nd:pre.Nodup){i j:Nat}{x y:Int × Nat}(hi:ps[i]?=some x)(hj:ps[j]?=some y)(e:x.1=y.1):i=j:=by
 have h:=Runs.heads_nd r nd
 obtain ⟨l1,rfl⟩:=Jv.mp hi
 obtain ⟨l2,rfl⟩:=Jv.mp hj
 rcases Nat.lt_trichotomy i j with z | z | z
 ·have:=List.pairwise_iff_getElem.mp h i j (by simpa using l1) (by simpa using l2) z
  exact absurd (by simpa using e) this
 ·exact z
 ·have:=List.pairwise_iff_getElem.mp h j i (by simpa using l2) (by simpa using l1) z
  exact absurd (by simpa using e.symm) this
theorem Runs.one(r:Runs F d stop pre ps)(sub:∀ p ∈ pre,p ∈ F)(nd:pre.Nodup)(hf:f ∈ pre):∃ k,k<ps.length/\∀ j x,ps[j]?=some x->(f ∈ zP d x.1 x.2 ↔ j=k):=by
 obtain ⟨x,hx,i,hi,e⟩:=r.cov f hf
 obtain ⟨k,hk,rfl⟩:=Ke hx
 refine ⟨k,hk,fun j y hj=>⟨fun h=>?_,fun h=>?_⟩⟩
 ·obtain ⟨i',hi',e'⟩:=mem_chain.mp h
  exact Runs.ix r.toRuns0 nd hj (Jd hk) (Runs.same r.toRuns0 sub (JY hj) hx hi' hi (by omega))
 ·subst h
  rw [Jd hk] at hj
  cases hj
  exact mem_chain.mpr ⟨i,hi,e⟩
theorem Runs.nil:Runs F d stop [] []:=⟨⟨rfl,by simp,by simp,by simp⟩,by simp⟩
theorem Runs.new(r:Runs F d stop pre ps)(hd:0<d)(sub:∀ p ∈ pre,p ∈ F)(lt:∀ p ∈ pre,p<f)(hs:yF F d stop f=true):Runs F d stop (pre++[f]) (ps++[(f,1)]):=by
 refine ⟨⟨?_,?_,?_,?_⟩,?_⟩
 ·rw [List.map_append,List.filter_append,r.heads];simp [hs]
 ·intro x hx
  rcases List.mem_append.mp hx with hx | hx
  ·exact r.pos x hx
  ·rw [Jh.mp hx];exact Jm _
 ·intro x hx i hi
  rcases List.mem_append.mp hx with hx | hx
  ·have:=r.inn x hx i hi
   exact ⟨Jr _ this.1,this.2⟩
  ·rw [Jh.mp hx] at hi ⊢
   have:i=0:=by simp at hi;exact hi
   subst this
   simp
 ·intro x hx hm
  rcases List.mem_append.mp hx with hx | hx
  ·rcases List.mem_append.mp hm with hm | hm
   ·exact r.mx x hx hm
   ·have e:=Jh.mp hm
    have p:=r.pos x hx
    obtain ⟨m,hm'⟩:∃ m,x.2=m+1:=⟨x.2 - 1,by omega⟩
    have i1:=r.inn x hx m (by omega)
    have e2:f - d=x.1+m * d:=by rw [← e,hm'];have:=qR m d;omega
    rw [e]
    unfold yF at hs
    rw [e2] at hs
    simpa [sub _ i1.1] using hs
  ·rw [Jh.mp hx] at hm ⊢
   simp only [Int.natCast_one,Int.one_mul] at hm
   rcases List.mem_append.mp hm with hm | hm
   ·have:=lt _ hm;omega
   ·have:=Jh.mp hm;omega
 ·intro g hg
  rcases List.mem_append.mp hg with hg | hg
  ·obtain ⟨x,hx,i,hi,e⟩:=r.cov g hg
   exact ⟨x,Jr _ hx,i,hi,e⟩
  ·exact ⟨(f,1),by simp,0,by simp,by rw [List.mem_singleton.mp hg];simp⟩
theorem Runs.ext(r:Runs F d stop pre ps)(hd:0<d)(sub:∀ p ∈ pre,p ∈ F)(nd:pre.Nodup)(lt:∀ p ∈ pre,p<f)(hs:yF F d stop f=false){a:Nat}{s:Int}{k:Nat}(ha:ps[a]?=some (s,k))(e:f=s+k * d):Runs F d stop (pre++[f]) (ps.set a (s,k+1)):=by
 obtain ⟨al,ae⟩:=Jv.mp ha
 have hx:(s,k) ∈ ps:=JY ha
 have st:stop f=false:=by unfold yF at hs;rw [Bool.or_eq_false_iff] at hs;exact hs.1
 have cases':∀ x ∈ ps.set a (s,k+1),x=(s,k+1)∨∃ b,b≠a/\ps[b]?=some x:=by
  intro x hx
  obtain ⟨b,hb⟩:=Kf.mp hx
  rw [KY] at hb
  by_cases hba:a=b
  ·rw [if_pos hba] at hb
   exact .inl (by split at hb<;>(cases hb;rfl))
  ·rw [if_neg hba] at hb
   exact .inr ⟨b,fun z=>hba z.symm,hb⟩
 refine ⟨⟨?_,?_,?_,?_⟩,?_⟩
 ·rw [QO,← r.heads,List.map_set]
  simp only [List.filter_cons,hs,Bool.false_eq_true,if_false,List.filter_nil,List.append_nil]
  refine List.ext_getElem (by simp) fun i h1 h2=>?_
  rw [List.getElem_set]
  split
  ·rename_i hia
   subst hia
   simp [ae]
  ·rfl
 ·intro x hx'
  rcases cases' x hx' with rfl | ⟨b,_,hb⟩
  ·exact Kn _
  ·exact r.pos x (JY hb)
 ·intro x hx' i hi
  rcases cases' x hx' with rfl | ⟨b,_,hb⟩
  ·by_cases h:i<k
   ·have:=r.inn _ hx i h
    exact ⟨Jr _ this.1,this.2⟩
   ·have hik:i=k:=by simp at hi;omega
    subst hik
    refine ⟨by rw [← e];simp,fun _=>by rw [← e];exact st⟩
  ·have:=r.inn x (JY hb) i hi
   exact ⟨Jr _ this.1,this.2⟩
 ·intro x hx' hm
  rcases cases' x hx' with rfl | ⟨b,hba,hb⟩
  ·rw [qR] at hm ⊢
   have h1:s+(k * d+d)=f+d:=by omega
   rw [h1] at hm ⊢
   rcases List.mem_append.mp hm with hm | hm
   ·have:=lt _ hm;omega
   ·have:=Jh.mp hm;omega
  ·rcases List.mem_append.mp hm with hm | hm
   ·exact r.mx x (JY hb) hm
   ·have e2:=Jh.mp hm
    have hx2:=JY hb
    have p:=r.pos x hx2
    obtain ⟨m,hm'⟩:∃ m,x.2=m+1:=⟨x.2 - 1,by omega⟩
    have pk:=r.pos _ hx
    obtain ⟨n,hn⟩:∃ n,k=n+1:=⟨k - 1,by simp at pk;omega⟩
    -- the last ones of both are f - d
    have e3:x.1+m * d=s+n * d:=by
     rw [hm'] at e2
     rw [hn] at e
     have:=qR m d
     have:=qR n d
     omega
    have same:∀ {i j:Nat} {x y:Int × Nat},ps[i]?=some x->ps[j]?=some y->x.1=y.1->i=j:=fun h1 h2 h3=>Runs.ix r.toRuns0 nd h1 h2 h3
    exfalso
    -- both heads begin,so they are one
    rcases Nat.lt_trichotomy m n with z | z | z
    ·obtain ⟨q,rfl⟩:∃ q,n=m+(q+1):=⟨n - m - 1,by omega⟩
     have e4:x.1=s+((q+1:Nat):Int) * d:=by
      have:((m+(q+1):Nat):Int) * d=m * d+((q+1:Nat):Int) * d:=by rw [Int.natCast_add,Int.add_mul]
      omega
     exact Runs.clash r.toRuns0 sub hx2 hx e4 (by rw [hn];omega)
    ·subst z
     exact hba (same hb ha (by simp;omega))
    ·obtain ⟨q,rfl⟩:∃ q,m=n+(q+1):=⟨m - n - 1,by omega⟩
     have e4:s=x.1+((q+1:Nat):Int) * d:=by
      have:((n+(q+1):Nat):Int) * d=n * d+((q+1:Nat):Int) * d:=by rw [Int.natCast_add,Int.add_mul]
      omega
     exact Runs.clash r.toRuns0 sub hx hx2 e4 (by rw [hm'];omega)
 ·intro g hg
  rcases List.mem_append.mp hg with hg | hg
  ·obtain ⟨x,hx',i,hi,e'⟩:=r.cov g hg
   obtain ⟨b,hb,rfl⟩:=Ke hx'
   by_cases hba:a=b
   ·subst hba
    rw [ae] at hi e'
    exact ⟨(s,k+1),List.mem_iff_getElem?.mpr ⟨a,by rw [List.getElem?_set,if_pos rfl,if_pos al]⟩,i,by simp at hi ⊢;omega,e'⟩
   ·exact ⟨ps[b],Kf.mpr ⟨b,by rw [KY,if_neg hba];exact Jd hb⟩,i,hi,e'⟩
  ·exact ⟨(s,k+1),List.mem_iff_getElem?.mpr ⟨a,by rw [List.getElem?_set,if_pos rfl,if_pos al]⟩,k,by simp,by rw [List.mem_singleton.mp hg];exact e⟩
end
end CB
namespace F
open PySem PySem.Spec PyProof.Rows L2
inductive PV where
 | non | bl (b:Bool) | int (i:Int) | str (x:Str) | ty (n:String)
 | tup (xs:List PV) | lst (xs:List PV)
 | fls (xs:List PV)
 | dct (ks:List Key) (vs:List PV)
 | any
 | pen (a:Addr) (ns:List Int)
 | adr (a:Addr)
 | dcT (ks:List (List Key)) (vs:List PV)
noncomputable abbrev En:=List (Option PV)
noncomputable abbrev St:=L2.St
noncomputable abbrev FE:=En->Option PV
noncomputable abbrev FT:=En->Option Bool
noncomputable abbrev FA:=En->Option (List PV)
mutual
noncomputable def zQ:PV->Bool
 | .lst _=>false
 | .dct _ _=>false
 | .dcT _ _=>false
 | .pen _ _=>false
 | .adr _=>false
 | .tup xs=>isDatas xs
 | .fls xs=>isDatas xs
 | _=>true
noncomputable def isDatas:List PV->Bool
 | []=>true
 | x::r=>zQ x && isDatas r
end
theorem yf:∀ (xs ys:List PV),isDatas (xs++ys)=(isDatas xs && isDatas ys)
 | [],ys=>by simp [isDatas]
 | x::r,ys=>by simp [isDatas,yf r ys,Bool.and_assoc]
theorem xP:∀ (xs:List PV),isDatas xs=true ↔ ∀ x ∈ xs,zQ x=true
 | []=>by simp [isDatas]
 | x::r=>by simp [isDatas,xP r]
theorem zn{α:Type}(f:α->PV)(h:∀ a,zQ (f a)=true)(xs:List α):isDatas (xs.map f)=true:=by
 rw [xP]
 intro x hx
 obtain ⟨a,_,rfl⟩:=Jp.mp hx
 exact h a
theorem qr(xs:List Int):isDatas (xs.map PV.int)=true:=zn _ (fun _=>by simp [zQ]) xs
noncomputable def Fz(K:PySem.W.Frag)(H:Hp)(a:Addr)(xs:List V):Prop:=
 (∃ o,H a=some (.frz o (.lst xs)))∨∃ (o:Obj) (its:Array Value) (n:Nat),K.lookup a=some o/\o.cls=.type "list"/\o.dict=none/\o.data=.seq its n/\its.size≤sizeLine/\Vals xs its.toList
theorem Fz.seq{K:PySem.W.Frag}{H:Hp}{a:Addr}{xs:List V}(h:Fz K H a xs):SqL K H a xs:=h.elim (fun z=>.inl (.inr z)) .inr
theorem Fz.same{K:PySem.W.Frag}{H H':Hp}{a:Addr}{xs:List V}(e:Same H H')(h:Fz K H a xs):Fz K H' a xs:=h.elim (fun ⟨o,z⟩=>.inl ⟨o,e _ _ z⟩) .inr
mutual
noncomputable def Rp(K:PySem.W.Frag)(H:Hp):PV->V->List Addr->Prop
 | .non,v,A=>v=.non/\A=[]
 | .bl b,v,A=>v=.bl b/\A=[]
 | .int i,v,A=>v=.int i/\A=[]
 | .str x,v,A=>v=.str x/\A=[]
 | .ty n,v,A=>v=.ty n/\A=[]
 | .any,_,A=>A=[]
 | .pen a ns,v,A=>v=.ref a/\A=[a]/\H a=some (.lst (ns.map V.int))
 | .adr a,v,A=>v=.ref a/\A=[]
 | .tup ps,v,A=>∃ a xs,v=.ref a/\SqT K H a xs/\Rps K H ps xs A
 | .lst ps,v,A=>∃ a xs B,v=.ref a/\H a=some (.lst xs)/\A=a::B/\Rps K H ps xs B
 | .fls ps,v,A=>∃ a xs,v=.ref a/\Fz K H a xs/\Rps K H ps xs A
 | .dct ks ps,v,A=>∃ a xs B,v=.ref a/\H a=some (.dK (ks.zip xs))/\ks.length=ps.length/\A=a::B/\Rps K H ps xs B
 | .dcT ks ps,v,A=>∃ a xs B,v=.ref a/\H a=some (.dT (ks.zip xs))/\ks.length=ps.length/\A=a::B/\Rps K H ps xs B
noncomputable def Rps(K:PySem.W.Frag)(H:Hp):List PV->List V->List Addr->Prop
 | [],vs,A=>vs=[]/\A=[]
 | p::ps,vs,A=>∃ v r A1 A2,vs=v::r/\A=A1++A2/\Rp K H p v A1/\Rps K H ps r A2
end
section
variable {K:PySem.W.Frag} {H H':Hp}
mutual
theorem Rp.same(e:Same H H'):∀ (p:PV) {v:V} {A:List Addr},Rp K H p v A->Rp K H' p v A
 | .non,_,_,h=>by unfold Rp at h ⊢;exact h
 | .bl _,_,_,h=>by unfold Rp at h ⊢;exact h
 | .int _,_,_,h=>by unfold Rp at h ⊢;exact h
 | .str _,_,_,h=>by unfold Rp at h ⊢;exact h
 | .ty _,_,_,h=>by unfold Rp at h ⊢;exact h
 | .any,_,_,h=>by unfold Rp at h ⊢;exact h
 | .adr _,_,_,h=>by unfold Rp at h ⊢;exact h
 | .pen _ _,_,_,h=>by unfold Rp at h ⊢;exact ⟨h.1,h.2.1,e _ _ h.2.2⟩
 | .tup ps,_,_,h=>by
  unfold Rp at h ⊢
  obtain ⟨a,xs,h1,h2,h3⟩:=h
  exact ⟨a,xs,h1,e.tup h2,Rps.same e ps h3⟩
 | .lst ps,_,_,h=>by
  unfold Rp at h ⊢
  obtain ⟨a,xs,B,h1,h2,h3,h4⟩:=h
  exact ⟨a,xs,B,h1,e _ _ h2,h3,Rps.same e ps h4⟩
 | .fls ps,_,_,h=>by
  unfold Rp at h ⊢
  obtain ⟨a,xs,h1,h2,h3⟩:=h
  exact ⟨a,xs,h1,h2.same e,Rps.same e ps h3⟩
 | .dct ks ps,_,_,h=>by
  unfold Rp at h ⊢
  obtain ⟨a,xs,B,h1,h2,h3,h4,h5⟩:=h
  exact ⟨a,xs,B,h1,e _ _ h2,h3,h4,Rps.same e ps h5⟩
 | .dcT ks ps,_,_,h=>by
  unfold Rp at h ⊢
  obtain ⟨a,xs,B,h1,h2,h3,h4,h5⟩:=h
  exact ⟨a,xs,B,h1,e _ _ h2,h3,h4,Rps.same e ps h5⟩
theorem Rps.same(e:Same H H'):∀ (ps:List PV) {vs:List V} {A:List Addr},Rps K H ps vs A->Rps K H' ps vs A
 | [],_,_,h=>by unfold Rps at h ⊢;exact h
 | p::ps,_,_,h=>by
  unfold Rps at h ⊢
  obtain ⟨v,r,A1,A2,h1,h2,h3,h4⟩:=h
  exact ⟨v,r,A1,A2,h1,h2,Rp.same e p h3,Rps.same e ps h4⟩
end
noncomputable def MutH(H:Hp)(a:Addr):Prop:=(∃ xs,H a=some (.lst xs))∨(∃ kvs,H a=some (.dK kvs))∨∃ kvs,H a=some (.dT kvs)
theorem MutH.tup{a b:Addr}{xs:List V}{o:HO}(m:MutH H a)(h:SqT K H b xs):SqT K (upd H a o) b xs:=by
 rcases h with (h | ⟨u,h⟩) | h
 ·have:b≠a:=by rintro rfl;rcases m with ⟨_,m⟩ | ⟨_,m⟩ | ⟨_,m⟩<;>(rw [h] at m;cases m)
  exact .inl (.inl (by rw [zM this];exact h))
 ·have:b≠a:=by rintro rfl;rcases m with ⟨_,m⟩ | ⟨_,m⟩ | ⟨_,m⟩<;>(rw [h] at m;cases m)
  exact .inl (.inr ⟨u,by rw [zM this];exact h⟩)
 ·exact .inr h
theorem MutH.fz(m:MutH H a)(h:Fz K H b xs):Fz K (upd H a o) b xs:=by
 rcases h with ⟨u,h⟩ | h
 ·have:b≠a:=by rintro rfl;rcases m with ⟨_,m⟩ | ⟨_,m⟩ | ⟨_,m⟩<;>(rw [h] at m;cases m)
  exact .inl ⟨u,by rw [zM this];exact h⟩
 ·exact .inr h
mutual
theorem Rp.upd{a:Addr}{o:HO}(m:MutH H a):∀ (p:PV) {v:V} {A:List Addr},a ∉ A->Rp K H p v A->Rp K (L2.upd H a o) p v A
 | .non,_,_,_,h=>by unfold Rp at h ⊢;exact h
 | .bl _,_,_,_,h=>by unfold Rp at h ⊢;exact h
 | .int _,_,_,_,h=>by unfold Rp at h ⊢;exact h
 | .str _,_,_,_,h=>by unfold Rp at h ⊢;exact h
 | .ty _,_,_,_,h=>by unfold Rp at h ⊢;exact h
 | .any,_,_,_,h=>by unfold Rp at h ⊢;exact h
 | .adr _,_,_,_,h=>by unfold Rp at h ⊢;exact h
 | .pen b _,_,_,n,h=>by
  unfold Rp at h ⊢
  refine ⟨h.1,h.2.1,?_⟩
  rw [zM (fun z=>n (by rw [h.2.1,z];exact Jc))]
  exact h.2.2
 | .tup ps,_,_,n,h=>by
  unfold Rp at h ⊢
  obtain ⟨b,xs,h1,h2,h3⟩:=h
  exact ⟨b,xs,h1,m.tup h2,Rps.upd m ps n h3⟩
 | .lst ps,_,_,n,h=>by
  unfold Rp at h ⊢
  obtain ⟨b,xs,B,h1,h2,rfl,h4⟩:=h
  have nb:b≠a:=fun z=>n (z ▸ Jc)
  exact ⟨b,xs,B,h1,by rw [zM nb];exact h2,rfl,Rps.upd m ps (fun z=>n (Jf _ z)) h4⟩
 | .fls ps,_,_,n,h=>by
  unfold Rp at h ⊢
  obtain ⟨b,xs,h1,h2,h3⟩:=h
  exact ⟨b,xs,h1,m.fz h2,Rps.upd m ps n h3⟩
 | .dct ks ps,_,_,n,h=>by
  unfold Rp at h ⊢
  obtain ⟨b,xs,B,h1,h2,h3,rfl,h5⟩:=h
  have nb:b≠a:=fun z=>n (z ▸ Jc)
  exact ⟨b,xs,B,h1,by rw [zM nb];exact h2,h3,rfl,Rps.upd m ps (fun z=>n (Jf _ z)) h5⟩
 | .dcT ks ps,_,_,n,h=>by
  unfold Rp at h ⊢
  obtain ⟨b,xs,B,h1,h2,h3,rfl,h5⟩:=h
  have nb:b≠a:=fun z=>n (z ▸ Jc)
  exact ⟨b,xs,B,h1,by rw [zM nb];exact h2,h3,rfl,Rps.upd m ps (fun z=>n (Jf _ z)) h5⟩
theorem Rps.upd{a:Addr}{o:HO}(m:MutH H a):∀ (ps:List PV) {vs:List V} {A:List Addr},a ∉ A->Rps K H ps vs A->Rps K (L2.upd H a o) ps vs A
 | [],_,_,_,h=>by unfold Rps at h ⊢;exact h
 | p::ps,_,_,n,h=>by
  unfold Rps at h ⊢
  obtain ⟨v,r,A1,A2,h1,rfl,h3,h4⟩:=h
  exact ⟨v,r,A1,A2,h1,rfl,Rp.upd m p (fun z=>n (Jr _ z)) h3,Rps.upd m ps (fun z=>n (Jn _ z)) h4⟩
end
mutual
theorem Rp.mut:∀ (p:PV) {v:V} {A:List Addr},Rp K H p v A->∀ a ∈ A,MutH H a
 | .non,_,_,h=>by unfold Rp at h;rw [h.2];simp
 | .bl _,_,_,h=>by unfold Rp at h;rw [h.2];simp
 | .int _,_,_,h=>by unfold Rp at h;rw [h.2];simp
 | .str _,_,_,h=>by unfold Rp at h;rw [h.2];simp
 | .ty _,_,_,h=>by unfold Rp at h;rw [h.2];simp
 | .any,_,_,h=>by unfold Rp at h;rw [h];simp
 | .adr _,_,_,h=>by unfold Rp at h;rw [h.2];simp
 | .pen _ _,_,_,h=>by
  unfold Rp at h
  rw [h.2.1]
  intro b hb
  rw [Jh.mp hb]
  exact .inl ⟨_,h.2.2⟩
 | .tup ps,_,_,h=>by
  unfold Rp at h
  obtain ⟨b,xs,h1,h2,h3⟩:=h
  exact Rps.mut ps h3
 | .lst ps,_,_,h=>by
  unfold Rp at h
  obtain ⟨b,xs,B,h1,h2,rfl,h4⟩:=h
  intro a ha
  rcases List.mem_cons.mp ha with rfl | ha
  ·exact .inl ⟨xs,h2⟩
  ·exact Rps.mut ps h4 a ha
 | .fls ps,_,_,h=>by
  unfold Rp at h
  obtain ⟨b,xs,h1,h2,h3⟩:=h
  exact Rps.mut ps h3
 | .dct ks ps,_,_,h=>by
  unfold Rp at h
  obtain ⟨b,xs,B,h1,h2,h3,rfl,h5⟩:=h
  intro a ha
  rcases List.mem_cons.mp ha with rfl | ha
  ·exact .inr (.inl ⟨_,h2⟩)
  ·exact Rps.mut ps h5 a ha
 | .dcT ks ps,_,_,h=>by
  unfold Rp at h
  obtain ⟨b,xs,B,h1,h2,h3,rfl,h5⟩:=h
  intro a ha
  rcases List.mem_cons.mp ha with rfl | ha
  ·exact .inr (.inr ⟨_,h2⟩)
  ·exact Rps.mut ps h5 a ha
theorem Rps.mut:∀ (ps:List PV) {vs:List V} {A:List Addr},Rps K H ps vs A->∀ a ∈ A,MutH H a
 | [],_,_,h=>by unfold Rps at h;rw [h.2];simp
 | p::ps,_,_,h=>by
  unfold Rps at h
  obtain ⟨v,r,A1,A2,h1,rfl,h3,h4⟩:=h
  intro a ha
  rcases List.mem_append.mp ha with ha | ha
  ·exact Rp.mut p h3 a ha
  ·exact Rps.mut ps h4 a ha
end
theorem MutH.same(h:MutH H a)(s:Same H H'):MutH H' a:=h.imp (fun ⟨x,z⟩=>⟨x,s _ _ z⟩) (Or.imp (fun ⟨x,z⟩=>⟨x,s _ _ z⟩) fun ⟨x,z⟩=>⟨x,s _ _ z⟩)
theorem MutH.some(h:MutH H a):∃ o,H a=some o:=by
 rcases h with ⟨_,h⟩ | ⟨_,h⟩ | ⟨_,h⟩<;>exact ⟨_,h⟩
theorem Rp.alloc(h:Rp K H p v A)(ha:a ∈ A):∃ o,H a=some o:=(Rp.mut p h a ha).some
mutual
theorem Rp.data:∀ (p:PV) {v:V} {A:List Addr},zQ p=true->Rp K H p v A->A=[]
 | .non,_,_,_,h=>by unfold Rp at h;exact h.2
 | .bl _,_,_,_,h=>by unfold Rp at h;exact h.2
 | .int _,_,_,_,h=>by unfold Rp at h;exact h.2
 | .str _,_,_,_,h=>by unfold Rp at h;exact h.2
 | .ty _,_,_,_,h=>by unfold Rp at h;exact h.2
 | .any,_,_,_,h=>by unfold Rp at h;exact h
 | .pen _ _,_,_,d,_=>by simp [zQ] at d
 | .adr _,_,_,d,_=>by simp [zQ] at d
 | .tup ps,_,_,d,h=>by
  unfold Rp at h
  unfold zQ at d
  obtain ⟨b,xs,h1,h2,h3⟩:=h
  exact Rps.data ps d h3
 | .lst ps,_,_,d,h=>by simp [zQ] at d
 | .fls ps,_,_,d,h=>by
  unfold Rp at h
  unfold zQ at d
  obtain ⟨b,xs,h1,h2,h3⟩:=h
  exact Rps.data ps d h3
 | .dct ks ps,_,_,d,h=>by simp [zQ] at d
 | .dcT ks ps,_,_,d,h=>by simp [zQ] at d
theorem Rps.data:∀ (ps:List PV) {vs:List V} {A:List Addr},isDatas ps=true->Rps K H ps vs A->A=[]
 | [],_,_,_,h=>by unfold Rps at h;exact h.2
 | p::ps,_,_,d,h=>by
  unfold Rps at h
  unfold isDatas at d
  rw [JG] at d
  obtain ⟨v,r,A1,A2,h1,h2,h3,h4⟩:=h
  rw [h2,Rp.data p d.1 h3,Rps.data ps d.2 h4];rfl
end
theorem Rps.length:∀ {ps:List PV} {vs:List V} {A:List Addr},Rps K H ps vs A->ps.length=vs.length
 | [],_,_,h=>by unfold Rps at h;rw [h.1];rfl
 | p::ps,_,_,h=>by
  unfold Rps at h
  obtain ⟨v,r,A1,A2,h1,h2,h3,h4⟩:=h
  rw [h1,JH,JH,Rps.length h4]
theorem Rps.get:∀ {ps:List PV} {vs:List V} {A:List Addr} {i:Nat} {p:PV},Rps K H ps vs A->ps[i]?=some p->∃ v C,vs[i]?=some v/\Rp K H p v C/\C.Sublist A
 | [],_,_,_,_,_,e=>by simp at e
 | q::ps,_,_,0,p,h,e=>by
  unfold Rps at h
  obtain ⟨v,r,A1,A2,h1,h2,h3,h4⟩:=h
  simp at e
  subst e
  exact ⟨v,A1,by rw [h1];rfl,h3,by rw [h2];exact List.sublist_append_left _ _⟩
 | q::ps,_,_,i+1,p,h,e=>by
  unfold Rps at h
  obtain ⟨v,r,A1,A2,h1,h2,h3,h4⟩:=h
  obtain ⟨w,C,g1,g2,g3⟩:=Rps.get (i:=i) h4 (by simpa using e)
  exact ⟨w,C,by rw [h1];simpa using g1,g2,by rw [h2];exact g3.trans (List.sublist_append_right _ _)⟩
theorem Rps.append:∀ {ps qs:List PV} {vs ws:List V} {A B:List Addr},Rps K H ps vs A->Rps K H qs ws B->Rps K H (ps++qs) (vs++ws) (A++B)
 | [],_,_,_,_,_,h,h'=>by unfold Rps at h;rw [h.1,h.2];exact h'
 | p::ps,qs,_,ws,_,B,h,h'=>by
  unfold Rps at h
  obtain ⟨v,r,A1,A2,h1,h2,h3,h4⟩:=h
  show Rps K H (p::(ps++qs)) _ _
  unfold Rps
  exact ⟨v,r++ws,A1,A2++B,by rw [h1];rfl,by rw [h2,JC],h3,Rps.append h4 h'⟩
theorem Rps.nil:Rps K H [] [] []:=by unfold Rps;exact ⟨rfl,rfl⟩
theorem Rps.cons{p:PV}{ps:List PV}{v:V}{vs:List V}{A B:List Addr}(h:Rp K H p v A)(h':Rps K H ps vs B):Rps K H (p::ps) (v::vs) (A++B):=by
 unfold Rps;exact ⟨v,vs,A,B,rfl,rfl,h,h'⟩
theorem Rps.one{p:PV}{v:V}{A:List Addr}(h:Rp K H p v A):Rps K H [p] [v] A:=by
 have:=Rps.cons h (Rps.nil (K:=K) (H:=H))
 rwa [JR] at this
theorem Rps.inv(h:Rps K H (p::ps) vs A):∃ v r A1 A2,vs=v::r/\A=A1++A2/\Rp K H p v A1/\Rps K H ps r A2:=by
 unfold Rps at h;exact h
theorem Rps.inv0(h:Rps K H [] vs A):vs=[]/\A=[]:=by unfold Rps at h;exact h
theorem Rps.split:∀ {ps qs:List PV} {vs:List V} {A:List Addr},Rps K H (ps++qs) vs A->∃ v1 v2 A1 A2,vs=v1++v2/\A=A1++A2/\Rps K H ps v1 A1/\Rps K H qs v2 A2
 | [],qs,vs,A,h=>⟨[],vs,[],A,rfl,rfl,.nil,h⟩
 | p::ps,qs,vs,A,h=>by
  obtain ⟨v,r,A1,A2,h1,h2,h3,h4⟩:=Rps.inv (show Rps K H (p::(ps++qs)) vs A from h)
  obtain ⟨v1,v2,B1,B2,g1,g2,g3,g4⟩:=Rps.split h4
  exact ⟨v::v1,v2,A1++B1,B2,by rw [h1,g1];rfl,by rw [h2,g2,JC],.cons h3 g3,g4⟩
theorem Rp.mkI(i:Int):Rp K H (.int i) (.int i) []:=by unfold Rp;exact ⟨rfl,rfl⟩
theorem Rp.mkB(b:Bool):Rp K H (.bl b) (.bl b) []:=by unfold Rp;exact ⟨rfl,rfl⟩
theorem Rp.mkS(x:Str):Rp K H (.str x) (.str x) []:=by unfold Rp;exact ⟨rfl,rfl⟩
theorem Rp.mkN:Rp K H .non .non []:=by unfold Rp;exact ⟨rfl,rfl⟩
theorem Rp.mkTy(n:String):Rp K H (.ty n) (.ty n) []:=by unfold Rp;exact ⟨rfl,rfl⟩
theorem Rp.mkT(h:SqT K H a xs)(r:Rps K H ps xs A):Rp K H (.tup ps) (.ref a) A:=by unfold Rp;exact ⟨a,xs,rfl,h,r⟩
theorem Rp.mkL(h:H a=some (.lst xs))(r:Rps K H ps xs A):Rp K H (.lst ps) (.ref a) (a::A):=by unfold Rp;exact ⟨a,xs,A,rfl,h,rfl,r⟩
theorem Rp.mkD{ks:List Key}{ps:List PV}(h:H a=some (.dK (ks.zip xs)))(l:ks.length=ps.length)(r:Rps K H ps xs A):Rp K H (.dct ks ps) (.ref a) (a::A):=by unfold Rp;exact ⟨a,xs,A,rfl,h,l,rfl,r⟩
theorem Rp.mkDT{ks:List (List Key)}{ps:List PV}(h:H a=some (.dT (ks.zip xs)))(l:ks.length=ps.length)(r:Rps K H ps xs A):Rp K H (.dcT ks ps) (.ref a) (a::A):=by unfold Rp;exact ⟨a,xs,A,rfl,h,l,rfl,r⟩
theorem Rp.I(h:Rp K H (.int i) v A):v=.int i/\A=[]:=by unfold Rp at h;exact h
theorem Rp.B(h:Rp K H (.bl i) v A):v=.bl i/\A=[]:=by unfold Rp at h;exact h
theorem Rp.S(h:Rp K H (.str i) v A):v=.str i/\A=[]:=by unfold Rp at h;exact h
theorem Rp.N{v:V}{A:List Addr}(h:Rp K H .non v A):v=.non/\A=[]:=by unfold Rp at h;exact h
theorem Rp.Ty(h:Rp K H (.ty n) v A):v=.ty n/\A=[]:=by unfold Rp at h;exact h
theorem Rp.T(h:Rp K H (.tup ps) v A):∃ a xs,v=.ref a/\SqT K H a xs/\Rps K H ps xs A:=by unfold Rp at h;exact h
theorem Rp.L(h:Rp K H (.lst ps) v A):∃ a xs B,v=.ref a/\H a=some (.lst xs)/\A=a::B/\Rps K H ps xs B:=by unfold Rp at h;exact h
theorem Rp.Fl(h:Rp K H (.fls ps) v A):∃ a xs,v=.ref a/\Fz K H a xs/\Rps K H ps xs A:=by unfold Rp at h;exact h
theorem Rp.D{ks:List Key}{ps:List PV}(h:Rp K H (.dct ks ps) v A):∃ a xs B,v=.ref a/\H a=some (.dK (ks.zip xs))/\ks.length=ps.length/\A=a::B/\Rps K H ps xs B:=by unfold Rp at h;exact h
theorem Rp.DT{ks:List (List Key)}{ps:List PV}(h:Rp K H (.dcT ks ps) v A):∃ a xs B,v=.ref a/\H a=some (.dT (ks.zip xs))/\ks.length=ps.length/\A=a::B/\Rps K H ps xs B:=by unfold Rp at h;exact h
end
structure VI (K:PySem.W.Frag) (κ:Nat->Option Nat) (G:Hp) (own:Addr->Option Nat) (env:En) (σ:St) (H:Hp):Prop where
 len:env.length=σ.length
 slot:∀ i p,env[i]?=some (some p)->∃ v A,σ[i]?=some (some v)/\Rp K H p v A/\(κ i=none->∀ a ∈ A,own a=none)/\∀ l,κ i=some l->A.Nodup/\∀ a ∈ A,own a=some l
 own:∀ a l,own a=some l->G a=none/\MutH H a
 same:Same G H
theorem VI.grow{K:PySem.W.Frag}{κ:Nat->Option Nat}{G:Hp}{own:Addr->Option Nat}{env:En}{σ:St}{H H':Hp}(I:VI K κ G own env σ H)(s:Same H H'):VI K κ G own env σ H':=
 ⟨I.len,fun i p e=>let ⟨v,A,h1,h2,h3⟩:=I.slot i p e;⟨v,A,h1,Rp.same s p h2,h3⟩,fun a l e=>let ⟨h1,h2⟩:=I.own a l e;⟨h1,h2.same s⟩,I.same.trans s⟩
noncomputable def Ext(own:Addr->Option Nat)(H:Hp)(own':Addr->Option Nat)(H':Hp):Prop:=∀ b o,own b=none->H b=some o->own' b=none/\H' b=some o
theorem Ext.refl(own:Addr->Option Nat)(H:Hp):Ext own H own H:=fun _ _ h e=>⟨h,e⟩
theorem Ext.trans(a:Ext o1 H1 o2 H2)(b:Ext o2 H2 o3 H3):Ext o1 H1 o3 H3:=fun x o h e=>let ⟨h',e'⟩:=a x o h e;b x o h' e'
theorem Ext.grow(s:Same H H'):Ext own H own H':=fun b o h e=>⟨h,s b o e⟩
inductive Cat where
 | mv (L:List Nat) | sh | bo
noncomputable def Cat.ok:Cat->Hp->(Addr->Option Nat)->List Addr->Prop
 | .mv L,H,own,A=>A.Nodup/\∀ a ∈ A,H a=none∨∃ l ∈ L,own a=some l
 | .sh,_,own,A=>∀ a ∈ A,own a=none
 | .bo,_,_,_=>True
theorem Cat.nil(c:Cat)(H:Hp)(own:Addr->Option Nat):c.ok H own []:=by
 cases c with
 | mv L=>exact ⟨.nil,by simp⟩
 | sh=>show ∀ a ∈ [],own a=none;simp
 | bo=>trivial
noncomputable def tV(K:PySem.W.Frag)(κ:Nat->Option Nat)(G:Hp)(c:Cat)(f:FE):TE:=fun σ H Q=>∃ own env p,VI K κ G own env σ H/\f env=some p/\∀ v H' A,Same H H'->Rp K H' p v A->c.ok H own A->Q v H'
noncomputable def tVT(K:PySem.W.Frag)(κ:Nat->Option Nat)(G:Hp)(f:FT):TT:=fun σ H Q=>∃ own env b,VI K κ G own env σ H/\f env=some b/\∀ H',Same H H'->Q b H'
noncomputable def tVA(K:PySem.W.Frag)(κ:Nat->Option Nat)(G:Hp)(c:Cat)(f:FA):TA:=fun σ H Q=>∃ own env ps,VI K κ G own env σ H/\f env=some ps/\∀ vs H' A,Same H H'->Rps K H' ps vs A->c.ok H own A->Q vs H'
theorem tV.in{K:PySem.W.Frag}{κ:Nat->Option Nat}{G:Hp}{c:Cat}{f:FE}{σ:St}{H:Hp}{Q:VK}{own:Addr->Option Nat}{env:En}{p:PV}(I:VI K κ G own env σ H)(hf:f env=some p)(k:∀ v H' A,Same H H'->Rp K H' p v A->c.ok H own A->Q v H'):tV K κ G c f σ H Q:=⟨own,env,p,I,hf,k⟩
theorem tV.elim{K:PySem.W.Frag}{κ:Nat->Option Nat}{G:Hp}{c:Cat}{f:FE}{σ:St}{H:Hp}{Q:VK}{C:Prop}(h:tV K κ G c f σ H Q)(k:∀ own env (p:PV),VI K κ G own env σ H->f env=some p->(∀ v H' A,Same H H'->Rp K H' p v A->c.ok H own A->Q v H')->C):C:=
 let ⟨own,env,p,I,hf,q⟩:=h
 k own env p I hf q
theorem tVT.in{K:PySem.W.Frag}{κ:Nat->Option Nat}{G:Hp}{f:FT}{σ:St}{H:Hp}{Q:Bool->Hp->Prop}{own:Addr->Option Nat}{env:En}{p:Bool}(I:VI K κ G own env σ H)(hf:f env=some p)(k:∀ H',Same H H'->Q p H'):tVT K κ G f σ H Q:=⟨own,env,p,I,hf,k⟩
theorem tVT.elim{K:PySem.W.Frag}{κ:Nat->Option Nat}{G:Hp}{f:FT}{σ:St}{H:Hp}{Q:Bool->Hp->Prop}{C:Prop}(h:tVT K κ G f σ H Q)(k:∀ own env (p:Bool),VI K κ G own env σ H->f env=some p->(∀ H',Same H H'->Q p H')->C):C:=
 let ⟨own,env,p,I,hf,q⟩:=h
 k own env p I hf q
theorem tVA.in{K:PySem.W.Frag}{κ:Nat->Option Nat}{G:Hp}{c:Cat}{f:FA}{σ:St}{H:Hp}{Q:List V->Hp->Prop}{own:Addr->Option Nat}{env:En}{p:List PV}(I:VI K κ G own env σ H)(hf:f env=some p)(k:∀ vs H' A,Same H H'->Rps K H' p vs A->c.ok H own A->Q vs H'):tVA K κ G c f σ H Q:=⟨own,env,p,I,hf,k⟩
theorem tVA.elim{K:PySem.W.Frag}{κ:Nat->Option Nat}{G:Hp}{c:Cat}{f:FA}{σ:St}{H:Hp}{Q:List V->Hp->Prop}{C:Prop}(h:tVA K κ G c f σ H Q)(k:∀ own env (p:List PV),VI K κ G own env σ H->f env=some p->(∀ vs H' A,Same H H'->Rps K H' p vs A->c.ok H own A->Q vs H')->C):C:=
 let ⟨own,env,p,I,hf,q⟩:=h
 k own env p I hf q
noncomputable def VE(X:Cx)(κ:Nat->Option Nat)(G:Hp)(c:Cat)(e:Expr)(f:FE):Prop:=PE X e (tV X.K κ G c f)
noncomputable def VT(X:Cx)(κ:Nat->Option Nat)(G:Hp)(e:Expr)(f:FT):Prop:=PT X e (tVT X.K κ G f)
noncomputable def VW(X:Cx)(κ:Nat->Option Nat)(G:Hp)(e:Expr)(f:FT):Prop:=PW X e (tVT X.K κ G f)
noncomputable def VA(X:Cx)(κ:Nat->Option Nat)(G:Hp)(c:Cat)(es:List Expr)(f:FA):Prop:=PA X es (tVA X.K κ G c f)/\∀ env ps,f env=some ps->ps.length=es.length
end F
namespace L2
theorem PE.imp{t t':TE}(h:PE X e t)(i:∀ σ H Q,t' σ H Q->t σ H Q):PE X e t':=fun pins s σ H Q I hw=>h pins s σ H Q I (i _ _ _ hw)
theorem PT.imp{t t':TT}(h:PT X e t)(i:∀ σ H Q,t' σ H Q->t σ H Q):PT X e t':=fun pins s σ H Q I hw=>h pins s σ H Q I (i _ _ _ hw)
theorem PW.imp{t t':TT}(h:PW X e t)(i:∀ σ H Q,t' σ H Q->t σ H Q):PW X e t':=fun wh pins s σ H Q I hw=>h wh pins s σ H Q I (i _ _ _ hw)
theorem PA.imp{t t':TA}(h:PA X e t)(i:∀ σ H Q,t' σ H Q->t σ H Q):PA X e t':=fun pos pins s σ H Q I hw=>h pos pins s σ H Q I (i _ _ _ hw)
theorem PS.imp{t t':TS}(h:PS X e t)(i:∀ D σ H,t' D σ H->t D σ H):PS X e t':=fun pins s σ H D I hw=>h pins s σ H D I (i _ _ _ hw)
theorem PSs.imp{t t':TS}(h:PSs X e t)(i:∀ D σ H,t' D σ H->t D σ H):PSs X e t':=fun pins s σ H D I hw=>h pins s σ H D I (i _ _ _ hw)
end L2
namespace F
open PySem PySem.Spec PyProof.Rows L2
noncomputable def zk:PV->Option Bool
 | .bl b=>some b
 | _=>none
noncomputable def zA(i:Nat):FE:=fun env=>(env[i]?).join
noncomputable def fC(p:PV):FE:=fun _=>some p
noncomputable def fOp(g:PV->PV->Option PV)(fa fb:FE):FE:=fun env=>(fa env).bind fun x=>(fb env).bind fun y=>g x y
noncomputable def fUn(g:PV->Option PV)(fa:FE):FE:=fun env=>(fa env).bind g
noncomputable def zh(f:FE):FE:=fun env=>(f env).bind fun p=>if zQ p=true then some p else none
noncomputable def fT(f:FE):FT:=fun env=>(f env).bind zk
noncomputable def zbp(t u:FT):FT:=fun env=>(t env).bind fun b=>if b=true then u env else some false
noncomputable def fOr(t u:FT):FT:=fun env=>(t env).bind fun b=>if b=true then some true else u env
noncomputable def zho(t:FT):FT:=fun env=>(t env).map fun b=>!b
noncomputable def fIf(t:FT)(a b:FE):FE:=fun env=>(t env).bind fun c=>if c=true then a env else b env
noncomputable def zE:FA:=fun _=>some []
noncomputable def zB(f:FE)(r:FA):FA:=fun env=>(f env).bind fun p=>(r env).map fun ps=>p::ps
noncomputable def xJ(f:FA):FE:=fun env=>(f env).map .tup
noncomputable def xL(f:FA):FE:=fun env=>(f env).map .lst
noncomputable def zI(Φ:List PV->Option PV)(f:FA):FE:=fun env=>(f env).bind Φ
section
variable {X:Cx} {κ:Nat->Option Nat} {G:Hp} {c c1 c2:Cat} {a b e:Expr} {es:List Expr} {fa fb f:FE} {t u:FT} {fs:FA} {pos:Pos}
theorem VE.bo(h:VE X κ G c e f):VE X κ G .bo e f:=PE.imp h fun σ H Q ⟨own,env,p,I,hf,k⟩=>(.in I hf fun v H' A s r _=>k v H' A s r trivial)
theorem uJ{K:PySem.W.Frag}{own:Addr->Option Nat}{env:En}{σ:St}{H:Hp}{A:List Addr}(I:VI K κ G own env σ H)(h:∀ a ∈ A,H a=none):∀ a ∈ A,own a=none:=fun a ha=>by
 cases e:own a with
 | none=>rfl
 | some l=>obtain ⟨_,m⟩:=I.own a l e;obtain ⟨o,h'⟩:=m.some;rw [h a ha] at h';cases h'
theorem VE.sh(h:VE X κ G (.mv []) e f):VE X κ G .sh e f:=PE.imp h fun σ H Q ⟨own,env,p,I,hf,k⟩=>by
 exact (.in I hf fun v H' A s r hc=>k v H' A s r (uJ I fun a ha=>(hc.2 a ha).elim id fun ⟨_,hl,_⟩=>nomatch hl))
theorem VE.data(h:VE X κ G c e f)(L:Cat):VE X κ G L e (zh f):=PE.imp h fun σ H Q ⟨own,env,p,I,hf,k⟩=>by
 unfold zh at hf
 cases hq:f env with
 | none=>rw [hq] at hf;cases hf
 | some q=>
  rw [hq] at hf
  dsimp only [Option.bind_some] at hf
  split at hf
  ·rename_i hd
   cases hf
   refine (.in I hq fun v H' A s r hc=>k v H' A s r ?_)
   rw [Rp.data p hd r]
   exact Cat.nil _ _ _
  ·cases hf
theorem zmB(i:Nat){x:Str}(hk:κ i=none)(h:PE X (.Name x pos) (vo i)):VE X κ G .sh (.Name x pos) (zA i):=h.imp fun σ H Q hq_=>by
 refine hq_.elim fun own env p I hf k=>?_
 have e:env[i]?=some (some p):=by
  unfold zA at hf
  cases q:env[i]? with
  | none=>rw [q] at hf;cases hf
  | some z=>
   rw [q] at hf;have:z=some p:=by simpa using hf
   rw [this]
 obtain ⟨v,A,h1,h2,h3,_⟩:=I.slot i p e
 exact ⟨v,h1,k v H A (Same.refl _) h2 (h3 hk)⟩
theorem zmH(i:Nat){x:Str}(h:PE X (.Name x pos) (vo i)):VE X κ G .bo (.Name x pos) (zA i):=h.imp fun σ H Q hq_=>by
 refine hq_.elim fun own env p I hf k=>?_
 have e:env[i]?=some (some p):=by
  unfold zA at hf
  cases q:env[i]? with
  | none=>rw [q] at hf;cases hf
  | some z=>
   rw [q] at hf;have:z=some p:=by simpa using hf
   rw [this]
 obtain ⟨v,A,h1,h2,h3,_⟩:=I.slot i p e
 exact ⟨v,h1,k v H A (Same.refl _) h2 trivial⟩
theorem zmD(i:Nat){l:Nat}{x:Str}(hk:κ i=some l)(h:PE X (.Name x pos) (vo i)):VE X κ G (.mv [l]) (.Name x pos) (zA i):=h.imp fun σ H Q hq_=>by
 refine hq_.elim fun own env p I hf k=>?_
 have e:env[i]?=some (some p):=by
  unfold zA at hf
  cases q:env[i]? with
  | none=>rw [q] at hf;cases hf
  | some z=>
   rw [q] at hf;have:z=some p:=by simpa using hf
   rw [this]
 obtain ⟨v,A,h1,h2,_,h3⟩:=I.slot i p e
 exact ⟨v,h1,k v H A (Same.refl _) h2 ⟨(h3 l hk).1,fun a ha=>.inr ⟨l,Jh.mpr rfl,(h3 l hk).2 a ha⟩⟩⟩
theorem zea{p:PV}{v:V}(hp:∀ K H,Rp K H p v [])(h:PE X e (tC v)):VE X κ G c e (fC p):=h.imp fun σ H Q hq_=>by
 refine hq_.elim fun own env q I hf k=>?_
 cases hf
 exact k v H [] (Same.refl _) (hp _ _) (Cat.nil _ _ _)
theorem zkz{i j}:VE X κ G (.mv []) (.Constant (.int i) j pos) (fC (.int i)):=zea (fun _ _=>.mkI i) zlm
theorem zmI{i j}:VE X κ G (.mv []) (.Constant (.bool i) j pos) (fC (.bl i)):=zea (fun _ _=>.mkB i) znk
theorem zkv{j}:VE X κ G (.mv []) (.Constant .none j pos) (fC .non):=zea (fun _ _=>.mkN) zlk
theorem zks{i j}:VE X κ G (.mv []) (.Constant (.str i) j pos) (fC (.str i)):=zea (fun _ _=>.mkS i) zli
noncomputable def OpV(K:PySem.W.Frag)(r:R2)(g:PV->PV->Option PV):Prop:=∀ (H:Hp) (p q:PV) (x y:V) (A B:List Addr) (z:PV) (Q:VK),Rp K H p x A->Rp K H q y B->g p q=some z->
 (∀ v H' C,Same H H'->Rp K H' z v C->C.Nodup->(∀ a ∈ C,H a=none)->Q v H')->r x y H Q
theorem zbL{K:PySem.W.Frag}{r:R2}{g:PV->PV->Option PV}(hv:OpV K r g)(σ:St)(H:Hp)(Q:VK)(h:tV K κ G (.mv []) (fOp g fa fb) σ H Q):tOp r (tV K κ G c1 fa) (tV K κ G c2 fb) σ H Q:=by
 obtain ⟨own,env,z,I,e,k⟩:=h
 unfold fOp at e
 replace e:=Ja.mp e;obtain ⟨p,hp,e⟩:=e
 replace e:=Ja.mp e;obtain ⟨q,hq,e⟩:=e
 refine (.in I hp fun x H1 A s1 r1 _=>(.in (I.grow s1) hq fun y H2 B s2 r2 _=>?_))
 exact hv H2 p q x y A B z Q (Rp.same s2 p r1) r2 e fun v H' C s3 r3 nd fr=>k v H' C (s1.trans (s2.trans s3)) r3 ⟨nd,fun a ha=>.inl ((s1.trans s2).free (fr a ha))⟩
theorem zmC(ho:OpR X (binaryOp op) r)(hv:OpV X.K r g)(ha:VE X κ G c1 a fa)(hb:VE X κ G c2 b fb):VE X κ G (.mv []) (.BinOp a op b pos) (fOp g fa fb):=
 (znh ho ha hb).imp (zbL hv)
theorem zkA(ho:OpR X (compareOp op) r)(hv:OpV X.K r g)(ha:VE X κ G c1 a fa)(hb:VE X κ G c2 b fb)(hm:behindInMarks op b=false):VE X κ G (.mv []) (.Compare a [op] [b] pos) (fOp g fa fb):=
 (ziW ho ha hb hm).imp (zbL hv)
theorem zaz{te:TE}(h:∀ σ H Q,tV X.K κ G (.mv []) f σ H Q->te σ H Q)(σ:St)(H:Hp)(Q:Bool->Hp->Prop)(hq:tVT X.K κ G (fT f) σ H Q):zfH te σ H Q:=by
 obtain ⟨own,env,b,I,e,k⟩:=hq
 unfold fT at e
 replace e:=Ja.mp e;obtain ⟨p,hp,e⟩:=e
 cases p<;>first | cases e | skip
 refine h _ _ _ (.in I hp fun v H' A s r _=>?_)
 exact ⟨_,r.B.1,k H' s⟩
theorem zkh(ho:OpR X (compareOp op) r)(hv:OpV X.K r g)(ha:VE X κ G c1 a fa)(hb:VE X κ G c2 b fb)(hm:behindInMarks op b=false):VT X κ G (.Compare a [op] [b] pos) (fT (fOp g fa fb)):=
 (zde ho ha hb hm).imp (zaz (zbL hv))
noncomputable def yk(g g':PV->PV->Option PV)(fa fb fc:FE):FE:=fun env=>(fa env).bind fun x=>(fb env).bind fun y=>(g x y).bind fun z=>(zk z).bind fun k=>if k=true then (fc env).bind fun w=>g' y w else some (.bl false)
theorem kn{K:PySem.W.Frag}{r r':R2}{g g':PV->PV->Option PV}{fc:FE}{c3:Cat}(hv:OpV K r g)(hv':OpV K r' g')(σ:St)(H:Hp)(Q:VK)(h:tV K κ G (.mv []) (yk g g' fa fb fc) σ H Q):zbM r r' (tV K κ G c1 fa) (tV K κ G c2 fb) (tV K κ G c3 fc) σ H Q:=by
 obtain ⟨own,env,z,I,e,k⟩:=h
 unfold yk at e
 replace e:=Ja.mp e;obtain ⟨p,hp,e⟩:=e
 replace e:=Ja.mp e;obtain ⟨q,hq,e⟩:=e
 replace e:=Ja.mp e;obtain ⟨d,hg,e⟩:=e
 cases d<;>first | cases e | skip
 rename_i kb
 rw [show zk (.bl kb)=some kb from rfl,Je] at e
 refine (.in I hp fun x H1 A s1 r1 _=>(.in (I.grow s1) hq fun y H2 B s2 r2 _=>?_))
 refine hv H2 p q x y A B _ _ (Rp.same s2 p r1) r2 hg fun v H3 C s3 r3 nd fr=>⟨kb,r3.B.1,?_⟩
 cases kb with
 | false=>
  cases e
  exact ite_ff (k _ _ [] (s1.trans (s2.trans s3)) (.mkB false) (Cat.nil _ _ _))
 | true=>
  simp only [if_true] at e
  replace e:=Ja.mp e;obtain ⟨w,hc,e⟩:=e
  refine ite_tt ⟨own,env,w,I.grow (s1.trans (s2.trans s3)),hc,fun y' H4 C' s4 r4 _=>?_⟩
  exact hv' H4 q w y y' B C' z Q (Rp.same (s3.trans s4) q r2) r4 e fun v H' C s5 r5 nd fr=>k v H' C (s1.trans (s2.trans (s3.trans (s4.trans s5)))) r5 ⟨nd,fun a ha=>.inl ((s1.trans (s2.trans (s3.trans s4))).free (fr a ha))⟩
theorem zfA(ho:OpR X (compareOp op) r)(ho':OpR X (compareOp op') r')(hv:OpV X.K r g)(hv':OpV X.K r' g')(ha:VE X κ G c1 a fa)(hb:VE X κ G c2 b fb)(hc:VE X κ G c3 cc fc)
  (hm:lastMarks [op,op'] [b,cc]=false:=by with_unfolding_all rfl):VE X κ G (.mv []) (.Compare a [op,op'] [b,cc] pos) (yk g g' fa fb fc):=(zgr ho ho' ha hb hc hm).imp (kn hv hv')
theorem zfs(ho:OpR X (compareOp op) r)(ho':OpR X (compareOp op') r')(hv:OpV X.K r g)(hv':OpV X.K r' g')(ha:VE X κ G c1 a fa)(hb:VE X κ G c2 b fb)(hc:VE X κ G c3 cc fc)
  (hm:lastMarks [op,op'] [b,cc]=false:=by with_unfolding_all rfl):VT X κ G (.Compare a [op,op'] [b,cc] pos) (fT (yk g g' fa fb fc)):=(zge ho ho' ha hb hc hm).imp (zaz (kn hv hv'))
theorem zkg(h:VT X κ G a t):VT X κ G (.UnaryOp .Not a pos) (zho t):=(zkX h).imp fun σ H Q hq_=>by
 refine hq_.elim fun own env b I e k=>?_
 unfold zho at e
 cases hp:t env with
 | none=>rw [hp] at e;cases e
 | some p=>rw [hp] at e;cases e;exact ⟨own,env,p,I,hp,k⟩
theorem zic(h:VT X κ G a t):VW X κ G (.BoolOp .And [a] pos) t:=ziL h
theorem zke(h:VT X κ G a t):VW X κ G (.BoolOp .Or [a] pos) t:=zkT h
theorem zkf{yC:List Expr}(h:VT X κ G a t)(h2:VW X κ G (.BoolOp .And (b::yC) pos) u):VW X κ G (.BoolOp .And (a::b::yC) pos) (zbp t u):=(zkU h h2).imp fun σ H Q hq_=>by
 refine hq_.elim fun own env z I e k=>?_
 unfold zbp at e
 replace e:=Ja.mp e;obtain ⟨p,hp,e⟩:=e
 refine (.in I hp fun H1 s1=>?_)
 cases p with
 | true=>exact ite_tt (.in (I.grow s1) (by simpa using e) fun H' s2=>k H' (s1.trans s2))
 | false=>cases e;exact ite_ff (k H1 s1)
theorem zmy{yC:List Expr}(h:VT X κ G a t)(h2:VW X κ G (.BoolOp .Or (b::yC) pos) u):VW X κ G (.BoolOp .Or (a::b::yC) pos) (fOr t u):=(zne h h2).imp fun σ H Q hq_=>by
 refine hq_.elim fun own env z I e k=>?_
 unfold fOr at e
 replace e:=Ja.mp e;obtain ⟨p,hp,e⟩:=e
 refine (.in I hp fun H1 s1=>?_)
 cases p with
 | false=>exact ite_ff (.in (I.grow s1) (by simpa using e) fun H' s2=>k H' (s1.trans s2))
 | true=>cases e;exact ite_tt (k H1 s1)
theorem VW.vt(h:VW X κ G e t):VT X κ G e t:=PW.pt h
theorem zku{op}(h:VE X κ G c a fa):VE X κ G c (.BoolOp op [a] pos) fa:=zlj h
noncomputable def znS(fa fb:FE):FE:=fun env=>(fa env).bind fun x=>(zk x).bind fun k=>if k=true then fb env else some (.bl false)
noncomputable def zpe(fa fb:FE):FE:=fun env=>(fa env).bind fun x=>(zk x).bind fun k=>if k=true then some (.bl true) else fb env
noncomputable def znQ(fa:FE):FE:=fun env=>(fa env).bind fun x=>(zk x).map fun k=>.bl (!k)
theorem Cat.back{L:List Nat}{H H1:Hp}{own:Addr->Option Nat}{A:List Addr}(c:Cat)(s:Same H H1)(h:c.ok H1 own A):c.ok H own A:=by
 cases c with
 | mv L=>exact ⟨h.1,fun a ha=>(h.2 a ha).elim (fun z=>.inl (s.free z)) .inr⟩
 | sh=>exact h
 | bo=>trivial
theorem zjJ{cc:Expr}(hc:VT X κ G cc t)(ha:VE X κ G c a fa)(hb:VE X κ G c b fb):VE X κ G c (.IfExp cc a b pos) (fIf t fa fb):=(zgn hc ha hb).imp fun σ H Q hq_=>by
 refine hq_.elim fun own env z I e k=>?_
 unfold fIf at e
 replace e:=Ja.mp e;obtain ⟨p,hp,e⟩:=e
 refine (.in I hp fun H1 s1=>?_)
 cases p with
 | true=>exact ite_tt (.in (I.grow s1) (by simpa using e) fun v H' A s2 r2 h=>k v H' A (s1.trans s2) r2 (Cat.back (L:=[]) c s1 h))
 | false=>exact ite_ff (.in (I.grow s1) (by simpa using e) fun v H' A s2 r2 h=>k v H' A (s1.trans s2) r2 (Cat.back (L:=[]) c s1 h))
theorem zbG:VA X κ G c [] zE:=⟨pa_nil.imp fun σ H Q hq_=>by
 refine hq_.elim fun own env ps I e k=>?_
 cases e
 exact k [] H [] (Same.refl _) .nil (Cat.nil _ _ _),fun env ps e=>by cases e;rfl⟩
theorem wD(e:zB f fs env=some ps):∃ p r,f env=some p/\fs env=some r/\ps=p::r:=by
 unfold zB at e
 replace e:=Ja.mp e;obtain ⟨p,hp,e⟩:=e
 cases hr:fs env with
 | none=>rw [hr] at e;cases e
 | some r=>rw [hr] at e;cases e;exact ⟨p,r,hp,rfl,rfl⟩
theorem uj(hr:∀ env ps,fs env=some ps->ps.length=es.length):∀ env ps,zB f fs env=some ps->ps.length=(e::es).length:=fun env ps hf=>by
 obtain ⟨p,r,_,h2,rfl⟩:=wD hf
 rw [JH,JH,hr env r h2]
theorem zmK(h:VE X κ G c1 e f)(hr:VA X κ G .bo es fs)(hs:starEach (e::es) X.env=(false,eval e X.env)::starEach es X.env:=by rfl):VA X κ G .bo (e::es) (zB f fs):=⟨(ww h hr.1 hs).imp fun σ H Q hq_=>by
 refine hq_.elim fun own env ps I hf k=>?_
 obtain ⟨p,r,h1,h2,rfl⟩:=wD hf
 exact (.in I h1 fun v H1 A s1 r1 _=>(.in (I.grow s1) h2 fun vs H2 B s2 r2 _=>k _ H2 (A++B) (s1.trans s2) (.cons (Rp.same s2 p r1) r2) trivial)),uj hr.2⟩
theorem zmJ(h:VE X κ G .sh e f)(hr:VA X κ G .sh es fs)(hs:starEach (e::es) X.env=(false,eval e X.env)::starEach es X.env:=by rfl):VA X κ G .sh (e::es) (zB f fs):=⟨(ww h hr.1 hs).imp fun σ H Q hq_=>by
 refine hq_.elim fun own env ps I hf k=>?_
 obtain ⟨p,r,h1,h2,rfl⟩:=wD hf
 exact (.in I h1 fun v H1 A s1 r1 c1=>(.in (I.grow s1) h2 fun vs H2 B s2 r2 c2=>k _ H2 (A++B) (s1.trans s2) (.cons (Rp.same s2 p r1) r2) fun a ha=>(JK.mp ha).elim (c1 a) (c2 a))),uj hr.2⟩
theorem zjL{L1 L2:List Nat}(h:VE X κ G (.mv L1) e f)(hr:VA X κ G (.mv L2) es fs)(hL:∀ l ∈ L1,l ∉ L2:=by decide)(hs:starEach (e::es) X.env=(false,eval e X.env)::starEach es X.env:=by rfl):VA X κ G (.mv (L1++L2)) (e::es) (zB f fs):=⟨(ww h hr.1 hs).imp fun σ H Q hq_=>by
 refine hq_.elim fun own env ps I hf k=>?_
 obtain ⟨p,r,h1,h2,rfl⟩:=wD hf
 refine (.in I h1 fun v H1 A s1 r1 c1=>(.in (I.grow s1) h2 fun vs H2 B s2 r2 c2=>k _ H2 (A++B) (s1.trans s2) (.cons (Rp.same s2 p r1) r2) ⟨?_,fun a ha=>?_⟩))
 ·refine JJ.mpr ⟨c1.1,c2.1,fun a ha b hb=>?_⟩
  rintro rfl
  obtain ⟨o,ho⟩:=r1.alloc ha
  rcases c2.2 a hb with z | ⟨l,hl,z⟩
  ·rw [ho] at z;cases z
  ·rcases c1.2 a ha with z' | ⟨l',hl',z'⟩
   ·obtain ⟨_,m⟩:=I.own a l z
    obtain ⟨o',h'⟩:=m.some
    rw [z'] at h';cases h'
   ·rw [z] at z';cases z';exact hL _ hl' hl
 ·rcases List.mem_append.mp ha with ha | ha
  ·exact (c1.2 a ha).elim .inl fun ⟨l,hl,z⟩=>.inr ⟨l,Jr _ hl,z⟩
  ·exact (c2.2 a ha).elim (fun z=>.inl (s1.free z)) fun ⟨l,hl,z⟩=>.inr ⟨l,Jn _ hl,z⟩,uj hr.2⟩
theorem Cat.push{L:List Nat}{K:PySem.W.Frag}{own:Addr->Option Nat}{env:En}{σ:St}{H H1:Hp}{A:List Addr}{p:Addr}{vs:List V}{ps:List PV}(c:Cat)(I:VI K κ G own env σ H)(s:Same H H1)(r:Rps K H1 ps vs A)(hp:H1 p=none)(h:c.ok H own A):c.ok H own (p::A):=by
 cases c with
 | mv L=>
  refine ⟨JS.mpr ⟨fun z=>?_,h.1⟩,fun a ha=>?_⟩
  ·obtain ⟨o,ho⟩:=(Rps.mut ps r p z).some
   rw [hp] at ho;cases ho
  ·rcases List.mem_cons.mp ha with rfl | ha
   ·exact .inl (s.free hp)
   ·exact h.2 a ha
 | sh=>
  intro a ha
  rcases List.mem_cons.mp ha with rfl | ha
  ·exact uJ (A:=[a]) I (fun b hb=>by rw [Jh.mp hb];exact s.free hp) a (Jh.mpr rfl)
  ·exact h a ha
 | bo=>trivial
theorem zkr{x1}(h:VA X κ G c es fs)(hn:es.length≤100000:=by first | decide | simp):VE X κ G c (.Tuple es x1 pos) (xJ fs):=(zbW h.1).imp fun σ H Q hq_=>by
 refine hq_.elim fun own env z I e k=>?_
 unfold xJ at e
 cases hp:fs env with
 | none=>rw [hp] at e;cases e
 | some ps=>
  rw [hp] at e
  cases e
  have hl:=h.2 env ps hp
  refine (.in I hp fun vs H1 A s1 r1 c1=>⟨by rw [← r1.length,hl,sizeLine_eq];omega,fun p hn=>?_⟩)
  exact k _ _ A (zZ s1 (s1.free hn)) (.mkT (SqT.of zL) (Rps.same (zZ (Same.refl _) hn) ps r1)) c1
theorem zkw(h:VA X κ G c es fs)(hn:es.length≤100000:=by first | decide | simp):VE X κ G c (.List es pos) (xL fs):=(zll h.1).imp fun σ H Q hq_=>by
 refine hq_.elim fun own env z I e k=>?_
 unfold xL at e
 cases hp:fs env with
 | none=>rw [hp] at e;cases e
 | some ps=>
  rw [hp] at e
  cases e
  have hl:=h.2 env ps hp
  refine (.in I hp fun vs H1 A s1 r1 c1=>⟨by rw [← r1.length,hl,sizeLine_eq];omega,fun p hn=>?_⟩)
  exact k _ _ (p::A) (zZ s1 (s1.free hn)) (.mkL zL (Rps.same (zZ (Same.refl _) hn) ps r1)) (Cat.push (L:=[]) c I s1 r1 hn c1)
end
inductive Out where
 | nx (e:En) | rt (p:PV) (e:En) | bk (e:En) | ct (e:En)
noncomputable abbrev FS:=En->Option Out
noncomputable def ko(O:List Nat):Nat->Option Nat:=fun i=>if i ∈ O then some i else none
theorem k9(h:i ∈ O):ko O i=some i:=if_pos h
theorem zgR(h:i ∉ O):ko O i=none:=if_neg h
theorem zjn(h:ko O i=some l):l=i:=by
 unfold ko at h
 split at h
 ·cases h;rfl
 ·cases h
noncomputable def OutK(K:PySem.W.Frag)(κ:Nat->Option Nat)(G:Hp)(own:Addr->Option Nat)(H:Hp)(D:Ends):Out->Prop
 | .nx e=>∀ own' σ' H',VI K κ G own' e σ' H'->Ext own H own' H'->D.nx σ' H'
 | .bk e=>∀ own' σ' H',VI K κ G own' e σ' H'->Ext own H own' H'->D.bk σ' H'
 | .ct e=>∀ own' σ' H',VI K κ G own' e σ' H'->Ext own H own' H'->D.ct σ' H'
 | .rt p e=>∀ v H' A own' σ',VI K κ G own' e σ' H'->Rp K H' p v A->A.Nodup->(∀ a ∈ A,G a=none/\own' a≠some 0)->D.rt v H'
theorem OutK.ext{K:PySem.W.Frag}{κ:Nat->Option Nat}{G:Hp}{own own':Addr->Option Nat}{H H':Hp}{D:Ends}{o:Out}(h:OutK K κ G own H D o)(x:Ext own H own' H'):OutK K κ G own' H' D o:=by
 cases o with
 | nx e=>exact fun o2 σ2 H2 I2 x2=>h o2 σ2 H2 I2 (x.trans x2)
 | bk e=>exact fun o2 σ2 H2 I2 x2=>h o2 σ2 H2 I2 (x.trans x2)
 | ct e=>exact fun o2 σ2 H2 I2 x2=>h o2 σ2 H2 I2 (x.trans x2)
 | rt p e=>exact h
noncomputable def tVS(K:PySem.W.Frag)(κ:Nat->Option Nat)(G:Hp)(g:FS):TS:=fun D σ H=>∃ own env o,VI K κ G own env σ H/\g env=some o/\OutK K κ G own H D o
theorem tVS.elim{K:PySem.W.Frag}{κ:Nat->Option Nat}{G:Hp}{g:FS}{D:Ends}{σ:St}{H:Hp}{C:Prop}(h:tVS K κ G g D σ H)(k:∀ own env o,VI K κ G own env σ H->g env=some o->OutK K κ G own H D o->C):C:=
 let ⟨own,env,o,I,hf,q⟩:=h
 k own env o I hf q
noncomputable def VS(X:Cx)(κ:Nat->Option Nat)(G:Hp)(st:Stmt)(g:FS):Prop:=PS X st (tVS X.K κ G g)
noncomputable def VSs(X:Cx)(κ:Nat->Option Nat)(G:Hp)(st:List Stmt)(g:FS):Prop:=PSs X st (tVS X.K κ G g)
noncomputable def fNx:FS:=fun env=>some (.nx env)
noncomputable def fBk:FS:=fun env=>some (.bk env)
noncomputable def fCt:FS:=fun env=>some (.ct env)
noncomputable def zO(g h:FS):FS:=fun env=>(g env).bind fun o=>match o with | .nx e=>h e | o=>some o
noncomputable def yQ(f:FE):FS:=fun env=>(f env).map fun p=>.rt p env
noncomputable def yj(t:FT)(g h:FS):FS:=fun env=>(t env).bind fun b=>if b=true then g env else h env
noncomputable def zW(i:Nat)(f:FE):FS:=fun env=>(f env).map fun p=>.nx (env.set i (some p))
noncomputable def zbo(bnd:PV->En->Option En)(f:FE):FS:=fun env=>(f env).bind fun p=>(bnd p env).map .nx
noncomputable def wK(bnd:PV->En->Option En)(body:FS):List PV->En->Option Out
 | [],env=>some (.nx env)
 | p::ps,env=>(bnd p env).bind fun e1=>(body e1).bind fun o=>match o with | .nx e=>wK bnd body ps e | .ct e=>wK bnd body ps e | .bk e=>some (.nx e) | .rt p e=>some (.rt p e)
noncomputable def yP(src:FA)(bnd:PV->En->Option En)(body:FS):FS:=fun env=>(src env).bind fun ps=>wK bnd body ps env
noncomputable def fWh(t:FT)(body:FS):Nat->En->Option Out
 | 0,_=>none
 | n+1,env=>(t env).bind fun b=>if b=true then (body env).bind fun o=>match o with | .nx e=>fWh t body n e | .ct e=>fWh t body n e | .bk e=>some (.nx e) | .rt p e=>some (.rt p e) else some (.nx env)
section
variable {X:Cx} {κ:Nat->Option Nat} {G:Hp} {c c1 c2:Cat} {a b e:Expr} {es:List Expr} {fa fb f:FE} {t u:FT} {fs:FA} {pos:Pos} {g h:FS} {st:Stmt} {yC:List Stmt}
theorem zih:VSs X κ G [] fNx:=pss_nil.imp fun D σ H hq_=>by
 refine hq_.elim fun own env o I hf k=>?_
 cases hf
 exact k own σ H I (Ext.refl _ _)
theorem zft(h1:VS X κ G st g)(h2:VSs X κ G yC h):VSs X κ G (st::yC) (zO g h):=(zaP h1 h2).imp fun D σ H hq_=>by
 refine hq_.elim fun own env o I hf k=>?_
 unfold zO at hf
 replace hf:=Ja.mp hf;obtain ⟨o1,hg,hf⟩:=hf
 refine ⟨own,env,o1,I,hg,?_⟩
 cases o1 with
 | nx e1=>exact fun own' σ' H' I' x=>⟨own',e1,o,I',hf,k.ext x⟩
 | bk e1=>cases hf;exact k
 | ct e1=>cases hf;exact k
 | rt p e1=>cases hf;exact k
theorem zig(h1:VS X κ G st g):VSs X κ G [st] g:=(zaP h1 pss_nil).imp fun D σ H h=>h
theorem zim:VS X κ G (.Pass pos) fNx:=ps_pass.imp fun D σ H hq_=>by
 refine hq_.elim fun own env o I hf k=>?_
 cases hf
 exact k own σ H I (Ext.refl _ _)
theorem zfv:VS X κ G (.Break pos) fBk:=ps_break.imp fun D σ H hq_=>by
 refine hq_.elim fun own env o I hf k=>?_
 cases hf
 exact k own σ H I (Ext.refl _ _)
theorem zau:VS X κ G (.Continue pos) fCt:=ps_continue.imp fun D σ H hq_=>by
 refine hq_.elim fun own env o I hf k=>?_
 cases hf
 exact k own σ H I (Ext.refl _ _)
theorem zkl{x j pos pos'}:VS X κ G (.Expr (.Constant (.str x) j pos) pos') fNx:=ps_doc.imp fun D σ H hq_=>by
 refine hq_.elim fun own env o I hf k=>?_
 cases hf
 exact k own σ H I (Ext.refl _ _)
theorem zki{L:List Nat}(he:VE X κ G (.mv L) e f)(h0:0 ∉ L:=by decide):VS X κ G (.Return (some e) pos) (yQ f):=(zla he).imp fun D σ H hq_=>by
 refine hq_.elim fun own env o I hf k=>?_
 unfold yQ at hf
 cases hp:f env with
 | none=>rw [hp] at hf;cases hf
 | some p=>
  rw [hp] at hf;cases hf
  refine (.in I hp fun v H' A s r hc=>k v H' A own σ (I.grow s) r hc.1 fun a ha=>?_)
  rcases hc.2 a ha with z | ⟨l,hl,z⟩
  ·refine ⟨I.same.free z,fun y=>?_⟩
   obtain ⟨o,ho⟩:=(I.own a 0 y).2.some
   rw [z] at ho;cases ho
  ·exact ⟨(I.own a l z).1,fun y=>h0 (by rw [z] at y;cases y;exact hl)⟩
noncomputable def zjY:FS:=fun env=>some (.rt .non env)
theorem zik:VS X κ G (.Return none pos) zjY:=ps_retN.imp fun D σ H hq_=>by
 refine hq_.elim fun own env o I hf k=>?_
 cases hf
 exact k .non H [] own σ I .mkN .nil (by simp)
theorem zmz{cc:Expr}{bs1 bs2:List Stmt}(hc:VT X κ G cc t)(h1:VSs X κ G bs1 g)(h2:VSs X κ G bs2 h):VS X κ G (.If cc bs1 bs2 pos) (yj t g h):=(zng hc h1 h2).imp fun D σ H hq_=>by
 refine hq_.elim fun own env o I hf k=>?_
 unfold yj at hf
 replace hf:=Ja.mp hf;obtain ⟨p,hp,hf⟩:=hf
 refine (.in I hp fun H1 s1=>?_)
 cases p with
 | true=>exact ite_tt ⟨own,env,o,I.grow s1,by simpa using hf,k.ext (Ext.grow s1)⟩
 | false=>exact ite_ff ⟨own,env,o,I.grow s1,by simpa using hf,k.ext (Ext.grow s1)⟩
theorem VI.set_sh{K:PySem.W.Frag}{own:Addr->Option Nat}{env:En}{σ:St}{H:Hp}{i:Nat}{p:PV}{v:V}{A:List Addr}(I:VI K κ G own env σ H)(hk:κ i=none)(r:Rp K H p v A)(hA:∀ a ∈ A,own a=none):VI K κ G own (env.set i (some p)) (σ.set i (some v)) H:=by
 refine ⟨by simp [I.len],fun j q e=>?_,I.own,I.same⟩
 rw [KY] at e ⊢
 by_cases hij:i=j
 ·subst hij
  rw [if_pos rfl] at e ⊢
  by_cases hl:i<env.length
  ·rw [if_pos hl] at e
   rw [if_pos (by rw [← I.len];exact hl)]
   cases e
   exact ⟨v,A,rfl,r,fun _=>hA,fun l z=>by rw [hk] at z;cases z⟩
  ·rw [if_neg hl] at e;cases e
 ·rw [if_neg hij] at e ⊢
  exact I.slot j q e
noncomputable def acq(own:Addr->Option Nat)(i:Nat)(A:List Addr):Addr->Option Nat:=fun a=>if a ∈ A then some i else if own a=some i then none else own a
theorem VI.take{O:List Nat}{K:PySem.W.Frag}{own:Addr->Option Nat}{env:En}{σ:St}{H0 H2:Hp}{i:Nat}{p:PV}{v:V}{A:List Addr}(hi:i ∈ O)(I:VI K (ko O) G own env σ H0)
  (keep:∀ j q w B,j≠i->env[j]?=some (some q)->Rp K H0 q w B->(∀ b ∈ B,own b≠some i)->Rp K H2 q w B)
  (hx:∀ b o,own b≠some i->H0 b=some o->H2 b=some o)
  (r:Rp K H2 p v A)(nd:A.Nodup)(hA:∀ a ∈ A,own a=some i∨H0 a=none):
  VI K (ko O) G (acq own i A) (env.set i (some p)) (σ.set i (some v)) H2/\Ext own H0 (acq own i A) H2:=by
 have notin:∀ b o,own b≠some i->H0 b=some o->b ∉ A:=fun b o h1 h2 hb=>by
  rcases hA b hb with z | z
  ·exact h1 z
  ·rw [h2] at z;cases z
 have stay:∀ b o,own b≠some i->H0 b=some o->acq own i A b=own b:=fun b o h1 h2=>by
  unfold acq;rw [if_neg (notin b o h1 h2),if_neg h1]
 refine ⟨⟨by simp [I.len],fun j q e=>?_,fun b l e=>?_,fun b o e=>?_⟩,fun b o h1 h2=>?_⟩
 ·rw [KY] at e ⊢
  by_cases hij:i=j
  ·subst hij
   rw [if_pos rfl] at e ⊢
   by_cases hl:i<env.length
   ·rw [if_pos hl] at e
    rw [if_pos (by rw [← I.len];exact hl)]
    cases e
    refine ⟨v,A,rfl,r,fun z=>(by rw [k9 hi] at z;cases z),fun l z=>?_⟩
    rw [k9 hi] at z;cases z
    exact ⟨nd,fun a ha=>by unfold acq;rw [if_pos ha]⟩
   ·rw [if_neg hl] at e;cases e
  ·rw [if_neg hij] at e ⊢
   obtain ⟨w,B,h1,h2,h3,h4⟩:=I.slot j q e
   have no:∀ b ∈ B,own b≠some i:=fun b hb z=>by
    cases hk:ko O j with
    | none=>rw [h3 hk b hb] at z;cases z
    | some l=>
     have:=(h4 l hk).2 b hb
     rw [z] at this
     have e1:=zjn hk
     cases this
     exact hij e1
   refine ⟨w,B,h1,keep j q w B (fun z=>hij z.symm) e h2 no,fun hk b hb=>?_,fun l hk=>⟨(h4 l hk).1,fun b hb=>?_⟩⟩
   ·obtain ⟨o,ho⟩:=h2.alloc hb
    rw [stay b o (no b hb) ho];exact h3 hk b hb
   ·obtain ⟨o,ho⟩:=h2.alloc hb
    rw [stay b o (no b hb) ho];exact (h4 l hk).2 b hb
 ·unfold acq at e
  split at e
  ·rename_i hb
   refine ⟨?_,Rp.mut p r b hb⟩
   rcases hA b hb with z | z
   ·exact (I.own b i z).1
   ·exact I.same.free z
  ·split at e
   ·cases e
   ·rename_i hb hn
    obtain ⟨h1,h2⟩:=I.own b l e
    refine ⟨h1,?_⟩
    rcases h2 with ⟨xs,h2⟩ | ⟨xs,h2⟩ | ⟨xs,h2⟩
    ·exact .inl ⟨xs,hx b _ hn h2⟩
    ·exact .inr (.inl ⟨xs,hx b _ hn h2⟩)
    ·exact .inr (.inr ⟨xs,hx b _ hn h2⟩)
 ·have h0:=I.same b o e
  refine hx b o (fun z=>?_) h0
  rw [(I.own b i z).1] at e;cases e
 ·have hn:own b≠some i:=by rw [h1];exact fun z=>nomatch z
  exact ⟨by rw [stay b o hn h2];exact h1,hx b o hn h2⟩
theorem uY{i:Nat}(hk:κ i=none)(h:PS X st (vp (tV X.K κ G .sh f) (wd i))):VS X κ G st (zW i f):=h.imp fun D σ H hq_=>by
 refine hq_.elim fun own env o I hf k=>?_
 unfold zW at hf
 cases hp:f env with
 | none=>rw [hp] at hf;cases hf
 | some p=>
  rw [hp] at hf;cases hf
  exact (.in I hp fun v H' A s r hc=>k own _ H' ((I.grow s).set_sh hk r hc) (Ext.grow s))
theorem uZ{O:List Nat}{i:Nat}(hi:i ∈ O)(h:PS X st (vp (tV X.K (ko O) G (.mv []) f) (wd i))):VS X (ko O) G st (zW i f):=h.imp fun D σ H hq_=>by
 refine hq_.elim fun own env o I hf k=>?_
 unfold zW at hf
 cases hp:f env with
 | none=>rw [hp] at hf;cases hf
 | some p=>
  rw [hp] at hf;cases hf
  refine (.in I hp fun v H' A s r hc=>?_)
  obtain ⟨h1,h2⟩:=I.take hi (fun j q w B _ _ z _=>Rp.same s q z) (fun b o _ z=>s b o z) r hc.1 fun a ha=>.inr ((hc.2 a ha).elim id fun ⟨_,hl,_⟩=>nomatch hl)
  exact k _ _ H' h1 h2
noncomputable def tVG(K:PySem.W.Frag)(κ:Nat->Option Nat)(G:Hp)(Bs:List Nat)(bnd:PV->En->Option En):TG:=fun v σ H Q=>∃ own env p A e,VI K κ G own env σ H/\Rp K H p v A/\(∀ a ∈ A,own a=none)/\bnd p env=some e/\∀ σ',VI K κ G own e σ' H->(∀ i,i ∉ Bs->σ'[i]?=σ[i]?)->σ'.length=σ.length->Q σ' H
noncomputable def VG(X:Cx)(κ:Nat->Option Nat)(G:Hp)(Bs:List Nat)(tg:Expr)(bnd:PV->En->Option En):Prop:=PG X tg (tVG X.K κ G Bs bnd)
noncomputable def zoE(K:PySem.W.Frag)(κ:Nat->Option Nat)(G:Hp)(Bs:List Nat)(bnd:List PV->En->Option En):TGs:=fun vs σ H Q=>∃ own env ps A e,VI K κ G own env σ H/\Rps K H ps vs A/\(∀ a ∈ A,own a=none)/\bnd ps env=some e/\∀ σ',VI K κ G own e σ' H->(∀ i,i ∉ Bs->σ'[i]?=σ[i]?)->σ'.length=σ.length->Q σ' H
noncomputable def VGs(X:Cx)(κ:Nat->Option Nat)(G:Hp)(Bs:List Nat)(tg:List Expr)(bnd:List PV->En->Option En):Prop:=PGs X tg (zoE X.K κ G Bs bnd)
noncomputable def zF(i:Nat):PV->En->Option En:=fun p env=>some (env.set i (some p))
noncomputable def uT:List PV->En->Option En:=fun ps env=>match ps with | []=>some env | _=>none
noncomputable def yE(b1:PV->En->Option En)(b2:List PV->En->Option En):List PV->En->Option En:=fun ps env=>match ps with | p::r=>(b1 p env).bind fun e=>b2 r e | []=>none
noncomputable def vg(n:Nat)(b:List PV->En->Option En):PV->En->Option En:=fun p env=>match p with
 | .tup ps=>if ps.length=n then b ps env else none
 | .lst ps=>if ps.length=n then b ps env else none
 | _=>none
end
end F
namespace L2
theorem PG.imp{t t':TG}(h:PG X e t)(i:∀ v σ H Q,t' v σ H Q->t v σ H Q):PG X e t':=fun pins s σ H v u Q I r hw=>h pins s σ H v u Q I r (i _ _ _ _ hw)
theorem PGs.imp{t t':TGs}(h:PGs X e t)(i:∀ v σ H Q,t' v σ H Q->t v σ H Q):PGs X e t':=fun pins s σ H v u Q I r hw=>h pins s σ H v u Q I r (i _ _ _ _ hw)
theorem PG.or{t t':TG}(h:PG X e t)(h':PG X e t'):PG X e (fun v σ H Q=>t v σ H Q∨t' v σ H Q):=fun pins s σ H v u Q I r hw=>hw.elim (h pins s σ H v u Q I r) (h' pins s σ H v u Q I r)
theorem PI.imp{t t':TI}(h:PI X tg e t)(i:∀ σ H R,t' σ H R->t σ H R):PI X tg e t':=fun pins s σ H R I hw=>h pins s σ H R I (i _ _ _ hw)
end L2
namespace F
open PySem PySem.Spec PyProof.Rows L2
section
variable {X:Cx} {κ:Nat->Option Nat} {G:Hp} {c c1 c2:Cat} {a b e:Expr} {es:List Expr} {fa fb f:FE} {t u:FT} {fs:FA} {pos:Pos} {g h:FS} {st:Stmt} {yC:List Stmt} {bnd:PV->En->Option En} {bnds:List PV->En->Option En}
theorem zis(i:Nat)(hk:κ i=none)(h:PG X tg (wd i)):VG X κ G [i] tg (zF i):=h.imp fun v σ H Q hq_=>by
 obtain ⟨own,env,p,A,e,I,r,hA,hb,k⟩:=hq_
 cases hb
 refine k _ (I.set_sh hk r hA) (fun j hj=>?_) (by simp)
 rw [List.getElem?_set,if_neg (fun z=>hj (by simp [z]))]
theorem zir:VGs X κ G [] [] uT:=pgs_nil.imp fun vs σ H Q hq_=>by
 obtain ⟨own,env,ps,A,e,I,r,hA,hb,k⟩:=hq_
 unfold uT at hb
 cases ps with
 | nil=>cases hb;exact ⟨r.inv0.1,k σ I (fun _ _=>rfl) rfl⟩
 | cons p ps=>cases hb
theorem zfx(h1:VG X κ G Bs1 e bnd)(h2:VGs X κ G Bs2 es bnds)(hs:(assignEach (e::es) X.env).map (·.2)=assign e X.env::(assignEach es X.env).map (·.2):=by rfl):VGs X κ G (Bs1++Bs2) (e::es) (yE bnd bnds):=(zgl h1 h2 hs).imp fun vs σ H Q hq_=>by
 obtain ⟨own,env,ps,A,e,I,r,hA,hb,k⟩:=hq_
 unfold yE at hb
 cases ps with
 | nil=>cases hb
 | cons p ps=>
  dsimp only at hb
  obtain ⟨v,r',A1,A2,h1,h2,h3,h4⟩:=r.inv
  replace hb:=Ja.mp hb;obtain ⟨e1,hp,hb⟩:=hb
  subst h2
  refine ⟨v,r',h1,own,env,p,A1,e1,I,h3,fun a ha=>hA a (Jr _ ha),hp,fun σ1 I1 q1 l1=>?_⟩
  exact ⟨own,e1,ps,A2,e,I1,h4,fun a ha=>hA a (Jn _ ha),hb,fun σ2 I2 q2 l2=>k σ2 I2 (fun i hi=>(q2 i fun z=>hi (Jn _ z)).trans (q1 i fun z=>hi (Jr _ z))) (l2.trans l1)⟩
theorem zkq(n:Nat)(hc:X.calm=true)(h:VGs X κ G Bs es bnds)(hn:(assignEach es X.env).length=n:=by rfl)(hst:(assignEach es X.env).findIdx? (·.1)=none:=by rfl):VG X κ G Bs (.Tuple es k pos) (vg n bnds):=
 ((zle hc h hn hst).or (zlg hc h hn hst)).imp fun v σ H Q hq_=>by
 obtain ⟨own,env,p,A,e,I,r,hA,hb,k⟩:=hq_
 unfold vg at hb
 cases p with
 | tup ps=>
  dsimp only at hb
  split at hb
  ·rename_i hl
   obtain ⟨a,xs,h1,h2,h3⟩:=r.T
   exact .inl ⟨a,xs,h1,h2,by rw [← h3.length];exact hl,own,env,ps,A,e,I,h3,hA,hb,k⟩
  ·cases hb
 | lst ps=>
  dsimp only at hb
  split at hb
  ·rename_i hl
   obtain ⟨a,xs,B,h1,h2,h3,h4⟩:=r.L
   subst h3
   exact .inr ⟨a,xs,h1,SqL.of h2,by rw [← h4.length];exact hl,own,env,ps,B,e,I,h4,fun a ha=>hA a (Jf _ ha),hb,k⟩
  ·cases hb
 | _=>cases hb
theorem zkm{Bs:List Nat}{tg:Expr}(he:VE X κ G .sh e f)(hg:VG X κ G Bs tg bnd)(hs:swapsWithSole [tg] e pos.line X.env=pure false:=by rfl)(hw:swappedStores [tg] e X.env=pure none:=by rfl)
  (h1:(assignEach [tg] X.env).map (·.2)=[assign tg X.env]:=by rfl):VS X κ G (.Assign [tg] e pos) (zbo bnd f):=(zgh he hg hs hw h1).imp fun D σ H hq_=>by
 refine hq_.elim fun own env o I hf k=>?_
 unfold zbo at hf
 replace hf:=Ja.mp hf;obtain ⟨p,hp,hf⟩:=hf
 cases hb:bnd p env with
 | none=>rw [hb] at hf;cases hf
 | some e1=>
  rw [hb] at hf;cases hf
  exact (.in I hp fun v H' A s r hc=>⟨own,env,p,A,e1,I.grow s,r,hc,hb,fun σ' I' _ _=>k own σ' H' I' (Ext.grow s)⟩)
noncomputable def Stay(own:Addr->Option Nat)(H1 H2:Hp):Prop:=∀ b o,own b=none->H1 b=some o->H2 b=some o
theorem Stay.ext(s:Ext own H1 own' H2):Stay own H1 H2:=fun b o h e=>(s b o h e).2
theorem Stay.tup{K:PySem.W.Frag}{own:Addr->Option Nat}{H1 H2:Hp}{a:Addr}{xs:List V}(s:Stay own H1 H2)(hm:∀ a l,own a=some l->MutH H1 a)(h:SqT K H1 a xs):SqT K H2 a xs:=by
 have no:∀ o,H1 a=some o->(∀ z,o≠.lst z)->(∀ z,o≠.dK z)->(∀ z,o≠.dT z)->own a=none:=fun o e n1 n2 n3=>by
  cases q:own a with
  | none=>rfl
  | some l=>
   rcases hm a l q with ⟨z,m⟩ | ⟨z,m⟩ | ⟨z,m⟩
   ·rw [e] at m;exact absurd (Jq m) (n1 z)
   ·rw [e] at m;exact absurd (Jq m) (n2 z)
   ·rw [e] at m;exact absurd (Jq m) (n3 z)
 rcases h with (h | ⟨u,h⟩) | h
 ·exact .inl (.inl (s _ _ (no _ h (fun _ z=>nomatch z) (fun _ z=>nomatch z) fun _ z=>nomatch z) h))
 ·exact .inl (.inr ⟨u,s _ _ (no _ h (fun _ z=>nomatch z) (fun _ z=>nomatch z) fun _ z=>nomatch z) h⟩)
 ·exact .inr h
theorem Stay.fz{K:PySem.W.Frag}{own:Addr->Option Nat}{H1 H2:Hp}{a:Addr}{xs:List V}(s:Stay own H1 H2)(hm:∀ a l,own a=some l->MutH H1 a)(h:Fz K H1 a xs):Fz K H2 a xs:=by
 rcases h with ⟨u,h⟩ | h
 ·refine .inl ⟨u,s _ _ ?_ h⟩
  cases q:own a with
  | none=>rfl
  | some l=>rcases hm a l q with ⟨z,m⟩ | ⟨z,m⟩ | ⟨z,m⟩<;>(rw [h] at m;cases m)
 ·exact .inr h
mutual
theorem Rp.stay{K:PySem.W.Frag}{own:Addr->Option Nat}{H1 H2:Hp}(s:Stay own H1 H2)(hm:∀ a l,own a=some l->MutH H1 a):∀ (p:PV) {v:V} {A:List Addr},(∀ a ∈ A,own a=none)->Rp K H1 p v A->Rp K H2 p v A
 | .non,_,_,_,h=>by unfold Rp at h ⊢;exact h
 | .bl _,_,_,_,h=>by unfold Rp at h ⊢;exact h
 | .int _,_,_,_,h=>by unfold Rp at h ⊢;exact h
 | .str _,_,_,_,h=>by unfold Rp at h ⊢;exact h
 | .ty _,_,_,_,h=>by unfold Rp at h ⊢;exact h
 | .any,_,_,_,h=>by unfold Rp at h ⊢;exact h
 | .adr _,_,_,_,h=>by unfold Rp at h ⊢;exact h
 | .pen a _,_,_,hA,h=>by
  unfold Rp at h ⊢
  exact ⟨h.1,h.2.1,s _ _ (hA a (by rw [h.2.1];exact Jc)) h.2.2⟩
 | .tup ps,_,_,hA,h=>by
  unfold Rp at h ⊢
  obtain ⟨a,xs,h1,h2,h3⟩:=h
  exact ⟨a,xs,h1,s.tup hm h2,Rps.stay s hm ps hA h3⟩
 | .lst ps,_,_,hA,h=>by
  unfold Rp at h ⊢
  obtain ⟨a,xs,B,h1,h2,rfl,h4⟩:=h
  exact ⟨a,xs,B,h1,s _ _ (hA a Jc) h2,rfl,Rps.stay s hm ps (fun b hb=>hA b (Jf _ hb)) h4⟩
 | .fls ps,_,_,hA,h=>by
  unfold Rp at h ⊢
  obtain ⟨a,xs,h1,h2,h3⟩:=h
  exact ⟨a,xs,h1,s.fz hm h2,Rps.stay s hm ps hA h3⟩
 | .dct ks ps,_,_,hA,h=>by
  unfold Rp at h ⊢
  obtain ⟨a,xs,B,h1,h2,h3,rfl,h5⟩:=h
  exact ⟨a,xs,B,h1,s _ _ (hA a Jc) h2,h3,rfl,Rps.stay s hm ps (fun b hb=>hA b (Jf _ hb)) h5⟩
 | .dcT ks ps,_,_,hA,h=>by
  unfold Rp at h ⊢
  obtain ⟨a,xs,B,h1,h2,h3,rfl,h5⟩:=h
  exact ⟨a,xs,B,h1,s _ _ (hA a Jc) h2,h3,rfl,Rps.stay s hm ps (fun b hb=>hA b (Jf _ hb)) h5⟩
theorem Rps.stay{K:PySem.W.Frag}{own:Addr->Option Nat}{H1 H2:Hp}(s:Stay own H1 H2)(hm:∀ a l,own a=some l->MutH H1 a):∀ (ps:List PV) {vs:List V} {A:List Addr},(∀ a ∈ A,own a=none)->Rps K H1 ps vs A->Rps K H2 ps vs A
 | [],_,_,_,h=>by unfold Rps at h ⊢;exact h
 | p::ps,_,_,hA,h=>by
  unfold Rps at h ⊢
  obtain ⟨v,r,A1,A2,h1,rfl,h3,h4⟩:=h
  exact ⟨v,r,A1,A2,h1,rfl,Rp.stay s hm p (fun a ha=>hA a (Jr _ ha)) h3,Rps.stay s hm ps (fun a ha=>hA a (Jn _ ha)) h4⟩
end
noncomputable def Walks(K:PySem.W.Frag)(own:Addr->Option Nat)(H1:Hp)(R:Hp->Prop)(J:It)(ps:List PV):Prop:=∀ i H2,R H2->
 (∀ p,ps[i]?=some p->J.go i H2/\∀ x H3,J.yld i H2 x H3->Same H2 H3/\∃ A,Rp K H3 p x A/\∀ a ∈ A,own a=none/\∃ o,H1 a=some o)/\(ps.length≤i->J.stop i H2)
noncomputable def tVI(K:PySem.W.Frag)(κ:Nat->Option Nat)(G:Hp)(lp:Bool)(f:FA):TI:=fun σ H R=>∃ own env ps,VI K κ G own env σ H/\f env=some ps/\∀ J H1,Same H H1->Walks K own H1 (fun H2=>if lp=true then Stay own H1 H2 else Same H1 H2) J ps->R J H1
theorem tVI.in{K:PySem.W.Frag}{κ:Nat->Option Nat}{G:Hp}{lp:Bool}{f:FA}{σ:St}{H:Hp}{R:It->Hp->Prop}{own:Addr->Option Nat}{env:En}{p:List PV}(I:VI K κ G own env σ H)(hf:f env=some p)(k:∀ J H1,Same H H1->Walks K own H1 (fun H2=>if lp=true then Stay own H1 H2 else Same H1 H2) J p->R J H1):tVI K κ G lp f σ H R:=⟨own,env,p,I,hf,k⟩
theorem tVI.elim{K:PySem.W.Frag}{κ:Nat->Option Nat}{G:Hp}{lp:Bool}{f:FA}{σ:St}{H:Hp}{R:It->Hp->Prop}{C:Prop}(h:tVI K κ G lp f σ H R)(k:∀ own env (p:List PV),VI K κ G own env σ H->f env=some p->(∀ J H1,Same H H1->Walks K own H1 (fun H2=>if lp=true then Stay own H1 H2 else Same H1 H2) J p->R J H1)->C):C:=
 let ⟨own,env,p,I,hf,q⟩:=h
 k own env p I hf q
noncomputable def VIt(X:Cx)(κ:Nat->Option Nat)(G:Hp)(lp:Bool)(tg iter:Expr)(f:FA):Prop:=PI X tg iter (tVI X.K κ G lp f)
noncomputable def xA:PV->Option (List PV)
 | .lst ps=>some ps
 | .fls ps=>some ps
 | .tup ps=>some ps
 | _=>none
noncomputable def zV(f:FE):FA:=fun env=>(f env).bind xA
noncomputable def znP(f:FE):FA:=fun env=>(f env).bind fun p=>(xA p).bind fun ps=>if isDatas ps=true then some ps else none
theorem zjR{t t':TI}(h:PI X tg iter t)(h':PI X tg iter t'):PI X tg iter (fun σ H R=>t σ H R∨t' σ H R):=fun pins s σ H R I hw=>hw.elim (h pins s σ H R I) (h' pins s σ H R I)
theorem zcL{K:PySem.W.Frag}{own:Addr->Option Nat}{H1:Hp}{R:Hp->Prop}{a:Addr}{ps:List PV}{xs:List V}{A:List Addr}(h1':Rps K H1 ps xs A)(hA:∀ a ∈ A,own a=none)(hl:∀ H2,R H2->SqL K H2 a xs/\Rps K H2 ps xs A):Walks K own H1 R (Itl K a) ps:=by
 intro i H2 hR
 obtain ⟨hq,hr⟩:=hl H2 hR
 refine ⟨fun p hp=>?_,fun hi=>⟨xs,hq,by rw [← hr.length];exact hi⟩⟩
 obtain ⟨v,C,h1,h2,h3⟩:=hr.get hp
 refine ⟨⟨xs,v,hq,h1⟩,fun x H3 ⟨e,hy⟩=>?_⟩
 subst e
 have:=hy xs hq
 rw [h1] at this;cases this
 exact ⟨Same.refl _,C,h2,fun a ha=>⟨hA a (h3.subset ha),(Rps.mut _ h1' a (h3.subset ha)).some⟩⟩
theorem zhZ{K:PySem.W.Frag}{own:Addr->Option Nat}{H1:Hp}{R:Hp->Prop}{a:Addr}{ps:List PV}{xs:List V}{A:List Addr}(h1':Rps K H1 ps xs A)(hA:∀ a ∈ A,own a=none)(hl:∀ H2,R H2->SqT K H2 a xs/\Rps K H2 ps xs A):Walks K own H1 R (Itt K a) ps:=by
 intro i H2 hR
 obtain ⟨hq,hr⟩:=hl H2 hR
 refine ⟨fun p hp=>?_,fun hi=>⟨xs,hq,by rw [← hr.length];exact hi⟩⟩
 obtain ⟨v,C,h1,h2,h3⟩:=hr.get hp
 refine ⟨⟨xs,v,hq,h1⟩,fun x H3 ⟨e,hy⟩=>?_⟩
 subst e
 have:=hy xs hq
 rw [h1] at this;cases this
 exact ⟨Same.refl _,C,h2,fun a ha=>⟨hA a (h3.subset ha),(Rps.mut _ h1' a (h3.subset ha)).some⟩⟩
theorem zkp{tg l:Expr}(lp:Bool)(hl:VE X κ G .sh l f):VIt X κ G lp tg l (zV f):=(zjR (ziT hl) (zld hl)).imp fun σ H R hq_=>by
 refine hq_.elim fun own env ps I hf k=>?_
 unfold zV at hf
 replace hf:=Ja.mp hf;obtain ⟨p,hp,hf⟩:=hf
 cases p<;>first | cases hf | skip
 ·refine .inr (.in I hp fun v H1 A s r hc=>?_)
  obtain ⟨a,xs,h1,h2,h3⟩:=r.T
  have hm:∀ a l,own a=some l->MutH H1 a:=fun a l e=>((I.grow s).own a l e).2
  refine ⟨a,h1,⟨xs,h2⟩,k _ H1 s (zhZ (xs:=xs) h3 hc fun H2 hR=>?_)⟩
  cases lp with
  | true=>exact ⟨Stay.tup hR hm h2,Rps.stay hR hm _ hc h3⟩
  | false=>exact ⟨Same.tup hR h2,Rps.same hR _ h3⟩
 ·refine .inl (.in I hp fun v H1 A s r hc=>?_)
  obtain ⟨a,xs,B,h1,h2,rfl,h3⟩:=r.L
  have hm:∀ a l,own a=some l->MutH H1 a:=fun a l e=>((I.grow s).own a l e).2
  refine ⟨a,h1,⟨xs,SqL.of h2⟩,k _ H1 s (zcL (xs:=xs) h3 (fun b hb=>hc b (Jf _ hb)) fun H2 hR=>?_)⟩
  cases lp with
  | true=>exact ⟨SqL.of (hR _ _ (hc a Jc) h2),Rps.stay hR hm _ (fun b hb=>hc b (Jf _ hb)) h3⟩
  | false=>exact ⟨SqL.of (hR _ _ h2),Rps.same hR _ h3⟩
 ·refine .inl (.in I hp fun v H1 A s r hc=>?_)
  obtain ⟨a,xs,h1,h2,h3⟩:=r.Fl
  have hm:∀ a l,own a=some l->MutH H1 a:=fun a l e=>((I.grow s).own a l e).2
  refine ⟨a,h1,⟨xs,h2.seq⟩,k _ H1 s (zcL (xs:=xs) h3 hc fun H2 hR=>?_)⟩
  cases lp with
  | true=>exact ⟨(Stay.fz hR hm h2).seq,Rps.stay hR hm _ hc h3⟩
  | false=>exact ⟨(h2.same hR).seq,Rps.same hR _ h3⟩
noncomputable def v0(lo:Int)(n:Nat):List PV:=(List.range n).map fun (i:Nat)=>PV.int (lo+i)
theorem ja(lo:Int)(n:Nat):(v0 lo n).length=n:=by simp [v0]
theorem zia{K:PySem.W.Frag}{own:Addr->Option Nat}{H1:Hp}{R:Hp->Prop}(lo:Int)(n:Nat):Walks K own H1 R (Itr lo n) (v0 lo n):=by
 intro i H2 _
 refine ⟨fun p hp=>?_,fun hi=>by rw [ja] at hi;exact hi⟩
 unfold v0 at hp
 rw [JQ] at hp
 by_cases hi:i<n
 ·rw [List.getElem?_range hi] at hp
  cases hp
  refine ⟨hi,fun x H3 ⟨e,hx⟩=>?_⟩
  subst e
  exact ⟨Same.refl _,[],by rw [hx];exact .mkI _,by simp⟩
 ·rw [List.getElem?_eq_none (by simpa using hi)] at hp
  cases hp
noncomputable def xQ(f:FA):FA:=fun env=>(f env).bind fun ps=>match ps with | [.int j]=>if -(2 ^ 62)≤j/\j<2 ^ 62 then some (v0 0 j.toNat) else none | _=>none
theorem ziq{tg:Expr}{p:Pos}(lp:Bool)(hg:Gl X "range")(hm:X.mg "range"=none)(ha:VA X κ G c [a] fs)(hs:starEach [a] X.env=[(false,eval a X.env)]:=by rfl):VIt X κ G lp tg (.Call (.Name "range" p) [a] [] pos) (xQ fs):=(zet hg hm ha.1 hs).imp fun σ H R hq_=>by
 refine hq_.elim fun own env ps I hf k=>?_
 unfold xQ at hf
 replace hf:=Ja.mp hf;obtain ⟨qs,hp,hf⟩:=hf
 refine (.in I hp fun vs H1 A s r _=>?_)
 split at hf
 ·split at hf
  ·rename_i j hj
   cases hf
   obtain ⟨v,r',A1,A2,h1,h2,h3,h4⟩:=r.inv
   exact ⟨j,by rw [h1,h4.inv0.1,h3.I.1],hj.1,hj.2,k _ H1 s (zia 0 j.toNat)⟩
  ·cases hf
 ·cases hf
theorem zkk{Bs:List Nat}{tg iter:Expr}{body:List Stmt}(hp:PassesOwn (model X.prog X.w) X.A X.env X.xe)(hc:X.calm=true)(hi:VIt X κ G true tg iter fs)(hg:VG X κ G Bs tg bnd)(hb:VSs X κ G body g)
  (hs:∀ x,foldedSetIterable iter X.env x=pure x:=by intro _;rfl):VS X κ G (.For tg iter body [] pos) (yP fs bnd g):=(zlb hp hc hi hg hb hs).imp fun D σ H hq_=>by
 refine hq_.elim fun own env o I hf k=>?_
 unfold yP at hf
 replace hf:=Ja.mp hf;obtain ⟨ps,hp,hf⟩:=hf
 refine (.in I hp fun J H1 s hw=>?_)
 have k1:=k.ext (Ext.grow s)
 refine ⟨fun i m σ2 H2=>∃ own2 e2,VI X.K κ G own2 e2 σ2 H2/\Ext own H1 own2 H2/\i≤ps.length/\m=ps.length - i/\wK bnd g (ps.drop i) e2=some o,⟨ps.length,own,env,I.grow s,Ext.refl _ _,Nat.zero_le _,by simp,by simpa using hf⟩,?_⟩
 rintro i m σ2 H2 ⟨own2,e2,I2,x2,hi,rfl,h2⟩
 have W:=hw i H2 (by simpa using Stay.ext x2)
 by_cases hlt:i<ps.length
 ·have hpi:ps[i]?=some ps[i]:=Jd hlt
  obtain ⟨go,yl⟩:=W.1 _ hpi
  rw [Qf hlt] at h2
  unfold wK at h2
  replace h2:=Ja.mp h2;obtain ⟨e3,hb1,h2⟩:=h2
  replace h2:=Ja.mp h2;obtain ⟨o1,ho,h2⟩:=h2
  refine .inr ⟨go,fun σ' H'=>∃ own',∃ e',VI X.K κ G own' e' σ' H'/\Ext own H1 own' H'/\wK bnd g (ps.drop (i+1)) e'=some o,?_,?_⟩
  ·rintro σ' H' ⟨own',e',I',x',h'⟩
   exact ⟨ps.length - (i+1),by omega,own',e',I',x',hlt,rfl,h'⟩
  ·intro x H3 hy
   obtain ⟨s3,A,r3,hA⟩:=yl x H3 hy
   have hA2:∀ a ∈ A,own2 a=none:=fun a ha=>let ⟨h1,o,h2⟩:=hA a ha;(x2 a o h1 h2).1
   refine ⟨own2,e2,ps[i],A,e3,I2.grow s3,r3,hA2,hb1,fun σ3 I3 _ _=>⟨own2,e3,o1,I3,ho,?_⟩⟩
   have x3:Ext own H1 own2 H3:=x2.trans (Ext.grow s3)
   cases o1 with
   | nx e4=>exact fun own4 σ4 H4 I4 x4=>⟨own4,e4,I4,x3.trans x4,h2⟩
   | ct e4=>exact fun own4 σ4 H4 I4 x4=>⟨own4,e4,I4,x3.trans x4,h2⟩
   | bk e4=>cases h2;exact k1.ext x3
   | rt p e4=>cases h2;exact k1.ext x3
 ·have e:i=ps.length:=by omega
  subst e
  rw [List.drop_length] at h2
  cases h2
  exact .inl ⟨W.2 (Jm _),k1 own2 σ2 H2 I2 x2⟩
theorem zfu(n:Nat)(hp:PassesOwn (model X.prog X.w) X.A X.env X.xe)(hc:VT X κ G cc t)(hb:VSs X κ G body g):VS X κ G (.While cc body [] pos) (fWh t g n):=(zgf hp hc hb).imp fun D σ H hq_=>by
 refine hq_.elim fun own env o I hf k=>?_
 refine ⟨fun m σ2 H2=>∃ own2 e2,VI X.K κ G own2 e2 σ2 H2/\Ext own H own2 H2/\fWh t g m e2=some o,⟨n,own,env,I,Ext.refl _ _,hf⟩,?_⟩
 rintro m σ2 H2 ⟨own2,e2,I2,x2,h2⟩
 cases m with
 | zero=>cases h2
 | succ m=>
  unfold fWh at h2
  replace h2:=Ja.mp h2;obtain ⟨b,ht,h2⟩:=h2
  refine ⟨own2,e2,b,I2,ht,fun H3 s3=>?_⟩
  have x3:Ext own H own2 H3:=x2.trans (Ext.grow s3)
  cases b with
  | false=>
   simp only [Bool.false_eq_true,if_false] at h2
   cases h2
   exact ite_ff (k own2 σ2 H3 (I2.grow s3) x3)
  | true=>
   simp only [if_true] at h2
   replace h2:=Ja.mp h2;obtain ⟨o1,ho,h2⟩:=h2
   refine ite_tt ⟨fun σ' H'=>∃ own',∃ e',VI X.K κ G own' e' σ' H'/\Ext own H own' H'/\fWh t g m e'=some o,fun σ' H' ⟨own',e',I',x',h'⟩=>⟨m,Qj m,own',e',I',x',h'⟩,own2,e2,o1,I2.grow s3,ho,?_⟩
   cases o1 with
   | nx e4=>exact fun own4 σ4 H4 I4 x4=>⟨own4,e4,I4,x3.trans x4,h2⟩
   | ct e4=>exact fun own4 σ4 H4 I4 x4=>⟨own4,e4,I4,x3.trans x4,h2⟩
   | bk e4=>cases h2;exact k.ext x3
   | rt p e4=>cases h2;exact k.ext x3
noncomputable def cE(n:Nat)(js:List Nat)(env:En):En:=List.replicate n none++js.map fun j=>(env[j]?).join
noncomputable def cK(n:Nat)(js:List Nat)(κ:Nat->Option Nat):Nat->Option Nat:=fun i=>if i<n then none else match js[i - n]? with | some j=>κ j | none=>none
noncomputable def zo(bnd:PV->En->Option En)(t:FT)(f:FE):List PV->En->Option (List PV)
 | [],_=>some []
 | p::ps,env=>(bnd p env).bind fun e=>(t e).bind fun b=>if b=true then (f e).bind fun q=>(zo bnd t f ps env).map fun r=>q::r else zo bnd t f ps env
noncomputable def fLC(src:FA)(n:Nat)(js:List Nat)(bnd:PV->En->Option En)(t:FT)(f:FE):FE:=fun env=>(src env).bind fun ps=>if ps.length≤100000 then (zo bnd t f ps (cE n js env)).map .lst else none
theorem VI.block{K:PySem.W.Frag}{own:Addr->Option Nat}{env:En}{σ:St}{H:Hp}{ow:List Str}{js:List Nat}(I:VI K κ G own env σ H):VI K (cK ow.length js κ) G own (cE ow.length js env) (cS ow js σ) H:=by
 refine ⟨by simp [cE,cS],fun i p e=>?_,I.own,I.same⟩
 unfold cE at e
 unfold cS cK
 by_cases hi:i<ow.length
 ·rw [List.getElem?_append_left (by simpa using hi),List.getElem?_replicate,if_pos hi] at e
  cases e
 ·have hi':ow.length≤i:=Qz hi
  rw [List.getElem?_append_right (by simpa using hi'),List.getElem?_map,List.length_replicate] at e
  rw [List.getElem?_append_right (by simpa using hi'),List.getElem?_map,List.length_map,if_neg hi]
  cases q:js[i - ow.length]? with
  | none=>rw [q] at e;cases e
  | some j=>
   rw [q] at e
   have e':(env[j]?).join=some p:=Jq e
   have e2:env[j]?=some (some p):=by
    cases z:env[j]? with
    | none=>rw [z] at e';cases e'
    | some w=>
     rw [z] at e';have:w=some p:=by simpa using e'
     rw [this]
   obtain ⟨v,A,h1,h2,h3⟩:=I.slot j p e2
   exact ⟨v,A,by simp [h1],h2,h3⟩
theorem VI.again{K:PySem.W.Frag}{own:Addr->Option Nat}{env:En}{σ σ':St}{H:Hp}{n:Nat}{js:List Nat}{Bs:List Nat}(I:VI K (cK n js κ) G own (cE n js env) σ H)(hB:∀ i ∈ Bs,i<n)(hs:∀ i,i ∉ Bs->σ'[i]?=σ[i]?)(hl:σ'.length=σ.length):VI K (cK n js κ) G own (cE n js env) σ' H:=by
 refine ⟨I.len.trans hl.symm,fun i p e=>?_,I.own,I.same⟩
 have hi:¬ i<n:=fun hi=>by
  unfold cE at e
  rw [List.getElem?_append_left (by simpa using hi),List.getElem?_replicate,if_pos hi] at e
  cases e
 obtain ⟨v,A,h1,h2⟩:=I.slot i p e
 exact ⟨v,A,(hs i fun z=>hi (hB i z)).trans h1,h2⟩
noncomputable def VTs(X:Cx)(κ:Nat->Option Nat)(G:Hp)(ifs:List Expr)(t:FT):Prop:=PTs X ifs (tVT X.K κ G t)
noncomputable def uK:FT:=fun _=>some true
theorem zie:VTs X κ G [] uK:=fun pins s σ H Q I ⟨own,env,b,I',e,k⟩=>by
 cases e
 exact ziO pins s σ H Q I (k H (Same.refl _))
theorem zid(h:VT X κ G e t):VTs X κ G [e] t:=ziN h
noncomputable def uw(own:Addr->Option Nat)(D:Addr):Addr->Option Nat:=fun a=>if a=D then some 1000000 else own a
theorem jq{own:Addr->Option Nat}{D a:Addr}(h:uw own D a=none):a≠D/\own a=none:=by
 unfold uw at h
 split at h
 ·cases h
 ·rename_i n;exact ⟨n,h⟩
theorem jr{own:Addr->Option Nat}{D a:Addr}(h:a≠D):uw own D a=own a:=if_neg h
theorem VI.mark{K:PySem.W.Frag}{own:Addr->Option Nat}{env:En}{σ:St}{H1 H2:Hp}{D:Addr}{ys:List V}(I:VI K κ G own env σ H1)(hD:H1 D=none)(s:Same H1 H2)(hy:H2 D=some (.lst ys)):VI K κ G (uw own D) env σ H2:=by
 have J:=I.grow s
 refine ⟨I.len,fun i p e=>?_,fun a l e=>?_,J.same⟩
 ·obtain ⟨v,A,h1,h2,h3,h4⟩:=I.slot i p e
  have ne:∀ a ∈ A,a≠D:=fun a ha z=>by
   obtain ⟨o,ho⟩:=h2.alloc ha
   rw [z,hD] at ho;cases ho
  exact ⟨v,A,h1,Rp.same s p h2,fun hk a ha=>(jr (ne a ha)).trans (h3 hk a ha),fun l hk=>⟨(h4 l hk).1,fun a ha=>(jr (ne a ha)).trans ((h4 l hk).2 a ha)⟩⟩
 ·unfold uw at e
  split at e
  ·rename_i z
   rw [z]
   exact ⟨I.same.free hD,.inl ⟨ys,hy⟩⟩
  ·exact J.own a l e
section
variable {ow:List Str} {js Bs:List Nat} {tg elt iter:Expr} {ifs:List Expr} {scope:Scope}
theorem zaA{K:PySem.W.Frag}{cc:Cat}(hcc:cc=.mv []∨cc=.sh)(hB:∀ i ∈ Bs,i<ow.length)(σ:St)(H:Hp)(Q:VK)
  (hq:tV K κ G cc (fLC fs ow.length js bnd t f) σ H Q):
  zfL (tVI K κ G false fs) ow js (fun _ _ _ _=>tVG K (cK ow.length js κ) G Bs bnd) (fun _ _ _ _=>tVT K (cK ow.length js κ) G t) (fun _ _ _ _=>tV K (cK ow.length js κ) G cc f) σ H Q:=by
 refine JB fun hno=>?_
 obtain ⟨own,env,z,I,e,k⟩:=hq
 unfold fLC at e
 replace e:=Ja.mp e;obtain ⟨ps,hp,e⟩:=e
 split at e
 case isFalse=>cases e
 rename_i hlen
 cases hr:zo bnd t f ps (cE ow.length js env) with
 | none=>rw [hr] at e;cases e
 | some rs=>
  rw [hr] at e;cases e
  refine hno (.in I hp fun J H1 s1 hw C s₀ H₀ fp D hD=>?_)
  clear hno
  have I1:VI K (cK ow.length js κ) G own (cE ow.length js env) (cS ow js σ) H1:=(I.grow s1).block
  have sD:Same H1 (upd H1 D (.lst [])):=zZ (Same.refl _) hD
  refine ⟨fun i m σ1 H2=>∃ ys qs B r2,VI K (cK ow.length js κ) G own (cE ow.length js env) σ1 H1/\Same H1 H2/\H2 D=some (.lst ys)/\Rps K H2 qs ys B/\cc.ok H1 own B/\D ∉ B/\i≤ps.length/\ys.length≤i/\m=ps.length - i/\zo bnd t f (ps.drop i) (cE ow.length js env)=some r2/\rs=qs++r2,
   ⟨ps.length,[],[],[],rs,I1,sD,zL,.nil,Cat.nil _ _ _,by simp,Nat.zero_le _,Nat.le_refl _,by simp,by simpa using hr,rfl⟩,?_⟩
  intro i m σ1 H2 hI
  refine JB fun hno=>?_
  obtain ⟨ys,qs,B,r2,I2,s2,hy,ry,cB,nB,hi,hyl,rfl,h2,hrs⟩:=hI
  have Wk:=hw i H2 (by simpa using s2)
  by_cases hlt:i<ps.length
  ·have hpi:ps[i]?=some ps[i]:=Jd hlt
   obtain ⟨go,yl⟩:=Wk.1 _ hpi
   refine hno (.inr ⟨go,fun x H3 hyl'=>?_⟩)
   clear hno
   refine JB fun hno=>?_
   obtain ⟨s3,A,r3,hA⟩:=yl x H3 hyl'
   rw [Qf hlt] at h2
   unfold zo at h2
   replace h2:=Ja.mp h2;obtain ⟨e3,hb1,h2⟩:=h2
   replace h2:=Ja.mp h2;obtain ⟨bb,ht,h2⟩:=h2
   have neA:∀ a ∈ A,a≠D:=fun a ha z=>by
    obtain ⟨_,o,ho⟩:=hA a ha
    rw [z,hD] at ho;cases ho
   refine hno ⟨uw own D,_,ps[i],A,e3,I2.mark hD (s2.trans s3) (s3 _ _ hy),r3,fun a ha=>(jr (neA a ha)).trans (hA a ha).1,hb1,fun σ3 I3 q3 l3=>?_⟩
   have I3':=I2.again hB q3 l3
   refine ⟨uw own D,e3,bb,I3,ht,fun H5 s5=>?_⟩
   have s25:Same H2 H5:=s3.trans s5
   have hy5:=s25 _ _ hy
   cases bb with
   | false=>
    simp only [Bool.false_eq_true,if_false] at h2
    refine ite_ff ⟨ps.length - (i+1),by omega,ys,qs,B,r2,I3',s2.trans s25,hy5,Rps.same s25 qs ry,cB,nB,hlt,by omega,rfl,h2,hrs⟩
   | true=>
    simp only [if_true] at h2
    replace h2:=Ja.mp h2;obtain ⟨q,hf,h2⟩:=h2
    cases hr2:zo bnd t f (ps.drop (i+1)) (cE ow.length js env) with
    | none=>rw [hr2] at h2;cases h2
    | some r4=>
     rw [hr2] at h2;cases h2
     refine ite_tt ⟨uw own D,e3,q,I3.grow s5,hf,fun y H6 C6 s6 r6 c6=>?_⟩
     have s26:Same H2 H6:=s25.trans s6
     have hy6:=s26 _ _ hy
     have nC:D ∉ C6:=fun z=>by
      rcases hcc with rfl | rfl
      ·rcases c6.2 D z with w | ⟨_,w,_⟩
       ·rw [hy5] at w;cases w
       ·cases w
      ·exact (jq (c6 D z)).1 rfl
     refine ⟨ys,hy6,by rw [sizeLine_eq];omega,ps.length - (i+1),by omega,ys++[y],qs++[q],B++C6,r4,I3',zZ (s2.trans s26) hD,zL,?_,?_,?_,hlt,by rw [Jk,Km];omega,rfl,hr2,by rw [hrs,JC];rfl⟩
     ·exact (Rps.upd (.inl ⟨ys,hy6⟩) qs nB (Rps.same s26 qs ry)).append (Rps.one (Rp.upd (.inl ⟨ys,hy6⟩) q nC r6))
     ·rcases hcc with rfl | rfl
      ·refine ⟨JJ.mpr ⟨cB.1,c6.1,fun x hx y' hy' hxy=>?_⟩,fun x hx=>?_⟩
       ·subst hxy
        rcases c6.2 x hy' with w | ⟨_,w,_⟩
        ·obtain ⟨o,ho⟩:=(Rps.mut qs (Rps.same s25 qs ry) x hx).some
         rw [ho] at w;cases w
        ·cases w
       ·rcases List.mem_append.mp hx with hx | hx
        ·exact cB.2 x hx
        ·exact (c6.2 x hx).elim (fun w=>.inl ((s2.trans s25).free w)) fun ⟨_,w,_⟩=>nomatch w
      ·intro x hx
       rcases List.mem_append.mp hx with hx | hx
       ·exact cB x hx
       ·exact (jq (c6 x hx)).2
     ·exact fun z=>(JK.mp z).elim nB nC
  ·have ei:i=ps.length:=by omega
   subst ei
   rw [List.drop_length] at h2
   cases h2
   refine hno (.inl ⟨Wk.2 (Jm _),?_⟩)
   rw [JR] at hrs
   subst hrs
   refine k (.ref D) H2 (D::B) (s1.trans s2) (.mkL hy ry) ?_
   have hDH:H D=none:=s1.free hD
   rcases hcc with rfl | rfl
   ·refine ⟨JS.mpr ⟨nB,cB.1⟩,fun a ha=>?_⟩
    rcases List.mem_cons.mp ha with rfl | ha
    ·exact .inl hDH
    ·exact (cB.2 a ha).elim (fun w=>.inl (s1.free w)) .inr
   ·intro a ha
    rcases List.mem_cons.mp ha with rfl | ha
    ·exact uJ (A:=[a]) I (fun b hb=>by rw [Jh.mp hb];exact hDH) a (Jh.mpr rfl)
    ·exact cB a ha
variable {wi:TI}
theorem zmE(cc:Cat)(hcc:cc=.mv []∨cc=.sh)(hB:∀ i ∈ Bs,i<ow.length)(hc:X.calm=true)(hi:VIt X κ G false tg iter fs)(hg:∀ C s₀ H₀ fp,VG (zb X ow js scope C s₀ H₀ fp) (cK ow.length js κ) G Bs tg bnd)
  (ht:∀ C s₀ H₀ fp,VTs (zb X ow js scope C s₀ H₀ fp) (cK ow.length js κ) G ifs t)(he:∀ C s₀ H₀ fp,VE (zb X ow js scope C s₀ H₀ fp) (cK ow.length js κ) G cc elt f)
  (ok:u7 js scope X.env.kindOf X.N=true:=by first | rfl | decide +kernel)(hs:∀ x,foldedSetIterable iter X.env x=pure x:=by intro _;rfl):
  VE X κ G cc (.ListComp elt [⟨tg,iter,ifs,0⟩] scope pos) (fLC fs ow.length js bnd t f):=
 (zni (own:=ow) (js:=js) hc hi hg ht he ok hs).imp fun σ H Q h=>zaA hcc hB σ H Q h
theorem znf{py spos:Pos}(cc:Cat)(hN:X.N.Nodup)(hi':X.N[i]?=some y)(hx:Loc X.env.scope y)(hcc:cc=.mv []∨cc=.sh)(hB:∀ i ∈ Bs,i<ow.length)(hc:X.calm=true)(hi:VIt X κ G false tg iter fs)(hg:∀ C s₀ H₀ fp,VG (zb X ow js scope C s₀ H₀ fp) (cK ow.length js κ) G Bs tg bnd)
  (ht:∀ C s₀ H₀ fp,VTs (zb X ow js scope C s₀ H₀ fp) (cK ow.length js κ) G ifs t)(he:∀ C s₀ H₀ fp,VE (zb X ow js scope C s₀ H₀ fp) (cK ow.length js κ) G cc elt f)
  (ok:u7 js scope X.env.kindOf X.N=true:=by first | rfl | decide +kernel)(hs:∀ x,foldedSetIterable iter X.env x=pure x:=by intro _;rfl)
  (hsw:swapsWith (.ListComp elt [⟨tg,iter,ifs,0⟩] scope pos) (some (.Name y py)) spos.line X.env=pure true:=by rfl)(hf:X.fn y=true∨X.env.scope.names.lookup y=some .local:=by first | exact .inl rfl | exact .inr rfl | assumption):
  PS X (.Assign [.Name y py] (.ListComp elt [⟨tg,iter,ifs,0⟩] scope pos) spos) (vp (tV X.K κ G cc (fLC fs ow.length js bnd t f)) (wd i)):=
 (ziP (own:=ow) (js:=js) hN hi' hx hc hi hg ht he ok hs hsw hf).imp fun D σ H h=>zaA hcc hB σ H _ h
end
theorem zkY(h:PS X st (vp (tV X.K κ G (.mv []) f) tg)):PS X st (vp (tV X.K κ G .sh f) tg):=h.imp fun D σ H hq_=>by
 refine hq_.elim fun own env p I hf k=>?_
 exact (.in I hf fun v H' A s r hc=>k v H' A s r (uJ I fun a ha=>(hc.2 a ha).elim id fun ⟨_,hl,_⟩=>nomatch hl))
noncomputable def spV(K:PySem.W.Frag)(n:Nat)(Φ:List PV->Option PV):Sp:=fun vs H Q _=>∃ ps A z,Rps K H ps vs A/\ps.length=n/\Φ ps=some z/\∀ v H' C,Same H H'->Rp K H' z v C->C.Nodup->(∀ a ∈ C,H a=none)->Q v H'
theorem ziw(hF:Fn X.prog X.w X.K X.mg X.base x k ps (spV X.K n Φ))(hr:Room k X.A)(hg:Gl X x)(ha:VA X κ G c (e::es) fs)(hl:(e::es).length=n:=by rfl)
  (hdb:(x == ("__debug__":Str))=false:=by decide)(he:starEach (e::es) X.env=(false,eval e X.env)::starEach es X.env:=by rfl)(hpl:(backTo pos (starEach es X.env)).any (·.1)=false:=by rfl):
  VE X κ G (.mv []) (.Call (.Name x p) (e::es) [] pos) (zI Φ fs):=(znj hF hr hg ha.1 hdb he hpl).imp fun σ H Q hq_=>by
 refine hq_.elim fun own env z I hf k=>?_
 unfold zI at hf
 replace hf:=Ja.mp hf;obtain ⟨qs,hp,hf⟩:=hf
 refine (.in I hp fun vs H1 A s1 r1 _=>⟨qs,A,z,by rw [JR];exact r1,(ha.2 env qs hp).trans hl,hf,fun v H' C s2 r2 nd fr=>k v H' C (s1.trans s2) r2 ⟨nd,fun a ha=>.inl (s1.free (fr a ha))⟩⟩)
noncomputable def fnV(m:Nat)(g:FS):List PV->Option PV:=fun ps=>(g (ps.map some++List.replicate (m - ps.length) none)).bind fun o=>match o with | .rt p _=>some p | .nx _=>some .non | _=>none
theorem VI.start{K:PySem.W.Frag}{H:Hp}{N:List Str}{ps:List PV}{vs:List V}{A:List Addr}(hk:∀ i,i<ps.length->κ i=none)(r:Rps K H ps vs A):VI K κ H (fun _=>none) (ps.map some++List.replicate (N.length - ps.length) none) (L2.start N vs) H:=by
 have hl:=r.length
 refine ⟨by simp [L2.start,hl],fun i p e=>?_,(fun _ _ z=>nomatch z),Same.refl _⟩
 by_cases hi:i<ps.length
 ·rw [List.getElem?_append_left (by simpa using hi),List.getElem?_map] at e
  cases q:ps[i]? with
  | none=>rw [q] at e;cases e
  | some p'=>
   rw [q] at e
   have:p'=p:=by simpa using e
   subst this
   obtain ⟨v,C,h1,h2,h3⟩:=r.get q
   refine ⟨v,C,?_,h2,fun _ _ _=>rfl,fun l z=>?_⟩
   ·unfold L2.start
    rw [Kj (by rw [Jt,← hl];exact hi),JQ,h1];rfl
   ·rw [hk i hi] at z;cases z
 ·rw [List.getElem?_append_right (by simpa using hi),List.getElem?_replicate] at e
  split at e<;>cases e
theorem xf{P:Program}{w:World}{K:PySem.W.Frag}{mg:Str->Option Value}{base:Heap}{x qual:Str}{st:Stmt}{f:Addr}{fd:FuncData}{N ps:List Str}{k n m:Nat}(O:List Nat)(hn:ps.length=n)(hm:N.length=m)(hO:∀ i ∈ O,n≤i)(hF:Fun K x qual st f fd)(S:FnScope N ps (zH st))
  (body:∀ (cdv:Value) (A:Around) (outer:List PySem.Env) (s:Shared) (H:Hp) (E:XK),Room k (A.deeper (envOfC qual (zH st) s.heap.objs.size f cdv))->VSs (zcx CX0 P w K mg base N qual (zH st) f cdv A outer s H E).nox (ko O) H (yr st) g):
  FnOk P w K mg base CX0 (k+1) f fd ps (spV K n (fnV m g)):=by
 subst hn hm
 refine hF.ok S (fun vs H Q E ⟨qs,A,z,r,hl,_⟩=>by rw [← r.length,hl]) fun cdv A outer s H vs Q E hr ⟨qs,B,z,r,hl,hΦ,k⟩=>⟨_,body cdv A outer s H E hr,?_⟩
 unfold fnV at hΦ
 replace hΦ:=Ja.mp hΦ;obtain ⟨o,ho,hΦ⟩:=hΦ
 refine ⟨fun _=>none,_,o,VI.start (N:=N) (fun i hi=>zgR fun z=>absurd (hO i z) (by omega)) r,ho,?_⟩
 cases o with
 | rt p e=>cases hΦ;exact fun v H' C own' σ' I' r' nd fr=>k v H' C I'.same r' nd fun a ha=>(fr a ha).1
 | nx e=>cases hΦ;exact fun own' σ' H' I' _=>k .non H' [] I'.same .mkN .nil (by simp)
 | bk e=>cases hΦ
 | ct e=>cases hΦ
end
end F
namespace L2
open PySem PySem.Spec PyProof.Rows
noncomputable def zbR(K:PySem.W.Frag):R2:=fun x y H Q=>∃ a b ys,x=.ref a/\y=.ref b/\SqT K H a []/\SqT K H b ys/\Q (.ref b) H
theorem zhF{s:Shared}{us:List Value}{Q:Value->Shared->Prop}(ht:IsTup s.heap t #[])(hb:IsTup s.heap b us.toArray)(k:Q (.ref b) s):wpAny (model prog w) A (binaryOp .Add (.ref t) (.ref b)) Q E s:=by
 obtain ⟨⟨c1,o1,a1,z1⟩,g1,hc1,n1,hd1⟩:=id ht
 obtain ⟨⟨c2,o2,a2,z2⟩,g2,hc2,n2,hd2⟩:=id hb
 simp only at hc1 hd1 hc2 hd2
 subst hc1 hd1 hc2 hd2
 exact concat_meets ⟨_,g1,rfl⟩ ⟨_,g2,rfl⟩ noFill_tuple_add seq_tuple_add PySem.F.slot_tuple_add PySem.F.entry_tuple_add (PySem.F.args_tuple_add_2 _ _) (tuple_addW0 t b #[] us.toArray n1 n2 o1 o2 z1 z2 rfl) ⟨g1,g2,k⟩
theorem op_catT0{X:Cx}:OpR X (binaryOp .Add) (zbR X.K):=by
 intro pins s σ H x y v u Q I rx ry h
 obtain ⟨a,b,ys,rfl,rfl,ha,hb,q⟩:=h
 cases rx
 cases ry
 obtain ⟨its,r1,p1,_⟩:=I.tuple ha
 obtain ⟨its2,r2,p2,_⟩:=I.tuple hb
 have:=r1.nil_iff.mpr rfl
 subst this
 exact zhF p1 p2 ⟨.ref b,H,I,rfl,q⟩
end L2
namespace F
open PySem PySem.Spec PyProof.Rows L2
noncomputable def zx:PV->PV->Option PV
 | .int i,.int j=>some (.int (i+j))
 | .str x,.str y=>if x.length+y.length≤100000 then some (.str (x++y)) else none
 | .tup xs,.tup ys=>if (isDatas xs && isDatas ys && decide (xs.length+ys.length≤100000))=true then some (.tup (xs++ys)) else none
 | .lst xs,.lst ys=>if (isDatas xs && isDatas ys && decide (xs.length+ys.length≤100000))=true then some (.lst (xs++ys)) else none
 | _,_=>none
noncomputable def wN:PV->PV->Option PV
 | .int i,.int j=>some (.int (i - j))
 | _,_=>none
instance (a b:Int):Decidable (IntMulOk a b):=by unfold IntMulOk;infer_instance
noncomputable def zi:PV->PV->Option PV
 | .int i,.int j=>if IntMulOk i j then some (.int (i * j)) else none
 | .lst xs,.int k=>if (isDatas xs=true/\-(2 ^ 63)≤k/\k<2 ^ 63/\xs.length * k.toNat≤100000) then some (.lst (List.replicate k.toNat xs).flatten) else none
 | _,_=>none
noncomputable def ye:PV->PV->Option PV
 | .int i,.int j=>if 0<j/\j<1073741824 then some (.int (i / j)) else none
 | _,_=>none
noncomputable def xU:PV->PV->Option PV
 | .int i,.int j=>if 0<j then some (.int (i % j)) else none
 | _,_=>none
noncomputable def vLt:PV->PV->Option PV
 | .int i,.int j=>some (.bl (decide (i<j)))
 | _,_=>none
noncomputable def vLe:PV->PV->Option PV
 | .int i,.int j=>some (.bl (decide (i≤j)))
 | _,_=>none
noncomputable def vGt:PV->PV->Option PV
 | .int i,.int j=>some (.bl (decide (j<i)))
 | _,_=>none
noncomputable def vGe:PV->PV->Option PV
 | .int i,.int j=>some (.bl (decide (j≤i)))
 | _,_=>none
noncomputable def zoy:PV->Option PV
 | .int i=>some (.int (-i))
 | _=>none
mutual
noncomputable def zy:PV->PyData
 | .non=>.none
 | .bl b=>.bool b
 | .int i=>.int i
 | .str x=>.str x
 | .ty _=>.none
 | .any=>.none
 | .pen _ _=>.none
 | .adr _=>.none
 | .tup xs=>.tuple (toPys xs)
 | .lst xs=>.list (toPys xs)
 | .fls xs=>.list (toPys xs)
 | .dct _ _=>.none
 | .dcT _ _=>.none
noncomputable def toPys:List PV->List PyData
 | []=>[]
 | x::r=>zy x::toPys r
end
mutual
noncomputable def xY:PV->Bool
 | .ty _=>false
 | .any=>false
 | .pen _ _=>false
 | .adr _=>false
 | .dct _ _=>false
 | .dcT _ _=>false
 | .tup xs=>okPys xs
 | .lst xs=>okPys xs
 | .fls xs=>okPys xs
 | _=>true
noncomputable def okPys:List PV->Bool
 | []=>true
 | x::r=>xY x && okPys r
end
noncomputable def wk(p:PV):Bool:=xY p && (zy p).canLay0 && decide ((zy p).depth≤64)
noncomputable def eqP(p q:PV):Bool:=PyData.eqv (zy p) (zy q)
noncomputable def vEq(p q:PV):Option PV:=if (wk p && wk q)=true then some (.bl (eqP p q)) else none
noncomputable def vNe(p q:PV):Option PV:=if (wk p && wk q)=true then some (.bl (!eqP p q)) else none
section
variable {K:PySem.W.Frag} {H:Hp}
mutual
theorem Rp.rep:∀ (p:PV) {v:V} {A:List Addr},xY p=true->Rp K H p v A->Rep K H v (zy p)
 | .non,_,_,_,h=>by rw [h.N.1];unfold zy;exact .non
 | .bl b,_,_,_,h=>by rw [h.B.1];unfold zy;exact .bl b
 | .int i,_,_,_,h=>by rw [h.I.1];unfold zy;exact .int i
 | .str x,_,_,_,h=>by rw [h.S.1];unfold zy;exact .str x
 | .ty _,_,_,d,_=>by simp [xY] at d
 | .any,_,_,d,_=>by simp [xY] at d
 | .pen _ _,_,_,d,_=>by simp [xY] at d
 | .adr _,_,_,d,_=>by simp [xY] at d
 | .dct _ _,_,_,d,_=>by simp [xY] at d
 | .dcT _ _,_,_,d,_=>by simp [xY] at d
 | .tup ps,_,_,d,h=>by
  unfold xY at d
  obtain ⟨a,xs,rfl,h2,h3⟩:=h.T
  unfold zy
  exact .tuple h2 (Rps.rep ps d h3)
 | .lst ps,_,_,d,h=>by
  unfold xY at d
  obtain ⟨a,xs,B,rfl,h2,rfl,h3⟩:=h.L
  unfold zy
  exact .list (SqL.of h2) (Rps.rep ps d h3)
 | .fls ps,_,_,d,h=>by
  unfold xY at d
  obtain ⟨a,xs,rfl,h2,h3⟩:=h.Fl
  unfold zy
  exact .list h2.seq (Rps.rep ps d h3)
theorem Rps.rep:∀ (ps:List PV) {vs:List V} {A:List Addr},okPys ps=true->Rps K H ps vs A->Reps K H vs (toPys ps)
 | [],_,_,_,h=>by rw [h.inv0.1];unfold toPys;exact .nil
 | p::ps,_,_,d,h=>by
  unfold okPys at d
  rw [JG] at d
  obtain ⟨v,r,A1,A2,rfl,h2,h3,h4⟩:=h.inv
  unfold toPys
  exact .cons (Rp.rep p d.1 h3) (Rps.rep ps d.2 h4)
end
end
noncomputable def xI:PV->Bool
 | .non=>true
 | .bl _=>true
 | .int _=>true
 | .str _=>true
 | _=>false
noncomputable def eqS:PV->PV->Bool
 | .non,.non=>true
 | .bl a,.bl b=>a == b
 | .bl a,.int b=>(if a then 1 else 0) == b
 | .int a,.bl b=>a == (if b then 1 else 0)
 | .int a,.int b=>a == b
 | .str a,.str b=>a == b
 | _,_=>false
noncomputable def inP(p:PV)(xs:List PV):Bool:=xs.any fun y=>eqS y p
noncomputable def qu(ks:List Key)(k:Key):Bool:=ks.any fun x=>decide (x=k)
theorem zhc(ks:List Key)(k:Key):qu ks k=true ↔ k ∈ ks:=by
 unfold qu
 rw [Qk]
 constructor
 ·rintro ⟨x,hx,e⟩
  rw [← of_decide_eq_true e];exact hx
 ·intro h;exact ⟨k,h,by simp⟩
noncomputable def vIn(p:PV):PV->Option Bool
 | .lst xs=>if (xI p && xs.all xI)=true then some (inP p xs) else none
 | .fls xs=>if (xI p && xs.all xI)=true then some (inP p xs) else none
 | .tup xs=>if (xI p && xs.all xI)=true then some (inP p xs) else none
 | .dct ks _=>match p with | .non=>some false | .int i=>some (qu ks (.inl i)) | .str x=>some (qu ks (.inr x)) | _=>none
 | _=>none
noncomputable def vB(p q:PV):Option PV:=(vIn p q).map .bl
noncomputable def xr(p q:PV):Option PV:=(vIn p q).map fun b=>.bl (!b)
section
variable {X:Cx} {K:PySem.W.Frag}
theorem OpV.int{r:R2}{g:PV->PV->Option PV}(h:∀ p q z,g p q=some z->∃ i j,p=.int i/\q=.int j/\∃ w,(∀ K H,Rp K H z w [])/\∀ H Q,Q w H->r (.int i) (.int j) H Q):OpV K r g:=by
 intro H p q x y A B z Q r1 r2 e k
 obtain ⟨i,j,rfl,rfl,w,hw,hr⟩:=h p q z e
 rw [r1.I.1,r2.I.1]
 exact hr H Q (k w H [] (Same.refl _) (hw _ _) .nil (by simp))
theorem zlq:OpV K (rI0 fun i j=>.int (i - j)) wN:=OpV.int fun p q z e=>by
 unfold wN at e
 split at e
 case h_2=>cases e
 cases e
 exact ⟨_,_,rfl,rfl,_,fun _ _=>.mkI _,fun H Q h=>⟨_,_,rfl,rfl,h⟩⟩
theorem zja:OpV K (rI zoj fun i j=>.int (i / j)) ye:=OpV.int fun p q z e=>by
 unfold ye at e
 split at e
 case h_2=>cases e
 split at e
 ·rename_i hc;cases e
  exact ⟨_,_,rfl,rfl,_,fun _ _=>.mkI _,fun H Q h=>⟨_,_,rfl,rfl,hc,h⟩⟩
 ·cases e
theorem zls:OpV K (rI (fun _ j=>0<j) fun i j=>.int (i % j)) xU:=OpV.int fun p q z e=>by
 unfold xU at e
 split at e
 case h_2=>cases e
 split at e
 ·rename_i hc;cases e
  exact ⟨_,_,rfl,rfl,_,fun _ _=>.mkI _,fun H Q h=>⟨_,_,rfl,rfl,hc,h⟩⟩
 ·cases e
theorem znm:OpV K (rI0 fun i j=>.bl (decide (i<j))) vLt:=OpV.int fun p q z e=>by
 unfold vLt at e
 split at e
 case h_2=>cases e
 cases e
 exact ⟨_,_,rfl,rfl,_,fun _ _=>.mkB _,fun H Q h=>⟨_,_,rfl,rfl,h⟩⟩
theorem znn:OpV K (rI0 fun i j=>.bl (decide (i≤j))) vLe:=OpV.int fun p q z e=>by
 unfold vLe at e
 split at e
 case h_2=>cases e
 cases e
 exact ⟨_,_,rfl,rfl,_,fun _ _=>.mkB _,fun H Q h=>⟨_,_,rfl,rfl,h⟩⟩
theorem znp:OpV K (rI0 fun i j=>.bl (decide (j<i))) vGt:=OpV.int fun p q z e=>by
 unfold vGt at e
 split at e
 case h_2=>cases e
 cases e
 exact ⟨_,_,rfl,rfl,_,fun _ _=>.mkB _,fun H Q h=>⟨_,_,rfl,rfl,h⟩⟩
theorem znq:OpV K (rI0 fun i j=>.bl (decide (j≤i))) vGe:=OpV.int fun p q z e=>by
 unfold vGe at e
 split at e
 case h_2=>cases e
 cases e
 exact ⟨_,_,rfl,rfl,_,fun _ _=>.mkB _,fun H Q h=>⟨_,_,rfl,rfl,h⟩⟩
theorem jF{H:Hp}{z:PV}{Q:VK}(hd:isDatas ps=true)(r:Rps K H ps xs A)(k:∀ v H' C,Same H H'->Rp K H' (.lst ps) v C->C.Nodup->(∀ a ∈ C,H a=none)->Q v H'):∀ p,H p=none->Q (.ref p) (upd H p (.lst xs)):=fun p hp=>by
 have e:=Rps.data ps hd r
 subst e
 have s:Same H (upd H p (.lst xs)):=zZ (Same.refl _) hp
 exact k _ _ [p] s (.mkL zL (Rps.same s ps r)) (by simp) (by simpa using hp)
theorem jE{H:Hp}{z:PV}{Q:VK}(hd:isDatas ps=true)(r:Rps K H ps xs A)(k:∀ v H' C,Same H H'->Rp K H' (.tup ps) v C->C.Nodup->(∀ a ∈ C,H a=none)->Q v H'):∀ p,H p=none->Q (.ref p) (upd H p (.tup xs)):=fun p hp=>by
 have e:=Rps.data ps hd r
 subst e
 have s:Same H (upd H p (.tup xs)):=zZ (Same.refl _) hp
 exact k _ _ [] s (.mkT (SqT.of zL) (Rps.same s ps r)) (by simp) (by simp)
theorem zlx:OpR X (binaryOp .Add) (fun x y H Q=>(rI0 fun i j=>.int (i+j)) x y H Q∨(zkS x y H Q∨(zga X.K x y H Q∨(zbR X.K x y H Q∨∃ i j,x=.str i/\y=.str j/\i.length+j.length≤sizeLine/\Q (.str (i++j)) H)))):=op_add.or (op_cat.or (op_catT.or (op_catT0.or zbZ)))
theorem zlv:OpV K (fun x y H Q=>(rI0 fun i j=>.int (i+j)) x y H Q∨(zkS x y H Q∨(zga K x y H Q∨(zbR K x y H Q∨∃ i j,x=.str i/\y=.str j/\i.length+j.length≤sizeLine/\Q (.str (i++j)) H)))) zx:=by
 intro H p q x y A B z Q r1 r2 e k
 unfold zx at e
 split at e
 case h_5=>cases e
 ·cases e
  exact .inl ⟨_,_,r1.I.1,r2.I.1,k _ H [] (Same.refl _) (.mkI _) .nil (by simp)⟩
 ·split at e
  ·rename_i hc;cases e
   exact .inr (.inr (.inr (.inr ⟨_,_,r1.S.1,r2.S.1,by rw [sizeLine_eq];omega,k _ H [] (Same.refl _) (.mkS _) .nil (by simp)⟩)))
  ·cases e
 ·split at e
  ·rename_i hc;cases e
   simp only [Bool.and_eq_true,decide_eq_true_eq] at hc
   obtain ⟨⟨d1,d2⟩,hl⟩:=hc
   obtain ⟨a,xs,e1,h1,g1⟩:=r1.T
   obtain ⟨b,ys,e2,h2,g2⟩:=r2.T
   have l1:=g1.length
   have l2:=g2.length
   by_cases hx0:xs=[]
   ·subst hx0
    rename_i ps qs
    have:ps=[]:=by cases ps with | nil=>rfl | cons _ _=>simp at l1
    subst this
    rw [List.nil_append] at k
    have e:=Rps.data qs d2 g2
    subst e
    exact .inr (.inr (.inr (.inl ⟨a,b,ys,e1,e2,h1,h2,k _ H [] (Same.refl _) (.mkT h2 g2) .nil (by simp)⟩)))
   refine .inr (.inr (.inl ⟨a,b,xs,ys,e1,e2,h1,h2,hx0,by rw [sizeLine_eq];omega,fun z=>?_,fun _=>?_⟩))
   ·subst z
    rename_i ps qs
    have:qs=[]:=by cases qs with | nil=>rfl | cons _ _=>simp at l2
    subst this
    rw [JR] at k
    have e:=Rps.data ps d1 g1
    subst e
    exact k _ H [] (Same.refl _) (.mkT h1 g1) .nil (by simp)
   ·exact jE (by rw [yf,d1,d2];rfl) (g1.append g2) k (z:=.non)
  ·cases e
 ·split at e
  ·rename_i hc;cases e
   simp only [Bool.and_eq_true,decide_eq_true_eq] at hc
   obtain ⟨⟨d1,d2⟩,hl⟩:=hc
   obtain ⟨a,xs,B1,e1,h1,_,g1⟩:=r1.L
   obtain ⟨b,ys,B2,e2,h2,_,g2⟩:=r2.L
   have l1:=g1.length
   have l2:=g2.length
   exact .inr (.inl ⟨a,b,xs,ys,e1,e2,h1,h2,by rw [sizeLine_eq];omega,jF (by rw [yf,d1,d2];rfl) (g1.append g2) k (z:=.non)⟩)
  ·cases e
theorem zlw:OpR X (binaryOp .Mult) (fun x y H Q=>(rI IntMulOk fun i j=>.int (i * j)) x y H Q∨zkQ x y H Q):=op_mulB.or zlz
theorem Rps.rep_{H:Hp}{ps:List PV}{xs:List V}(r:Rps K H ps xs []):∀ k:Nat,Rps K H (List.replicate k ps).flatten (List.replicate k xs).flatten []
 | 0=>.nil
 | k+1=>by
  rw [Kd,Kd,Kw,Kw]
  exact r.append (Rps.rep_ r k)
theorem uy{ps:List PV}(h:isDatas ps=true):∀ k:Nat,isDatas (List.replicate k ps).flatten=true
 | 0=>rfl
 | k+1=>by rw [Kd,Kw,yf,h,uy h k];rfl
theorem zlr:OpV K (fun x y H Q=>(rI IntMulOk fun i j=>.int (i * j)) x y H Q∨zkQ x y H Q) zi:=by
 intro H p q x y A B z Q r1 r2 e k
 unfold zi at e
 split at e
 case h_3=>cases e
 ·split at e
  ·rename_i hc;cases e
   exact .inl ⟨_,_,r1.I.1,r2.I.1,hc,k _ H [] (Same.refl _) (.mkI _) .nil (by simp)⟩
  ·cases e
 ·split at e
  ·rename_i hc;cases e
   obtain ⟨d,h1,h2,h3⟩:=hc
   obtain ⟨a,xs,B1,e1,g0,_,g1⟩:=r1.L
   have e:=Rps.data _ d g1
   subst e
   have l1:=g1.length
   exact .inr ⟨a,_,xs,e1,r2.I.1,g0,h1,h2,by rw [sizeLine_eq,← l1];omega,jF (uy d _) (Rps.rep_ g1 _) k (z:=.non)⟩
  ·cases e
theorem znr:OpV K (fun x y H Q=>∃ d e,Rep K H x d/\Rep K H y e/\d.canLay0=true/\e.canLay0=true/\d.depth≤64/\Q (.bl (PyData.eqv d e)) H) vEq:=by
 intro H p q x y A B z Q r1 r2 e k
 unfold vEq at e
 split at e
 ·rename_i hc;cases e
  unfold wk at hc
  simp only [Bool.and_eq_true,decide_eq_true_eq] at hc
  obtain ⟨⟨⟨a1,a2⟩,a3⟩,⟨b1,b2⟩,b3⟩:=hc
  exact ⟨_,_,Rp.rep p a1 r1,Rp.rep q b1 r2,a2,b2,a3,k _ H [] (Same.refl _) (.mkB _) .nil (by simp)⟩
 ·cases e
theorem znl:OpV K (fun x y H Q=>∃ d e,Rep K H x d/\Rep K H y e/\d.canLay0=true/\e.canLay0=true/\d.depth≤64/\Q (.bl (!PyData.eqv d e)) H) vNe:=by
 intro H p q x y A B z Q r1 r2 e k
 unfold vNe at e
 split at e
 ·rename_i hc;cases e
  unfold wk at hc
  simp only [Bool.and_eq_true,decide_eq_true_eq] at hc
  obtain ⟨⟨⟨a1,a2⟩,a3⟩,⟨b1,b2⟩,b3⟩:=hc
  exact ⟨_,_,Rp.rep p a1 r1,Rp.rep q b1 r2,a2,b2,a3,k _ H [] (Same.refl _) (.mkB _) .nil (by simp)⟩
 ·cases e
theorem jK(h:xI p=true)(r:Rp K H p v A):wI v=true:=by
 cases p<;>first | (simp [xI] at h;done) | skip
 ·rw [r.N.1];rfl
 ·rw [r.B.1];rfl
 ·rw [r.I.1];rfl
 ·rw [r.S.1];rfl
theorem znT(h:xI p=true)(h':xI q=true)(r:Rp K H p v A)(r':Rp K H q w B):eqV v w=eqS p q:=by
 cases p<;>cases q<;>first | (simp [xI] at h;done) | (simp [xI] at h';done) | skip
 all_goals first
  | rw [r.N.1,r'.N.1];rfl
  | rw [r.N.1,r'.B.1];rfl
  | rw [r.N.1,r'.I.1];rfl
  | rw [r.N.1,r'.S.1];rfl
  | rw [r.B.1,r'.N.1];rfl
  | rw [r.B.1,r'.B.1];rfl
  | rw [r.B.1,r'.I.1];rfl
  | rw [r.B.1,r'.S.1];rfl
  | rw [r.I.1,r'.N.1];rfl
  | rw [r.I.1,r'.B.1];rfl
  | rw [r.I.1,r'.I.1];rfl
  | rw [r.I.1,r'.S.1];rfl
  | rw [r.S.1,r'.N.1];rfl
  | rw [r.S.1,r'.B.1];rfl
  | rw [r.S.1,r'.I.1];rfl
  | rw [r.S.1,r'.S.1];rfl
theorem zdw{H:Hp}{p:PV}{v:V}{A:List Addr}(h:xI p=true)(r:Rp K H p v A):∀ {ps:List PV} {xs:List V} {B:List Addr},ps.all xI=true->Rps K H ps xs B->xs.all wI=true/\inV v xs=inP p ps
 | [],_,_,_,g=>by rw [g.inv0.1];exact ⟨rfl,rfl⟩
 | q::ps,_,_,hq,g=>by
  obtain ⟨w,r',A1,A2,rfl,_,h3,h4⟩:=g.inv
  rw [List.all_cons,JG] at hq
  obtain ⟨i1,i2⟩:=zdw h r hq.2 h4
  refine ⟨by rw [List.all_cons,jK hq.1 h3,i1];rfl,?_⟩
  unfold inV inP at i2 ⊢
  rw [Kl,Kl,znT hq.1 h h3 r,i2]
theorem jC:∀ {ks:List Key} {xs:List V} (h:ks.length=xs.length) (k:Key),(xT (ks.zip xs) k).isSome=qu ks k
 | [],[],_,_=>rfl
 | [],_::_,h,_=>by simp at h
 | _::_,[],h,_=>by simp at h
 | k'::ks,x::xs,h,k=>by
  have ih:=jC (ks:=ks) (xs:=xs) (by simpa using h) k
  rw [← wM] at ih ⊢
  unfold qu at ih ⊢
  rw [JM,Kl,Kl,ih]
noncomputable def ziK(K:PySem.W.Frag)(neg:Bool):R2:=fun x y H Q=>∃ b,(zjI K H y x b∨∃ a kvs,x=.non/\y=.ref a/\H a=some (.dK kvs)/\b=false)/\Q (.bl (if neg then !b else b)) H
theorem zns(hu:X.A.units+1<cLine):OpR X (compareOp .In) (ziK X.K false):=by
 intro pins s σ H x y v u Q I rx ry h
 obtain ⟨b,h | ⟨a,kvs,rfl,rfl,h,rfl⟩,q⟩:=h
 ·exact zew hu pins s σ H x y v u Q I rx ry ⟨b,h,q⟩
 ·exact zaS hu pins s σ H _ _ v u Q I rx ry ⟨a,rfl,.inr ⟨kvs,rfl,h,q⟩⟩
theorem zgz(hu:X.A.units+1<cLine):OpR X (compareOp .NotIn) (ziK X.K true):=by
 intro pins s σ H x y v u Q I rx ry h
 obtain ⟨b,h | ⟨a,kvs,rfl,rfl,h,rfl⟩,q⟩:=h
 ·exact qg hu pins s σ H x y v u Q I rx ry ⟨b,h,q⟩
 ·cases ry
  cases rx
  obtain ⟨z,hd,vs,rel,dd⟩:=zhu I.hok h
  exact wpAny_notIn_of (knd:=qe X.prog X.w) (k:=none) rfl hd (zbc dd.mapOf) ⟨.bl true,H,I.tok _,rfl,q⟩
theorem zjV{H:Hp}(r1:Rp K H p x A)(r2:Rp K H q y B)(e:vIn p q=some b):zjI K H y x b∨∃ a kvs,x=.non/\y=.ref a/\H a=some (.dK kvs)/\b=false:=by
 cases q<;>first | (cases e;done) | skip
 ·simp only [vIn] at e
  split at e
  ·rename_i hc;cases e
   rw [JG] at hc
   obtain ⟨a,xs,e1,g0,g1⟩:=r2.T
   obtain ⟨i1,i2⟩:=zdw hc.1 r1 hc.2 g1
   exact .inl (.inl ⟨a,xs,e1,.inr g0,jK hc.1 r1,i1,i2.symm⟩)
  ·cases e
 ·simp only [vIn] at e
  split at e
  ·rename_i hc;cases e
   rw [JG] at hc
   obtain ⟨a,xs,B1,e1,g0,_,g1⟩:=r2.L
   obtain ⟨i1,i2⟩:=zdw hc.1 r1 hc.2 g1
   exact .inl (.inl ⟨a,xs,e1,.inl (SqL.of g0),jK hc.1 r1,i1,i2.symm⟩)
  ·cases e
 ·simp only [vIn] at e
  split at e
  ·rename_i hc;cases e
   rw [JG] at hc
   obtain ⟨a,xs,e1,g0,g1⟩:=r2.Fl
   obtain ⟨i1,i2⟩:=zdw hc.1 r1 hc.2 g1
   exact .inl (.inl ⟨a,xs,e1,.inl g0.seq,jK hc.1 r1,i1,i2.symm⟩)
  ·cases e
 ·obtain ⟨a,xs,B1,e1,g0,gl,_,g1⟩:=r2.D
  have hl:=g1.length
  cases p<;>first | (cases e;done) | skip
  ·cases e
   exact .inr ⟨a,_,r1.N.1,e1,g0,rfl⟩
  ·cases e
   refine .inl (.inr ⟨a,_,e1,by rw [r1.I.1];exact DGet.k (k:=Sum.inl _) g0,?_⟩)
   rw [jC (by omega)]
  ·cases e
   refine .inl (.inr ⟨a,_,e1,by rw [r1.S.1];exact DGet.k (k:=Sum.inr _) g0,?_⟩)
   rw [jC (by omega)]
theorem zno:OpV K (ziK K false) vB:=by
 intro H p q x y A B z Q r1 r2 e k
 unfold vB at e
 cases hb:vIn p q with
 | none=>rw [hb] at e;cases e
 | some b=>rw [hb] at e;cases e;exact ⟨b,zjV r1 r2 hb,k _ H [] (Same.refl _) (.mkB _) .nil (by simp)⟩
theorem zgx:OpV K (ziK K true) xr:=by
 intro H p q x y A B z Q r1 r2 e k
 unfold xr at e
 cases hb:vIn p q with
 | none=>rw [hb] at e;cases e
 | some b=>rw [hb] at e;cases e;exact ⟨b,zjV r1 r2 hb,k _ H [] (Same.refl _) (.mkB _) .nil (by simp)⟩
end
end F
namespace L2
theorem PE.or{t t':TE}(h:PE X e t)(h':PE X e t'):PE X e (fun σ H Q=>t σ H Q∨t' σ H Q):=fun pins s σ H Q I hw=>hw.elim (h pins s σ H Q I) (h' pins s σ H Q I)
theorem PS.or{t t':TS}(h:PS X e t)(h':PS X e t'):PS X e (fun D σ H=>t D σ H∨t' D σ H):=fun pins s σ H D I hw=>hw.elim (h pins s σ H D I) (h' pins s σ H D I)
end L2
namespace F
open PySem PySem.Spec PyProof.Rows L2
noncomputable def vd(ks:List Key)(vs:List PV)(k:Key):Option PV:=((ks.zip vs).find? fun kv=>decide (kv.1=k)).map (·.2)
noncomputable def vIx:PV->PV->Option PV
 | .lst xs,.int i=>atI xs i
 | .fls xs,.int i=>atI xs i
 | .tup xs,.int i=>atI xs i
 | .str z,.int i=>if z.length≤100000 then (atI z.cps.toList i).map fun c=>.str ⟨#[c]⟩ else none
 | .dct ks vs,.int i=>vd ks vs (.inl i)
 | .dct ks vs,.str x=>vd ks vs (.inr x)
 | _,_=>none
theorem Cat.sub{c:Cat}{A C:List Addr}(h:c.ok H own A)(s:C.Sublist A):c.ok H own C:=by
 cases c with
 | mv L=>exact ⟨h.1.sublist s,fun a ha=>h.2 a (s.subset ha)⟩
 | sh=>exact fun a ha=>h a (s.subset ha)
 | bo=>trivial
section
variable {K:PySem.W.Frag} {H:Hp}
theorem Rps.atI(r:Rps K H ps xs A)(h:L2.atI ps i=some p):∃ v C,L2.atI xs i=some v/\Rp K H p v C/\C.Sublist A:=by
 unfold L2.atI at h ⊢
 rw [← r.length]
 cases e:ixN ps.length i with
 | none=>rw [e] at h;cases h
 | some j=>
  rw [e] at h
  exact r.get h
theorem jD:∀ {ks:List Key} {ps:List PV} {xs:List V} {A:List Addr} {k:Key} {p:PV},Rps K H ps xs A->vd ks ps k=some p->∃ v C,xT (ks.zip xs) k=some v/\Rp K H p v C/\C.Sublist A
 | [],_,_,_,_,_,_,h=>by simp [vd] at h
 | k'::ks,[],_,_,_,_,_,h=>by simp [vd] at h
 | k'::ks,q::ps,_,_,k,p,r,h=>by
  obtain ⟨w,r',A1,A2,rfl,rfl,h3,h4⟩:=r.inv
  unfold vd at h
  rw [JM,KH] at h
  by_cases hk:k'=k
  ·subst hk
   simp at h
   subst h
   exact ⟨w,A1,by rw [JM];exact xh rfl,h3,List.sublist_append_left _ _⟩
  ·have:decide (k'=k)=false:=decide_eq_false hk
   rw [show decide ((k',q).1=k)=false from this] at h
   obtain ⟨v,C,g1,g2,g3⟩:=jD (ks:=ks) h4 h
   refine ⟨v,C,?_,g2,g3.trans (List.sublist_append_right _ _)⟩
   rw [JM]
   unfold xT at g1 ⊢
   rw [KH,show decide ((k',w).1=k)=false from this]
   exact g1
end
section
variable {X:Cx} {κ:Nat->Option Nat} {G:Hp} {c c1 c2:Cat} {a b e:Expr} {es:List Expr} {fa fb f:FE} {t u:FT} {fs:FA} {pos:Pos} {g h:FS} {st:Stmt} {yC:List Stmt}
theorem zhn{gg:PV->PV->Option PV}(e:fOp gg fa fb env=some z):∃ p q,fa env=some p/\fb env=some q/\gg p q=some z:=by
 unfold fOp at e
 replace e:=Ja.mp e;obtain ⟨p,hp,e⟩:=e
 replace e:=Ja.mp e;obtain ⟨q,hq,e⟩:=e
 exact ⟨p,q,hp,hq,e⟩
theorem zmF(hu:X.A.units+1<cLine)(ha:VE X κ G c a fa)(hb:VE X κ G c2 b fb)(hs:zdO b):VE X κ G c (.Subscript a b pos) (fOp vIx fa fb):=
 ((zjT zgV ha hb hs).or (zdj hu ha hb hs)).imp fun σ H Q hq_=>by
 refine hq_.elim fun own env z I e k=>?_
 obtain ⟨p,q,hp,hq,e⟩:=zhn e
 have go:∀ x H1 A,Same H H1->Rp X.K H1 p x A->c.ok H own A->∀ (R:V->Hp->Prop),(∀ y H2 B,Same H1 H2->Rp X.K H2 q y B->R y H2)->tV X.K κ G c2 fb σ H1 R:=fun x H1 A s1 r1 _ R hR=>(.in (I.grow s1) hq fun y H2 B s2 r2 _=>hR y H2 B s2 r2)
 unfold vIx at e
 split at e
 ·refine .inl (.in I hp fun x H1 A s1 r1 c1=>go x H1 A s1 r1 c1 _ fun y H2 B s2 r2=>.inl ?_)
  obtain ⟨ad,xs,B1,e1,h1,rfl,g1⟩:=(Rp.same s2 _ r1).L
  obtain ⟨v,C,h3,h4,h5⟩:=g1.atI e
  exact ⟨ad,xs,_,v,e1,r2.I.1,SqL.of h1,h3,k v H2 C (s1.trans s2) h4 (Cat.sub c1 (h5.trans (Qq _ _)))⟩
 ·refine .inl (.in I hp fun x H1 A s1 r1 c1=>go x H1 A s1 r1 c1 _ fun y H2 B s2 r2=>.inl ?_)
  obtain ⟨ad,xs,e1,h1,g1⟩:=(Rp.same s2 _ r1).Fl
  obtain ⟨v,C,h3,h4,h5⟩:=g1.atI e
  exact ⟨ad,xs,_,v,e1,r2.I.1,h1.seq,h3,k v H2 C (s1.trans s2) h4 (Cat.sub c1 h5)⟩
 ·refine .inl (.in I hp fun x H1 A s1 r1 c1=>go x H1 A s1 r1 c1 _ fun y H2 B s2 r2=>.inr (.inl ?_))
  obtain ⟨ad,xs,e1,h1,g1⟩:=(Rp.same s2 _ r1).T
  obtain ⟨v,C,h3,h4,h5⟩:=g1.atI e
  exact ⟨ad,xs,_,v,e1,r2.I.1,h1,h3,k v H2 C (s1.trans s2) h4 (Cat.sub c1 h5)⟩
 ·rename_i zz ii
  split at e
  case isFalse=>cases e
  rename_i hl
  cases hc:atI zz.cps.toList ii with
  | none=>rw [hc] at e;cases e
  | some ch=>
   rw [hc] at e
   have ez:z=.str ⟨#[ch]⟩:=(Jq e).symm
   refine .inl (.in I hp fun x H1 A s1 r1 c1=>go x H1 A s1 r1 c1 _ fun y H2 B s2 r2=>.inr (.inr ?_))
   exact ⟨_,_,ch,r1.S.1,r2.I.1,by rw [sizeLine_eq];omega,hc,k _ H2 [] (s1.trans s2) (by rw [ez];exact .mkS _) (Cat.nil _ _ _)⟩
 ·refine .inr (.in I hp fun x H1 A s1 r1 c1=>go x H1 A s1 r1 c1 _ fun y H2 B s2 r2=>?_)
  obtain ⟨ad,xs,B1,e1,h1,hl,rfl,g1⟩:=(Rp.same s2 _ r1).D
  obtain ⟨v,C,h3,h4,h5⟩:=jD g1 e
  exact ⟨ad,v,e1,by rw [r2.I.1,← h3];exact DGet.k (k:=Sum.inl _) h1,k v H2 C (s1.trans s2) h4 (Cat.sub c1 (h5.trans (Qq _ _)))⟩
 ·refine .inr (.in I hp fun x H1 A s1 r1 c1=>go x H1 A s1 r1 c1 _ fun y H2 B s2 r2=>?_)
  obtain ⟨ad,xs,B1,e1,h1,hl,rfl,g1⟩:=(Rp.same s2 _ r1).D
  obtain ⟨v,C,h3,h4,h5⟩:=jD g1 e
  exact ⟨ad,v,e1,by rw [r2.S.1,← h3];exact DGet.k (k:=Sum.inr _) h1,k v H2 C (s1.trans s2) h4 (Cat.sub c1 (h5.trans (Qq _ _)))⟩
 ·cases e
noncomputable def qN(K:PySem.W.Frag)(r:List V->Hp->VK->Prop)(gg:List PV->Option PV):Prop:=∀ (H:Hp) (ps:List PV) (vs:List V) (A:List Addr) (z:PV) (Q:VK),Rps K H ps vs A->gg ps=some z->
 (∀ v H' C,Same H H'->Rp K H' z v C->C.Nodup->(∀ a ∈ C,H a=none)->Q v H')->r vs H Q
theorem zfM{K:PySem.W.Frag}{r:List V->Hp->VK->Prop}{gg:List PV->Option PV}(hv:qN K r gg)(σ:St)(H:Hp)(Q:VK)(h:tV K κ G (.mv []) (zI gg fs) σ H Q):tCB r (tVA K κ G c fs) σ H Q:=by
 obtain ⟨own,env,z,I,hf,k⟩:=h
 unfold zI at hf
 replace hf:=Ja.mp hf;obtain ⟨qs,hp,hf⟩:=hf
 exact (.in I hp fun vs H1 A s1 r1 _=>hv H1 qs vs A z Q r1 hf fun v H' C s2 r2 nd fr=>k v H' C (s1.trans s2) r2 ⟨nd,fun a ha=>.inl (s1.free (fr a ha))⟩)
theorem zfB{x:Str}{p:Pos}{id:String}{r:List V->Hp->VK->Prop}{gg:List PV->Option PV}(hv:qN X.K r gg)(hc:CallR X (.builtin id) r)(hg:Gl X x)(hm:X.mg x=none)(hb:bootBuiltins x=some (.builtin id))(ha:VA X κ G c (e::es) fs)(hn:x≠"__name__":=by decide)(hdb:(x == ("__debug__":Str))=false:=by decide)
  (he:starEach (e::es) X.env=(false,eval e X.env)::starEach es X.env:=by rfl)(hpl:(backTo pos (starEach es X.env)).any (·.1)=false:=by rfl):VE X κ G (.mv []) (.Call (.Name x p) (e::es) [] pos) (zI gg fs):=(zgs hc hg hm hb ha.1 hn hdb he hpl).imp (zfM hv)
theorem zdZ(hv:qN X.K r gg)(hc:CallR X (.type T) r)(hg:Gl X x)(hm:X.mg x=none)(hb:bootBuiltins x=some (.type T))(ha:VA X κ G c (e::es) fs)(hn:x≠"__name__":=by decide)(hdb:(x == ("__debug__":Str))=false:=by decide)
  (he:starEach (e::es) X.env=(false,eval e X.env)::starEach es X.env:=by rfl)(hpl:(backTo pos (starEach es X.env)).any (·.1)=false:=by rfl):VE X κ G (.mv []) (.Call (.Name x p) (e::es) [] pos) (zI gg fs):=(zeu hc hg hm hb ha.1 hn hdb he hpl).imp (zfM hv)
noncomputable def wJ:List PV->Option PV
 | [.lst xs]=>some (.int xs.length)
 | [.fls xs]=>some (.int xs.length)
 | [.tup xs]=>some (.int xs.length)
 | [.dct ks _]=>some (.int ks.length)
 | [.str z]=>if z.length≤100000 then some (.int z.length) else none
 | _=>none
theorem zmk:CallR X (.builtin "len") (fun xs H Q=>(∃ p ys,xs=[.ref p]/\(SqL X.K H p ys∨SqT X.K H p ys)/\Q (.int ys.length) H)∨((∃ a kvs,xs=[V.ref a]/\H a=some (.dK kvs)/\Q (.int kvs.length) H)∨∃ z,xs=[.str z]/\z.length≤sizeLine/\Q (.int z.length) H)):=call_len_seq.or (call_lenD.or zad)
theorem yW{K:PySem.W.Frag}{H:Hp}{p:PV}{vs:List V}{A:List Addr}(r:Rps K H [p] vs A):∃ v,vs=[v]/\Rp K H p v A:=by
 obtain ⟨v,r',A1,A2,h1,h2,h3,h4⟩:=r.inv
 obtain ⟨h5,h6⟩:=h4.inv0
 exact ⟨v,by rw [h1,h5],by rw [h2,h6,JR];exact h3⟩
theorem zfE{K:PySem.W.Frag}{H:Hp}{p q:PV}{vs:List V}{A:List Addr}(r:Rps K H [p,q] vs A):∃ v w A1 A2,vs=[v,w]/\A=A1++A2/\Rp K H p v A1/\Rp K H q w A2:=by
 obtain ⟨v,r',A1,A2,h1,h2,h3,h4⟩:=r.inv
 obtain ⟨w,h5,h6⟩:=yW h4
 exact ⟨v,w,A1,A2,by rw [h1,h5],h2,h3,h6⟩
theorem zmi{K:PySem.W.Frag}:qN K (fun xs H Q=>(∃ p ys,xs=[.ref p]/\(SqL K H p ys∨SqT K H p ys)/\Q (.int ys.length) H)∨((∃ a kvs,xs=[V.ref a]/\H a=some (.dK kvs)/\Q (.int kvs.length) H)∨∃ z,xs=[.str z]/\z.length≤sizeLine/\Q (.int z.length) H)) wJ:=by
 intro H ps vs A z Q r e k
 have fin:∀ n:Int,z=.int n->Q (.int n) H:=fun n e=>k _ H [] (Same.refl _) (by rw [e];exact .mkI n) .nil (by simp)
 unfold wJ at e
 split at e
 ·rename_i xs
  obtain ⟨v,rfl,rr⟩:=yW r
  obtain ⟨a,ys,B,e1,h1,_,g⟩:=rr.L
  exact .inl ⟨a,ys,by rw [e1],.inl (SqL.of h1),fin _ (by rw [← g.length];exact (Jq e).symm)⟩
 ·rename_i xs
  obtain ⟨v,rfl,rr⟩:=yW r
  obtain ⟨a,ys,e1,h1,g⟩:=rr.Fl
  exact .inl ⟨a,ys,by rw [e1],.inl h1.seq,fin _ (by rw [← g.length];exact (Jq e).symm)⟩
 ·rename_i xs
  obtain ⟨v,rfl,rr⟩:=yW r
  obtain ⟨a,ys,e1,h1,g⟩:=rr.T
  exact .inl ⟨a,ys,by rw [e1],.inr h1,fin _ (by rw [← g.length];exact (Jq e).symm)⟩
 ·rename_i ks xs
  obtain ⟨v,rfl,rr⟩:=yW r
  obtain ⟨a,ys,B,e1,h1,hl,_,g⟩:=rr.D
  refine .inr (.inl ⟨a,_,by rw [e1],h1,fin _ ?_⟩)
  rw [List.length_zip,← g.length,← hl,Nat.min_self]
  exact (Jq e).symm
 ·rename_i y
  obtain ⟨v,rfl,rr⟩:=yW r
  split at e
  ·rename_i hl
   exact .inr (.inr ⟨y,by rw [rr.S.1],by rw [sizeLine_eq];omega,fin _ (Jq e).symm⟩)
  ·cases e
 ·cases e
noncomputable def zjM:List PV->Option PV
 | [.lst xs]=>if isDatas xs=true then some (.lst xs) else none
 | [.fls xs]=>if isDatas xs=true then some (.lst xs) else none
 | [.tup xs]=>if isDatas xs=true then some (.lst xs) else none
 | [.dct ks _]=>some (.lst (ks.map fun k=>match k with | .inl i=>.int i | .inr x=>.str x))
 | _=>none
noncomputable def vN:List PV->Option PV
 | [.lst xs]=>if isDatas xs=true then some (.tup xs) else none
 | [.fls xs]=>if isDatas xs=true then some (.tup xs) else none
 | [.tup xs]=>if isDatas xs=true then some (.tup xs) else none
 | _=>none
theorem zhC{K:PySem.W.Frag}:qN K (fun xs H Q=>∃ p ys,xs=[.ref p]/\((SqL K H p ys/\∀ l,H l=none->Q (.ref l) (upd H l (.tup ys)))∨(SqT K H p ys/\Q (.ref p) H))) vN:=by
 intro H ps vs A z Q r e k
 unfold vN at e
 split at e
 ·rename_i xs
  obtain ⟨v,rfl,rr⟩:=yW r
  split at e
  ·rename_i hd;cases e
   obtain ⟨a,ys,B,e1,h1,_,g⟩:=rr.L
   exact ⟨a,ys,by rw [e1],.inl ⟨SqL.of h1,jE hd g k (z:=.non)⟩⟩
  ·cases e
 ·rename_i xs
  obtain ⟨v,rfl,rr⟩:=yW r
  split at e
  ·rename_i hd;cases e
   obtain ⟨a,ys,e1,h1,g⟩:=rr.Fl
   exact ⟨a,ys,by rw [e1],.inl ⟨h1.seq,jE hd g k (z:=.non)⟩⟩
  ·cases e
 ·rename_i xs
  obtain ⟨v,rfl,rr⟩:=yW r
  split at e
  ·rename_i hd;cases e
   obtain ⟨a,ys,e1,h1,g⟩:=rr.T
   have:=Rps.data xs hd g
   subst this
   exact ⟨a,ys,by rw [e1],.inr ⟨h1,k _ H [] (Same.refl _) (.mkT h1 g) .nil (by simp)⟩⟩
  ·cases e
 ·cases e
noncomputable def zoz:List PV->Option PV
 | [.int i]=>some (.int i)
 | [.bl b]=>some (.int (if b then 1 else 0))
 | _=>none
noncomputable def zbt(xs:List PV)(lo hi:Option Int):List PV:=(xs.drop (HT.sIx xs.length 0 lo)).take (HT.sIx xs.length xs.length hi - HT.sIx xs.length 0 lo)
noncomputable def vSl:PV->Option Int->Option Int->Option PV
 | .lst xs,lo,hi=>if isDatas xs=true then some (.lst (zbt xs lo hi)) else none
 | .fls xs,lo,hi=>if isDatas xs=true then some (.lst (zbt xs lo hi)) else none
 | .tup xs,lo,hi=>if isDatas xs=true then some (.tup (zbt xs lo hi)) else none
 | _,_,_=>none
noncomputable abbrev FO:=En->Option (Option Int)
noncomputable def qz:FO:=fun _=>some none
noncomputable def zdC(f:FE):FO:=fun env=>(f env).bind fun p=>match p with | .int i=>some (some i) | _=>none
noncomputable def tVO(K:PySem.W.Frag)(κ:Nat->Option Nat)(G:Hp)(f:FO):TO:=fun σ H Q=>∃ own env o,VI K κ G own env σ H/\f env=some o/\∀ H',Same H H'->Q o H'
theorem tVO.in{K:PySem.W.Frag}{κ:Nat->Option Nat}{G:Hp}{f:FO}{σ:St}{H:Hp}{Q:Option Int->Hp->Prop}{own:Addr->Option Nat}{env:En}{p:Option Int}(I:VI K κ G own env σ H)(hf:f env=some p)(k:∀ H',Same H H'->Q p H'):tVO K κ G f σ H Q:=⟨own,env,p,I,hf,k⟩
theorem tVO.elim{K:PySem.W.Frag}{κ:Nat->Option Nat}{G:Hp}{f:FO}{σ:St}{H:Hp}{Q:Option Int->Hp->Prop}{C:Prop}(h:tVO K κ G f σ H Q)(k:∀ own env (p:Option Int),VI K κ G own env σ H->f env=some p->(∀ H',Same H H'->Q p H')->C):C:=
 let ⟨own,env,p,I,hf,q⟩:=h
 k own env p I hf q
noncomputable def VO(X:Cx)(κ:Nat->Option Nat)(G:Hp)(e:Option Expr)(f:FO):Prop:=PO X e (tVO X.K κ G f)
theorem zio:VO X κ G none qz:=fun pins s σ H Q I ⟨own,env,o,I',e,k⟩=>by
 cases e
 exact ziS pins s σ H Q I (k H (Same.refl _))
theorem zin(h:VE X κ G c e f):VO X κ G (some e) (zdC f):=fun pins s σ H Q I ⟨own,env,o,I',hf,k⟩=>by
 refine ziR h pins s σ H Q I ?_
 unfold zdC at hf
 replace hf:=Ja.mp hf;obtain ⟨p,hp,hf⟩:=hf
 refine (.in I' hp fun v H' A s r _=>?_)
 cases p<;>first | (cases hf;done) | skip
 cases hf
 exact ⟨_,r.I.1,k H' s⟩
theorem Rps.take_{K:PySem.W.Frag}{H:Hp}:∀ {ps:List PV} {xs:List V} (n:Nat),Rps K H ps xs []->Rps K H (ps.take n) (xs.take n) []
 | _,_,0,_=>by simpa using Rps.nil
 | [],_,n+1,r=>by rw [r.inv0.1];simpa using Rps.nil
 | p::ps,_,n+1,r=>by
  obtain ⟨v,r',A1,A2,rfl,h2,h3,h4⟩:=r.inv
  obtain ⟨rfl,rfl⟩:=Kv.mp h2.symm
  exact Rps.cons h3 (Rps.take_ n h4)
theorem Rps.drop_{K:PySem.W.Frag}{H:Hp}:∀ {ps:List PV} {xs:List V} (n:Nat),Rps K H ps xs []->Rps K H (ps.drop n) (xs.drop n) []
 | _,_,0,r=>r
 | [],_,n+1,r=>by rw [r.inv0.1];simpa using Rps.nil
 | p::ps,_,n+1,r=>by
  obtain ⟨v,r',A1,A2,rfl,h2,h3,h4⟩:=r.inv
  obtain ⟨rfl,rfl⟩:=Kv.mp h2.symm
  exact Rps.drop_ n h4
theorem Rps.cut{K:PySem.W.Frag}{H:Hp}{ps:List PV}{xs:List V}{lo hi:Option Int}(r:Rps K H ps xs []):Rps K H (zbt ps lo hi) (kH xs lo hi) []:=by
 unfold zbt kH
 rw [r.length]
 exact Rps.take_ _ (Rps.drop_ _ r)
theorem wX(h:isDatas xs=true)(s:∀ y ∈ ys,y ∈ xs):isDatas ys=true:=by
 rw [xP] at h ⊢
 exact fun y hy=>h y (s y hy)
theorem kI{xs:List PV}{lo hi:Option Int}:∀ y ∈ zbt xs lo hi,y ∈ xs:=fun y hy=>Qg (QB hy)
noncomputable def fSl(f:FE)(l h:FO):FE:=fun env=>(f env).bind fun p=>(l env).bind fun lo=>(h env).bind fun hi=>vSl p lo hi
theorem zfy{lo hi:Option Expr}{fl fh:FO}{p2:Pos}(he:VE X κ G c e f)(hl:VO X κ G lo fl)(hh:VO X κ G hi fh):VE X κ G (.mv []) (.Subscript e (.Slice lo hi none p2) pos) (fSl f fl fh):=
 (zgm (sl_list.or ziE) he hl hh).imp fun σ H Q hq_=>by
 refine hq_.elim fun own env z I e k=>?_
 unfold fSl at e
 replace e:=Ja.mp e;obtain ⟨p,hp,e⟩:=e
 replace e:=Ja.mp e;obtain ⟨l,h1,e⟩:=e
 replace e:=Ja.mp e;obtain ⟨u,h2,e⟩:=e
 refine (.in I hp fun x H1 A s1 r1 _=>(.in (I.grow s1) h1 fun H2 s2=>(.in (I.grow (s1.trans s2)) h2 fun H3 s3=>?_)))
 have sA:=s1.trans (s2.trans s3)
 have k':∀ v H' C,Same H3 H'->Rp X.K H' z v C->C.Nodup->(∀ a ∈ C,H3 a=none)->Q v H':=fun v H' C s r nd fr=>k v H' C (sA.trans s) r ⟨nd,fun a ha=>.inl (sA.free (fr a ha))⟩
 have r3:=Rp.same (s2.trans s3) p r1
 unfold vSl at e
 split at e
 ·split at e
  case isFalse=>cases e
  rename_i hd
  cases e
  obtain ⟨a,xs,B1,e1,g0,_,g1⟩:=r3.L
  have:=Rps.data _ hd g1
  subst this
  exact .inl ⟨a,xs,e1,SqL.of g0,jF (wX hd kI) g1.cut k' (z:=.non)⟩
 ·split at e
  case isFalse=>cases e
  rename_i hd
  cases e
  obtain ⟨a,xs,e1,g0,g1⟩:=r3.Fl
  have:=Rps.data _ hd g1
  subst this
  exact .inl ⟨a,xs,e1,g0.seq,jF (wX hd kI) g1.cut k' (z:=.non)⟩
 ·split at e
  case isFalse=>cases e
  rename_i hd
  cases e
  obtain ⟨a,xs,e1,g0,g1⟩:=r3.T
  have:=Rps.data _ hd g1
  subst this
  refine .inr ⟨a,xs,e1,g0,fun hw=>?_,jE (wX hd kI) g1.cut k' (z:=.non)⟩
  have gc:=g1.cut (lo:=l) (hi:=u)
  rw [hw] at gc
  exact k' _ H3 [] (Same.refl _) (.mkT g0 gc) .nil (by simp)
 ·cases e
end
section
variable {X:Cx} {κ:Nat->Option Nat} {G:Hp} {c c1 c2:Cat} {a b e:Expr} {es:List Expr} {fa fb f:FE} {t u:FT} {fs:FA} {pos:Pos} {g h:FS} {st:Stmt} {yC:List Stmt} {O:List Nat}
theorem wz{env:En}(hf:zA i env=some p):env[i]?=some (some p):=by
 unfold zA at hf
 cases q:env[i]? with
 | none=>rw [q] at hf;cases hf
 | some z=>
  rw [q] at hf;have:z=some p:=by simpa using hf
  rw [this]
theorem jX{σ:St}(h:σ[i]?=some (some v)):σ.set i (some v)=σ:=by
 apply Qt
 intro j
 rw [KY]
 by_cases hij:i=j
 ·subst hij
  rw [if_pos rfl,if_pos (Jv.mp h).1,h]
 ·rw [if_neg hij]
theorem VI.turn{K:PySem.W.Frag}{own:Addr->Option Nat}{env:En}{σ:St}{H0 H1:Hp}{i:Nat}{p:PV}{a:Addr}{o:HO}{B:List Addr}(hi:i ∈ O)(I:VI K (ko O) G own env σ H0)(s:Same H0 H1)(hσ:σ[i]?=some (some (.ref a)))(ho:own a=some i)
  (hm:MutH H0 a)(r:Rp K (upd H1 a o) p (.ref a) (a::B))(nd:(a::B).Nodup)(hB:∀ b ∈ B,own b=some i∨H0 b=none):
  VI K (ko O) G (acq own i (a::B)) (env.set i (some p)) σ (upd H1 a o)/\Ext own H0 (acq own i (a::B)) (upd H1 a o):=by
 have:=I.take (H2:=upd H1 a o) (v:=.ref a) hi (fun j q w C hj _ z hC=>Rp.upd (hm.same s) q (fun z'=>hC a z' ho) (Rp.same s q z)) (fun b u hb z=>by
  rw [zM (by rintro rfl;exact hb ho)];exact s b u z) r nd (fun b hb=>(List.mem_cons.mp hb).elim (fun z=>.inl (z ▸ ho)) (hB b))
 rw [jX hσ] at this
 exact this
noncomputable def zY(i:Nat)(f:FE):FS:=fun env=>(zA i env).bind fun l=>(f env).bind fun q=>match l with | .lst ps=>if ps.length<100000 then some (.nx (env.set i (some (.lst (ps++[q]))))) else none | _=>none
theorem kM{K:PySem.W.Frag}{own:Addr->Option Nat}{env:En}{σ:St}{H:Hp}{i:Nat}{ps:List PV}(hi:i ∈ O)(I:VI K (ko O) G own env σ H)(hf:zA i env=some (.lst ps)):
  ∃ a xs B,σ[i]?=some (some (.ref a))/\H a=some (.lst xs)/\Rps K H ps xs B/\(a::B).Nodup/\own a=some i/\∀ b ∈ B,own b=some i:=by
 obtain ⟨v,A,h1,h2,_,h3⟩:=I.slot i _ (wz hf)
 obtain ⟨nd,ho⟩:=h3 i (k9 hi)
 obtain ⟨a,xs,B,rfl,h4,rfl,h5⟩:=h2.L
 exact ⟨a,xs,B,h1,h4,h5,nd,ho a Jc,fun b hb=>ho b (Jf _ hb)⟩
theorem zdW(i:Nat)(hi:i ∈ O)(hp:PS X st (zcU (tBM X.K "list" qb (vo i) (zcV (tV X.K (ko O) G (.mv []) f) zef)))):VS X (ko O) G st (zY i f):=hp.imp fun D σ H hq_=>by
 refine hq_.elim fun own env o I hf k=>?_
 unfold zY at hf
 replace hf:=Ja.mp hf;obtain ⟨l,hl,hf⟩:=hf
 replace hf:=Ja.mp hf;obtain ⟨q,hq,hf⟩:=hf
 cases l<;>first | (cases hf;done) | skip
 rename_i ps
 dsimp only at hf
 split at hf
 case isFalse=>cases hf
 rename_i hlen
 cases hf
 obtain ⟨a,xs,B,hσ,ha,hr,nd,ho,hB⟩:=kM hi I hl
 refine ⟨.ref a,hσ,.inl ⟨rfl,xs,SqL.of ha⟩,.in I hq fun y H1 C s1 r1 c1=>⟨a,xs,y,rfl,rfl,s1 _ _ ha,by rw [← hr.length,sizeLine_eq];omega,?_⟩⟩
 have fr:∀ b ∈ C,H b=none:=fun b hb=>(c1.2 b hb).elim id fun ⟨_,z,_⟩=>nomatch z
 have nC:a ∉ C:=fun z=>by rw [fr a z] at ha;cases ha
 have nB:a ∉ B:=(JS.mp nd).1
 have m1:MutH H1 a:=.inl ⟨xs,s1 _ _ ha⟩
 have hnd:(a::(B++C)).Nodup:=by
  rw [← List.cons_append]
  refine JJ.mpr ⟨nd,c1.1,fun x hx y' hy' hxy=>?_⟩
  subst hxy
  have hn:=fr x hy'
  rcases List.mem_cons.mp hx with rfl | hx
  ·exact nC hy'
  ·obtain ⟨o,ho⟩:=(Rps.mut ps hr x hx).some
   rw [hn] at ho;cases ho
 have hBC:∀ b ∈ B++C,own b=some i∨H b=none:=by
  intro b hb
  rcases List.mem_append.mp hb with hb | hb
  ·exact .inl (hB b hb)
  ·exact .inr (fr b hb)
 obtain ⟨h1,h2⟩:=I.turn (p:=.lst (ps++[q])) (o:=.lst (xs++[y])) (B:=B++C) hi s1 hσ ho (.inl ⟨xs,ha⟩)
  (.mkL zL ((Rps.upd m1 ps nB (Rps.same s1 ps hr)).append (Rps.one (Rp.upd m1 q nC r1)))) hnd hBC
 exact k _ _ _ h1 h2
noncomputable def zeJ(k i:Nat):FS:=fun env=>(zA i env).bind fun l=>match l with | .lst ps=>(ps.getLast?).bind fun q=>if isDatas ps=true then some (.nx ((env.set i (some (.lst ps.dropLast))).set k (some q))) else none | _=>none
theorem Rps.dropLast{K:PySem.W.Frag}{H:Hp}:∀ {ps:List PV} {xs:List V},Rps K H ps xs []->Rps K H ps.dropLast xs.dropLast []
 | [],_,r=>by rw [r.inv0.1];exact .nil
 | [p],_,r=>by
  obtain ⟨v,h1,_⟩:=yW r
  rw [h1];exact .nil
 | p::q::ps,_,r=>by
  obtain ⟨v,r',A1,A2,rfl,h2,h3,h4⟩:=r.inv
  obtain ⟨rfl,rfl⟩:=Kv.mp h2.symm
  obtain ⟨w,r'',_,_,rfl,_,_,_⟩:=id h4.inv
  exact Rps.cons h3 (Rps.dropLast h4)
theorem zkj(k i:Nat)(hi:i ∈ O)(hk:k ∉ O)(hp:PS X st (vp (zmQ X.K "list" zmZ (vo i)) (wd k))):VS X (ko O) G st (zeJ k i):=hp.imp fun D σ H hq_=>by
 refine hq_.elim fun own env o I hf kk=>?_
 unfold zeJ at hf
 replace hf:=Ja.mp hf;obtain ⟨l,hl,hf⟩:=hf
 cases l<;>first | (cases hf;done) | skip
 rename_i ps
 dsimp only at hf
 replace hf:=Ja.mp hf;obtain ⟨q,hq,hf⟩:=hf
 split at hf
 case isFalse=>cases hf
 rename_i hd
 cases hf
 obtain ⟨a,xs,B,hσ,ha,hr,nd,ho,hB⟩:=kM hi I hl
 have eB:=Rps.data ps hd hr
 subst eB
 have hq':ps[xs.length - 1]?=some q:=by rw [← hr.length,← hq,List.getLast?_eq_getElem?]
 obtain ⟨y,C,hy,r1,hC⟩:=hr.get hq'
 have eC:C=[]:=List.sublist_nil.mp hC
 subst eC
 have m1:MutH H a:=.inl ⟨xs,ha⟩
 refine ⟨.ref a,hσ,.inl ⟨rfl,xs,SqL.of ha⟩,a,xs,y,rfl,rfl,ha,hy,?_⟩
 obtain ⟨h1,h2⟩:=I.turn (p:=.lst ps.dropLast) (o:=.lst xs.dropLast) (B:=[]) hi (Same.refl _) hσ ho m1 (.mkL zL (Rps.upd m1 _ (by simp) hr.dropLast)) (by simp) (by simp)
 exact kk _ _ _ (h1.set_sh (zgR hk) (Rp.upd m1 q (by simp) r1) (by simp)) h2
noncomputable def yt{α:Type}(ks:List Key)(vs:List α)(k:Key)(p:α):List Key × List α:=if qu ks k=true then (ks,List.zipWith (fun k' v=>if k'=k then p else v) ks vs) else (ks++[k],vs++[p])
theorem zhz{ks:List Key}{xs:List V}(hl:ks.length=xs.length)(k:Key)(v:V):vD (ks.zip xs) k v=(yt ks xs k v).1.zip (yt ks xs k v).2:=by
 have h:=jC hl k
 rw [← wM] at h
 unfold vD yt
 by_cases hk:qu ks k=true
 ·rw [if_pos hk,h,hk,if_pos rfl]
  clear h hk
  induction ks generalizing xs with
  | nil=>simp
  | cons k' ks ih=>
   cases xs with
   | nil=>simp at hl
   | cons x xs=>
    simp only [List.zip_cons_cons,List.map_cons,List.zipWith_cons_cons]
    rw [ih (by simpa using hl)]
    by_cases e:k'=k<;>simp [e]
 ·rw [if_neg hk,h,if_neg hk]
  show ks.zip xs++[(k,v)]=(ks++[k]).zip (xs++[v])
  rw [List.zip_append hl]
  rfl
theorem zhB{α:Type}{ks:List Key}{vs:List α}(hl:ks.length=vs.length)(k:Key)(p:α):(yt ks vs k p).1.length=(yt ks vs k p).2.length:=by
 unfold yt
 split
 ·simp [hl]
 ·simp [hl]
theorem zeS{α β:Type}{ks:List Key}{vs:List α}{ws:List β}(k:Key)(p:α)(q:β):(yt ks vs k p).1=(yt ks ws k q).1:=by
 unfold yt
 split<;>rfl
theorem zhA{K:PySem.W.Frag}{H:Hp}{ks:List Key}{k:Key}{p:PV}{v:V}(rp:Rp K H p v []):∀ {ps:List PV} {xs:List V},Rps K H ps xs []->Rps K H (yt ks ps k p).2 (yt ks xs k v).2 []:=by
 intro ps xs r
 unfold yt
 split
 ·rename_i hk
  clear hk
  induction ks generalizing ps xs with
  | nil=>exact .nil
  | cons k' ks ih=>
   cases ps with
   | nil=>rw [r.inv0.1];exact .nil
   | cons q ps=>
    obtain ⟨w,r',A1,A2,rfl,h2,h3,h4⟩:=r.inv
    obtain ⟨rfl,rfl⟩:=Kv.mp h2.symm
    simp only [List.zipWith_cons_cons]
    by_cases e:k'=k
    ·rw [if_pos e,if_pos e];exact Rps.cons rp (ih h4)
    ·rw [if_neg e,if_neg e];exact Rps.cons h3 (ih h4)
 ·exact r.append (Rps.one rp)
noncomputable def jR(l:PV)(k q:PV):Option PV:=match l,k with
 | .lst ps,.int i=>if (isDatas ps && zQ q)=true then (ixN ps.length i).map fun j=>.lst (ps.set j q) else none
 | .dct ks vs,.int i=>if (isDatas vs && zQ q && decide (ks.length<100000))=true then some (.dct (yt ks vs (.inl i) q).1 (yt ks vs (.inl i) q).2) else none
 | .dct ks vs,.str x=>if (isDatas vs && zQ q && decide (ks.length<100000))=true then some (.dct (yt ks vs (.inr x) q).1 (yt ks vs (.inr x) q).2) else none
 | _,_=>none
noncomputable def wg(i:Nat)(fk f:FE):FS:=fun env=>(f env).bind fun q=>(zA i env).bind fun l=>(fk env).bind fun k=>(jR l k q).map fun l'=>.nx (env.set i (some l'))
theorem Rps.set_{K:PySem.W.Frag}{H:Hp}{q:PV}{y:V}(rq:Rp K H q y []):∀ {ps:List PV} {xs:List V} (j:Nat),Rps K H ps xs []->Rps K H (ps.set j q) (xs.set j y) []
 | [],_,_,r=>by rw [r.inv0.1];exact .nil
 | p::ps,_,0,r=>by
  obtain ⟨v,r',A1,A2,rfl,h2,h3,h4⟩:=r.inv
  obtain ⟨rfl,rfl⟩:=Kv.mp h2.symm
  exact Rps.cons rq h4
 | p::ps,_,j+1,r=>by
  obtain ⟨v,r',A1,A2,rfl,h2,h3,h4⟩:=r.inv
  obtain ⟨rfl,rfl⟩:=Kv.mp h2.symm
  exact Rps.cons h3 (Rps.set_ rq j h4)
theorem zmm{K:PySem.W.Frag}{own:Addr->Option Nat}{env:En}{σ:St}{H:Hp}{i:Nat}{ks:List Key}{ps:List PV}(hi:i ∈ O)(I:VI K (ko O) G own env σ H)(hf:zA i env=some (.dct ks ps)):
  ∃ a xs B,σ[i]?=some (some (.ref a))/\H a=some (.dK (ks.zip xs))/\ks.length=ps.length/\Rps K H ps xs B/\(a::B).Nodup/\own a=some i/\∀ b ∈ B,own b=some i:=by
 obtain ⟨v,A,h1,h2,_,h3⟩:=I.slot i _ (wz hf)
 obtain ⟨nd,ho⟩:=h3 i (k9 hi)
 obtain ⟨a,xs,B,rfl,h4,hl,rfl,h5⟩:=h2.D
 exact ⟨a,xs,B,h1,h4,hl,h5,nd,ho a Jc,fun b hb=>ho b (Jf _ hb)⟩
theorem zii(i:Nat)(hi:i ∈ O){fk:FE}(hp:PS X st (vp (tV X.K (ko O) G c f) (znM (vo i) (tV X.K (ko O) G c2 fk) zjQ)))(hd:PS X st (zdb (vo i) (tV X.K (ko O) G c2 fk) (tV X.K (ko O) G c f))):VS X (ko O) G st (wg i fk f):=(hp.or hd).imp fun D σ H hq_=>by
 refine hq_.elim fun own env o I hf k=>?_
 unfold wg at hf
 replace hf:=Ja.mp hf;obtain ⟨q,hq,hf⟩:=hf
 replace hf:=Ja.mp hf;obtain ⟨l,hl,hf⟩:=hf
 replace hf:=Ja.mp hf;obtain ⟨kk,hk,hf⟩:=hf
 cases hv:jR l kk q with
 | none=>rw [hv] at hf;cases hf
 | some l'=>
  rw [hv] at hf;cases hf
  unfold jR at hv
  have dput:∀ (ks:List Key) (ps:List PV) (key:Key),l=.dct ks ps->(∀ (H2:Hp) (y:V) (B:List Addr),Rp X.K H2 kk y B->y=kV key)->(isDatas ps && zQ q && decide (ks.length<100000))=true->l'=.dct (yt ks ps key q).1 (yt ks ps key q).2->zdb (vo i) (tV X.K (ko O) G c2 fk) (tV X.K (ko O) G c f) D σ H:=by
   rintro ks ps key rfl hy hc rfl
   simp only [Bool.and_eq_true,decide_eq_true_eq] at hc
   obtain ⟨⟨d1,d2⟩,hlen⟩:=hc
   obtain ⟨a,xs,B,hσ,ha,hkl,hr,nd,ho,hB⟩:=zmm hi I hl
   have eB:=Rps.data ps d1 hr
   subst eB
   refine (.in I hq fun v H1 A s1 r1 _=>⟨.ref a,hσ,.in (I.grow s1) hk fun y H2 B s2 r2 _=>?_⟩)
   have eA:=Rp.data q d2 r1
   subst eA
   have s12:=s1.trans s2
   have hxl:=hr.length
   refine ⟨a,_,rfl,by rw [hy H2 y B r2];exact DPut.k (s12 _ _ ha) (by rw [List.length_zip,sizeLine_eq];omega),?_⟩
   rw [zhz (by omega)]
   have m0:MutH H a:=.inr (.inl ⟨_,ha⟩)
   have m2:=m0.same s12
   have rq:=Rp.same s2 q r1
   obtain ⟨h1,h2⟩:=I.turn (p:=.dct (yt ks ps key q).1 (yt ks ps key q).2) (o:=.dK ((yt ks xs key v).1.zip (yt ks xs key v).2)) (B:=[]) hi s12 hσ ho m0
    (.mkD (by rw [zeS (ws:=xs) key q v];exact zL) (zhB hkl key q) (Rps.upd m2 _ (by simp) (zhA rq (Rps.same s12 ps hr)))) (by simp) (by simp)
   exact k _ _ _ h1 h2
  split at hv
  ·rename_i ps j
   split at hv
   case isFalse=>cases hv
   rename_i hc
   rw [JG] at hc
   obtain ⟨a,xs,B,hσ,ha,hr,nd,ho,hB⟩:=kM hi I hl
   have eB:=Rps.data ps hc.1 hr
   subst eB
   cases hj:ixN ps.length j with
   | none=>rw [hj] at hv;cases hv
   | some jn=>
    rw [hj] at hv;cases hv
    refine .inl (.in I hq fun v H1 A s1 r1 _=>⟨.ref a,hσ,.in (I.grow s1) hk fun y H2 B s2 r2 _=>?_⟩)
    have eA:=Rp.data q hc.2 r1
    subst eA
    have s12:=s1.trans s2
    refine ⟨a,xs,j,jn,rfl,r2.I.1,s12 _ _ ha,by rw [← hr.length];exact hj,?_⟩
    have m0:MutH H a:=.inl ⟨_,ha⟩
    have m2:=m0.same s12
    obtain ⟨h1,h2⟩:=I.turn (p:=.lst (ps.set jn q)) (o:=.lst (xs.set jn v)) (B:=[]) hi s12 hσ ho m0 (.mkL zL (Rps.upd m2 _ (by simp) (Rps.set_ (Rp.same s2 q r1) jn (Rps.same s12 ps hr)))) (by simp) (by simp)
    exact k _ _ _ h1 h2
  ·split at hv
   case isFalse=>cases hv
   rename_i hc
   cases hv
   exact .inr (dput _ _ (Sum.inl _) rfl (fun H2 y B r=>r.I.1) hc rfl)
  ·split at hv
   case isFalse=>cases hv
   rename_i hc
   cases hv
   exact .inr (dput _ _ (Sum.inr _) rfl (fun H2 y B r=>r.S.1) hc rfl)
  ·cases hv
noncomputable def ui:FE:=fun _=>some (.dct [] [])
theorem zfz(h:PE X e zfK):VE X κ G (.mv []) e ui:=h.imp fun σ H Q hq_=>by
 refine hq_.elim fun own env z I hf k=>?_
 cases hf
 intro p hp
 exact k _ _ [p] (zZ (Same.refl _) hp) (.mkD (by simpa using zL) rfl .nil) ⟨by simp,fun a ha=>.inl (by rw [List.mem_singleton.mp ha];exact hp)⟩
noncomputable def zjO:PV->Option Bool
 | .non=>some false
 | .bl b=>some b
 | .int i=>some (i != 0)
 | .str y=>if y.length≤100000 then some ((y.length:Int) != 0) else none
 | .lst xs=>some (!xs.isEmpty)
 | .fls xs=>some (!xs.isEmpty)
 | .tup xs=>some (!xs.isEmpty)
 | .dct ks _=>some (!ks.isEmpty)
 | .ty _=>none
 | .any=>none
 | .pen _ _=>none
 | .adr _=>none
 | .dcT _ _=>none
noncomputable def zhm(f:FE):FT:=fun env=>(f env).bind zjO
theorem kC{K:PySem.W.Frag}{H:Hp}{ps:List PV}{xs:List V}{A:List Addr}(r:Rps K H ps xs A):(!ps.isEmpty)=!xs.isEmpty:=by
 have:=r.length
 cases ps<;>cases xs<;>simp_all
theorem zfr(ha:VE X κ G c a fa)(he:∀ whole,isTrue a X.env whole=(do let v ← whole;standAt a.pos;holding [v] (truthy v))):VT X κ G a (zhm fa):=(zgd ha he).imp fun σ H Q hq_=>by
 refine hq_.elim fun own env z I hf k=>?_
 unfold zhm at hf
 replace hf:=Ja.mp hf;obtain ⟨p,hp,hf⟩:=hf
 refine (.in I hp fun x H1 A s1 r1 _=>⟨z,?_,k H1 s1⟩)
 cases p
 case non=>cases hf;rw [r1.N.1];exact rfl
 case bl=>cases hf;rw [r1.B.1];exact rfl
 case int=>cases hf;rw [r1.I.1];exact rfl
 case str=>
  simp only [zjO] at hf
  split at hf
  ·rename_i hl;cases hf;rw [r1.S.1];exact ⟨by rw [sizeLine_eq];omega,rfl⟩
  ·cases hf
 case ty=>cases hf
 case any=>cases hf
 case pen=>cases hf
 case adr=>cases hf
 case dcT=>cases hf
 case tup=>cases hf;obtain ⟨a,xs,e1,h1,g⟩:=r1.T;rw [e1];exact .inr (.inl ⟨xs,h1,kC g⟩)
 case lst=>cases hf;obtain ⟨a,xs,B,e1,h1,_,g⟩:=r1.L;rw [e1];exact .inl ⟨xs,SqL.of h1,kC g⟩
 case fls=>cases hf;obtain ⟨a,xs,e1,h1,g⟩:=r1.Fl;rw [e1];exact .inl ⟨xs,h1.seq,kC g⟩
 case dct ks ps=>
  cases hf;obtain ⟨a,xs,B,e1,h1,hl,_,g⟩:=r1.D;rw [e1];refine .inr (.inr ⟨_,h1,?_⟩)
  have:=g.length
  cases ks<;>cases ps<;>cases xs<;>simp_all
end
end F
namespace L2
open PySem PySem.Spec PyProof.Rows
section
variable {X:Cx}
theorem zjz(l:Addr)(items:Array Value)(n:Nat)(b:Addr)(items2:Array Value)(n2:Nat)(dd:Option Addr)(sl:Array (Option Value))(hs0:¬(!items.isEmpty && Builtin.List.listTooLong (items.size+items2.size))=true)(hs1:items.size≤sizeLine)(hs2:items.size+items2.size≤sizeLine+1):
  Meets (Builtin.«list.extend» ⟨[.ref l,.ref b],[]⟩) (fun _ R s=>s.heap.get? l=some { cls:=.type "list",dict:=none,data:=.seq items n,slots:=#[] }/\s.heap.get? b=some { cls:=.type "tuple",dict:=dd,data:=.seq items2 n2,slots:=sl }/\R (.ok (.ret Value.none)) { s with heap:=s.heap.update l (Obj.mapSeq fun x=>x++items2),toks:=s.toks }):=
 .of_wp fun prog w A R s h=>by
  obtain ⟨hp,g,d,tk,os⟩:=s;obtain ⟨hl,hb,h⟩:=h;have f1:=AutoSeq1.idx_int;have f2:=AutoSeq1.sub_tuple_tuple;have f3:=AutoSeq1.sub_list_list;have f4:=AutoSeq1.sub_tuple_list;have f5:=AutoSeq1.sub_list_tuple;
  have hz':(items++items2).size≤sizeLine+1:=JV (Nat.le_of_eq Qu) hs2
  wp_walk using (wpAny_updateSeq hl rfl (hz:=hs1) (_hz':=hz')),Ql hl,Ql hb;exact ⟨_,rfl,h⟩
noncomputable def jb(K:PySem.W.Frag):V->List V->Hp->VK->Prop:=fun x vs H Q=>∃ l b xs zs,x=.ref l/\vs=[.ref b]/\H l=some (.lst xs)/\SqT K H b zs/\xs.length+zs.length≤sizeLine/\Q .non (upd H l (.lst (xs++zs)))
theorem zce:MtM X "list.extend" (jb X.K):=by
 intro pins s σ H x vs v us Q I rx rv h
 obtain ⟨l,b,xs,zs,rfl,rfl,hH,hB,hz,q⟩:=h
 cases rx
 obtain ⟨u,rfl,ru⟩:=rv.one
 cases ru
 obtain ⟨z,its,n,r,hl,e⟩:=I.lstM hH
 obtain ⟨its2,r2,⟨⟨cls,dd,dat,sl⟩,e2,hc,n2,hd⟩,z2⟩:=I.tuple hB
 simp only at hc hd
 subst hc hd
 have hl2:=r2.length
 have hsz:its.toArray.size+its2.toArray.size≤sizeLine:=by rw [Jy,Jy];omega
 have hlong:¬ (!its.toArray.isEmpty && Builtin.List.listTooLong (its.toArray.size+its2.toArray.size))=true:=by
  rw [ji hsz,Bool.and_false]
  exact Jj
 refine call_meets F.slot_list_extend ⟨_,e,rfl⟩ F.entry_list_extend (F.args_list_extend_2 _ _)
  (zjz l its.toArray n b its2.toArray n2 dd sl hlong (by rw [Jy];omega) (by omega)) ⟨e,e2,?_⟩
 refine ⟨.non,_,I.lset (its':=its++its2) hH e (by simp) (r.append r2) ?_,rfl,q⟩
 rw [Jk]
 omega
theorem MtM.or{id:String}{r r':V->List V->Hp->VK->Prop}(h:MtM X id r)(h':MtM X id r'):MtM X id (fun x xs H Q=>r x xs H Q∨r' x xs H Q):=fun pins s σ H x xs v us Q I rx rs q=>q.elim (h pins s σ H x xs v us Q I rx rs) (h' pins s σ H x xs v us Q I rx rs)
theorem zcf:MtM X "list.extend" (fun x xs H Q=>qa x xs H Q∨jb X.K x xs H Q):=mt_extend.or zce
inductive TyR (K:PySem.W.Frag) (H:Hp):V->String->Prop where
 | non:TyR K H .non "NoneType"
 | bl (x:Bool):TyR K H (.bl x) "bool"
 | int (i:Int):TyR K H (.int i) "int"
 | str (x:Str):TyR K H (.str x) "str"
 | lst {a:Addr} {xs:List V} (e:SqL K H a xs):TyR K H (.ref a) "list"
 | tup {a:Addr} {xs:List V} (e:SqT K H a xs):TyR K H (.ref a) "tuple"
 | dct {a:Addr} {kvs:List (Key × V)} (e:H a=some (.dK kvs)):TyR K H (.ref a) "dict"
theorem cr_isinst1:CallR X (.builtin "isinstance") (fun xs H Q=>∃ x n t b,xs=[x,.ty n]/\TyR X.K H x t/\PySem.W.kitOne X.K (.type t) (.type n)=some b/\Q (.bl b) H):=by
 intro pins s σ H xs us Q I r h
 obtain ⟨x,n,t,b,rfl,ty,e,q⟩:=h
 obtain ⟨u,w',rfl,rx,r2⟩:=zjK r
 cases r2
 have fin:∀ tk,EP X pins σ Q (.bool b) { s with toks:=tk }:=fun tk=>⟨.bl b,H,I.tok tk,rfl,q⟩
 cases ty with
 | non=>cases (show u=Value.none from rx);exact PySem.W.kia_one PySem.W.kitx_none I.kIn True.intro e (fun z=>nomatch z) fin
 | bl y=>cases (show u=Value.bool y from rx);exact PySem.W.kia_one PySem.W.kitx_bool I.kIn True.intro e (fun z=>nomatch z) fin
 | int i=>obtain ⟨t,q⟩:=(show ∃ t,u=Value.int i t from rx);cases q;exact PySem.W.kia_one PySem.W.kitx_int I.kIn True.intro e (fun z=>nomatch z) fin
 | str y=>obtain ⟨t,q⟩:=(show ∃ t,u=Value.str y t from rx);cases q;exact PySem.W.kia_one PySem.W.kitx_str I.kIn True.intro e (fun z=>nomatch z) fin
 | @lst a xs ea=>
  cases (show u=Value.ref a from rx)
  obtain ⟨its,_,⟨o,n,e1,e2,_,_⟩,_⟩:=I.list ea
  exact PySem.W.kia_one PySem.W.kitx_list I.kIn ⟨o,e1,e2⟩ e (fun z=>nomatch z) fin
 | @tup a xs ea=>
  cases (show u=Value.ref a from rx)
  obtain ⟨its,_,⟨o,e1,e2,_⟩,_⟩:=I.tuple ea
  exact PySem.W.kia_one PySem.W.kitx_tuple I.kIn ⟨o,e1,e2⟩ e (fun z=>nomatch z) fin
 | @dct a kvs ea=>
  cases (show u=Value.ref a from rx)
  obtain ⟨_,_,vs,_,p⟩:=(show ObjOk X.prog X.w H s.heap a (.dK kvs) from I.hok a _ ea)
  obtain ⟨o,es,ep,h1,h2,_⟩:=p
  exact PySem.W.kia_one PySem.W.kitx_dict I.kIn ⟨o,h1,h2.1⟩ e (fun z=>nomatch z) fin
theorem zcy:CallR X (.builtin "isinstance") (fun xs H Q=>∃ x p,∃ ns:List String,∃ t b,xs=[x,.ref p]/\SqT X.K H p (ns.map V.ty)/\TyR X.K H x t/\PySem.W.kitAny X.K (.type t) (ns.map Value.type)=some b/\Q (.bl b) H):=by
 intro pins s σ H xs us Q I r h
 obtain ⟨x,p,ns,t,b,rfl,hp,ty,e,q⟩:=h
 obtain ⟨u,w',rfl,rx,r2⟩:=zjK r
 cases r2
 obtain ⟨its,rv,⟨⟨cls,dd,dat,sl⟩,h1,h2,n,h3⟩,_⟩:=I.tuple hp
 simp only at h2 h3
 subst h2 h3
 have hi:=zcM rv
 subst hi
 have fin:∀ tk,EP X pins σ Q (.bool b) { s with toks:=tk }:=fun tk=>⟨.bl b,H,I.tok tk,rfl,q⟩
 cases ty with
 | non=>cases (show u=Value.none from rx);exact PySem.W.kia_tup PySem.W.kitx_none I.kIn True.intro h1 e (fun z=>nomatch z) fin
 | bl y=>cases (show u=Value.bool y from rx);exact PySem.W.kia_tup PySem.W.kitx_bool I.kIn True.intro h1 e (fun z=>nomatch z) fin
 | int i=>obtain ⟨t,q⟩:=(show ∃ t,u=Value.int i t from rx);cases q;exact PySem.W.kia_tup PySem.W.kitx_int I.kIn True.intro h1 e (fun z=>nomatch z) fin
 | str y=>obtain ⟨t,q⟩:=(show ∃ t,u=Value.str y t from rx);cases q;exact PySem.W.kia_tup PySem.W.kitx_str I.kIn True.intro h1 e (fun z=>nomatch z) fin
 | @lst a xs ea=>
  cases (show u=Value.ref a from rx)
  obtain ⟨its,_,⟨o,n,e1,e2,_,_⟩,_⟩:=I.list ea
  exact PySem.W.kia_tup PySem.W.kitx_list I.kIn ⟨o,e1,e2⟩ h1 e (fun z=>nomatch z) fin
 | @tup a xs ea=>
  cases (show u=Value.ref a from rx)
  obtain ⟨its,_,⟨o,e1,e2,_⟩,_⟩:=I.tuple ea
  exact PySem.W.kia_tup PySem.W.kitx_tuple I.kIn ⟨o,e1,e2⟩ h1 e (fun z=>nomatch z) fin
 | @dct a kvs ea=>
  cases (show u=Value.ref a from rx)
  obtain ⟨_,_,vs,_,p⟩:=(show ObjOk X.prog X.w H s.heap a (.dK kvs) from I.hok a _ ea)
  obtain ⟨o,es,ep,h1',h2,_⟩:=p
  exact PySem.W.kia_tup PySem.W.kitx_dict I.kIn ⟨o,h1',h2.1⟩ h1 e (fun z=>nomatch z) fin
end
end L2
namespace F
open PySem PySem.Spec PyProof.Rows L2
noncomputable def zcZ:PV->Option (List PV)
 | .lst ps=>some ps
 | .tup ps=>some ps
 | _=>none
noncomputable def yR(i:Nat)(f:FE):FS:=fun env=>(zA i env).bind fun l=>(f env).bind fun q=>match l with
 | .lst ps=>(zcZ q).bind fun qs=>if (isDatas qs=true/\ps.length+qs.length≤100000) then some (.nx (env.set i (some (.lst (ps++qs))))) else none
 | _=>none
theorem zbF{X:Cx}{G:Hp}{O:List Nat}{st:Stmt}{f:FE}(i:Nat)(hi:i ∈ O)(hp:PS X st (zcU (tBM X.K "list" (fun x xs H Q=>qa x xs H Q∨jb X.K x xs H Q) (vo i) (zcV (tV X.K (ko O) G (.mv []) f) zef)))):VS X (ko O) G st (yR i f):=hp.imp fun D σ H hq_=>by
 refine hq_.elim fun own env o I hf k=>?_
 unfold yR at hf
 replace hf:=Ja.mp hf;obtain ⟨l,hl,hf⟩:=hf
 replace hf:=Ja.mp hf;obtain ⟨q,hq,hf⟩:=hf
 split at hf
 case h_2=>cases hf
 rename_i ps
 replace hf:=Ja.mp hf;obtain ⟨qs,hs,hf⟩:=hf
 split at hf
 case isFalse=>cases hf
 rename_i hc
 have hf:=(Jq hf).symm
 subst hf
 obtain ⟨a,xs,B,hσ,ha,hr,nd,ho,hB⟩:=kM hi I hl
 refine ⟨.ref a,hσ,.inl ⟨rfl,xs,SqL.of ha⟩,.in I hq fun y H1 C s1 r1 c1=>?_⟩
 have nB:a ∉ B:=(JS.mp nd).1
 have m1:MutH H1 a:=.inl ⟨xs,s1 _ _ ha⟩
 have fin:∀ (zs:List V),Rps X.K H1 qs zs []->D.nx σ (upd H1 a (.lst (xs++zs))):=fun zs g1=>by
  obtain ⟨h1,h2⟩:=I.turn (p:=.lst (ps++qs)) (o:=.lst (xs++zs)) (B:=B++[]) hi s1 hσ ho (.inl ⟨xs,ha⟩)
   (.mkL zL ((Rps.upd m1 ps nB (Rps.same s1 ps hr)).append (Rps.upd m1 qs (by simp) g1))) (by simpa using nd) (by simpa using fun b hb=>Or.inl (hB b hb))
  exact k _ _ _ h1 h2
 unfold zcZ at hs
 split at hs
 ·have hs:=Jq hs
  subst hs
  obtain ⟨b,zs,C1,rfl,hb,rfl,g1⟩:=r1.L
  have e1:=Rps.data _ hc.1 g1
  subst e1
  exact .inl ⟨a,b,xs,zs,rfl,rfl,s1 _ _ ha,hb,by rw [← hr.length,← g1.length,sizeLine_eq];omega,fin zs g1⟩
 ·have hs:=Jq hs
  subst hs
  obtain ⟨b,zs,rfl,hb,g1⟩:=r1.T
  have e1:=Rps.data _ hc.1 g1
  subst e1
  exact .inr ⟨a,b,xs,zs,rfl,rfl,s1 _ _ ha,hb,by rw [← hr.length,← g1.length,sizeLine_eq];omega,fin zs g1⟩
 ·cases hs
noncomputable def tyP:PV->Option String
 | .non=>some "NoneType"
 | .bl _=>some "bool"
 | .int _=>some "int"
 | .str _=>some "str"
 | .lst _=>some "list"
 | .fls _=>some "list"
 | .tup _=>some "tuple"
 | .dct _ _=>some "dict"
 | .ty _=>none
 | .any=>none
 | .pen _ _=>none
 | .adr _=>none
 | .dcT _ _=>none
theorem TyR.of{K:PySem.W.Frag}{H:Hp}{p:PV}{v:V}{A:List Addr}{t:String}(h:tyP p=some t)(r:Rp K H p v A):TyR K H v t:=by
 cases p<;>cases h
 ·rw [r.N.1];exact .non
 ·rw [r.B.1];exact .bl _
 ·rw [r.I.1];exact .int _
 ·rw [r.S.1];exact .str _
 ·obtain ⟨a,xs,rfl,h,_⟩:=r.T;exact .tup h
 ·obtain ⟨a,xs,B,rfl,h,_⟩:=r.L;exact .lst (SqL.of h)
 ·obtain ⟨a,xs,rfl,h,_⟩:=r.Fl;exact .lst h.seq
 ·obtain ⟨a,xs,B,rfl,h,_⟩:=r.D;exact .dct h
noncomputable def zbg:List String:=["NoneType","bool","int","str","list","tuple","dict"]
noncomputable def jz(t n:String):Bool:=t == n || (t == "bool" && n == "int")
theorem zgS(K:PySem.W.Frag):∀ t ∈ zbg,∀ n ∈ ["int","bool","str","list","tuple","dict"],PySem.W.kitOne K (.type t) (.type n)=some (jz t n):=by
 intro t ht n hn
 simp only [zbg,List.mem_cons,List.not_mem_nil,or_false] at ht hn
 rcases ht with rfl | rfl | rfl | rfl | rfl | rfl | rfl<;>rcases hn with rfl | rfl | rfl | rfl | rfl | rfl<;>rfl
noncomputable def wt:List PV->Option (List String)
 | []=>some []
 | .ty n::r=>(wt r).map fun ns=>n::ns
 | _::_=>none
noncomputable def zgC(n:String):Bool:=["int","bool","str","list","tuple","dict"].contains n
noncomputable def vk:List PV->Option PV
 | [p,.ty n]=>if zgC n=true then (tyP p).map fun t=>.bl (jz t n) else none
 | [p,.tup ts]=>(wt ts).bind fun ns=>if ns.all zgC=true then (tyP p).map fun t=>.bl (ns.any fun n=>jz t n) else none
 | _=>none
theorem km(h:tyP p=some t):t ∈ zbg:=by
 cases p<;>cases h<;>simp [zbg]
theorem zaX(h:zgC n=true):n ∈ ["int","bool","str","list","tuple","dict"]:=by
 unfold zgC at h
 exact List.contains_iff_mem.mp h
theorem qA(K:PySem.W.Frag){t:String}(ht:t ∈ zbg):∀ ns:List String,ns.all zgC=true->PySem.W.kitAny K (.type t) (ns.map Value.type)=some (ns.any fun n=>jz t n)
 | [],_=>rfl
 | n::ns,h=>by
  rw [List.all_cons,JG] at h
  rw [Jo]
  unfold PySem.W.kitAny
  rw [zgS K t ht n (zaX h.1),Kl]
  cases hs:jz t n with
  | true=>rfl
  | false=>rw [Bool.false_or];exact qA K ht ns h.2
theorem um{K:PySem.W.Frag}{H:Hp}:∀ {ts:List PV} {ns:List String} {xs:List V} {A:List Addr},wt ts=some ns->Rps K H ts xs A->xs=ns.map V.ty
 | [],ns,xs,A,h,r=>by
  cases h
  rw [r.inv0.1];rfl
 | p::ts,ns,xs,A,h,r=>by
  obtain ⟨v,r',A1,A2,rfl,h2,h3,h4⟩:=r.inv
  cases p<;>first | (simp [wt] at h;done) | skip
  simp only [wt] at h
  cases hq:wt ts with
  | none=>rw [hq] at h;cases h
  | some ms=>
   rw [hq] at h
   have h:_::ms=ns:=Jq h
   subst h
   rw [Jo,um hq h4,h3.Ty.1]
section
variable {X:Cx}
theorem zfb:CallR X (.builtin "isinstance") (fun xs H Q=>(∃ x n t b,xs=[x,.ty n]/\TyR X.K H x t/\PySem.W.kitOne X.K (.type t) (.type n)=some b/\Q (.bl b) H)∨
  ∃ x p,∃ ns:List String,∃ t b,xs=[x,.ref p]/\SqT X.K H p (ns.map V.ty)/\TyR X.K H x t/\PySem.W.kitAny X.K (.type t) (ns.map Value.type)=some b/\Q (.bl b) H):=cr_isinst1.or zcy
theorem zeX{K:PySem.W.Frag}:qN K (fun xs H Q=>(∃ x n t b,xs=[x,.ty n]/\TyR K H x t/\PySem.W.kitOne K (.type t) (.type n)=some b/\Q (.bl b) H)∨
  ∃ x p,∃ ns:List String,∃ t b,xs=[x,.ref p]/\SqT K H p (ns.map V.ty)/\TyR K H x t/\PySem.W.kitAny K (.type t) (ns.map Value.type)=some b/\Q (.bl b) H) vk:=by
 intro H ps vs A z Q r e k
 unfold vk at e
 split at e
 ·rename_i p n
  split at e
  case isFalse=>cases e
  rename_i ho
  obtain ⟨v,w,A1,A2,rfl,_,r1,r2⟩:=zfE r
  cases ht:tyP p with
  | none=>rw [ht] at e;cases e
  | some t=>
   rw [ht] at e
   have e:PV.bl (jz t n)=z:=Jq e
   subst e
   exact .inl ⟨v,n,t,_,by rw [r2.Ty.1],TyR.of ht r1,zgS K t (km ht) n (zaX ho),k _ H [] (Same.refl _) (.mkB _) .nil (by simp)⟩
 ·rename_i p ts
  obtain ⟨v,w,A1,A2,rfl,_,r1,r2⟩:=zfE r
  replace e:=Ja.mp e;obtain ⟨ns,hn,e⟩:=e
  split at e
  case isFalse=>cases e
  rename_i ho
  cases ht:tyP p with
  | none=>rw [ht] at e;cases e
  | some t=>
   rw [ht] at e
   have e:PV.bl (ns.any fun n=>jz t n)=z:=Jq e
   subst e
   obtain ⟨a,xs,rfl,h1,g⟩:=r2.T
   have hx:=um hn g
   subst hx
   exact .inr ⟨v,a,ns,t,_,rfl,h1,TyR.of ht r1,qA K (km ht) ns ho,k _ H [] (Same.refl _) (.mkB _) .nil (by simp)⟩
 ·cases e
end
end F
namespace L2
open PySem PySem.Spec PyProof.Rows
section
variable {X:Cx} {pins:List (Addr × Obj)} {σ:List (Option V)} {H:Hp} {s:Shared} {h':Heap}
theorem Inv.turnedL{t':Nat}{L:List Addr}(I:Inv X pins σ H s)(k:∀ b o,b ∉ L->s.heap.get? b=some o->h'.get? b=some o)(hf:∀ b ∈ L,vF X pins H b):Inv X pins σ H { s with heap:=h',toks:=t' }:=by
 have nit:∀ b u,H b=some u->b ∉ L:=fun b u e z=>by have:=(hf b z).1;rw [e] at this;cases this
 refine I.step (g':=s.gens) (d':=s.drawn) (ch:=L) (fun b hb=>⟨(hf b hb).2.2.2.1,(hf b hb).2.1,(hf b hb).2.2.2.2.1,(hf b hb).2.2.2.2.2⟩) (fun b o _ _ hc e _=>k b o hc e) (fun b o _ _ hc e _=>⟨o.slots,k b o hc e⟩) (fun _ _ _ _ n=>n)
  (fun b o hc e=>⟨o,k b o hc e⟩) (fun _ _ e=>e) (fun _ _ _ e=>e) (fun b ps e=>⟨#[],by rw [e];simp⟩) (fun m hm=>?_) (fun b u e=>?_) I.bare
 ·obtain ⟨o,es,ep,ho,r⟩:=hm
  exact ⟨o,es,ep,k _ o (fun z=>(hf _ z).2.1 rfl) ho,r⟩
 ·refine (I.hok b u e).stay (fun c v hc q=>k c v ?_ q) (fun _ q=>q) fun _ _ q=>q
  rcases hc with z | z
  ·rw [z];exact nit b u e
  ·exact nit c _ z
theorem Inv.turnedLaid{t':Nat}{L:List Addr}{a:Addr}{o':HO}(I:Inv X pins σ H s)(k:∀ b o,b ∉ L->s.heap.get? b=some o->h'.get? b=some o)(hf:∀ b ∈ L,vF X pins H b)(hp:s.heap.objs.size≤a)(new:ObjOk X.prog X.w (upd H a o') h' a o'):
  Inv X pins σ (upd H a o') { s with heap:=h',toks:=t' }:=by
 have nit:∀ b u,H b=some u->b ∉ L:=fun b u e z=>by have:=(hf b z).1;rw [e] at this;cases this
 have hn:H a=none:=I.hok.fresh hp
 refine I.step (g':=s.gens) (d':=s.drawn) (ch:=L) (fun b hb=>⟨(hf b hb).2.2.2.1,(hf b hb).2.1,(hf b hb).2.2.2.2.1,(hf b hb).2.2.2.2.2⟩) (fun b o _ _ hc e _=>k b o hc e) (fun b o _ _ hc e _=>⟨o.slots,k b o hc e⟩)
  (fun b o _ e n=>by rw [zM (Jx (JE (Ji e) hp))];exact n)
  (fun b o hc e=>⟨o,k b o hc e⟩) (fun b xs e=>by rw [zM (zd e hn)];exact e) (fun b _ _ e=>by rw [zM (zd e hn)];exact e) (fun b ps e=>⟨#[],by rw [zM (zd e hn),e];simp⟩) (fun m hm=>?_) (fun b u e=>?_) I.bare
 ·obtain ⟨o,es,ep,ho,r⟩:=hm
  exact ⟨o,es,ep,k _ o (fun z=>(hf _ z).2.1 rfl) ho,r⟩
 ·by_cases hb:b=a
  ·subst hb;rw [zL] at e;cases e;exact new
  ·rw [zM hb] at e
   refine (I.hok b u e).stay (fun c v hc q=>k c v ?_ q) (fun c q=>by rw [zM (zd q hn)];exact q) fun c xs q=>by rw [zM (zd q hn)];exact q
   rcases hc with z | z
   ·rw [z];exact nit b u e
   ·exact nit c _ z
end
noncomputable def ContAt(h:Heap)(b:Bool)(c:Addr)(its:Array Value):Prop:=if b=true then h.IsList c its else h.IsTuple c its
noncomputable def IterAt(h:Heap)(b:Bool)(it c:Addr)(i:Nat):Prop:=if b=true then h.IsListIter it c i else h.IsTupleIter it c i
noncomputable def jy(b:Bool):String:=if b=true then "list_iterator" else "tuple_iterator"
section
variable {prog:Program} {w:World} {A:Around} {E:Value->Shared->Prop} {s:Shared} {h h₂:Heap} {b:Bool} {it c:Addr} {i:Nat} {its:Array Value}
theorem ContAt.keep(x:ContAt h b c its)(k:∀ o,h.get? c=some o->h₂.get? c=some o):ContAt h₂ b c its:=by
 cases b with
 | true=>obtain ⟨o,ho,r⟩:=x;exact ⟨o,k o ho,r⟩
 | false=>obtain ⟨o,ho,r⟩:=x;exact ⟨o,k o ho,r⟩
theorem IterAt.keep(x:IterAt h b it c i)(k:∀ o,h.get? it=some o->h₂.get? it=some o):IterAt h₂ b it c i:=by
 cases b with
 | true=>obtain ⟨o,ho,r⟩:=x;exact ⟨o,k o ho,r⟩
 | false=>obtain ⟨o,ho,r⟩:=x;exact ⟨o,k o ho,r⟩
theorem IterAt.has(x:IterAt h b it c i):∃ o,h.get? it=some o/\∀ v,o.data≠.cell v:=by
 cases b with
 | true=>obtain ⟨o,ho,_,d⟩:=x;exact ⟨o,ho,fun v z=>by rw [d] at z;cases z⟩
 | false=>obtain ⟨o,ho,_,d⟩:=x;exact ⟨o,ho,fun v z=>by rw [d] at z;cases z⟩
theorem IterAt.lt(x:IterAt h b it c i):it<h.objs.size:=let ⟨_,e,_⟩:=x.has;Ji e
theorem jk{Q:Value->Shared->Prop}(gi:s.heap.IsTupleIter it c i)(gt:s.heap.IsTuple c its)(gx:its[i]?=some x)
  (k:∀ h',h'.IsTupleIter it c (i+1)->Heap.SameBut it s.heap h'->Q x { s with heap:=h' }):wpAny (model prog w) A (Builtin.SmallTypes.nextOf (.ref it)) Q E s:=by
 obtain ⟨o,go,gc,gd⟩:=id gi
 obtain ⟨ot,got,_,nt,gdt⟩:=gt
 unfold Builtin.SmallTypes.nextOf
 refine wpAny_bind (wpAny_callSpecial?_slot (name:=Str.ofString "__next__") gi.typeIs Qd (wpAny_call_entry Qd gi.typeIs F.entry_tuple_iterator_next ?_ (F.args_tuple_iterator_next_1 _)))
 show wpAny _ _ (field (.ref it) 0 >>= _) _ _ s
 refine wpAny_bind (wpAny_field go gd (x:=.ref c) rfl ?_)
 show wpAny _ _ (if (Value.ref c == Value.none)=true then _ else _) _ _ s
 rw [if_neg (show ¬ ((Value.ref c == Value.none)=true) from Jj)]
 show wpAny _ _ (field (.ref it) 1 >>= _) _ _ s
 refine wpAny_bind (wpAny_field go gd (x:=.int i 0) rfl ?_)
 show wpAny _ _ (seqItems? (.ref c) >>= _) _ _ s
 refine wpAny_bind (wpAny_seqItems got gdt ?_)
 simp only [Int.toNat_natCast,gx]
 refine wpAny_bind (wpAny_setField go gd (by simp) (wpAny_pure ⟨x,rfl,wpAny_pure (k _ ?_ (Heap.SameBut.update ..))⟩))
 exact ⟨_,Heap.get?_update_self _ go (Obj.isFreed_of_fields (Obj.data_mapFields gd _)),(Obj.cls_mapFields ..).trans gc,(by rw [Obj.data_mapFields gd];simp [rawInt])⟩
theorem wU{Q:Value->Shared->Prop}(gi:IterAt s.heap b it c i)(gt:ContAt s.heap b c its)(gx:its[i]?=some x)
  (k:∀ h',IterAt h' b it c (i+1)->Heap.SameBut it s.heap h'->Q x { s with heap:=h' }):wpAny (model prog w) A (Builtin.SmallTypes.nextOf (.ref it)) Q E s:=by
 cases b with
 | true=>exact wpAny_nextOf_list_item gi gt gx k
 | false=>exact jk gi gt gx k
theorem xD(hh:A.handled=none)(gi:s.heap.IsTupleIter it c i)(gt:s.heap.IsTuple c its)(gx:its[i]?=none)
  (k:∀ h' e,Heap.ExtBut it s.heap h'->(∃ o,h'.get? e=some o/\o.cls=.type "StopIteration")->E (.ref e) { s with heap:=h' }):wpAny (model prog w) A (Builtin.SmallTypes.nextOf (.ref it)) Q E s:=by
 obtain ⟨o,go,gc,gd⟩:=id gi
 obtain ⟨ot,got,_,nt,gdt⟩:=gt
 unfold Builtin.SmallTypes.nextOf
 refine wpAny_bind (wpAny_callSpecial?_slot (name:=Str.ofString "__next__") gi.typeIs Qd (wpAny_call_entry Qd gi.typeIs F.entry_tuple_iterator_next ?_ (F.args_tuple_iterator_next_1 _)))
 show wpAny _ _ (field (.ref it) 0 >>= _) _ _ s
 refine wpAny_bind (wpAny_field go gd (x:=.ref c) rfl ?_)
 show wpAny _ _ (if (Value.ref c == Value.none)=true then _ else _) _ _ s
 rw [if_neg (show ¬ ((Value.ref c == Value.none)=true) from Jj)]
 show wpAny _ _ (field (.ref it) 1 >>= _) _ _ s
 refine wpAny_bind (wpAny_field go gd (x:=.int i 0) rfl ?_)
 show wpAny _ _ (seqItems? (.ref c) >>= _) _ _ s
 refine wpAny_bind (wpAny_seqItems got gdt ?_)
 simp only [Int.toNat_natCast,gx]
 refine wpAny_bind (wpAny_rule (wpAny_bind (wpAny_setField go gd (by simp) ?_)))
 show wpAny _ _ (newExc (.type "StopIteration") [] >>= _) _ _ _
 refine wpAny_bind ?_
 simp only [newExc,newTuple]
 refine wpAny_bind (wpAny_newObj_type ?_ (by size_fits))
 refine wpAny_bind (m:=firstArgMember _ _) (wpAny_of_eq (a:=Value.none) (by first | rfl | (simp only [firstArgMember];rfl)) ?_)
 refine wpAny_newObj_type ?_ (by size_fits)
 simp only [raiseNew]
 refine wpAny_bind (wpAny_handled ?_)
 first | rw [show A.in1.handled=none from hh] | rw [hh]
 refine wpAny_bind (wpAny_pure (wpAny_throw ?_))
 exact k _ _ (((KI ..).extBut.push _).push _) ⟨_,Jl _ rfl,rfl⟩
theorem jl(hh:A.handled=none)(gi:IterAt s.heap b it c i)(gt:ContAt s.heap b c its)(gx:its[i]?=none)
  (k:∀ h' e,Heap.ExtBut it s.heap h'->(∃ o,h'.get? e=some o/\o.cls=.type "StopIteration")->E (.ref e) { s with heap:=h' }):wpAny (model prog w) A (Builtin.SmallTypes.nextOf (.ref it)) Q E s:=by
 cases b with
 | true=>exact wpAny_nextOf_list_end hh gi gt gx k
 | false=>exact xD hh gi gt gx k
end
section
variable {prog:Program} {w:World} {A:Around} {E:Value->Shared->Prop} {s:Shared} {b1 b2:Bool} {z TI TO i1 i2 l1 l2:Addr} {k1 k2:Nat} {xs ys:Array Value} {x y p q:Value}
theorem zdR{Q:Value->Shared->Prop}(D:ZipApart z TI TO i1 i2 l1 l2)(gz:IsZip s.heap z TI TO .none)(gI:IsPair s.heap TI (.ref i1) (.ref i2))(gO:IsPair s.heap TO p q)
  (g1:IterAt s.heap b1 i1 l1 k1)(g2:IterAt s.heap b2 i2 l2 k2)(c1:ContAt s.heap b1 l1 xs)(c2:ContAt s.heap b2 l2 ys)(gx:xs[k1]?=some x)(gy:ys[k2]?=some y)
  (fin:∀ h',IsZip h' z TI TO (rawInt s.heap.objs.size)->IsPair h' TO x y->IterAt h' b1 i1 l1 (k1+1)->IterAt h' b2 i2 l2 (k2+1)->IsPair h' s.heap.objs.size x y->
   (∀ c o,c ∉ [z,TO,i1,i2]->s.heap.get? c=some o->h'.get? c=some o)->Q (.ref s.heap.objs.size) { s with heap:=h' }):
  wpAny (model prog w) A (Builtin.«zip.__next__» ⟨[.ref z],[]⟩) (fun fin s'=>∃ v,fin=.done (.ret v)/\Q v s') E s:=by
 show wpAny _ _ (field (.ref z) 2 >>= _) _ _ _
 refine wpAny_bind (wpAny_field gz rfl (x:=.bool false) rfl ?_)
 show wpAny _ _ (field (.ref z) 3 >>= _) _ _ _
 refine wpAny_bind (wpAny_field gz rfl (x:=.ref TI) rfl ?_)
 refine wpAny_bind (wpAny_seqItems gI rfl ?_)
 show wpAny _ _ (Builtin.SmallTypes.ownedTupleIsFree (.ref z) >>= _) _ _ _
 refine wpAny_bind ?_
 unfold Builtin.SmallTypes.ownedTupleIsFree
 refine wpAny_bind (wpAny_field gz rfl (x:=.none) rfl (wpAny_pure ?_))
 simp only [if_true]
 refine wpAny_bind (wpAny_rule ?_)
 refine wpAny_bind (wpAny_field gz rfl (x:=.ref TO) rfl ?_)
 refine wpAny_bind (wpAny_setField_rec gz (by simp) fun h₁ z₁ s₁=>?_)
 replace z₁:IsZip h₁ z TI TO .ellipsis:=z₁
 refine wpAny_bind ?_
 simp only [List.zipIdx_cons,List.zipIdx_nil,List.forIn_cons,List.forIn_nil]
 refine wpAny_bind (wpAny_bind (wpAny_onRaise ?_))
 show wpAny _ _ (Builtin.SmallTypes.nextOf (.ref i1) >>= _) _ _ _
 refine wpAny_bind (wU (g1.keep fun o e=>s₁.extBut _ _ D.i1z e) (c1.keep fun o e=>s₁.extBut _ _ D.l1z e) gx fun h₂ e₂ s₂=>wpAny_pure ?_)
 have O₂:IsPair h₂ TO p q:=s₂.extBut _ _ D.TOi1 (s₁.extBut _ _ D.TOz gO)
 refine wpAny_bind (wpAny_seqItems O₂ rfl ?_)
 refine wpAny_bind (wpAny_updateSeq_pair O₂ fun h₃ O₃ s₃=>?_)
 replace O₃:IsPair h₃ TO x q:=O₃
 refine wpAny_bind (wpAny_letGo (wpAny_pure ?_))
 refine wpAny_bind (wpAny_bind (wpAny_onRaise ?_))
 show wpAny _ _ (Builtin.SmallTypes.nextOf (.ref i2) >>= _) _ _ _
 refine wpAny_bind (wU (g2.keep fun o e=>s₃.extBut _ _ D.TOi2.symm (s₂.extBut _ _ D.i12.symm (s₁.extBut _ _ D.i2z e))) (c2.keep fun o e=>s₃.extBut _ _ D.l2TO (s₂.extBut _ _ D.l2i1 (s₁.extBut _ _ D.l2z e))) gy fun h₄ e₄ s₄=>wpAny_pure ?_)
 have O₄:IsPair h₄ TO x q:=s₄.extBut _ _ D.TOi2 O₃
 refine wpAny_bind (wpAny_seqItems O₄ rfl ?_)
 refine wpAny_bind (wpAny_updateSeq_pair O₄ fun h₅ O₅ s₅=>?_)
 replace O₅:IsPair h₅ TO x y:=O₅
 refine wpAny_bind (wpAny_letGo (wpAny_pure (wpAny_pure ?_)))
 refine wpAny_bind (wpAny_seqItems O₅ rfl ?_)
 refine wpAny_bind (wpAny_newTuple ?_)
 have sz:h₅.objs.size=s.heap.objs.size:=by rw [s₅.1,s₄.1,s₃.1,s₂.1,s₁.1]
 have z₅:IsZip h₅ z TI TO .ellipsis:=s₅.extBut _ _ D.TOz.symm (s₄.extBut _ _ D.i2z.symm (s₃.extBut _ _ D.TOz.symm (s₂.extBut _ _ D.i1z.symm z₁)))
 have up5:∀ c o,c ∉ [z,TO,i1,i2]->s.heap.get? c=some o->h₅.get? c=some o:=fun c o hc e=>by
  simp only [List.mem_cons,List.not_mem_nil,or_false,not_or] at hc
  exact s₅.extBut _ _ hc.2.1 (s₄.extBut _ _ hc.2.2.2 (s₃.extBut _ _ hc.2.1 (s₂.extBut _ _ hc.2.2.1 (s₁.extBut _ _ hc.1 e))))
 have f1:IterAt h₅ b1 i1 l1 (k1+1):=e₂.keep fun o e=>s₅.extBut _ _ D.TOi1.symm (s₄.extBut _ _ D.i12 (s₃.extBut _ _ D.TOi1.symm e))
 have f2:IterAt h₅ b2 i2 l2 (k2+1):=e₄.keep fun o e=>s₅.extBut _ _ D.TOi2.symm e
 have zlt:z<h₅.objs.size:=Ji z₅
 show wpAny _ _ (Builtin.SmallTypes.ownedTupleHandOut (.ref z) (.ref h₅.objs.size) >>= _) _ _ _
 refine wpAny_bind ?_
 unfold Builtin.SmallTypes.ownedTupleHandOut
 have z₆:IsZip (h₅.push { cls:=.type "tuple",data:=.seq #[x,y] }) z TI TO .ellipsis:=Jb _ z₅
 refine wpAny_bind (wpAny_setField_rec z₆ (by simp) fun h₇ z₇ s₇=>?_)
 replace z₇:IsZip h₇ z TI TO (rawInt h₅.objs.size):=z₇
 refine wpAny_setField_rec z₇ (by simp) fun h₈ z₈ s₈=>?_
 replace z₈:IsZip h₈ z TI TO (rawInt h₅.objs.size):=z₈
 have up:∀ c o,c≠z->h₅.get? c=some o->h₈.get? c=some o:=fun c o n e=>s₈.extBut _ _ n (s₇.extBut _ _ n (Jb _ e))
 have T₈:IsPair h₈ h₅.objs.size x y:=s₈.extBut _ _ (Ku zlt) (s₇.extBut _ _ (Ku zlt) (Jl _ rfl))
 rw [sz] at z₈ T₈
 refine wpAny_pure ⟨_,rfl,?_⟩
 show Q (.ref h₅.objs.size) _
 rw [sz]
 exact fin h₈ z₈ (up _ _ D.TOz O₅) (f1.keep fun o e=>up _ o D.i1z e) (f2.keep fun o e=>up _ o D.i2z e) T₈ fun c o hc e=>up c o (fun n=>hc (by simp [n])) (up5 c o hc e)
theorem zfk(hh:A.handled=none)(D:ZipApart z TI TO i1 i2 l1 l2)(gz:IsZip s.heap z TI TO .none)(gI:IsPair s.heap TI (.ref i1) (.ref i2))(gO:IsPair s.heap TO p q)
  (g1:IterAt s.heap b1 i1 l1 k1)(g2:IterAt s.heap b2 i2 l2 k2)(c1:ContAt s.heap b1 l1 xs)(c2:ContAt s.heap b2 l2 ys)(ge:xs[k1]?=none∨ys[k2]?=none)
  (fin:∀ h' e,(∀ c o,c ∉ [z,TO,i1,i2]->s.heap.get? c=some o->h'.get? c=some o)->(∃ o,h'.get? e=some o/\o.cls=.type "StopIteration")->E (.ref e) { s with heap:=h' }):
  wpAny (model prog w) A (Builtin.«zip.__next__» ⟨[.ref z],[]⟩) Q E s:=by
 show wpAny _ _ (field (.ref z) 2 >>= _) _ _ _
 refine wpAny_bind (wpAny_field gz rfl (x:=.bool false) rfl ?_)
 show wpAny _ _ (field (.ref z) 3 >>= _) _ _ _
 refine wpAny_bind (wpAny_field gz rfl (x:=.ref TI) rfl ?_)
 refine wpAny_bind (wpAny_seqItems gI rfl ?_)
 show wpAny _ _ (Builtin.SmallTypes.ownedTupleIsFree (.ref z) >>= _) _ _ _
 refine wpAny_bind ?_
 unfold Builtin.SmallTypes.ownedTupleIsFree
 refine wpAny_bind (wpAny_field gz rfl (x:=.none) rfl (wpAny_pure ?_))
 simp only [if_true]
 refine wpAny_bind (wpAny_rule ?_)
 refine wpAny_bind (wpAny_field gz rfl (x:=.ref TO) rfl ?_)
 refine wpAny_bind (wpAny_setField_rec gz (by simp) fun h₁ z₁ s₁=>?_)
 replace z₁:IsZip h₁ z TI TO .ellipsis:=z₁
 refine wpAny_bind ?_
 simp only [List.zipIdx_cons,List.zipIdx_nil,List.forIn_cons,List.forIn_nil]
 refine wpAny_bind (wpAny_bind (wpAny_onRaise ?_))
 show wpAny _ _ (Builtin.SmallTypes.nextOf (.ref i1) >>= _) _ _ _
 have j1:IterAt h₁ b1 i1 l1 k1:=g1.keep fun o e=>s₁.extBut _ _ D.i1z e
 have d1:ContAt h₁ b1 l1 xs:=c1.keep fun o e=>s₁.extBut _ _ D.l1z e
 cases gx:xs[k1]? with
 | none=>
  refine wpAny_bind (jl hh j1 d1 gx fun h₂ e s₂ he=>?_)
  obtain ⟨oe,hoe,hce⟩:=he
  have z₂:IsZip h₂ z TI TO .ellipsis:=s₂ _ _ D.i1z.symm z₁
  have nez:e≠z:=fun n=>by subst n;rw [z₂] at hoe;cases hoe;simp at hce
  refine wpAny_setField_rec z₂ (by simp) fun h₃ _ s₃=>fin h₃ e (fun c o hc t=>?_) ⟨oe,s₃.extBut _ _ nez hoe,hce⟩
  simp only [List.mem_cons,List.not_mem_nil,or_false,not_or] at hc
  exact s₃.extBut _ _ hc.1 (s₂ _ _ hc.2.2.1 (s₁.extBut _ _ hc.1 t))
 | some x=>
  have gy:ys[k2]?=none:=by
   rcases ge with g | g
   ·rw [gx] at g;cases g
   ·exact g
  refine wpAny_bind (wU j1 d1 gx fun h₂ e₂ s₂=>wpAny_pure ?_)
  have O₂:IsPair h₂ TO p q:=s₂.extBut _ _ D.TOi1 (s₁.extBut _ _ D.TOz gO)
  refine wpAny_bind (wpAny_seqItems O₂ rfl ?_)
  refine wpAny_bind (wpAny_updateSeq_pair O₂ fun h₃ O₃ s₃=>?_)
  refine wpAny_bind (wpAny_letGo (wpAny_pure ?_))
  refine wpAny_bind (wpAny_bind (wpAny_onRaise ?_))
  show wpAny _ _ (Builtin.SmallTypes.nextOf (.ref i2) >>= _) _ _ _
  refine wpAny_bind (jl hh (g2.keep fun o e=>s₃.extBut _ _ D.TOi2.symm (s₂.extBut _ _ D.i12.symm (s₁.extBut _ _ D.i2z e))) (c2.keep fun o e=>s₃.extBut _ _ D.l2TO (s₂.extBut _ _ D.l2i1 (s₁.extBut _ _ D.l2z e))) gy fun h₄ e s₄ he=>?_)
  obtain ⟨oe,hoe,hce⟩:=he
  have z₄:IsZip h₄ z TI TO .ellipsis:=s₄ _ _ D.i2z.symm (s₃.extBut _ _ D.TOz.symm (s₂.extBut _ _ D.i1z.symm z₁))
  have nez:e≠z:=fun n=>by subst n;rw [z₄] at hoe;cases hoe;simp at hce
  refine wpAny_setField_rec z₄ (by simp) fun h₅ _ s₅=>fin h₅ e (fun c o hc t=>?_) ⟨oe,s₅.extBut _ _ nez hoe,hce⟩
  simp only [List.mem_cons,List.not_mem_nil,or_false,not_or] at hc
  exact s₅.extBut _ _ hc.1 (s₄ _ _ hc.2.2.2 (s₃.extBut _ _ hc.2.1 (s₂.extBut _ _ hc.2.2.1 (s₁.extBut _ _ hc.1 t))))
theorem zdQ{Q:Option Value->Shared->Prop}(D:ZipApart z TI TO i1 i2 l1 l2)(gz:IsZip s.heap z TI TO .none)(gI:IsPair s.heap TI (.ref i1) (.ref i2))(gO:IsPair s.heap TO p q)
  (g1:IterAt s.heap b1 i1 l1 k1)(g2:IterAt s.heap b2 i2 l2 k2)(c1:ContAt s.heap b1 l1 xs)(c2:ContAt s.heap b2 l2 ys)(gx:xs[k1]?=some x)(gy:ys[k2]?=some y)
  (fin:∀ h',IsZip h' z TI TO (rawInt s.heap.objs.size)->IsPair h' TO x y->IterAt h' b1 i1 l1 (k1+1)->IterAt h' b2 i2 l2 (k2+1)->IsPair h' s.heap.objs.size x y->
   (∀ c o,c ∉ [z,TO,i1,i2]->s.heap.get? c=some o->h'.get? c=some o)->Q (some (.ref s.heap.objs.size)) { s with heap:=h' }):wpAny (model prog w) A (pyNext (.ref z)) Q E s:=by
 have hT:s.TypeIs (.ref z) "zip":=⟨_,gz,rfl⟩
 unfold pyNext
 exact wpAny_bind (wpAny_attempt (wpAny_callSpecial?_slot (name:=Str.ofString "__next__") hT F.slot_zip_next
  (wpAny_call_entry F.slot_zip_next hT F.entry_zip_next (zdR D gz gI gO g1 g2 c1 c2 gx gy fun h' a1 a2 a3 a4 a5 a6=>wpAny_pure (fin h' a1 a2 a3 a4 a5 a6)) (F.args_zip_next_1 _))))
theorem zdP{Q:Option Value->Shared->Prop}(hh:A.handled=none)(D:ZipApart z TI TO i1 i2 l1 l2)(gz:IsZip s.heap z TI TO .none)(gI:IsPair s.heap TI (.ref i1) (.ref i2))(gO:IsPair s.heap TO p q)
  (g1:IterAt s.heap b1 i1 l1 k1)(g2:IterAt s.heap b2 i2 l2 k2)(c1:ContAt s.heap b1 l1 xs)(c2:ContAt s.heap b2 l2 ys)(ge:xs[k1]?=none∨ys[k2]?=none)
  (fin:∀ h',(∀ c o,c ∉ [z,TO,i1,i2]->s.heap.get? c=some o->h'.get? c=some o)->Q none { s with heap:=h' }):wpAny (model prog w) A (pyNext (.ref z)) Q E s:=by
 have hT:s.TypeIs (.ref z) "zip":=⟨_,gz,rfl⟩
 unfold pyNext
 refine wpAny_bind (wpAny_attempt (wpAny_callSpecial?_slot (name:=Str.ofString "__next__") hT F.slot_zip_next
  (wpAny_call_entry F.slot_zip_next hT F.entry_zip_next (zfk hh D gz gI gO g1 g2 c1 c2 ge fun h' e hk he=>?_) (F.args_zip_next_1 _))))
 obtain ⟨o,ho,hc⟩:=he
 refine wpAny_bind (wpAny_isInstance (T:="StopIteration") (b:=true) ⟨o,ho,hc⟩ isSubtype_stop ?_)
 exact wpAny_pure (fin _ hk)
theorem uv{Q:Value->Shared->Prop}(g:ContAt s.heap b c its)(k:Q (.ref s.heap.objs.size) { s with heap:=s.heap.push { cls:=.type (jy b),data:=.fields #[.ref c,.int 0 0] } }):
  wpAny (model prog w) A (pyIter (.ref c)) Q E s:=by
 cases b with
 | true=>exact wpAny_pyIter_list g k
 | false=>exact wpAny_pyIter_tuple g k
noncomputable abbrev zg1(h:Heap)(b1:Bool)(l1:Addr):Heap:=h.push { cls:=.type (jy b1),data:=.fields #[.ref l1,.int 0 0] }
noncomputable abbrev zg2(h:Heap)(b1 b2:Bool)(l1 l2:Addr):Heap:=(zg1 h b1 l1).push { cls:=.type (jy b2),data:=.fields #[.ref l2,.int 0 0] }
noncomputable abbrev zg3(h:Heap)(b1 b2:Bool)(l1 l2:Addr):Heap:=(zg2 h b1 b2 l1 l2).push { cls:=.type "tuple",data:=.seq #[.ref h.objs.size,.ref (zg1 h b1 l1).objs.size] }
noncomputable abbrev zg4(h:Heap)(b1 b2:Bool)(l1 l2:Addr):Heap:=(zg3 h b1 b2 l1 l2).push { cls:=.type "tuple",data:=.seq #[.none,.none] }
noncomputable abbrev zg5(h:Heap)(b1 b2:Bool)(l1 l2:Addr):Heap:=(zg4 h b1 b2 l1 l2).push { cls:=.type "zip",data:=.fields #[.none,.bool false,.bool false,.ref (zg2 h b1 b2 l1 l2).objs.size,.ref (zg3 h b1 b2 l1 l2).objs.size] }
theorem zfj(b1 b2:Bool)(l1 l2:Addr)(xs ys:Array Value):
  Meets (Builtin.«zip.__new__» ⟨[.type "zip",.ref l1,.ref l2],[]⟩) (fun _ R s=>ContAt s.heap b1 l1 xs/\ContAt s.heap b2 l2 ys/\
   R (.ok (.ret (.ref (zg4 s.heap b1 b2 l1 l2).objs.size))) { s with heap:=zg5 s.heap b1 b2 l1 l2 }):=
 .of_wp fun prog w A R s h=>by
  obtain ⟨hp,g,d,tk,os⟩:=s;obtain ⟨c1,c2,h⟩:=h
  have hsub:=PySem.sub_zip
  have L1:ContAt (Shared.heap ⟨hp,g,d,tk,os⟩) b1 l1 xs:=c1
  have L2':ContAt (Shared.heap ⟨hp.push { cls:=.type (jy b1),data:=.fields #[.ref l1,.int 0 0] },g,d,tk,os⟩) b2 l2 ys:=c2.keep fun o e=>Jb _ e
  wp_walk using uv L1,uv L2'
  exact ⟨_,rfl,h⟩
theorem zff{Q:Value->Shared->Prop}(c1:ContAt s.heap b1 l1 xs)(c2:ContAt s.heap b2 l2 ys)
  (k:∀ h',IsZip h' (s.heap.objs.size+4) (s.heap.objs.size+2) (s.heap.objs.size+3) .none->IsPair h' (s.heap.objs.size+2) (.ref s.heap.objs.size) (.ref (s.heap.objs.size+1))->
   IsPair h' (s.heap.objs.size+3) .none .none->IterAt h' b1 s.heap.objs.size l1 0->IterAt h' b2 (s.heap.objs.size+1) l2 0->(∀ c o,s.heap.get? c=some o->h'.get? c=some o)->Q (.ref (s.heap.objs.size+4)) { s with heap:=h' }):
  wpAny (model prog w) A (call (.type "zip") [.ref l1,.ref l2]) Q E s:=by
 refine callType_new F.called_zip (by decide) (F.typeCall_zip_2 _ _) (F.newCall_zip_2 _ _) (fun obj=>F.args_object_init_3 obj _ _) F.entry_zip_new (zfj b1 b2 l1 l2 xs ys) ⟨c1,c2,?_⟩
 have e1:(zg1 s.heap b1 l1).objs.size=s.heap.objs.size+1:=KF ..
 have e2:(zg2 s.heap b1 b2 l1 l2).objs.size=s.heap.objs.size+2:=by rw [KF,e1]
 have e3:(zg3 s.heap b1 b2 l1 l2).objs.size=s.heap.objs.size+3:=by rw [KF,e2]
 have e4:(zg4 s.heap b1 b2 l1 l2).objs.size=s.heap.objs.size+4:=by rw [KF,e3]
 have g5:(zg5 s.heap b1 b2 l1 l2).get? (zg4 s.heap b1 b2 l1 l2).objs.size=some _:=Jl _ rfl
 have g4:(zg5 s.heap b1 b2 l1 l2).get? (zg3 s.heap b1 b2 l1 l2).objs.size=some _:=Jb _ (Jl _ rfl)
 have g3:(zg5 s.heap b1 b2 l1 l2).get? (zg2 s.heap b1 b2 l1 l2).objs.size=some _:=Jb _ (Jb _ (Jl _ rfl))
 have g2:(zg5 s.heap b1 b2 l1 l2).get? (zg1 s.heap b1 l1).objs.size=some _:=Jb _ (Jb _ (Jb _ (Jl _ rfl)))
 have g1:(zg5 s.heap b1 b2 l1 l2).get? s.heap.objs.size=some _:=Jb _ (Jb _ (Jb _ (Jb _ (Jl _ rfl))))
 show _/\_
 rw [e2,e3,e4] at g5
 rw [e1,e2] at g3
 rw [e3] at g4
 rw [e1] at g2
 rw [e4]
 have mk:∀ (b:Bool) (h:Heap) (it l:Addr),h.get? it=some { cls:=.type (jy b),data:=.fields #[.ref l,.int 0 0] }->IterAt h b it l 0:=fun b h it l e=>by
  cases b with
  | true=>exact ⟨_,e,rfl,rfl⟩
  | false=>exact ⟨_,e,rfl,rfl⟩
 exact ⟨⟨_,g5,rfl⟩,k _ g5 g3 g4 (mk b1 _ _ _ g1) (mk b2 _ _ _ g2) fun c o e=>Jb _ (Jb _ (Jb _ (Jb _ (Jb _ e))))⟩
end
noncomputable def Sq(K:PySem.W.Frag)(H:Hp)(b:Bool)(a:Addr)(xs:List V):Prop:=if b=true then SqL K H a xs else SqT K H a xs
noncomputable def Itz(K:PySem.W.Frag)(b1 b2:Bool)(a1 a2:Addr):It:=
 ⟨fun i H=>∃ xs ys x y,Sq K H b1 a1 xs/\Sq K H b2 a2 ys/\xs[i]?=some x/\ys[i]?=some y,
  fun i H v H'=>∃ T x y,H T=none/\v=.ref T/\H'=upd H T (.tup [x,y])/\∀ xs ys,Sq K H b1 a1 xs->Sq K H b2 a2 ys->xs[i]?=some x/\ys[i]?=some y,
  fun i H=>∃ xs ys,Sq K H b1 a1 xs/\Sq K H b2 a2 ys/\(xs.length≤i∨ys.length≤i)⟩
section
variable {X:Cx} {pins:List (Addr × Obj)} {σ:St} {H:Hp} {s:Shared}
theorem Sq.at{b:Bool}{a:Addr}{xs:List V}(I:Inv X pins σ H s)(h:Sq X.K H b a xs):∃ its:List Value,Vals xs its/\ContAt s.heap b a its.toArray:=by
 cases b with
 | true=>obtain ⟨its,r,p,_⟩:=I.list h;exact ⟨its,r,p.isList⟩
 | false=>obtain ⟨its,r,p,_⟩:=I.tuple h;exact ⟨its,r,p⟩
theorem Sq.inj{b:Bool}{a:Addr}{xs ys:List V}(I:Inv X pins σ H s)(h:Sq X.K H b a xs)(h':Sq X.K H b a ys):xs=ys:=by
 cases b with
 | true=>exact I.list_inj h h'
 | false=>exact I.tuple_inj h h'
theorem Sq.ne{b:Bool}{a it:Addr}{xs:List V}(I:Inv X pins σ H s)(h:Sq X.K H b a xs)(hf:vF X pins H it):a≠it:=by
 rintro rfl
 have nb:∀ o,X.K.lookup a=some o->False:=fun o ho=>by
  obtain ⟨u,hu⟩:=I.ok.mod.kin a o ho |> fun e=>(⟨o,e⟩:∃ u,X.base.get? a=some u)
  rcases hf.2.2.2.1 with z | z
  ·exact I.ok.noex a u hu z
  ·exact absurd (JE (Ji hu) (JV I.ok.bsz z)) (KM _)
 cases b with
 | true=>
  rcases h with (h | ⟨u,h⟩) | ⟨o,_,_,h,_⟩
  ·rw [hf.1] at h;cases h
  ·rw [hf.1] at h;cases h
  ·exact nb o h
 | false=>
  rcases h with (h | ⟨u,h⟩) | ⟨o,_,_,h,_⟩
  ·rw [hf.1] at h;cases h
  ·rw [hf.1] at h;cases h
  ·exact nb o h
end
structure ZApart (z TI TO i1 i2:Addr):Prop where
 a1:TI≠z
 a2:TO≠z
 a3:i1≠z
 a4:i2≠z
 a5:TI≠TO
 a6:TI≠i1
 a7:TI≠i2
 a8:TO≠i1
 a9:TO≠i2
 a10:i1≠i2
theorem znB{z TI TO i1 i2 b:Addr}(hb:b ∈ [z,TO,i1,i2]):b ∈ [z,TI,TO,i1,i2]:=by
 simp only [List.mem_cons,List.not_mem_nil,or_false] at hb ⊢
 rcases hb with h | h | h | h
 ·exact .inl h
 ·exact .inr (.inr (.inl h))
 ·exact .inr (.inr (.inr (.inl h)))
 ·exact .inr (.inr (.inr (.inr h)))
theorem zfF{P:Program}{w:World}{K:PySem.W.Frag}{es:List Expr}{k:Nat}{pos:Pos}(b1 b2:Bool)(a1 a2 z TI TO i1 i2:Addr)(D:ZApart z TI TO i1 i2):
  Turn P w K (.Tuple es k pos) (Itz K b1 b2 a1 a2) [z,TI,TO,i1,i2] z (fun i h=>IsZip h z TI TO .none/\IsPair h TI (.ref i1) (.ref i2)/\(∃ p q,IsPair h TO p q)/\IterAt h b1 i1 a1 i/\IterAt h b2 i2 a2 i) where
 mem:=by simp
 obj:=by
  rintro i h ⟨gz,gI,⟨p,q,gO⟩,g1,g2⟩ b hb
  simp only [List.mem_cons,List.not_mem_nil,or_false] at hb
  rcases hb with rfl | rfl | rfl | rfl | rfl
  ·exact ⟨_,gz,fun v e=>nomatch e⟩
  ·exact ⟨_,gI,fun v e=>nomatch e⟩
  ·exact ⟨_,gO,fun v e=>nomatch e⟩
  ·exact g1.has
  ·exact g2.has
 keep:=by
  rintro i h h' ⟨gz,gI,⟨p,q,gO⟩,g1,g2⟩ kk
  exact ⟨kk z (by simp) _ gz,kk TI (by simp) _ gI,⟨p,q,kk TO (by simp) _ gO⟩,g1.keep fun o e=>kk i1 (by simp) o e,g2.keep fun o e=>kk i2 (by simp) o e⟩
 item:=by
  rintro X hP hw hK hc i pins s σ H E I hf ⟨gz,gI,⟨p,q,gO⟩,g1,g2⟩ ⟨xs,ys,x,y,hx,hy,ex,ey⟩
  subst hP hw hK
  obtain ⟨its1,r1,c1⟩:=hx.at I
  obtain ⟨its2,r2,c2⟩:=hy.at I
  obtain ⟨u,hu,ru⟩:=r1.get ex
  obtain ⟨v,hv,rv⟩:=r2.get ey
  have nf:∀ b ∈ [z,TI,TO,i1,i2],a1≠b/\a2≠b:=fun b hb=>⟨hx.ne I (hf b hb),hy.ne I (hf b hb)⟩
  have DD:ZipApart z TI TO i1 i2 a1 a2:=⟨D.a1,D.a2,D.a3,D.a4,D.a5,D.a6,D.a7,D.a8,D.a9,D.a10,(nf z (by simp)).1,(nf TO (by simp)).1,(nf i1 (by simp)).1,(nf i2 (by simp)).1,(nf z (by simp)).2,(nf TO (by simp)).2,(nf i1 (by simp)).2,(nf i2 (by simp)).2⟩
  refine zdQ DD gz gI gO g1 g2 c1 c2 (x:=u) (y:=v) (by simpa using hu) (by simpa using hv) fun h' e1 e2 e3 e4 e5 e6=>⟨_,rfl,?_⟩
  refine wpAny_letOwnedTupleGo_zip e1 fun h₂ z₂ s₂=>?_
  have hL:∀ b ∈ [z,TO,i1,i2],vF X pins H b:=fun b hb=>hf b (znB hb)
  have kk:∀ b o,b ∉ [z,TO,i1,i2]->s.heap.get? b=some o->h₂.get? b=some o:=fun b o hb e=>s₂.extBut _ _ (fun n=>hb (by simp [n])) (e6 b o hb e)
  -- first the records,then the new pair
  have hT:H s.heap.objs.size=none:=I.hok.fresh (Jm _)
  have nz:s.heap.objs.size≠z:=Ku (Ji gz)
  have T2:IsPair h₂ s.heap.objs.size u v:=s₂.extBut _ _ nz e5
  have I2:Inv X pins σ (upd H s.heap.objs.size (.tup [x,y])) { s with heap:=h₂,toks:=s.toks }:=I.turnedLaid (t':=s.toks) kk hL (Nat.le_refl _) ⟨by simp [sizeLine],[u,v],.cons ru (.cons rv .nil),⟨_,T2,rfl,_,rfl⟩⟩
  refine ⟨.ref s.heap.objs.size,_,I2,rfl,⟨_,x,y,hT,rfl,rfl,fun xs' ys' h1 h2=>⟨by rw [h1.inj I hx];exact ex,by rw [h2.inj I hy];exact ey⟩⟩,⟨z₂,?_,⟨u,v,s₂.extBut _ _ D.a2 e2⟩,e3.keep fun o e=>s₂.extBut _ _ D.a3 e,e4.keep fun o e=>s₂.extBut _ _ D.a4 e⟩,fun b hb=>?_⟩
  ·exact s₂.extBut _ _ D.a1 (e6 _ _ (by simp [D.a1,D.a5,D.a6,D.a7]) gI)
  ·rw [zM (fun n=>?_)]
   ·exact (hf b hb).1
   ·have:b<s.heap.objs.size:=by
     simp only [List.mem_cons,List.not_mem_nil,or_false] at hb
     rcases hb with rfl | rfl | rfl | rfl | rfl
     ·exact Ji gz
     ·exact Ji gI
     ·exact Ji gO
     ·exact g1.lt
     ·exact g2.lt
    exact absurd n (Jx this)
 done:=by
  rintro X hP hw hK hc i pins s σ H E I hf ⟨gz,gI,⟨p,q,gO⟩,g1,g2⟩ ⟨xs,ys,hx,hy,hl⟩
  subst hP hw hK
  obtain ⟨its1,r1,c1⟩:=hx.at I
  obtain ⟨its2,r2,c2⟩:=hy.at I
  have l1:=r1.length
  have l2:=r2.length
  have nf:∀ b ∈ [z,TI,TO,i1,i2],a1≠b/\a2≠b:=fun b hb=>⟨hx.ne I (hf b hb),hy.ne I (hf b hb)⟩
  have DD:ZipApart z TI TO i1 i2 a1 a2:=⟨D.a1,D.a2,D.a3,D.a4,D.a5,D.a6,D.a7,D.a8,D.a9,D.a10,(nf z (by simp)).1,(nf TO (by simp)).1,(nf i1 (by simp)).1,(nf i2 (by simp)).1,(nf z (by simp)).2,(nf TO (by simp)).2,(nf i1 (by simp)).2,(nf i2 (by simp)).2⟩
  refine zdP (I.ok.hd hc) DD gz gI gO g1 g2 c1 c2 (hl.imp (fun h=>by simpa [← l1] using h) fun h=>by simpa [← l2] using h) fun h' e6=>⟨rfl,I.turnedL (t':=s.toks) e6 fun b hb=>hf b (znB hb)⟩
 self:=fun _ _ _ _ _ st h=>wpAny_pyIter_zip st.1 h
theorem zkd(n:Nat):ZApart (n+4) (n+2) (n+3) n (n+1):=by constructor<;>(show ¬ (_:Nat)=_;omega)
theorem zhG:bootBuiltins "zip"=some (.type "zip"):=by decide +kernel
noncomputable def zoZ(K:PySem.W.Frag)(ta:TA):TI:=fun σ H R=>ta σ H fun vs H1=>∃ b1 b2 a1 a2,vs=[.ref a1,.ref a2]/\(∃ xs,Sq K H1 b1 a1 xs)/\(∃ ys,Sq K H1 b2 a2 ys)/\R (Itz K b1 b2 a1 a2) H1
theorem zlc{X:Cx}{es:List Expr}{k:Nat}{tpos:Pos}{a b:Expr}{ta:TA}{p pos:Pos}(hg:Gl X "zip")(hm:X.mg "zip"=none)(ha:PA X [a,b] ta)(hs:starEach [a,b] X.env=[(false,eval a X.env),(false,eval b X.env)]:=by rfl)(hs2:starEach [b] X.env=[(false,eval b X.env)]:=by rfl):
  PI X (.Tuple es k tpos) (.Call (.Name "zip" p) [a,b] [] pos) (zoZ X.K ta):=by
 intro pins s σ H R I h
 refine Call_ (x5 I hg hm zhG (Kr (thn (ha pos pins s σ H _ I h) fun us s1 ⟨vs,H1,I1,r1,q1⟩=>?_) (by rw [hs,hs2]) (by rw [hs2];rfl)))
 obtain ⟨b1,b2,a1,a2,e,⟨xs,hx⟩,⟨ys,hy⟩,q⟩:=q1
 subst e
 cases r1 with
 | cons r rr=>
  cases rr with
  | cons r' rr=>
   cases rr
   cases r
   cases r'
   obtain ⟨its1,v1,c1⟩:=hx.at I1
   obtain ⟨its2,v2,c2⟩:=hy.at I1
   refine zff c1 c2 fun h' gz gI gO g1 g2 kk=>?_
   refine wpAny_pyIter_zip gz ?_
   refine ⟨s1.heap.objs.size+4,[s1.heap.objs.size+4,s1.heap.objs.size+2,s1.heap.objs.size+3,s1.heap.objs.size,s1.heap.objs.size+1],_,_,H1,rfl,I1.kept (t':=s1.toks) kk,
    zfF b1 b2 a1 a2 _ _ _ _ _ (zkd s1.heap.objs.size),⟨gz,gI,⟨_,_,gO⟩,g1,g2⟩,fun c hc=>?_,q⟩
   have hc':s1.heap.objs.size≤c:=by
    simp only [List.mem_cons,List.not_mem_nil,or_false] at hc
    rcases hc with rfl | rfl | rfl | rfl | rfl<;>omega
   exact I1.fpOk hc' (I1.hok.fresh hc')
end L2
namespace F
open PySem L2
noncomputable def zhl(f:FA):FA:=fun env=>(f env).bind fun ps=>match ps with | [p,q]=>(xA p).bind fun xs=>(xA q).bind fun ys=>some ((List.zip xs ys).map fun z=>PV.tup [z.1,z.2]) | _=>none
theorem zcY{own:Addr->Option Nat}{H1:Hp}(lp:Bool)(hm:∀ a l,own a=some l->MutH H1 a)(r:Rp K H1 p v A)(hA:(∀ a ∈ A,own a=none)∨(lp=false/\isDatas ps=true))(hs:xA p=some ps):
  ∃ b a xs B,v=.ref a/\Rps K H1 ps xs B/\(∀ a ∈ B,own a=none/\∃ o,H1 a=some o)/\∀ H2,(if lp=true then Stay own H1 H2 else Same H1 H2)->Sq K H2 b a xs/\Rps K H2 ps xs B:=by
 cases p<;>first | cases hs | skip
 ·obtain ⟨a,xs,h1,h2,h3⟩:=r.T
  refine ⟨false,a,xs,A,h1,h3,fun b hb=>⟨?_,(Rps.mut _ h3 b hb).some⟩,fun H2 hR=>?_⟩
  ·rcases hA with hA | ⟨_,hd⟩
   ·exact hA b hb
   ·have:=Rps.data _ hd h3;subst this;exact absurd hb (by simp)
  ·rcases hA with hA | ⟨e,hd⟩
   ·cases lp with
    | true=>exact ⟨Stay.tup hR hm h2,Rps.stay hR hm _ hA h3⟩
    | false=>exact ⟨Same.tup hR h2,Rps.same hR _ h3⟩
   ·subst e
    exact ⟨Same.tup hR h2,Rps.same hR _ h3⟩
 ·obtain ⟨a,xs,B,h1,h2,rfl,h3⟩:=r.L
  refine ⟨true,a,xs,B,h1,h3,fun b hb=>⟨?_,(Rps.mut _ h3 b hb).some⟩,fun H2 hR=>?_⟩
  ·rcases hA with hA | ⟨_,hd⟩
   ·exact hA b (Jf _ hb)
   ·have:=Rps.data _ hd h3;subst this;exact absurd hb (by simp)
  ·rcases hA with hA | ⟨e,hd⟩
   ·cases lp with
    | true=>exact ⟨SqL.of (hR _ _ (hA a Jc) h2),Rps.stay hR hm _ (fun b hb=>hA b (Jf _ hb)) h3⟩
    | false=>exact ⟨SqL.of (hR _ _ h2),Rps.same hR _ h3⟩
   ·subst e
    exact ⟨SqL.of (hR _ _ h2),Rps.same hR _ h3⟩
 ·obtain ⟨a,xs,h1,h2,h3⟩:=r.Fl
  refine ⟨true,a,xs,A,h1,h3,fun b hb=>⟨?_,(Rps.mut _ h3 b hb).some⟩,fun H2 hR=>?_⟩
  ·rcases hA with hA | ⟨_,hd⟩
   ·exact hA b hb
   ·have:=Rps.data _ hd h3;subst this;exact absurd hb (by simp)
  ·rcases hA with hA | ⟨e,hd⟩
   ·cases lp with
    | true=>exact ⟨(Stay.fz hR hm h2).seq,Rps.stay hR hm _ hA h3⟩
    | false=>exact ⟨(h2.same hR).seq,Rps.same hR _ h3⟩
   ·subst e
    exact ⟨(h2.same hR).seq,Rps.same hR _ h3⟩
theorem zhY{own:Addr->Option Nat}{H1:Hp}{R:Hp->Prop}
  (hA:∀ a ∈ A,own a=none/\∃ o,H1 a=some o)(hB:∀ a ∈ B,own a=none/\∃ o,H1 a=some o)(h1:∀ H2,R H2->Sq K H2 b1 a1 xs/\Rps K H2 ps xs A)(h2:∀ H2,R H2->Sq K H2 b2 a2 ys/\Rps K H2 qs ys B):
  Walks K own H1 R (Itz K b1 b2 a1 a2) ((List.zip ps qs).map fun z=>PV.tup [z.1,z.2]):=by
 intro i H2 hR
 obtain ⟨q1,r1⟩:=h1 H2 hR
 obtain ⟨q2,r2⟩:=h2 H2 hR
 refine ⟨fun p hp=>?_,fun hi=>⟨xs,ys,q1,q2,?_⟩⟩
 ·rw [JQ] at hp
  obtain ⟨z,hz,hp⟩:=JA.mp hp
  subst hp
  obtain ⟨z1,z2⟩:=List.getElem?_zip_eq_some.mp hz
  obtain ⟨u,C,e1,e2,e3⟩:=r1.get z1
  obtain ⟨v,D,f1,f2,f3⟩:=r2.get z2
  refine ⟨⟨xs,ys,u,v,q1,q2,e1,f1⟩,fun x H3 ⟨T,x',y',hT,ex,eH,hy⟩=>?_⟩
  obtain ⟨g1,g2⟩:=hy xs ys q1 q2
  rw [e1] at g1;cases g1
  rw [f1] at g2;cases g2
  have sm:Same H2 H3:=by rw [eH];exact zZ (Same.refl _) hT
  refine ⟨sm,C++D,?_,fun a ha=>?_⟩
  ·unfold Rp
   refine ⟨T,[u,v],ex,.inl (.inl (by rw [eH,zL])),?_⟩
   unfold Rps
   refine ⟨u,[v],C,D,rfl,rfl,Rp.same sm _ e2,?_⟩
   unfold Rps
   exact ⟨v,[],D,[],rfl,by simp,Rp.same sm _ f2,by unfold Rps;exact ⟨rfl,rfl⟩⟩
  ·rcases List.mem_append.mp ha with ha | ha
   ·exact hA a (e3.subset ha)
   ·exact hB a (f3.subset ha)
 ·rw [Jt,List.length_zip] at hi
  rw [← r1.length,← r2.length]
  omega
theorem zko{X:Cx}(lp:Bool)(hg:Gl X "zip")(hm:X.mg "zip"=none)(ha:VA X κ G .sh [a,b] fs)(hs:starEach [a,b] X.env=[(false,eval a X.env),(false,eval b X.env)]:=by rfl)(hs2:starEach [b] X.env=[(false,eval b X.env)]:=by rfl):
  VIt X κ G lp (.Tuple es k tpos) (.Call (.Name "zip" p) [a,b] [] pos) (zhl fs):=(zlc hg hm ha.1 hs hs2).imp fun σ H R hq_=>by
 refine hq_.elim fun own env ps I hf k=>?_
 unfold zhl at hf
 replace hf:=Ja.mp hf;obtain ⟨qs,hp,hf⟩:=hf
 refine (.in I hp fun vs H1 A s r hc=>?_)
 split at hf
 ·rename_i p q
  cases e1:xA p with
  | none=>rw [e1] at hf;cases hf
  | some xs=>
   cases e2:xA q with
   | none=>rw [e1,e2] at hf;cases hf
   | some ys=>
    rw [e1,e2] at hf
    cases hf
    obtain ⟨v,r',A1,A2,h1,h2,h3,h4⟩:=r.inv
    obtain ⟨v',r'',A1',A2',h1',h2',h3',h4'⟩:=h4.inv
    have hm:∀ a l,own a=some l->MutH H1 a:=fun a l e=>((I.grow s).own a l e).2
    have hcA:∀ a ∈ A,own a=none:=hc
    obtain ⟨b1,a1,vs1,B1,w1,w2,w3,w4⟩:=zcY lp hm h3 (.inl fun a ha=>hcA a (by rw [h2];exact Jr _ ha)) e1
    obtain ⟨b2,a2,vs2,B2,w5,w6,w7,w8⟩:=zcY lp hm h3' (.inl fun a ha=>hcA a (by rw [h2,h2'];exact Jn _ (Jr _ ha))) e2
    have rf:(if lp=true then Stay own H1 H1 else Same H1 H1):=by
     cases lp with
     | true=>exact fun _ _ _ h=>h
     | false=>exact Same.refl _
    exact ⟨b1,b2,a1,a2,by rw [h1,h1',h4'.inv0.1,w1,w5],⟨vs1,(w4 H1 rf).1⟩,⟨vs2,(w8 H1 rf).1⟩,k _ H1 s (zhY w3 w7 w4 w8)⟩
 ·cases hf
end F
namespace F
open PySem PySem.Spec PyProof.Rows L2
section
variable {X:Cx} {κ:Nat->Option Nat} {G:Hp} {c c1 c2:Cat} {a b e:Expr} {es:List Expr} {fa fb f:FE} {t u:FT} {fs:FA} {pos:Pos} {g h:FS} {st:Stmt} {yC:List Stmt} {O:List Nat}
theorem ql{α:Type}:∀ {ps:List α} {j:Nat} {p:α},ps[j]?=some p->∃ l1 l2,ps=l1++p::l2/\l1.length=j
 | [],j,p,h=>by simp at h
 | q::ps,0,p,h=>⟨[],ps,by simp at h;rw [h];rfl,rfl⟩
 | q::ps,j+1,p,h=>by
  obtain ⟨l1,l2,e1,e2⟩:=ql (ps:=ps) (j:=j) (p:=p) (by simpa using h)
  exact ⟨q::l1,l2,by rw [e1];rfl,by simp [e2]⟩
theorem zcX{α:Type}{l1 l2:List α}{p q:α}:(l1++p::l2).set l1.length q=l1++q::l2:=by
 rw [List.set_append]
 simp
theorem VI.turnIn{K:PySem.W.Frag}{own:Addr->Option Nat}{env:En}{σ:St}{H:Hp}{i j:Nat}{ps qs:List PV}(hi:i ∈ O)(I:VI K (ko O) G own env σ H)(hl:zA i env=some (.lst ps))(hj:ps[j]?=some (.lst qs)):
  ∃ a xs b ys B,σ[i]?=some (some (.ref a))/\H a=some (.lst xs)/\xs[j]?=some (.ref b)/\xs.length=ps.length/\H b=some (.lst ys)/\Rps K H qs ys B/\b ∉ B/\B.Nodup/\∀ H1 qs' ys' C,Same H H1->Rps K H1 qs' ys' C->C.Nodup->b ∉ C->(∀ d ∈ C,d ∈ B∨H d=none)->
   ∃ own',VI K (ko O) G own' (env.set i (some (.lst (ps.set j (.lst qs'))))) σ (upd H1 b (.lst ys'))/\Ext own H own' (upd H1 b (.lst ys')):=by
 obtain ⟨a,xs,B,hσ,ha,hr,nd,ho,hB⟩:=kM hi I hl
 obtain ⟨l1,l2,rfl,rfl⟩:=ql hj
 obtain ⟨v1,v2,A1,A2,rfl,rfl,r1,r2⟩:=hr.split
 obtain ⟨v,r',A3,A4,rfl,rfl,r3,r4⟩:=r2.inv
 obtain ⟨b,ys,B',rfl,hb,rfl,r5⟩:=r3.L
 have n1:=r1.length
 rw [JS,JJ,JJ,JS] at nd
 simp only [List.mem_append,List.mem_cons,not_or] at nd hB
 obtain ⟨⟨na1,⟨nab,naB⟩,na4⟩,nd1,⟨⟨nbB,ndB⟩,nd4,d34⟩,d1⟩:=nd
 refine ⟨a,_,b,ys,B',hσ,ha,by rw [n1];simp,hr.length.symm,hb,r5,nbB,ndB,fun H1 qs' ys' C s1 rC ndC nbC hC=>?_⟩
 have mb:MutH H1 b:=.inl ⟨ys,s1 _ _ hb⟩
 have nb1:b ∉ A1:=fun z=>d1 b z b (.inl (.inl rfl)) rfl
 have nb4:b ∉ A4:=fun z=>d34 b (.inl rfl) b z rfl
 have hm:∀ d,(d=a∨d ∈ A1∨d=b∨d ∈ A4)->∃ o,H d=some o:=fun d z=>by
  rcases z with rfl | z | rfl | z
  ·exact ⟨_,ha⟩
  ·exact (Rps.mut _ r1 d z).some
  ·exact ⟨_,hb⟩
  ·exact (Rps.mut _ r4 d z).some
 have nC:∀ d ∈ C,d≠a/\d ∉ A1/\d ∉ A4:=fun d hd=>by
  rcases hC d hd with z | z
  ·exact ⟨fun e=>naB (e ▸ z),fun e=>d1 d e d (.inl (.inr z)) rfl,fun e=>d34 d (.inr z) d e rfl⟩
  ·refine ⟨fun e=>?_,fun e=>?_,fun e=>?_⟩
   ·obtain ⟨o,q⟩:=hm d (.inl e);rw [z] at q;cases q
   ·obtain ⟨o,q⟩:=hm d (.inr (.inl e));rw [z] at q;cases q
   ·obtain ⟨o,q⟩:=hm d (.inr (.inr (.inr e)));rw [z] at q;cases q
 have hob:own b=some i:=hB b (.inr (.inl (.inl rfl)))
 have hA:(a::(A1++((b::C)++A4))).Nodup:=by
  rw [JS,JJ,JJ,JS]
  simp only [List.mem_append,List.mem_cons,not_or]
  refine ⟨⟨na1,⟨nab,fun z=>(nC a z).1 rfl⟩,na4⟩,nd1,⟨⟨nbC,ndC⟩,nd4,fun d hd d' hd' e=>?_⟩,fun d hd d' hd' e=>?_⟩
  ·subst e
   rcases hd with rfl | hd
   ·exact nb4 hd'
   ·exact (nC d hd).2.2 hd'
  ·subst e
   rcases hd' with (rfl | hd') | hd'
   ·exact nb1 hd
   ·exact (nC d hd').2.1 hd
   ·exact d1 d hd d (.inr hd') rfl
 have hown:∀ d ∈ a::(A1++((b::C)++A4)),own d=some i∨H d=none:=fun d hd=>by
  simp only [List.mem_append,List.mem_cons] at hd
  rcases hd with rfl | hd | (rfl | hd) | hd
  ·exact .inl ho
  ·exact .inl (hB d (.inl hd))
  ·exact .inl hob
  ·rcases hC d hd with z | z
   ·exact .inl (hB d (.inr (.inl (.inr z))))
   ·exact .inr z
  ·exact .inl (hB d (.inr (.inr hd)))
 rw [zcX]
 have r:Rp K (upd H1 b (.lst ys')) (.lst (l1++.lst qs'::l2)) (.ref a) (a::(A1++((b::C)++A4))):=
  .mkL (by rw [zM nab];exact s1 _ _ ha) ((Rps.upd mb _ nb1 (Rps.same s1 _ r1)).append (Rps.cons (.mkL zL (Rps.upd mb _ nbC rC)) (Rps.upd mb _ nb4 (Rps.same s1 _ r4))))
 have:=I.take (H2:=upd H1 b (.lst ys')) (v:=.ref a) hi (fun m q w D _ _ z hD=>Rp.upd mb q (fun z'=>hD b z' hob) (Rp.same s1 q z)) (fun d u hd z=>by
  rw [zM (by rintro rfl;exact hd hob)];exact s1 d u z) r hA hown
 rw [jX hσ] at this
 exact ⟨_,this⟩
end
end F
namespace L2
open PySem PySem.Spec PyProof.Rows
end L2
namespace F
open PySem PySem.Spec PyProof.Rows L2
section
variable {X:Cx} {κ:Nat->Option Nat} {G:Hp} {c:Cat} {a b e:Expr} {fs:FA} {pos:Pos}
noncomputable def znR(f:FA):FE:=fun env=>(f env).bind fun ps=>if ps.length≤100000 then some (.lst ps) else none
end
theorem VI.free{K:PySem.W.Frag}{κ:Nat->Option Nat}{G:Hp}{own:Addr->Option Nat}{env:En}{σ:St}{H:Hp}(I:VI K κ G own env σ H):VI K (ko []) G (fun _=>none) env σ H:=
 ⟨I.len,fun i p e=>let ⟨v,A,h1,h2,_⟩:=I.slot i p e;⟨v,A,h1,h2,fun _ _ _=>rfl,fun l z=>absurd z (by simp [ko])⟩,fun a l e=>(nomatch e),I.same⟩
theorem zcT{K:PySem.W.Frag}{κ:Nat->Option Nat}{G:Hp}{f:FE}{σ:St}{H:Hp}{Q:VK}(h:tV K κ G (.mv []) f σ H Q):tV K (ko []) G (.mv []) f σ H Q:=by
 obtain ⟨own,env,p,I,hf,k⟩:=h
 exact ⟨fun _=>none,env,p,I.free,hf,fun v H' A s r hc=>k v H' A s r ⟨hc.1,fun a ha=>(hc.2 a ha).imp id fun ⟨_,z,_⟩=>nomatch z⟩⟩
theorem ziu(h:VE X (ko []) G (.mv []) e f):VE X κ G (.mv []) e f:=h.imp fun σ H Q q=>zcT q
theorem ziQ{X:Cx}{κ:Nat->Option Nat}{G:Hp}{st:Stmt}{f:FE}{tg:TG}(h:PS X st (vp (tV X.K (ko []) G (.mv []) f) tg)):PS X st (vp (tV X.K κ G (.mv []) f) tg):=h.imp fun D σ H q=>zcT q
end F
namespace L2
open PySem PySem.Spec PyProof.Rows
end L2
namespace F
open PySem PySem.Spec PyProof.Rows L2
noncomputable def zcp:List PV->Option (List Int)
 | []=>some []
 | .int i::r=>(zcp r).map fun ns=>i::ns
 | _=>none
@[simp] theorem zco:∀ (ns:List Int),zcp (ns.map PV.int)=some ns
 | []=>rfl
 | n::ns=>by rw [Jo,zcp,zco ns];rfl
end F
namespace L2
open PySem PySem.Spec PyProof.Rows
end L2
namespace F
open PySem PySem.Spec PyProof.Rows L2
noncomputable def zhI:List PV->Option (List Bool)
 | []=>some []
 | .bl b::r=>(zhI r).map fun bs=>b::bs
 | _=>none
@[simp] theorem zfh:∀ (bs:List Bool),zhI (bs.map PV.bl)=some bs
 | []=>rfl
 | b::bs=>by rw [Jo,zhI,zfh bs];rfl
noncomputable def zgc(p:PV)(j:Nat)(q:PV):PV:=match p with | .lst ps=>.lst (ps.set j q) | .tup ps=>.tup (ps.set j q) | p=>p
noncomputable def jH:PV->Option (List PV) | .lst ps=>some ps | .tup ps=>some ps | _=>none
section
variable {X:Cx} {κ:Nat->Option Nat} {G:Hp} {c c2:Cat} {f fk fm:FE} {st:Stmt} {O:List Nat}
theorem VI.turnTu{K:PySem.W.Frag}{own:Addr->Option Nat}{env:En}{σ:St}{H:Hp}{i j:Nat}{ps qs:List PV}(hi:i ∈ O)(I:VI K (ko O) G own env σ H)(hl:zA i env=some (.tup ps))(hj:ps[j]?=some (.lst qs)):
  ∃ a xs b ys B,σ[i]?=some (some (.ref a))/\SqT K H a xs/\xs[j]?=some (.ref b)/\xs.length=ps.length/\H b=some (.lst ys)/\Rps K H qs ys B/\b ∉ B/\B.Nodup/\∀ H1 qs' ys' C,Same H H1->Rps K H1 qs' ys' C->C.Nodup->b ∉ C->(∀ d ∈ C,d ∈ B∨H d=none)->
   ∃ own',VI K (ko O) G own' (env.set i (some (.tup (ps.set j (.lst qs'))))) σ (upd H1 b (.lst ys'))/\Ext own H own' (upd H1 b (.lst ys')):=by
 obtain ⟨v,A,hσ,h2,_,h3⟩:=I.slot i _ (wz hl)
 obtain ⟨nd,hB⟩:=h3 i (k9 hi)
 obtain ⟨a,xs,rfl,ha,hr⟩:=h2.T
 obtain ⟨l1,l2,rfl,rfl⟩:=ql hj
 obtain ⟨v1,v2,A1,A2,rfl,rfl,r1,r2⟩:=hr.split
 obtain ⟨v,r',A3,A4,rfl,rfl,r3,r4⟩:=r2.inv
 obtain ⟨b,ys,B',rfl,hb,rfl,r5⟩:=r3.L
 have n1:=r1.length
 rw [JJ,JJ,JS] at nd
 simp only [List.mem_append,List.mem_cons] at nd hB
 obtain ⟨nd1,⟨⟨nbB,ndB⟩,nd4,d34⟩,d1⟩:=nd
 refine ⟨a,_,b,ys,B',hσ,ha,by rw [n1];simp,hr.length.symm,hb,r5,nbB,ndB,fun H1 qs' ys' C s1 rC ndC nbC hC=>?_⟩
 have mb:MutH H1 b:=.inl ⟨ys,s1 _ _ hb⟩
 have nb1:b ∉ A1:=fun z=>d1 b z b (.inl (.inl rfl)) rfl
 have nb4:b ∉ A4:=fun z=>d34 b (.inl rfl) b z rfl
 have nC:∀ d ∈ C,d ∉ A1/\d ∉ A4:=fun d hd=>by
  rcases hC d hd with z | z
  ·exact ⟨fun e=>d1 d e d (.inl (.inr z)) rfl,fun e=>d34 d (.inr z) d e rfl⟩
  ·refine ⟨fun e=>?_,fun e=>?_⟩
   ·obtain ⟨o,q⟩:=(Rps.mut _ r1 d e).some;rw [z] at q;cases q
   ·obtain ⟨o,q⟩:=(Rps.mut _ r4 d e).some;rw [z] at q;cases q
 have hob:own b=some i:=hB b (.inr (.inl (.inl rfl)))
 have hA:(A1++((b::C)++A4)).Nodup:=by
  rw [JJ,JJ,JS]
  simp only [List.mem_append,List.mem_cons]
  refine ⟨nd1,⟨⟨nbC,ndC⟩,nd4,fun d hd d' hd' e=>?_⟩,fun d hd d' hd' e=>?_⟩
  ·subst e
   rcases hd with rfl | hd
   ·exact nb4 hd'
   ·exact (nC d hd).2 hd'
  ·subst e
   rcases hd' with (rfl | hd') | hd'
   ·exact nb1 hd
   ·exact (nC d hd').1 hd
   ·exact d1 d hd d (.inr hd') rfl
 have hown:∀ d ∈ A1++((b::C)++A4),own d=some i∨H d=none:=fun d hd=>by
  simp only [List.mem_append,List.mem_cons] at hd
  rcases hd with hd | (rfl | hd) | hd
  ·exact .inl (hB d (.inl hd))
  ·exact .inl hob
  ·rcases hC d hd with z | z
   ·exact .inl (hB d (.inr (.inl (.inr z))))
   ·exact .inr z
  ·exact .inl (hB d (.inr (.inr hd)))
 rw [zcX]
 have r:Rp K (upd H1 b (.lst ys')) (.tup (l1++.lst qs'::l2)) (.ref a) (A1++((b::C)++A4)):=
  .mkT (mb.tup (Same.tup s1 ha)) ((Rps.upd mb _ nb1 (Rps.same s1 _ r1)).append (Rps.cons (.mkL zL (Rps.upd mb _ nbC rC)) (Rps.upd mb _ nb4 (Rps.same s1 _ r4))))
 have:=I.take (H2:=upd H1 b (.lst ys')) (v:=.ref a) hi (fun m q w D _ _ z hD=>Rp.upd mb q (fun z'=>hD b z' hob) (Rp.same s1 q z)) (fun d u hd z=>by
  rw [zM (by rintro rfl;exact hd hob)];exact s1 d u z) r hA hown
 rw [jX hσ] at this
 exact ⟨_,this⟩
theorem VI.inner{K:PySem.W.Frag}{own:Addr->Option Nat}{env:En}{σ:St}{H:Hp}{i j:Nat}{p:PV}{ps qs:List PV}(hi:i ∈ O)(I:VI K (ko O) G own env σ H)(hl:zA i env=some p)(hp:jH p=some ps)(hj:ps[j]?=some (.lst qs)):
  ∃ a xs b ys B,σ[i]?=some (some (.ref a))/\(SqL K H a xs∨SqT K H a xs)/\xs[j]?=some (.ref b)/\xs.length=ps.length/\H b=some (.lst ys)/\Rps K H qs ys B/\b ∉ B/\B.Nodup/\∀ H1 qs' ys' C,Same H H1->Rps K H1 qs' ys' C->C.Nodup->b ∉ C->(∀ d ∈ C,d ∈ B∨H d=none)->
   ∃ own',VI K (ko O) G own' (env.set i (some (zgc p j (.lst qs')))) σ (upd H1 b (.lst ys'))/\Ext own H own' (upd H1 b (.lst ys')):=by
 cases p<;>first | (cases hp;done) | skip
 ·cases hp
  obtain ⟨a,xs,b,ys,B,h1,h2,h3⟩:=VI.turnTu hi I hl hj
  exact ⟨a,xs,b,ys,B,h1,.inr h2,h3⟩
 ·cases hp
  obtain ⟨a,xs,b,ys,B,h1,h2,h3⟩:=VI.turnIn hi I hl hj
  exact ⟨a,xs,b,ys,B,h1,.inl (SqL.of h2),h3⟩
noncomputable def zeL(i:Nat)(fk:FE)(m:En->List PV->Option (List PV)):FS:=fun env=>(zA i env).bind fun p=>(fk env).bind fun k=>(jH p).bind fun ps=>match k with
 | .int z=>(ixN ps.length z).bind fun j=>match ps[j]? with
  | some (.lst qs)=>(m env qs).map fun qs'=>.nx (env.set i (some (zgc p j (.lst qs'))))
  | _=>none
 | _=>none
theorem zeK{m:En->List PV->Option (List PV)}{env:En}(hf:zeL i fk m env=some o):
  ∃ p ps z j qs qs',zA i env=some p/\fk env=some (.int z)/\jH p=some ps/\ixN ps.length z=some j/\ps[j]?=some (.lst qs)/\m env qs=some qs'/\o=.nx (env.set i (some (zgc p j (.lst qs')))):=by
 unfold zeL at hf
 replace hf:=Ja.mp hf;obtain ⟨p,hl,hf⟩:=hf
 replace hf:=Ja.mp hf;obtain ⟨kk,hk,hf⟩:=hf
 replace hf:=Ja.mp hf;obtain ⟨ps,hp,hf⟩:=hf
 split at hf
 case h_2=>cases hf
 rename_i z
 replace hf:=Ja.mp hf;obtain ⟨j,hj,hf⟩:=hf
 split at hf
 case h_2=>cases hf
 rename_i qs hqs
 cases hm:m env qs with
 | none=>rw [hm] at hf;cases hf
 | some qs'=>
  rw [hm] at hf;cases hf
  exact ⟨p,ps,z,j,qs,qs',hl,hk,hp,hj,hqs,hm,rfl⟩
theorem zkR{K:PySem.W.Frag}{H:Hp}{a b:Addr}{xs:List V}{z:Int}{j n:Nat}{Q:VK}(hx:SqL K H a xs∨SqT K H a xs)(hn:xs.length=n)(hj:ixN n z=some j)(hb:xs[j]?=some (.ref b))(q:Q (.ref b) H):rIx K (.ref a) (.int z) H Q:=by
 have:L2.atI xs z=some (.ref b):=by unfold L2.atI;rw [hn,hj];exact hb
 rcases hx with hx | hx
 ·exact .inl ⟨a,xs,z,_,rfl,rfl,hx,this,q⟩
 ·exact .inr (.inl ⟨a,xs,z,_,rfl,rfl,hx,this,q⟩)
theorem ziD{K:PySem.W.Frag}{H H1:Hp}{a:Addr}{xs:List V}(s:Same H H1)(hx:SqL K H a xs∨SqT K H a xs):SqL K H1 a xs∨SqT K H1 a xs:=hx.imp (Same.seq s) (Same.tup s)
noncomputable def uA(f:FE):En->List PV->Option (List PV):=fun env qs=>(f env).bind fun q=>if qs.length<100000 then some (qs++[q]) else none
theorem zav(i:Nat)(hi:i ∈ O)(hp:PS X st (zcU (tBM X.K "list" qb (tOp (rIx X.K) (vo i) (tV X.K (ko O) G c fk)) (zcV (tV X.K (ko O) G (.mv []) f) zef)))):VS X (ko O) G st (zeL i fk (uA f)):=hp.imp fun D σ H hq_=>by
 refine hq_.elim fun own env o I hf k=>?_
 obtain ⟨p,ps,z,j,qs,qs',hl,hk,hit,hj,hqs,hm,rfl⟩:=zeK hf
 unfold uA at hm
 replace hm:=Ja.mp hm;obtain ⟨q,hq,hm⟩:=hm
 split at hm
 case isFalse=>cases hm
 rename_i hlen
 cases hm
 obtain ⟨a,xs,b,ys,B,hσ,ha,hx,hxl,hb,hr,nb,ndB,turn⟩:=VI.inner hi I hl hit hqs
 refine ⟨.ref a,hσ,.in I hk fun y H1 _ s1 r1 _=>?_⟩
 rw [r1.I.1]
 refine zkR (ziD s1 ha) hxl hj hx ⟨.inl ⟨rfl,ys,SqL.of (s1 _ _ hb)⟩,.in (I.grow s1) hq fun v H2 C s2 r2 c2=>?_⟩
 have s12:=s1.trans s2
 refine ⟨b,ys,v,rfl,rfl,s12 _ _ hb,by rw [← hr.length,sizeLine_eq];omega,?_⟩
 have fr:∀ d ∈ C,H1 d=none:=fun d hd=>(c2.2 d hd).elim id fun ⟨_,z,_⟩=>nomatch z
 have fr0:∀ d ∈ C,H d=none:=fun d hd=>s1.free (fr d hd)
 obtain ⟨own',h1,h2⟩:=turn H2 (qs++[q]) (ys++[v]) (B++C) s12 ((Rps.same s12 _ hr).append (Rps.one r2)) (JJ.mpr ⟨ndB,c2.1,fun d hd d' hd' e=>by
   subst e
   obtain ⟨o,ho⟩:=(Rps.mut _ hr d hd).some
   rw [fr0 d hd'] at ho;cases ho⟩)
  (fun z=>by
   rcases List.mem_append.mp z with z | z
   ·exact nb z
   ·have:=fr0 b z
    rw [hb] at this;cases this)
  (fun d hd=>(JK.mp hd).imp id (fr0 d))
 exact k _ _ _ h1 h2
end
end F
namespace L2
open PySem PySem.Spec PyProof.Rows
noncomputable def Ite(K:PySem.W.Frag)(a:Addr):It:=
 ⟨fun i H=>∃ xs x,SqL K H a xs/\xs[i]?=some x,
  fun i H v H'=>∃ T x,H T=none/\v=.ref T/\H'=upd H T (.tup [.int (i:Int),x])/\∀ xs,SqL K H a xs->xs[i]?=some x,
  fun i H=>∃ xs,SqL K H a xs/\xs.length≤i⟩
theorem zed{P:Program}{w:World}{K:PySem.W.Frag}{es:List Expr}{k:Nat}{pos:Pos}(a e it:Addr)(hei:e≠it):
  Turn P w K (.Tuple es k pos) (Ite K a) [e,it] e (fun i h=>(∃ old,IsEnum h e it (i:Nat) old)/\h.IsListIter it a i) where
 mem:=by simp
 obj:=by
  rintro i h ⟨⟨old,ge⟩,gi⟩ b hb
  simp only [List.mem_cons,List.not_mem_nil,or_false] at hb
  rcases hb with rfl | rfl
  ·exact ⟨_,ge,fun v z=>nomatch z⟩
  ·obtain ⟨o,ho,_,d⟩:=gi
   exact ⟨o,ho,fun v z=>by rw [d] at z;cases z⟩
 keep:=by
  rintro i h h' ⟨⟨old,ge⟩,gi⟩ kk
  obtain ⟨o,ho,r⟩:=gi
  exact ⟨⟨old,kk e (by simp) _ ge⟩,⟨o,kk it (by simp) o ho,r⟩⟩
 item:=by
  rintro X hP hw hK hc i pins s σ H E I hf ⟨⟨old,ge⟩,gi⟩ ⟨xs,x,hx,ex⟩
  subst hP hw hK
  obtain ⟨its,r1,c1,_⟩:=I.list hx
  obtain ⟨u,hu,ru⟩:=r1.get ex
  have hsq:Sq X.K H true a xs:=hx
  have ne1:a≠e:=hsq.ne I (hf e (by simp))
  have ne2:a≠it:=hsq.ne I (hf it (by simp))
  refine wpAny_pyNext_enum_item ge gi c1.isList (x:=u) (by simpa using hu) hei fun h' ho hit' hT hsz hk=>⟨_,rfl,?_⟩
  refine wpAny_letOwnedTupleGo_enum ho fun h₂ he₂ s₂=>?_
  have hH:H s.heap.objs.size=none:=I.hok.fresh (Jm _)
  have nz:s.heap.objs.size≠e:=Ku (Ji ge)
  have kk:∀ b o,b ∉ [e,it]->s.heap.get? b=some o->h₂.get? b=some o:=fun b o hb q=>by
   simp only [List.mem_cons,List.not_mem_nil,or_false,not_or] at hb
   exact (s₂.2 b hb.1).trans (hk b o hb.1 hb.2 q)
  have T2:h₂.get? s.heap.objs.size=some { cls:=.type "tuple",data:=.seq #[.int (i:Nat) s.toks,u] }:=(s₂.2 _ nz).trans hT
  have I2:=I.turnedLaid (t':=s.toks+1) (h':=h₂) (o':=.tup [.int (i:Int),x]) kk hf (Nat.le_refl _) ⟨by simp [sizeLine],[.int (i:Nat) s.toks,u],.cons ⟨_,rfl⟩ (.cons ru .nil),⟨_,T2,rfl,_,rfl⟩⟩
  refine ⟨.ref s.heap.objs.size,_,I2,rfl,⟨_,x,hH,rfl,rfl,fun xs' h1=>?_⟩,⟨⟨u,by simpa using he₂⟩,hit'.at fun o q=>(s₂.2 it hei.symm).trans q⟩,fun b hb=>?_⟩
  ·rw [I.list_inj h1 hx];exact ex
  ·rw [zM (fun n=>?_)]
   ·exact (hf b hb).1
   ·have:b<s.heap.objs.size:=by
     simp only [List.mem_cons,List.not_mem_nil,or_false] at hb
     rcases hb with rfl | rfl
     ·exact Ji ge
     ·obtain ⟨o,q,_⟩:=gi;exact Ji q
    exact absurd n (Jx this)
 done:=by
  rintro X hP hw hK hc i pins s σ H E I hf ⟨⟨old,ge⟩,gi⟩ ⟨xs,hx,hl⟩
  subst hP hw hK
  obtain ⟨its,r1,c1,_⟩:=I.list hx
  have l1:=r1.length
  refine wpAny_pyNext_enum_end (I.ok.hd hc) ge gi c1.isList (by simpa [← l1] using hl) fun h' hk=>⟨rfl,I.turnedL (t':=s.toks) (L:=[e,it]) (fun b o hb q=>hk b o (fun n=>hb (by simp [n])) q) hf⟩
 self:=fun _ _ _ _ _ st h=>let ⟨⟨_,ge⟩,_⟩:=st;wpAny_pyIter_enum ge h
noncomputable def zjW(K:PySem.W.Frag)(ta:TA):TI:=fun σ H R=>ta σ H fun vs H1=>∃ a,vs=[.ref a]/\(∃ xs,SqL K H1 a xs)/\R (Ite K a) H1
theorem ziU{X:Cx}{es:List Expr}{k:Nat}{tpos:Pos}{a:Expr}{ta:TA}{p pos:Pos}(hg:Gl X "enumerate")(hm:X.mg "enumerate"=none)(ha:PA X [a] ta)(hs:starEach [a] X.env=[(false,eval a X.env)]:=by rfl):
  PI X (.Tuple es k tpos) (.Call (.Name "enumerate" p) [a] [] pos) (zjW X.K ta):=by
 intro pins s σ H R I h
 refine Call_ (x5 I hg hm boot_enumerate (Kr (thn (ha pos pins s σ H _ I h) fun us s1 ⟨vs,H1,I1,r1,q1⟩=>?_) hs rfl))
 obtain ⟨a1,e,⟨xs,hx⟩,q⟩:=q1
 subst e
 cases r1 with
 | cons r rr=>
  cases rr
  cases r
  obtain ⟨its1,v1,c1,_⟩:=I1.list hx
  refine call_enumerate_list c1.isList fun h' ge gi hsz kk=>?_
  refine wpAny_pyIter_enum ge ?_
  refine ⟨s1.heap.objs.size+1,[s1.heap.objs.size+1,s1.heap.objs.size],_,_,H1,rfl,I1.kept (t':=s1.toks) kk,zed a1 _ _ (by show ¬ s1.heap.objs.size+1=s1.heap.objs.size;omega),⟨⟨_,ge⟩,gi⟩,fun c hc=>?_,q⟩
  have hc':s1.heap.objs.size≤c:=by
   simp only [List.mem_cons,List.not_mem_nil,or_false] at hc
   rcases hc with rfl | rfl<;>omega
  exact I1.fpOk hc' (I1.hok.fresh hc')
end L2
namespace F
open PySem PySem.Spec PyProof.Rows L2
noncomputable def zmS:PV->Option (List PV) | .lst ps=>some ps | .fls ps=>some ps | _=>none
noncomputable def uN(ps:List PV):List PV:=ps.zipIdx.map fun z=>PV.tup [.int (z.2:Int),z.1]
theorem zgN{K:PySem.W.Frag}{own:Addr->Option Nat}{H1:Hp}{p:PV}{v:V}{A:List Addr}{ps:List PV}(lp:Bool)(hm:∀ a l,own a=some l->MutH H1 a)(r:Rp K H1 p v A)(hA:∀ a ∈ A,own a=none)(hs:zmS p=some ps):
  ∃ a xs B,v=.ref a/\Rps K H1 ps xs B/\(∀ a ∈ B,own a=none/\∃ o,H1 a=some o)/\∀ H2,(if lp=true then Stay own H1 H2 else Same H1 H2)->SqL K H2 a xs/\Rps K H2 ps xs B:=by
 cases p<;>first | (cases hs;done) | skip
 ·cases hs
  obtain ⟨a,xs,B,h1,h2,rfl,h3⟩:=r.L
  refine ⟨a,xs,B,h1,h3,fun b hb=>⟨hA b (Jf _ hb),(Rps.mut _ h3 b hb).some⟩,fun H2 hR=>?_⟩
  cases lp with
  | true=>exact ⟨SqL.of (hR _ _ (hA a Jc) h2),Rps.stay hR hm _ (fun b hb=>hA b (Jf _ hb)) h3⟩
  | false=>exact ⟨SqL.of (hR _ _ h2),Rps.same hR _ h3⟩
 ·cases hs
  obtain ⟨a,xs,h1,h2,h3⟩:=r.Fl
  refine ⟨a,xs,A,h1,h3,fun b hb=>⟨hA b hb,(Rps.mut _ h3 b hb).some⟩,fun H2 hR=>?_⟩
  cases lp with
  | true=>exact ⟨(Stay.fz hR hm h2).seq,Rps.stay hR hm _ hA h3⟩
  | false=>exact ⟨(h2.same hR).seq,Rps.same hR _ h3⟩
theorem zib{K:PySem.W.Frag}{own:Addr->Option Nat}{H1:Hp}{R:Hp->Prop}{a1:Addr}{ps:List PV}{xs:List V}{A:List Addr}
  (hA:∀ a ∈ A,own a=none/\∃ o,H1 a=some o)(h1:∀ H2,R H2->SqL K H2 a1 xs/\Rps K H2 ps xs A):Walks K own H1 R (Ite K a1) (uN ps):=by
 intro i H2 hR
 obtain ⟨q1,r1⟩:=h1 H2 hR
 refine ⟨fun p hp=>?_,fun hi=>⟨xs,q1,by rw [← r1.length];simpa [uN] using hi⟩⟩
 unfold uN at hp
 rw [JQ] at hp
 obtain ⟨z,hz,hp⟩:=JA.mp hp
 subst hp
 rw [List.getElem?_zipIdx] at hz
 obtain ⟨p,z1,rfl⟩:=JA.mp hz
 obtain ⟨u,C,e1,e2,e3⟩:=r1.get z1
 refine ⟨⟨xs,u,q1,e1⟩,fun x H3 ⟨T,x',hT,ex,eH,hy⟩=>?_⟩
 have g1:=hy xs q1
 rw [e1] at g1;cases g1
 have sm:Same H2 H3:=by rw [eH];exact zZ (Same.refl _) hT
 refine ⟨sm,C,?_,fun a ha=>hA a (e3.subset ha)⟩
 rw [ex]
 refine .mkT (.inl (.inl (by rw [eH,zL]))) ?_
 have:=Rps.cons (K:=K) (H:=H3) (.mkI (((0+i:Nat)):Int)) (Rps.one (Rp.same sm _ e2))
 simpa using this
end F
namespace L2
open PySem PySem.Spec PyProof.Rows
end L2
namespace F
open PySem PySem.Spec PyProof.Rows L2
theorem zal{K:PySem.W.Frag}{H:Hp}:∀ {ks:List Key} {ps:List PV} {xs:List V} {A:List Addr} {k:Key},Rps K H ps xs A->ks.length=ps.length->vd ks ps k=none->xT (ks.zip xs) k=none
 | [],_,_,_,_,_,_,_=>by simp [xT]
 | k'::ks,[],_,_,_,_,hl,_=>by simp at hl
 | k'::ks,q::ps,_,_,k,r,hl,h=>by
  obtain ⟨w,r',A1,A2,rfl,rfl,h3,h4⟩:=r.inv
  unfold vd at h
  rw [JM,KH] at h
  by_cases hk:k'=k
  ·subst hk
   simp at h
  ·have:decide (k'=k)=false:=decide_eq_false hk
   rw [show decide ((k',q).1=k)=false from this] at h
   have g1:=zal (ks:=ks) (k:=k) h4 (by simpa using hl) h
   rw [JM]
   unfold xT at g1 ⊢
   rw [KH,show decide ((k',w).1=k)=false from this]
   exact g1
noncomputable def qB:PV->Option Key | .int i=>some (.inl i) | .str x=>some (.inr x) | _=>none
theorem zdt{K:PySem.W.Frag}{H:Hp}{p:PV}{v:V}{A:List Addr}{k:Key}(h:qB p=some k)(r:Rp K H p v A):v=kV k:=by
 cases p<;>first | (cases h;done) | skip
 ·cases h;exact r.I.1
 ·cases h;exact r.S.1
noncomputable def zix(d k x:PV):Option PV:=match d with
 | .dct ks ps=>if (isDatas ps && zQ x)=true then (qB k).map fun key=>(vd ks ps key).getD x else none
 | _=>none
noncomputable def zhp(fd fk fx:FE):FE:=fun env=>(fd env).bind fun d=>(fk env).bind fun k=>(fx env).bind fun x=>zix d k x
theorem zlW{K:PySem.W.Frag}{H:Hp}{ks:List Key}{ps:List PV}{xs:List V}{a:Addr}{key:Key}{x:PV}{w:V}(hl:ks.length=ps.length)(hd:isDatas ps=true)(ha:H a=some (.dK (ks.zip xs)))(r:Rps K H ps xs [])(rx:Rp K H x w []):
  ∃ o,DGet H a (kV key) o/\Rp K H ((vd ks ps key).getD x) (o.getD w) []:=by
 refine ⟨_,DGet.k ha,?_⟩
 cases hg:vd ks ps key with
 | none=>rw [zal r hl hg];exact rx
 | some p=>
  obtain ⟨v,C,h1,h2,h3⟩:=jD r hg
  have:=List.sublist_nil.mp h3
  subst this
  rw [h1]
  exact h2
section
variable {X:Cx} {κ:Nat->Option Nat} {G:Hp} {c c1 c2:Cat} {o e f:Expr} {fd fk fx:FE} {apos cpos:Pos}
theorem zit(hu:X.A.units+1<cLine)(ho:VE X κ G c o fd)(he:VE X κ G c1 e fk)(hf:VE X κ G c2 f fx)(m:M2 X o "get" apos e f cpos):VE X κ G (.mv []) (.Call (.Attribute o "get" apos) [e,f] [] cpos) (zhp fd fk fx):=
 (zgq hu ho he hf m).imp fun σ H Q hq_=>by
 refine hq_.elim fun own env z I h k=>?_
 unfold zhp at h
 replace h:=Ja.mp h;obtain ⟨d,hd,h⟩:=h
 replace h:=Ja.mp h;obtain ⟨kk,hk,h⟩:=h
 replace h:=Ja.mp h;obtain ⟨x,hx,h⟩:=h
 unfold zix at h
 split at h
 ·rename_i ks ps
  split at h
  ·rename_i hdat
   rw [JG] at hdat
   cases hkey:qB kk with
   | none=>rw [hkey] at h;cases h
   | some key=>
    rw [hkey] at h;cases h
    refine (.in I hd fun v H1 A s1 r1 _=>?_)
    obtain ⟨a,ys,B,e1,h1,hl,_,g⟩:=r1.D
    have:=Rps.data _ hdat.1 g
    subst this
    refine ⟨a,e1,.inl ⟨_,.inl h1⟩,.in (I.grow s1) hk fun y H2 _ s2 r2 _=>(.in ((I.grow s1).grow s2) hx fun w H3 A3 s3 r3 _=>?_)⟩
    have eA:=Rp.data x hdat.2 r3
    subst eA
    have s23:=s2.trans s3
    obtain ⟨ov,q1,q2⟩:=zlW (key:=key) hl hdat.1 (s23 _ _ h1) (Rps.same s23 _ g) r3
    rw [zdt hkey r2]
    exact ⟨ov,q1,k _ H3 [] (s1.trans s23) q2 ⟨.nil,by simp⟩⟩
  ·cases h
 ·cases h
end
end F
namespace L2
open PySem PySem.Spec PyProof.Rows
noncomputable abbrev itT(h:Heap)(l:Addr):Heap:=h.push { cls:=.type "tuple_iterator",data:=.fields #[.ref l,.int 0 0] }
noncomputable abbrev enT(h:Heap)(l:Addr):Heap:=(itT h l).push { cls:=.type "enumerate",data:=.fields #[.none,.bool false,.ref h.objs.size,rawInt 0,.none,.none] }
theorem zcd(l:Addr)(zs:Array Value)(m:Nat)(dd:Option Addr)(ss:Array (Option Value)):
  Meets (Builtin.«enumerate.__new__» ⟨[.type "enumerate",.ref l],[]⟩) (fun _ R s=>s.heap.get? l=some { cls:=.type "tuple",dict:=dd,data:=.seq zs m,slots:=ss }/\R (.ok (.ret (.ref (itT s.heap l).objs.size))) { s with heap:=enT s.heap l }):=
 .of_wp fun P w A R s hz=>by
  obtain ⟨hp,gg,dr,tk,os⟩:=s
  obtain ⟨hl,hz⟩:=hz
  have sub:=sub_enumerate
  have hT:Heap.IsTuple (Shared.heap ⟨hp,gg,dr,tk,os⟩) l zs:=⟨_,hl,rfl,m,rfl⟩
  wp_walk using Ql hl
  refine wpAny_stack_any fun st=>wpAny_pure ?_
  split
  ·rename_i c _ _ _ _ _
   cases (c == Value.type "enumerate")<;>(wp_walk using AutoSeq1.wpAny_loadPart' hl,wpAny_pyIter_tuple hT;exact ⟨_,rfl,hz⟩)
  ·wp_walk using Ql hl,wpAny_pyIter_tuple hT
   exact ⟨_,rfl,hz⟩
theorem zcE{s:Shared}{Q:Value->Shared->Prop}(hT:s.heap.IsTuple l zs)
  (k:∀ h',IsEnum h' (s.heap.objs.size+1) s.heap.objs.size 0 .none->h'.IsTupleIter s.heap.objs.size l 0->(∀ b o,s.heap.get? b=some o->h'.get? b=some o)->Q (.ref (s.heap.objs.size+1)) { s with heap:=h' }):
  wpAny (model prog w) A (call (.type "enumerate") [.ref l]) Q E s:=by
 obtain ⟨⟨c,dd,dt,ss⟩,hl,hc,m,hd⟩:=hT
 replace hc:c=.type "tuple":=hc
 replace hd:dt=.seq zs m:=hd
 subst hc hd
 refine callType_new F.called_enumerate (by decide) (F.typeCall_enumerate_1 _) (F.newCall_enumerate_1 _) (fun o=>F.args_object_init_2 o _) F.entry_enumerate_new (zcd l zs m dd ss) ⟨hl,?_⟩
 have z1:(itT s.heap l).objs.size=s.heap.objs.size+1:=KF ..
 show _/\_
 rw [z1]
 have he:IsEnum (enT s.heap l) (s.heap.objs.size+1) s.heap.objs.size 0 .none:=by
  have e:=Jl (itT s.heap l) (o:={ cls:=.type "enumerate",data:=.fields #[.none,.bool false,.ref s.heap.objs.size,rawInt 0,.none,.none] }) rfl
  rw [z1] at e;exact e
 exact ⟨⟨_,he,rfl⟩,k _ he ⟨_,Jb _ (Jl _ rfl),rfl,rfl⟩ fun b o x=>Jb _ (Jb _ x)⟩
theorem zeN{A:Around}{its:Array Value}(hh:A.handled=none)(hne:c≠it):
  Draws P w A it [it,c] its.size (fun i x=>its[i]?=some x) (fun i h=>h.IsTupleIter it c i/\h.IsTuple c its) where
 live:=fun i h ⟨⟨o,e,_⟩,_⟩=>⟨o,e⟩
 frame:=fun i h h' ⟨⟨o,e,r⟩,⟨o',e',r'⟩⟩ k=>⟨⟨o,k it (by simp) o e,r⟩,⟨o',k c (by simp) o' e',r'⟩⟩
 item:=fun i s Q E hi ⟨gi,gt⟩ k=>jk gi gt (x:=its[i]) (Kk hi) fun h' gi' sb=>k _ h' s.toks (Kk hi) ⟨gi',let ⟨o,e,r⟩:=gt;⟨o,(sb.2 c hne).trans e,r⟩⟩ sb
 done:=fun s Q E ⟨gi,gt⟩ k=>xD hh gi gt (by simp) k
theorem zeO{A:Around}{its:Array Value}(hh:A.handled=none)(hx:its[n]?=none):
  Draws P w A it [it,c] n (fun _ _=>False) (fun i h=>i=n/\h.IsTupleIter it c i/\h.IsTuple c its) where
 live:=fun i h ⟨_,⟨o,e,_⟩,_⟩=>⟨o,e⟩
 frame:=fun i h h' ⟨q,⟨o,e,r⟩,⟨o',e',r'⟩⟩ k=>⟨q,⟨o,k it (by simp) o e,r⟩,⟨o',k c (by simp) o' e',r'⟩⟩
 item:=fun i s Q E hi ⟨q,_⟩ k=>absurd hi (by omega)
 done:=fun s Q E ⟨_,gi,gt⟩ k=>xD hh gi gt hx k
noncomputable def zms(K:PySem.W.Frag)(a:Addr):It:=
 ⟨fun i H=>∃ xs x,SqT K H a xs/\xs[i]?=some x,
  fun i H v H'=>∃ T x,H T=none/\v=.ref T/\H'=upd H T (.tup [.int (i:Int),x])/\∀ xs,SqT K H a xs->xs[i]?=some x,
  fun i H=>∃ xs,SqT K H a xs/\xs.length≤i⟩
theorem zbJ{P:Program}{w:World}{K:PySem.W.Frag}{es:List Expr}{k:Nat}{pos:Pos}(a e it:Addr)(hei:e≠it):
  Turn P w K (.Tuple es k pos) (zms K a) [e,it] e (fun i h=>(∃ old,IsEnum h e it (i:Nat) old)/\h.IsTupleIter it a i) where
 mem:=by simp
 obj:=by
  rintro i h ⟨⟨old,ge⟩,gi⟩ b hb
  simp only [List.mem_cons,List.not_mem_nil,or_false] at hb
  rcases hb with rfl | rfl
  ·exact ⟨_,ge,fun v z=>nomatch z⟩
  ·obtain ⟨o,ho,_,d⟩:=gi
   exact ⟨o,ho,fun v z=>by rw [d] at z;cases z⟩
 keep:=by
  rintro i h h' ⟨⟨old,ge⟩,gi⟩ kk
  obtain ⟨o,ho,r⟩:=gi
  exact ⟨⟨old,kk e (by simp) _ ge⟩,⟨o,kk it (by simp) o ho,r⟩⟩
 item:=by
  rintro X hP hw hK hc i pins s σ H E I hf ⟨⟨old,ge⟩,gi⟩ ⟨xs,x,hx,ex⟩
  subst hP hw hK
  have hsq:Sq X.K H false a xs:=hx
  obtain ⟨its,r1,c1⟩:=hsq.at I
  replace c1:s.heap.IsTuple a its.toArray:=c1
  obtain ⟨u,hu,ru⟩:=r1.get ex
  have ne1:a≠e:=hsq.ne I (hf e (by simp))
  have ne2:a≠it:=hsq.ne I (hf it (by simp))
  have hil:i<its.toArray.size:=by
   have:=(Jv.mp hu).1
   simpa using this
  refine wpAny_pyNext_enum_itemD (zeN (I.ok.hd hc) ne2) ge ⟨gi,c1⟩ hil hei (by simp [hei,ne1.symm]) fun x' h' tk hx' ho hit' hT hsz hk=>⟨_,rfl,?_⟩
  have exu:x'=u:=by
   have h1:its[i]?=some x':=by simpa using hx'
   rw [hu] at h1;exact (Jq h1).symm
  subst exu
  refine wpAny_letOwnedTupleGo_enum ho fun h₂ he₂ s₂=>?_
  have hH:H s.heap.objs.size=none:=I.hok.fresh (Jm _)
  have nz:s.heap.objs.size≠e:=Ku (Ji ge)
  have kk:∀ b o,b ∉ [e,it]->s.heap.get? b=some o->h₂.get? b=some o:=fun b o hb q=>by
   simp only [List.mem_cons,List.not_mem_nil,or_false,not_or] at hb
   exact (s₂.2 b hb.1).trans (hk b o hb.1 hb.2 q)
  have T2:h₂.get? s.heap.objs.size=some { cls:=.type "tuple",data:=.seq #[.int (i:Nat) tk,x'] }:=(s₂.2 _ nz).trans hT
  have I2:=I.turnedLaid (t':=tk+1) (h':=h₂) (o':=.tup [.int (i:Int),x]) kk hf (Nat.le_refl _) ⟨by simp [sizeLine],[.int (i:Nat) tk,x'],.cons ⟨_,rfl⟩ (.cons ru .nil),⟨_,T2,rfl,_,rfl⟩⟩
  refine ⟨.ref s.heap.objs.size,_,I2,rfl,⟨_,x,hH,rfl,rfl,fun xs' h1=>?_⟩,⟨⟨x',by simpa using he₂⟩,?_⟩,fun b hb=>?_⟩
  ·have h1':Sq X.K H false a xs':=h1
   rw [h1'.inj I hsq];exact ex
  ·obtain ⟨o,q,r⟩:=hit'.1
   exact ⟨o,(s₂.2 it hei.symm).trans q,r⟩
  ·rw [zM (fun n=>?_)]
   ·exact (hf b hb).1
   ·have:b<s.heap.objs.size:=by
     simp only [List.mem_cons,List.not_mem_nil,or_false] at hb
     rcases hb with rfl | rfl
     ·exact Ji ge
     ·obtain ⟨o,q,_⟩:=gi;exact Ji q
    exact absurd n (Jx this)
 done:=by
  rintro X hP hw hK hc i pins s σ H E I hf ⟨⟨old,ge⟩,gi⟩ ⟨xs,hx,hl⟩
  subst hP hw hK
  have hsq:Sq X.K H false a xs:=hx
  obtain ⟨its,r1,c1⟩:=hsq.at I
  replace c1:s.heap.IsTuple a its.toArray:=c1
  have l1:=r1.length
  have ne2:a≠it:=hsq.ne I (hf it (by simp))
  have nx:its.toArray[i]?=none:=by simpa [← l1] using hl
  refine wpAny_pyNext_enum_endD (zeO (c:=a) (I.ok.hd hc) nx) ge ⟨rfl,gi,c1⟩ fun h' hk=>⟨rfl,I.turnedL (t':=s.toks) (L:=[e,it]) (fun b o hb q=>hk b o (fun n=>hb (by simp [n])) q) hf⟩
 self:=fun _ _ _ _ _ st h=>let ⟨⟨_,ge⟩,_⟩:=st;wpAny_pyIter_enum ge h
noncomputable def zlV(K:PySem.W.Frag)(ta:TA):TI:=fun σ H R=>ta σ H fun vs H1=>∃ a,vs=[.ref a]/\(∃ xs,SqT K H1 a xs)/\R (zms K a) H1
theorem zgk{X:Cx}{es:List Expr}{k:Nat}{tpos:Pos}{a:Expr}{ta:TA}{p pos:Pos}(hg:Gl X "enumerate")(hm:X.mg "enumerate"=none)(ha:PA X [a] ta)(hs:starEach [a] X.env=[(false,eval a X.env)]:=by rfl):
  PI X (.Tuple es k tpos) (.Call (.Name "enumerate" p) [a] [] pos) (zlV X.K ta):=by
 intro pins s σ H R I h
 refine Call_ (x5 I hg hm boot_enumerate (Kr (thn (ha pos pins s σ H _ I h) fun us s1 ⟨vs,H1,I1,r1,q1⟩=>?_) hs rfl))
 obtain ⟨a1,e,⟨xs,hx⟩,q⟩:=q1
 subst e
 cases r1 with
 | cons r rr=>
  cases rr
  cases r
  have hsq:Sq X.K H1 false a1 xs:=hx
  obtain ⟨its1,v1,c1⟩:=hsq.at I1
  refine zcE (zs:=its1.toArray) c1 fun h' ge gi kk=>?_
  refine wpAny_pyIter_enum ge ?_
  refine ⟨s1.heap.objs.size+1,[s1.heap.objs.size+1,s1.heap.objs.size],_,_,H1,rfl,I1.kept (t':=s1.toks) kk,zbJ a1 _ _ (by show ¬ s1.heap.objs.size+1=s1.heap.objs.size;omega),⟨⟨_,ge⟩,gi⟩,fun c hc=>?_,q⟩
  have hc':s1.heap.objs.size≤c:=by
   simp only [List.mem_cons,List.not_mem_nil,or_false] at hc
   rcases hc with rfl | rfl<;>omega
  exact I1.fpOk hc' (I1.hok.fresh hc')
end L2
namespace F
open PySem PySem.Spec PyProof.Rows L2
noncomputable def uh(f:FA):FA:=fun env=>(f env).bind fun ps=>match ps with | [p]=>(xA p).map uN | _=>none
theorem zfp{K:PySem.W.Frag}{own:Addr->Option Nat}{H1:Hp}{R:Hp->Prop}{a1:Addr}{ps:List PV}{xs:List V}{A:List Addr}
  (hA:∀ a ∈ A,own a=none/\∃ o,H1 a=some o)(h1:∀ H2,R H2->SqT K H2 a1 xs/\Rps K H2 ps xs A):Walks K own H1 R (zms K a1) (uN ps):=by
 intro i H2 hR
 obtain ⟨q1,r1⟩:=h1 H2 hR
 refine ⟨fun p hp=>?_,fun hi=>⟨xs,q1,by rw [← r1.length];simpa [uN] using hi⟩⟩
 unfold uN at hp
 rw [JQ] at hp
 obtain ⟨z,hz,hp⟩:=JA.mp hp
 subst hp
 rw [List.getElem?_zipIdx] at hz
 obtain ⟨p,z1,rfl⟩:=JA.mp hz
 obtain ⟨u,C,e1,e2,e3⟩:=r1.get z1
 refine ⟨⟨xs,u,q1,e1⟩,fun x H3 ⟨T,x',hT,ex,eH,hy⟩=>?_⟩
 have g1:=hy xs q1
 rw [e1] at g1;cases g1
 have sm:Same H2 H3:=by rw [eH];exact zZ (Same.refl _) hT
 refine ⟨sm,C,?_,fun a ha=>hA a (e3.subset ha)⟩
 rw [ex]
 refine .mkT (.inl (.inl (by rw [eH,zL]))) ?_
 have:=Rps.cons (K:=K) (H:=H3) (.mkI (((0+i:Nat)):Int)) (Rps.one (Rp.same sm _ e2))
 simpa using this
theorem zfw{X:Cx}{κ:Nat->Option Nat}{G:Hp}{fs:FA}{a:Expr}{es:List Expr}{k:Nat}{tpos p pos:Pos}(lp:Bool)(hg:Gl X "enumerate")(hm:X.mg "enumerate"=none)(ha:VA X κ G .sh [a] fs)(hs:starEach [a] X.env=[(false,eval a X.env)]:=by rfl):
  VIt X κ G lp (.Tuple es k tpos) (.Call (.Name "enumerate" p) [a] [] pos) (uh fs):=(zjR (ziU hg hm ha.1 hs) (zgk hg hm ha.1 hs)).imp fun σ H R hq_=>by
 refine hq_.elim fun own env ps I hf k=>?_
 unfold uh at hf
 replace hf:=Ja.mp hf;obtain ⟨qs,hp,hf⟩:=hf
 split at hf
 case h_2=>cases hf
 rename_i p
 have rf:∀ (lp:Bool) (H1:Hp),(if lp=true then Stay own H1 H1 else Same H1 H1):=fun lp H1=>by
  cases lp with
  | true=>exact fun _ _ _ h=>h
  | false=>exact Same.refl _
 have lst:∀ xs,zmS p=some xs->ps=uN xs->zjW X.K (tVA X.K κ G .sh fs) σ H R:=fun xs e1 e2=>by
  refine (.in I hp fun vs H1 A s r hc=>?_)
  obtain ⟨v,rfl,rv⟩:=yW r
  have hm:∀ a l,own a=some l->MutH H1 a:=fun a l e=>((I.grow s).own a l e).2
  obtain ⟨a1,vs1,B1,w1,w2,w3,w4⟩:=zgN lp hm rv hc e1
  exact ⟨a1,by rw [w1],⟨vs1,(w4 H1 (rf lp H1)).1⟩,k _ H1 s (by rw [e2];exact zib w3 w4)⟩
 cases p<;>first | cases hf | skip
 ·refine .inr (.in I hp fun vs H1 A s r hc=>?_)
  obtain ⟨v,rfl,rv⟩:=yW r
  have hm:∀ a l,own a=some l->MutH H1 a:=fun a l e=>((I.grow s).own a l e).2
  obtain ⟨a,xs,h1,h2,h3⟩:=rv.T
  refine ⟨a,by rw [h1],⟨xs,h2⟩,k _ H1 s (zfp (xs:=xs) (A:=A) (fun b hb=>⟨hc b hb,(Rps.mut _ h3 b hb).some⟩) fun H2 hR=>?_)⟩
  cases lp with
  | true=>exact ⟨Stay.tup hR hm h2,Rps.stay hR hm _ hc h3⟩
  | false=>exact ⟨Same.tup hR h2,Rps.same hR _ h3⟩
 ·exact .inl (lst _ rfl rfl)
 ·exact .inl (lst _ rfl rfl)
end F
namespace L2
open PySem PySem.Spec PyProof.Rows
end L2
namespace F
open PySem PySem.Spec PyProof.Rows L2
end F
namespace L2
open PySem PySem.Spec PyProof.Rows
theorem zhH:bootBuiltins "set"=some (.type "set"):=by decide +kernel
theorem len_le_of(xs:List Int):∀ ys:List Int,xs.Nodup->(∀ x ∈ xs,x ∈ ys)->xs.length≤ys.length:=by
 induction xs with
 | nil=>intro ys _ _;exact Kq _
 | cons x xs ih=>
  intro ys nd h
  rw [JS] at nd
  have hx:=h x Jc
  have:=ih (ys.erase x) nd.2 fun y hy=>by
   have hne:y≠x:=fun e=>nd.1 (e ▸ hy)
   exact (List.mem_erase_of_ne hne).mpr (h y (Jf _ hy))
  rw [List.length_erase_of_mem hx] at this
  have hp:0<ys.length:=List.length_pos_of_mem hx
  simp only [List.length_cons]
  omega
end L2
namespace F
open PySem PySem.Spec PyProof.Rows L2
end F
namespace L2
open PySem PySem.Spec PyProof.Rows
end L2
namespace F
open PySem PySem.Spec PyProof.Rows L2
noncomputable def qp:List Key->Option (List Int)
 | []=>some []
 | .inl n::r=>(qp r).map fun ns=>n::ns
 | _=>none
@[simp] theorem zbh:∀ ns:List Int,qp (ns.map Sum.inl)=some ns
 | []=>rfl
 | n::ns=>by rw [Jo,qp,zbh ns];rfl
end F
namespace L2
open PySem PySem.Spec PyProof.Rows
end L2
namespace F
open PySem PySem.Spec PyProof.Rows L2
section
variable {X:Cx} {κ:Nat->Option Nat} {G:Hp} {O:List Nat} {st:Stmt} {c c1 c2:Cat} {f fk fa fb:FE} {a b e:Expr} {es:List Expr} {pos:Pos}
noncomputable def ExtL(l:Nat)(own:Addr->Option Nat)(H:Hp)(own':Addr->Option Nat)(H':Hp):Prop:=∀ b o,own b≠some l->H b=some o->own' b=own b/\H' b=some o
theorem ExtL.trans(a:ExtL l o1 H1 o2 H2)(b:ExtL l o2 H2 o3 H3):ExtL l o1 H1 o3 H3:=fun x o h e=>by
 obtain ⟨h1,h2⟩:=a x o h e
 obtain ⟨h3,h4⟩:=b x o (by rw [h1];exact h) h2
 exact ⟨h3.trans h1,h4⟩
theorem ExtL.grow(s:Same H H'):ExtL l own H own H':=fun b o _ e=>⟨rfl,s b o e⟩
noncomputable abbrev FM:=En->Option (PV × En)
open Classical in
noncomputable def tVm(K:PySem.W.Frag)(κ:Nat->Option Nat)(G:Hp)(l:Nat)(f:FM):TE:=fun σ H Q=>∃ own env p e',VI K κ G own env σ H/\f env=some (p,e')/\∀ v H' own' C,VI K κ G own' e' σ H'->ExtL l own H own' H'->Rp K H' p v C->C.Nodup->(∀ b ∈ C,H b=none/\own' b=none)->Q v H'
noncomputable def VEm(X:Cx)(κ:Nat->Option Nat)(G:Hp)(l:Nat)(e:Expr)(f:FM):Prop:=PE X e (tVm X.K κ G l f)
noncomputable abbrev FI:=En->Option (Int × En)
noncomputable def tVi(K:PySem.W.Frag)(κ:Nat->Option Nat)(G:Hp)(l:Nat)(f:FI):TE:=fun σ H Q=>∃ own env i e',VI K κ G own env σ H/\f env=some (i,e')/\∀ H' own',VI K κ G own' e' σ H'->ExtL l own H own' H'->Q (.int i) H'
noncomputable def VEi(X:Cx)(κ:Nat->Option Nat)(G:Hp)(l:Nat)(e:Expr)(f:FI):Prop:=PE X e (tVi X.K κ G l f)
theorem tVi.in{K:PySem.W.Frag}{l:Nat}{σ:St}{H:Hp}{Q:VK}{f:FI}{own:Addr->Option Nat}{env e':En}{i:Int}(I:VI K κ G own env σ H)(hf:f env=some (i,e'))(k:∀ H' own',VI K κ G own' e' σ H'->ExtL l own H own' H'->Q (.int i) H'):tVi K κ G l f σ H Q:=⟨own,env,i,e',I,hf,k⟩
theorem tVi.elim{K:PySem.W.Frag}{l:Nat}{σ:St}{H:Hp}{Q:VK}{f:FI}{C:Prop}(h:tVi K κ G l f σ H Q)(k:∀ own env i e',VI K κ G own env σ H->f env=some (i,e')->(∀ H' own',VI K κ G own' e' σ H'->ExtL l own H own' H'->Q (.int i) H')->C):C:=
 let ⟨own,env,i,e',I,hf,q⟩:=h
 k own env i e' I hf q
theorem zoH{K:PySem.W.Frag}{l:Nat}{r:R2}{g:PV->PV->Option PV}{fa:FI}{Q:VK}{σ:St}{H:Hp}{own:Addr->Option Nat}{env e':En}{i j:Int}{z:PV}(hv:OpV K r g)(I:VI K κ G own env σ H)(hx:fa env=some (i,e'))(hy:fb e'=some (.int j))(hz:g (.int i) (.int j)=some z)
  (k:∀ v H' own',VI K κ G own' e' σ H'->ExtL l own H own' H'->(∃ C,Rp K H' z v C)->Q v H'):tOp r (tVi K κ G l fa) (tV K κ G c fb) σ H Q:=by
 refine tVi.in I hx fun H1 own1 I1 x1=>.in I1 hy fun v H2 A s1 r1 _=>?_
 obtain ⟨rfl,rfl⟩:=r1.I
 exact hv H2 (.int i) (.int j) _ _ [] [] z Q (.mkI i) (.mkI j) hz fun v H' C s2 r2 nd fr=>k v H' own1 (I1.grow (s1.trans s2)) (x1.trans (ExtL.grow (s1.trans s2))) ⟨C,r2⟩
noncomputable abbrev FB:=En->Option (Bool × En)
noncomputable def zoD(K:PySem.W.Frag)(κ:Nat->Option Nat)(G:Hp)(l:Nat)(f:FB):TT:=fun σ H Q=>∃ own env b e',VI K κ G own env σ H/\f env=some (b,e')/\∀ H' own',VI K κ G own' e' σ H'->ExtL l own H own' H'->Q b H'
noncomputable def VTi(X:Cx)(κ:Nat->Option Nat)(G:Hp)(l:Nat)(e:Expr)(f:FB):Prop:=PT X e (zoD X.K κ G l f)
noncomputable def zhq(g:PV->PV->Option PV)(fa:FI)(fb:FE):FB:=fun env=>(fa env).bind fun x=>(fb x.2).bind fun y=>match y with
 | .int j=>(g (.int x.1) (.int j)).bind fun z=>match z with | .bl r=>some (r,x.2) | _=>none
 | _=>none
theorem zfq{l:Nat}{op:CmpOp}{r:R2}{g:PV->PV->Option PV}{fa:FI}(ho:OpR X (compareOp op) r)(hv:OpV X.K r g)(ha:VEi X κ G l a fa)(hb:VE X κ G c b fb)(hm:behindInMarks op b=false):VTi X κ G l (.Compare a [op] [b] pos) (zhq g fa fb):=(zde ho ha hb hm).imp fun σ H Q hq_=>by
 obtain ⟨own,env,z,e',I,hf,k⟩:=hq_
 unfold zhq at hf
 replace hf:=Ja.mp hf;obtain ⟨x,hx,hf⟩:=hf
 replace hf:=Ja.mp hf;obtain ⟨y,hy,hf⟩:=hf
 split at hf
 case h_2=>cases hf
 replace hf:=Ja.mp hf;obtain ⟨w,hw,hf⟩:=hf
 split at hf
 case h_2=>cases hf
 cases hf
 refine zoH hv I hx hy hw fun v H' own' I' x' r'=>?_
 obtain ⟨C,r2⟩:=r'
 exact ⟨_,r2.B.1,k H' own' I' x'⟩
end
end F
namespace F
open PySem
namespace Tab
noncomputable def leaps(mask:Nat):Nat->Nat × Nat->Nat × Nat
 | 0,z=>z
 | n+1,z=>leaps mask n (SetTable.leap mask z.1 z.2)
theorem k8(mask:Nat):∀ (a b:Nat) (z:Nat × Nat),leaps mask (a+b) z=leaps mask b (leaps mask a z)
 | 0,b,z=>by rw [KU];rfl
 | a+1,b,z=>by rw [Nat.succ_add];exact k8 mask a b _
theorem k7(mask:Nat):∀ (n:Nat) (z:Nat × Nat),(leaps mask n z).2=z.2 / 32 ^ n
 | 0,z=>by simp [leaps]
 | n+1,z=>by
  unfold leaps
  rw [k7 mask n]
  show z.2 / 32 / 32 ^ n=_
  rw [Nat.div_div_eq_div_mul,Nat.pow_succ,Nat.mul_comm]
theorem zbe(mask:Nat):∀ (n:Nat) (z:Nat × Nat),z.1≤mask->(leaps mask n z).1≤mask
 | 0,z,h=>h
 | n+1,z,h=>zbe mask n _ (Kg (Qa _ (Kn _)))
noncomputable def vL(mask:Nat):Nat->Nat->Nat
 | 0,i=>i
 | n+1,i=>vL mask n ((i * 5+1) % (mask+1))
theorem zaM(mask:Nat):∀ (n i:Nat),leaps mask n (i,0)=(vL mask n i,0)
 | 0,i=>rfl
 | n+1,i=>by
  show leaps mask n ((i * 5+1+0 / 32) % (mask+1),0 / 32)=_
  rw [Nat.zero_div,Nat.add_zero,zaM mask n];rfl
theorem wv(mask:Nat):∀ (a b i:Nat),vL mask (a+b) i=vL mask b (vL mask a i)
 | 0,b,i=>by rw [KU];rfl
 | a+1,b,i=>by rw [Nat.succ_add];exact wv mask a b _
noncomputable def Full(mask:Nat):Prop:=vL mask (mask+1) 0=0/\∀ j,j≤mask->∃ a,a≤mask/\vL mask a 0=j
noncomputable def zgy(mask:Nat):Nat->Nat->List Nat
 | 0,_=>[]
 | n+1,i=>i::zgy mask n ((i * 5+1) % (mask+1))
theorem k6(mask:Nat):∀ (n i j:Nat),j ∈ zgy mask n i->∃ a,a<n/\vL mask a i=j
 | 0,i,j,h=>by cases h
 | n+1,i,j,h=>by
  rcases List.mem_cons.mp h with rfl | h
  ·exact ⟨0,Kn _,rfl⟩
  ·obtain ⟨a,ha,e⟩:=k6 mask n _ j h
   exact ⟨a+1,Nat.succ_lt_succ ha,e⟩
theorem jI(h1:vL mask (mask+1) 0=0)(h2:((List.range (mask+1)).all fun j=>(zgy mask (mask+1) 0).contains j)=true):Full mask:=by
 refine ⟨h1,fun j hj=>?_⟩
 have:=QC.mp h2 j (Jw.mpr (Nat.lt_succ_of_le hj))
 obtain ⟨a,ha,e⟩:=k6 mask (mask+1) 0 j (List.contains_iff_mem.mp this)
 exact ⟨a,Kg ha,e⟩
theorem full7:Full 7:=jI (by decide +kernel) (by decide +kernel)
theorem full31:Full 31:=jI (by decide +kernel) (by decide +kernel)
theorem full127:Full 127:=jI (by decide +kernel) (by decide +kernel)
theorem Full.to(F:Full mask)(hi:i≤mask)(hj:j≤mask):∃ m,m≤mask/\vL mask m i=j:=by
 obtain ⟨a,ha,ea⟩:=F.2 i hi
 obtain ⟨b,hb,eb⟩:=F.2 j hj
 by_cases h:a≤b
 ·refine ⟨b - a,by omega,?_⟩
  rw [← ea,← wv,show a+(b - a)=b by omega,eb]
 ·refine ⟨mask+1+b - a,by omega,?_⟩
  rw [← ea,← wv,show a+(mask+1+b - a)=mask+1+b by omega,wv,F.1,eb]
theorem Full.leaps(F:Full mask)(hi:i≤mask)(hp:p<2 ^ 64)(hj:j≤mask):∃ n,n<SetTable.turns mask/\(Tab.leaps mask n (i,p)).1=j:=by
 have hz:(Tab.leaps mask 13 (i,p)).2=0:=by
  rw [k7]
  exact Nat.div_eq_of_lt (JE hp (by decide))
 obtain ⟨m,hm,e⟩:=F.to (zbe mask 13 (i,p) hi) hj
 refine ⟨13+m,by show _<mask+15;omega,?_⟩
 rw [k8]
 have:Tab.leaps mask 13 (i,p)=((Tab.leaps mask 13 (i,p)).1,0):=Prod.ext rfl hz
 rw [this,zaM,e]
theorem zdM(h:Int):SetTable.bits h<2 ^ 64:=by
 unfold SetTable.bits
 have:=JN h (show (0:Int)<2 ^ 64 by decide)
 have:=JU h (show (2 ^ 64:Int)≠0 by decide)
 omega
theorem yu(hi:i≤mask):i≤SetTable.runEnd mask i/\SetTable.runEnd mask i≤mask/\SetTable.runEnd mask i≤i+9:=by
 unfold SetTable.runEnd
 split<;>omega
theorem zjv{owner:Array (Option Nat)}(hj:owner.getD j (some 0)=none):∀ (n fuel i p:Nat),n<fuel->i≤mask->(leaps mask n (i,p)).1=j->∃ j',SetTable.layClean.free mask owner fuel i p=some j'/\j'≤mask/\owner.getD j' (some 0)=none:=by
 intro n
 induction n with
 | zero=>
  intro fuel i p hf hi e
  obtain ⟨f,rfl⟩:=KC (Ku hf)
  have e':i=j:=e
  subst e'
  have hr:=yu hi
  unfold SetTable.layClean.free
  cases h:(List.range (SetTable.runEnd mask i+1 - i)).find? fun k=>(owner.getD (i+k) (some 0)).isNone with
  | none=>
   have:=List.find?_eq_none.mp h 0 (Jw.mpr (by omega))
   rw [Nat.add_zero,hj] at this
   exact absurd rfl this
  | some k=>
   have h1:=Jw.mp (QK h)
   have h2:=List.find?_some h
   exact ⟨i+k,rfl,by omega,QL.mp h2⟩
 | succ n ih=>
  intro fuel i p hf hi e
  obtain ⟨f,rfl⟩:=KC (Ku (QN (Kq _) hf))
  have hr:=yu hi
  unfold SetTable.layClean.free
  cases h:(List.range (SetTable.runEnd mask i+1 - i)).find? fun k=>(owner.getD (i+k) (some 0)).isNone with
  | some k=>
   have h1:=Jw.mp (QK h)
   have h2:=List.find?_some h
   exact ⟨i+k,rfl,by omega,QL.mp h2⟩
  | none=>exact ih f _ _ (by omega) (Kg (Qa _ (Kn _))) e
theorem zhj:∀ (l:List (Option Nat)) (j k:Nat),l[j]?=some none->((l.set j (some k)).filterMap id).Perm (k::l.filterMap id)
 | [],j,k,h=>by simp at h
 | x::l,0,k,h=>by
  have:x=none:=by simpa using h
  subst this
  exact .refl _
 | x::l,j+1,k,h=>by
  have ih:=zhj l j k (by simpa using h)
  rw [List.set_cons_succ]
  cases x with
  | none=>simpa using ih
  | some y=>
   simp only [List.filterMap_cons,id]
   exact (ih.cons y).trans (.swap _ _ _)
theorem zdB:∀ (l:List (Option Nat)),(l.filterMap id).length<l.length->∃ j,j<l.length/\l[j]?=some none
 | [],h=>by simp at h
 | none::l,h=>⟨0,by simp,rfl⟩
 | some y::l,h=>by
  obtain ⟨j,h1,h2⟩:=zdB l (by simpa using h)
  exact ⟨j+1,by simpa using h1,by simpa using h2⟩
structure Laid (mask:Nat) (owner:Array (Option Nat)) (k:Nat):Prop where
 size:owner.size=mask+1
 perm:(owner.toList.filterMap id).Perm (List.range k).reverse
theorem wY{owner:Array (Option Nat)}:owner.getD j d=owner.toList[j]?.getD d:=by
 rw [JF,Js]
theorem zgO{mask:Nat}(F:Full mask):∀ (hs:List Int) (owner:Array (Option Nat)) (k:Nat),Laid mask owner k->k+hs.length≤mask->∃ owner',hs.foldl (fun acc h=>do
 let (owner,k) ← acc
 let j ← SetTable.layClean.free mask owner (SetTable.turns mask) (SetTable.bits h % (mask+1)) (SetTable.bits h)
 pure (owner.setIfInBounds j (some k),k+1)) (some (owner,k))=some (owner',k+hs.length)/\Laid mask owner' (k+hs.length)
 | [],owner,k,L,hk=>⟨owner,rfl,L⟩
 | h::hs,owner,k,L,hk=>by
  rw [JH] at hk
  have hlen:(owner.toList.filterMap id).length=k:=by rw [L.perm.length_eq];simp
  obtain ⟨j0,hj0,hj1⟩:=zdB owner.toList (by rw [hlen,Jg,L.size];omega)
  rw [Jg,L.size] at hj0
  have hi:SetTable.bits h % (mask+1)≤mask:=Kg (Qa _ (Kn _))
  obtain ⟨n,hn,e⟩:=F.leaps (j:=j0) hi (zdM h) (by omega)
  obtain ⟨j,f1,f2,f3⟩:=zjv (mask:=mask) (owner:=owner) (j:=j0) (by rw [wY,hj1];rfl) n _ _ _ hn hi e
  have hjs:j<owner.size:=by rw [L.size];omega
  have hjn:owner.toList[j]?=some none:=by
   rw [wY] at f3
   cases q:owner.toList[j]? with
   | none=>rw [q] at f3;cases f3
   | some x=>rw [q] at f3;exact congrArg some f3
  have L':Laid mask (owner.setIfInBounds j (some k)) (k+1):=by
   refine ⟨by rw [Array.size_setIfInBounds];exact L.size,?_⟩
   rw [QF,List.range_succ,List.reverse_append]
   exact (zhj _ j k hjn).trans (L.perm.cons k)
  obtain ⟨owner',g1,g2⟩:=zgO F hs _ (k+1) L' (by omega)
  refine ⟨owner',?_,by rw [JH,show k+(hs.length+1)=k+1+hs.length by omega];exact g2⟩
  rw [QJ,JH,show k+(hs.length+1)=k+1+hs.length by omega,← g1]
  congr 1
  show (do let j ← SetTable.layClean.free mask owner _ _ _;pure (owner.setIfInBounds j (some k),k+1))=_
  rw [f1];rfl
theorem zbf(F:Full mask){hashes:Array Int}(hn:hashes.size≤mask):∃ owner,SetTable.layClean mask hashes=some owner/\Laid mask owner hashes.size:=by
 have L0:Laid mask (Array.replicate (mask+1) none) 0:=⟨by simp,by
  have:(Array.replicate (mask+1) (none:Option Nat)).toList.filterMap id=[]:=by
   rw [Array.toList_replicate,List.filterMap_eq_nil_iff]
   intro a ha
   rw [List.eq_of_mem_replicate ha];rfl
  rw [this];exact .refl _⟩
 obtain ⟨owner,h1,h2⟩:=zgO F hashes.toList _ 0 L0 (by rw [Jg];omega)
 rw [KU,Jg] at h1 h2
 refine ⟨owner,?_,h2⟩
 unfold SetTable.layClean
 rw [← Array.foldl_toList,h1];rfl
noncomputable def zai(xs:Array Nat):Prop:=xs.toList.Pairwise (·<·)
structure Good (t:SetTable) (n:Nat) (led:Bool):Prop where
 full:Full t.mask
 size:t.place.size=n
 room:n≤t.mask
 dm:t.dummies=#[]
 rise:zai t.place
 le:∀ j ∈ t.place.toList,j≤t.mask
 led:t.led=led
 plain:t.plain=true
theorem Good.fits{t:SetTable}{n:Nat}{led:Bool}(g:Good t n led):t.fits n=true:=by
 unfold SetTable.fits SetTable.fill
 rw [g.dm,g.size]
 simp [g.room]
theorem zjm{mask finger moves:Nat}{led plain:Bool}{hashes:Array Int}(F:Full mask)(hn:hashes.size≤mask)(hp:plain=true):∃ t order,SetTable.laid mask finger moves led plain hashes=some (t,order)/\order.toList.Perm (List.range hashes.size)/\Good t hashes.size led/\t.mask=mask:=by
 obtain ⟨owner,h1,L⟩:=zbf F hn
 let live:=(List.range (mask+1)).filterMap fun j=>(owner.getD j none).map (j,·)
 have hs:live.map (·.2)=owner.toList.filterMap id:=by
  have e1:live.map (·.2)=(List.range (mask+1)).filterMap fun j=>owner.getD j none:=by
   rw [List.map_filterMap]
   congr 1
   funext j
   cases owner.getD j none<;>rfl
  have e2:owner.toList=(List.range (mask+1)).map fun j=>owner.getD j none:=by
   apply Qt
   intro j
   rw [JQ]
   by_cases hj:j<mask+1
   ·rw [List.getElem?_range hj,Option.map_some,wY]
    have:j<owner.toList.length:=by rw [Jg,L.size];exact hj
    rw [Jd this];rfl
   ·rw [Qc (by rw [Jg,L.size];omega),Qc (by rw [KG];omega)];rfl
  rw [e1]
  conv=>rhs;rw [e2,List.filterMap_map]
  rfl
 have hp2:(live.map (·.2)).Perm (List.range hashes.size):=by rw [hs];exact L.perm.trans (List.reverse_perm _)
 have hl:live.length=hashes.size:=by have:=hp2.length_eq;simpa using this
 have hr:(live.map (·.1)).Pairwise (·<·):=by
  rw [JW]
  refine List.Pairwise.filterMap _ (fun a a' hlt b hb b' hb'=>?_) List.pairwise_lt_range
  obtain ⟨x,_,rfl⟩:=JA.mp hb
  obtain ⟨y,_,rfl⟩:=JA.mp hb'
  exact hlt
 have hle:∀ j ∈ live.map (·.1),j≤mask:=fun j hj=>by
  obtain ⟨z,hz,rfl⟩:=Jp.mp hj
  obtain ⟨a,ha,hb⟩:=Qo.mp hz
  obtain ⟨x,_,rfl⟩:=JA.mp hb
  have:=Jw.mp ha
  show a≤mask
  omega
 refine ⟨{ mask,place:=(live.map (·.1)).toArray,dummies:=#[],finger,led,moves,plain },(live.map (·.2)).toArray,?_,by simpa using hp2,⟨F,by simpa using hl,hn,rfl,by unfold zai;simpa using hr,by simpa using hle,rfl,hp⟩,rfl⟩
 unfold SetTable.laid
 rw [h1];rfl
theorem zhJ{xs:Array Nat}(hr:zai xs):∀ (fuel lo hi:Nat),lo≤hi->hi≤xs.size->hi - lo≤fuel->(∀ i x,i<lo->xs[i]?=some x->x<j)->(∀ i x,hi≤i->xs[i]?=some x->j≤x)->
  SetTable.below.go xs j fuel lo hi≤xs.size/\(∀ i x,i<SetTable.below.go xs j fuel lo hi->xs[i]?=some x->x<j)/\∀ i x,SetTable.below.go xs j fuel lo hi≤i->xs[i]?=some x->j≤x:=by
 have mono:∀ a b x y,a<b->xs[a]?=some x->xs[b]?=some y->x<y:=fun a b x y hab ha hb=>by
  rw [← Js] at ha hb
  obtain ⟨h1,e1⟩:=Jv.mp ha
  obtain ⟨h2,e2⟩:=Jv.mp hb
  rw [← e1,← e2]
  exact JZ.mp hr a b h1 h2 hab
 intro fuel
 induction fuel with
 | zero=>
  intro lo hi h1 h2 h3 h4 h5
  unfold SetTable.below.go
  obtain rfl:lo=hi:=by omega
  exact ⟨h2,h4,h5⟩
 | succ fuel ih=>
  intro lo hi h1 h2 h3 h4 h5
  unfold SetTable.below.go
  by_cases hlt:lo<hi
  ·rw [if_pos hlt]
   dsimp only
   have hm:(lo+hi) / 2<xs.size:=by omega
   have hg:xs[(lo+hi) / 2]?=some (xs.getD ((lo+hi) / 2) j):=by
    rw [JF,getElem?_pos xs _ hm];rfl
   generalize hx:xs.getD ((lo+hi) / 2) j=x at hg
   split
   ·rename_i hc
    exact ih _ _ (by omega) h2 (by omega) (fun i y hi' hy=>by
     by_cases e:i=(lo+hi) / 2
     ·rw [e,hg] at hy;cases hy;exact hc
     ·exact Nat.lt_trans (mono i _ y x (by omega) hy hg) hc) h5
   ·rename_i hc
    exact ih _ _ (by omega) (by omega) (by omega) h4 (fun i y hi' hy=>by
     by_cases e:i=(lo+hi) / 2
     ·rw [e,hg] at hy;cases hy;omega
     ·have:=mono _ i x y (by omega) hg hy;omega)
  ·rw [if_neg hlt]
   obtain rfl:lo=hi:=by omega
   exact ⟨h2,h4,h5⟩
theorem below_ok{xs:Array Nat}(hr:zai xs)(j:Nat):SetTable.below xs j≤xs.size/\(∀ i x,i<SetTable.below xs j->xs[i]?=some x->x<j)/\∀ i x,SetTable.below xs j≤i->xs[i]?=some x->j≤x:=
 zhJ hr _ 0 xs.size (Kq _) (Jm _) (by omega) (fun i x h=>absurd h (Kh _)) fun i x h e=>by
  rw [getElem?_neg xs i (by omega)] at e;cases e
theorem zbi{xs:Array Nat}(hr:zai xs)(hj:xs[SetTable.below xs j]?≠some j):zai (SetTable.insertAt xs (SetTable.below xs j) j):=by
 obtain ⟨b1,b2,b3⟩:=below_ok hr j
 unfold zai
 rw [SetTable.toList_insertAt,Jz,KD]
 refine ⟨hr.sublist (List.take_sublist _ _),⟨fun y hy=>?_,hr.sublist (List.drop_sublist _ _)⟩,fun x hx y hy=>?_⟩
 ·obtain ⟨i,hi⟩:=Kf.mp hy
  rw [List.getElem?_drop,Js] at hi
  have h1:=b3 _ _ (QD _ _) hi
  by_cases e:y=j
  ·subst e
   cases i with
   | zero=>exact absurd hi hj
   | succ i=>
    have hb:SetTable.below xs y<xs.size:=by
     have:=(Ju.mp hi).1;omega
    have h2:=b3 _ _ (Jm _) (getElem?_pos xs _ hb)
    have h3:=JZ.mp hr (SetTable.below xs y) (SetTable.below xs y+(i+1)) (by rw [Jg];exact hb) (by rw [Jg];exact (Ju.mp hi).1) (by omega)
    rw [Kt,Kt] at h3
    have h4:=(Ju.mp hi).2
    omega
  ·omega
 ·have hxj:x<j:=by
   obtain ⟨i,hi⟩:=Kf.mp hx
   rw [List.getElem?_take] at hi
   split at hi
   ·rename_i h;rw [Js] at hi;exact b2 i x h hi
   ·cases hi
  rcases List.mem_cons.mp hy with rfl | hy
  ·exact hxj
  ·obtain ⟨i,hi⟩:=Kf.mp hy
   rw [List.getElem?_drop,Js] at hi
   have h1:=b3 _ _ (QD _ _) hi
   omega
theorem jV{t:SetTable}(hd:t.dummies=#[])(h:j ∉ t.place.toList):t.slot j=.empty:=by
 unfold SetTable.slot
 dsimp only
 rw [if_neg,hd]
 ·rfl
 ·intro e
  have:=beq_iff_eq.mp e
  rw [← Js] at this
  exact h (JY this)
theorem zaG{t:SetTable}(h:t.slot j=.empty):t.place[SetTable.below t.place j]?≠some j:=fun e=>by
 unfold SetTable.slot at h
 dsimp only at h
 rw [if_pos (beq_iff_eq.mpr e)] at h
 cases h
theorem yz{t:SetTable}(hd:t.dummies=#[])(j:Nat):t.slot j≠.dummy:=fun h=>by
 unfold SetTable.slot at h
 dsimp only at h
 split at h
 ·cases h
 ·rw [hd] at h;cases h
noncomputable def wx(t:SetTable)(P:SetTable.Probe):SetTable.Probe:={ P with j:=(SetTable.leap t.mask P.i P.perturb).1,more:=SetTable.runEnd t.mask (SetTable.leap t.mask P.i P.perturb).1 - (SetTable.leap t.mask P.i P.perturb).1,i:=(SetTable.leap t.mask P.i P.perturb).1,perturb:=(SetTable.leap t.mask P.i P.perturb).2 }
section
variable {t:SetTable} {hashAt:Nat->Int} {h:Int}
theorem uI(f:Nat)(P:SetTable.Probe):SetTable.probe.go t hashAt h (f+1) P=match t.slot P.j with
  | .empty=>some (.empty P.j P.dummy)
  | .dummy=>SetTable.probe.go t hashAt h f (t.advance { P with dummy:=some P.j })
  | .live i=>if hashAt i == h then some (.candidate P.j i (t.advance P)) else SetTable.probe.go t hashAt h f (t.advance P):=rfl
theorem zkN(hd:t.dummies=#[])(hA:∀ i,(hashAt i == h)=false):∀ (m fuel:Nat) (P:SetTable.Probe),P.more=m->m<fuel->P.j+m≤t.mask->
  (∃ j,SetTable.probe.go t hashAt h fuel P=some (.empty j P.dummy)/\t.slot j=.empty/\j≤t.mask)∨SetTable.probe.go t hashAt h fuel P=SetTable.probe.go t hashAt h (fuel - (m+1)) (wx t P):=by
 intro m
 induction m with
 | zero=>
  intro fuel P hm hf hj
  obtain ⟨f,rfl⟩:=KC (Ku hf)
  rw [Nat.succ_eq_add_one,uI]
  cases hs:t.slot P.j with
  | empty=>exact .inl ⟨P.j,rfl,hs,by omega⟩
  | dummy=>exact absurd hs (yz hd _)
  | live i=>
   right
   dsimp only
   rw [hA i,if_neg Jj]
   have:t.advance P=wx t P:=by
    unfold SetTable.advance
    rw [if_neg (by omega)];rfl
   rw [this];rfl
 | succ m ih=>
  intro fuel P hm hf hj
  obtain ⟨f,rfl⟩:=KC (Ku (QN (Kq _) hf))
  rw [Nat.succ_eq_add_one,uI]
  cases hs:t.slot P.j with
  | empty=>exact .inl ⟨P.j,rfl,hs,by omega⟩
  | dummy=>exact absurd hs (yz hd _)
  | live i=>
   dsimp only
   rw [hA i,if_neg Jj]
   have:t.advance P={ P with j:=P.j+1,more:=m }:=by
    unfold SetTable.advance
    rw [if_pos (by omega),hm];rfl
   rw [this]
   rcases ih f { P with j:=P.j+1,more:=m } rfl (by omega) (by show P.j+1+m≤t.mask;omega) with h1 | h1
   ·exact .inl h1
   ·right
    rw [h1,show f+1 - (m+1+1)=f - (m+1) by omega];rfl
theorem zgi(hd:t.dummies=#[])(hA:∀ i,(hashAt i == h)=false)(h0:t.slot j0=.empty):∀ (n fuel:Nat) (P:SetTable.Probe),P.j=P.i->P.more=SetTable.runEnd t.mask P.i - P.i->P.i≤t.mask->10 * n+10≤fuel->(leaps t.mask n (P.i,P.perturb)).1=j0->
  ∃ j,SetTable.probe.go t hashAt h fuel P=some (.empty j P.dummy)/\t.slot j=.empty/\j≤t.mask:=by
 intro n
 induction n with
 | zero=>
  intro fuel P h1 h2 h3 h4 h5
  obtain ⟨f,rfl⟩:=KC (show fuel≠0 by omega)
  have e:P.j=j0:=h1.trans h5
  unfold SetTable.probe.go
  rw [e,h0]
  exact ⟨j0,rfl,h0,by omega⟩
 | succ n ih=>
  intro fuel P h1 h2 h3 h4 h5
  have hr:=yu h3
  rcases zkN hd hA P.more fuel P rfl (by omega) (by omega) with h6 | h6
  ·exact h6
  ·rw [h6]
   exact ih _ (wx t P) rfl rfl (Kg (Qa _ (Kn _))) (by omega) h5
end
theorem zoS:∀ (mask:Nat) (l:List Nat),l.Pairwise (·<·)->l.length≤mask->∃ j,j≤mask/\j ∉ l:=by
 intro mask l hr hl
 refine JB fun hn=>?_
 have sub:∀ j ∈ List.range (mask+1),j ∈ l:=fun j hj=>JB fun h=>hn ⟨j,Kg (Jw.mp hj),h⟩
 have nd:((List.range (mask+1)).map Int.ofNat).Nodup:=by
  rw [KO,JW]
  exact List.pairwise_lt_range.imp fun h e=>by have:=Int.ofNat.inj e;omega
 have:=L2.len_le_of _ (l.map Int.ofNat) nd fun x hx=>by
  obtain ⟨j,hj,rfl⟩:=Jp.mp hx
  exact Jp.mpr ⟨j,sub j hj,rfl⟩
 rw [Jt,Jt,KG] at this
 omega
theorem zkW{t:SetTable}(g:Good t n led)(hn:n+1≤t.mask)(hs:t.slot j=.empty)(hj:j≤t.mask):Good (t.put j).1 (n+1) led/\(t.put j).1.mask=t.mask:=by
 have hd:(t.put j).1.dummies=#[]:=by
  unfold SetTable.put
  dsimp only
  rw [g.dm];rfl
 refine ⟨⟨g.full,?_,hn,hd,zbi g.rise (zaG hs),fun k hk=>?_,g.led,g.plain⟩,rfl⟩
 ·show (SetTable.insertAt t.place (SetTable.below t.place j) j).size=n+1
  have:=(Qr t.place (SetTable.below t.place j) j).length_eq
  rw [Jg,Jg,Kb,g.size] at this
  exact this
 ·have hk':k ∈ (SetTable.insertAt t.place (SetTable.below t.place j) j).toList:=hk
  rw [(Qr t.place (SetTable.below t.place j) j).mem_iff,Kz] at hk'
  rcases List.mem_append.mp hk' with h | h
  ·exact g.le k h
  ·rw [Jh.mp h];exact hj
end Tab
end F
namespace F
open PySem PySem.Spec PyProof.Rows
noncomputable def elN(e:Int × Value):Int:=numOf e.2
structure SetTb (prog:Program) (w:World) (es:Array (Int × Value)) (t:SetTable) (L:List Int) (led:Bool):Prop where
 el:ElemsOf (intKind prog w) es.toList
 perm:(es.toList.map elN).Perm L
 good:Tab.Good t es.size led
 mask:t.mask=7∨t.mask=31∨t.mask=127
 nf:es.size * 5<t.mask * 3
noncomputable def zpL(prog:Program)(w:World)(h:Heap)(a:Addr)(L:List Int)(led:Bool):Prop:=∃ o es ep t,h.get? a=some o/\o.ExactSet/\o.data=.set es ep t/\SetTb prog w es t L led
section
variable {prog:Program} {w:World} {A:Around} {E:Value->Shared->Prop} {s:Shared}
theorem kr{h:Heap}{o:Obj}(ho:h.get? a=some o)(hd:o.data=.set es ep t):(h.update a (Obj.putSet es' t')).get? a=some { o with data:=.set es' (ep+1) t' }:=by
 have:=JT (Obj.putSet es' t') ho (by rw [putSet_of es' t' hd];rfl)
 rw [putSet_of es' t' hd] at this;exact this
theorem zgE(a:Value){Q₁:Value->Shared->Prop}
  (h:Q₁ (.ref s.heap.objs.size) { s with heap:=s.heap.push { cls:=.type "set",dict:=none,data:=.set #[] 0 (.fresh 0 0 (!w.params.followText "set-order")) } }):
  codeAny (model prog w) A (.call (.builtin "set.__new__") ⟨[.type "set",a],[]⟩) (wants Q₁ E) s:=by
 refine codeAny_of_tree ?_
 show wpAny _ A.in1 (do checkBuiltinCall "set.__new__" ⟨[.type "set",a],[]⟩;again (.builtin "set.__new__" ⟨[.type "set",a],[]⟩)) _ _ s
 refine wpAny_bind (wpAny_of_eq (PySem.F.newCall_set_1 a) (wpAny_pure ⟨plainId_quiet PySem.F.plain_set_new _,codeAny_builtin PySem.F.entry_set_new ?_⟩))
 rw [Qh PySem.F.plain_set_new _]
 unfold Builtin.«set.__new__» Builtin.Frozenset.newClass
 have hsub:=sub_set_self
 obtain ⟨hp,g,d,tk,os⟩:=s
 dsimp only
 wp_walk
 refine wpAny_askSetting (wpAny_pure ?_)
 dsimp only
 simp only [newObj]
 refine wpAny_bind (wpAny_alloc (wpAny_pure ?_))
 exact wpAny_pure h
end
end F
namespace F
open PySem PySem.Spec PyProof.Rows PySem.W
theorem zv:Slot "set" "__iter__" "set.__iter__":=
 .of (owner:="set") (n:="__iter__") (by rw [typeLookup_type,builtinLookup_eq_fast];kernel_rfl) (by decide +kernel) (by decide +kernel) (by decide +kernel)
  (by first | exact .inl (by decide +kernel) | exact .inr (by decide +kernel)) (by rw [isSubtype_type];kernel_rfl)
theorem xK:entryFor table "set.__iter__"=some Builtin.«frozenset.__iter__»:=entryFor_alias (id':="frozenset.__iter__") (by kernel_rfl) rfl (by decide +kernel) (by kernel_rfl)
theorem xg(a:Value):argsOk "set.__iter__" ⟨[a],[]⟩:=by unfold argsOk;kernel_rfl
theorem slot_si_next:Slot "set_iterator" "__next__" "set_iterator.__next__":=
 .of (owner:="set_iterator") (n:="__next__") (by rw [typeLookup_type,builtinLookup_eq_fast];kernel_rfl) (by decide +kernel) (by decide +kernel) (by decide +kernel)
  (by first | exact .inl (by decide +kernel) | exact .inr (by decide +kernel)) (by rw [isSubtype_type];kernel_rfl)
theorem zw:entryFor table "set_iterator.__next__"=some Builtin.«set_iterator.__next__»:=entryFor_of_tree (by kernel_rfl)
theorem yI(a:Value):argsOk "set_iterator.__next__" ⟨[a],[]⟩:=by unfold argsOk;kernel_rfl
theorem yo:Slot "set_iterator" "__iter__" "set_iterator.__iter__":=
 .of (owner:="set_iterator") (n:="__iter__") (by rw [typeLookup_type,builtinLookup_eq_fast];kernel_rfl) (by decide +kernel) (by decide +kernel) (by decide +kernel)
  (by first | exact .inl (by decide +kernel) | exact .inr (by decide +kernel)) (by rw [isSubtype_type];kernel_rfl)
theorem vM:entryFor table "set_iterator.__iter__"=some Builtin.«dict_keyiterator.__iter__»:=entryFor_alias (id':="dict_keyiterator.__iter__") (by kernel_rfl) rfl (by decide +kernel) (by kernel_rfl)
theorem uV(a:Value):argsOk "set_iterator.__iter__" ⟨[a],[]⟩:=by unfold argsOk;kernel_rfl
noncomputable def IsSI(h:Heap)(it a:Addr)(slot i n ep:Nat):Prop:=∃ o,h.get? it=some o/\o.cls=.type "set_iterator"/\o.data=.fields #[.int slot 0,.int i 0,.ref a,.int n 0,.int ep 0]
noncomputable def SetAt(h:Heap)(a:Addr)(es:Array (Int × Value))(ep:Nat)(t:SetTable):Prop:=∃ o,h.get? a=some o/\o.ExactSet/\o.data=.set es ep t
theorem uk{α:Type}:∀ (l:List α) (k:Nat) (h:k<l.length),(l[k]::l.eraseIdx k).Perm l
 | x::l,0,_=>.refl _
 | x::l,k+1,h=>by
  rw [List.eraseIdx_cons_succ,List.getElem_cons_succ]
  exact (List.Perm.swap x _ _).trans (List.Perm.cons x (uk l k (Qb h)))
theorem zdg{α:Type}(next:Nat->Nat):∀ (fuel k:Nat) (left:List α) (out:Array α),left.length=fuel->(pickOrder.go next fuel k left out).toList.Perm (out.toList++left)
 | 0,k,left,out,h=>by
  rw [KZ.mp h,JR]
  exact .refl _
 | fuel+1,k,left,out,h=>by
  have hlt:next k % left.length<left.length:=Qa _ (by omega)
  unfold pickOrder.go
  rw [Jd hlt]
  dsimp only
  refine (zdg next fuel (k+1) _ _ (by rw [List.length_eraseIdx_of_lt hlt];omega)).trans ?_
  rw [Kz,JC]
  refine Qy _ ?_
  rw [List.singleton_append]
  exact uk _ _ hlt
theorem zes{α:Type}(next:Nat->Nat)(xs:Array α):(pickOrder next xs).toList.Perm xs.toList:=by
 have:=zdg next xs.size 0 xs.toList #[] (by rw [Jg])
 simpa [pickOrder] using this
section
variable {prog:Program} {w:World} {A:Around} {E:Value->Shared->Prop} {s:Shared} {a:Addr} {es:Array (Int × Value)} {ep:Nat} {t:SetTable}
noncomputable def yV(w:World)(a:Addr)(es:Array (Int × Value))(ep:Nat):Array (Int × Value):=if w.params.followText "set-order"=true then pickOrder (w.params.setOrder a ep) es else es
theorem its_perm:(yV w a es ep).toList.Perm es.toList:=by
 unfold yV
 split
 ·exact zes _ _
 ·exact .refl _
theorem xE:(yV w a es ep).size=es.size:=by
 have:=(its_perm (w:=w) (a:=a) (es:=es) (ep:=ep)).length_eq
 rw [Jg,Jg] at this
 exact this
noncomputable def zU(w:World)(t:SetTable):Nat->Nat
 | 0=>0
 | i+1=>if w.params.followText "set-order"=true then 0 else t.place.getD i 0+1
theorem zcH(g:Tab.Good t n led)(hw:¬ w.params.followText "set-order"=true)(hi:i≤n):SetTable.below t.place (zU w t i)=i:=by
 obtain ⟨b1,b2,b3⟩:=Tab.below_ok g.rise (zU w t i)
 have hsz:=g.size
 cases i with
 | zero=>
  refine Nat.le_zero.mp (Qz fun h=>?_)
  have h0:0<t.place.size:=by omega
  have:=b2 0 _ h (getElem?_pos t.place 0 h0)
  exact Kh _ this
 | succ i=>
  have e:zU w t (i+1)=t.place.getD i 0+1:=if_neg hw
  have hi':i<t.place.size:=by omega
  have eg:t.place.getD i 0=t.place[i]:=by simp [Array.getD,hi']
  rw [e,eg] at b1 b2 b3 ⊢
  generalize hb:SetTable.below t.place (t.place[i]+1)=b at b1 b2 b3 ⊢
  have h1:i<b:=Nat.lt_of_not_le fun h=>by
   have:=b3 i _ h (getElem?_pos t.place i hi')
   omega
  refine Nat.le_antisymm (Qz fun h=>?_) h1
  have hi2:i+1<t.place.size:=by omega
  have h2:=b2 (i+1) _ h (getElem?_pos t.place (i+1) hi2)
  have h3:=JZ.mp g.rise i (i+1) (by rw [Jg];exact hi') (by rw [Jg];exact hi2) (Qj i)
  rw [Kt,Kt] at h3
  omega
theorem zaZ{Q:Option (Value × Nat)->Shared->Prop}(hl:led=!w.params.followText "set-order")(hA:SetAt s.heap a es ep t)(g:Tab.Good t es.size led)(hi:i≤es.size)
  (h:Q ((yV w a es ep)[i]?.map fun e=>(e.2,zU w t (i+1))) s):wpAny (model prog w) A (setNext a (zU w t i) i ep) Q E s:=by
 obtain ⟨o,ho,hex,hd⟩:=hA
 unfold setNext
 refine wpAny_bind (wpAny_setState_of ho hd g.fits ?_)
 dsimp only
 unfold setsByText
 refine wpAny_bind (wpAny_bind (wpAny_askSetting (wpAny_pure ?_)))
 show wpAny _ _ (if w.params.followText "set-order"=true then _ else _) _ _ _
 by_cases hw:w.params.followText "set-order"=true
 ·rw [if_pos hw]
  rw [if_neg (by simp)]
  unfold setWalk
  refine wpAny_bind (wpAny_bind (wpAny_setState_of ho hd g.fits ?_))
  dsimp only
  unfold setsByText
  refine wpAny_bind (wpAny_bind (wpAny_askSetting (wpAny_pure ?_)))
  show wpAny _ _ (if w.params.followText "set-order"=true then _ else _) _ _ _
  rw [if_pos hw]
  refine wpAny_bind (wpAny_askSetting (wpAny_pure (wpAny_pure ?_)))
  have e1:yV w a es ep=pickOrder (w.params.setOrder a ep) es:=if_pos hw
  have e2:zU w t i=zU w t (i+1):=by
   have e3:∀ j,zU w t (j+1)=0:=fun j=>if_pos hw
   cases i with
   | zero=>rw [e3];rfl
   | succ i=>rw [e3,e3]
  rw [e1,← e2] at h
  exact h
 ·rw [if_neg hw]
  have hp:=g.plain
  have hled:t.led=true:=by rw [g.led,hl,Bool.eq_false_iff.mpr hw];rfl
  refine wpAny_ite_split (fun hc=>?_) (fun _=>?_)
  ·have:(!t.plain && decide (es.size > 1))=true:=hc
   rw [hp] at this
   cases this
  ·refine wpAny_bind ?_
   show wpAny _ _ (if (!t.led && !es.isEmpty)=true then unsupported "set:maker-not-led" else pure ()) _ _ _
   rw [hled]
   refine wpAny_pure (wpAny_pure ?_)
   have e1:yV w a es ep=es:=if_neg hw
   rw [e1] at h
   rw [zcH g hw hi]
   by_cases hlt:i<es.size
   ·have hlt':i<t.place.size:=by rw [g.size];exact hlt
    have e2:zU w t (i+1)=t.place[i]+1:=by
     refine (if_neg hw).trans ?_
     simp [Array.getD,hlt']
    rw [e2] at h
    rw [getElem?_pos es i hlt] at h ⊢
    rw [getElem?_pos t.place i hlt']
    exact h
   ·rw [getElem?_neg es i hlt] at h ⊢
    exact h
theorem IsSI.typeIs(x:IsSI s.heap it a slot i n ep):s.TypeIs (.ref it) "set_iterator":=let ⟨o,ho,hc,_⟩:=x;⟨o,ho,hc⟩
theorem zgX{Q:Value->Shared->Prop}(hl:led=!w.params.followText "set-order")(hA:SetAt s.heap a es ep t)(g:Tab.Good t es.size led)
  (hQ:Q (.ref s.heap.objs.size) { s with heap:=s.heap.push { cls:=.type "set_iterator",data:=.fields #[.int 0 0,.int 0 0,.ref a,.int es.size 0,.int ep 0] } }):
  wpAny (model prog w) A (pyIter (.ref a)) Q E s:=by
 obtain ⟨o,ho,hex,hd⟩:=id hA
 have hT:s.TypeIs (.ref a) "set":=⟨o,ho,hex.1⟩
 refine wpAny_pyIter_slot hT zv (wpAny_call_entry zv hT xK ?_ (xg _))
 unfold Builtin.«frozenset.__iter__» Builtin.Frozenset.slot0 slotArgs
 simp only [List.isEmpty_nil,Bool.not_true,Bool.false_eq_true,↓reduceIte,bind_assoc,List.length_nil,bne_self_eq_false]
 unfold Builtin.Frozenset.addrOf Builtin.Frozenset.sizeOf setEntries setDrawn setsByText
 refine wpAny_bind (wpAny_pure ?_)
 refine wpAny_bind (wpAny_pure ?_)
 refine wpAny_bind (wpAny_bind (wpAny_bind (wpAny_setState_of ho hd g.fits (wpAny_pure (wpAny_pure ?_)))))
 refine wpAny_bind (wpAny_bind (wpAny_setState_of ho hd g.fits ?_))
 dsimp only
 refine wpAny_bind (wpAny_bind (wpAny_askSetting (wpAny_pure (wpAny_pure ?_))))
 refine wpAny_ite_split (fun hc=>?_) (fun _=>?_)
 ·have h2:=(QA.mp hc).2
  have h3:(!t.plain && decide (es.size > 1))=true:=h2
  rw [g.plain] at h3
  cases h3
 ·refine wpAny_bind (wpAny_pure ?_)
  refine wpAny_bind (wpAny_setEpoch_of ho hd g.fits ?_)
  refine wpAny_bind (wpAny_newObj_type (wpAny_pure ⟨_,rfl,"set_iterator",_,⟨_,Jl _ rfl,rfl⟩,slot_si_next.lookup,?_⟩))
  exact hQ
theorem zaH{Q:Value->Shared->Prop}(hit:IsSI s.heap it a slot i n ep)(h:Q (.ref it) s):wpAny (model prog w) A (pyIter (.ref it)) Q E s:=by
 refine wpAny_pyIter_slot hit.typeIs yo (wpAny_call_entry yo hit.typeIs vM ?_ (uV _))
 show wpAny _ _ (ret (.ref it)) _ _ s
 exact wpAny_pure ⟨_,rfl,"set_iterator",_,hit.typeIs,slot_si_next.lookup,h⟩
theorem zgY{Q:Option Value->Shared->Prop}(hl:led=!w.params.followText "set-order")(hit:IsSI s.heap it a (zU w t i) i es.size ep)(hA:SetAt s.heap a es ep t)(g:Tab.Good t es.size led){x:Int × Value}(hx:(yV w a es ep)[i]?=some x)
  (hQ:∀ h',IsSI h' it a (zU w t (i+1)) (i+1) es.size ep->Heap.SameBut it s.heap h'->Q (some x.2) { s with heap:=h' }):wpAny (model prog w) A (pyNext (.ref it)) Q E s:=by
 obtain ⟨o,ho,hc,hd⟩:=id hit
 obtain ⟨oa,hoa,hexa,hda⟩:=id hA
 have hlt:i<es.size:=by
  rw [← xE (w:=w) (a:=a) (ep:=ep)]
  exact (Ju.mp hx).1
 unfold pyNext
 refine wpAny_bind (wpAny_attempt (wpAny_callSpecial?_slot (name:=Str.ofString "__next__") hit.typeIs slot_si_next
  (wpAny_call_entry slot_si_next hit.typeIs zw ?_ (yI _))))
 unfold Builtin.«set_iterator.__next__»
 refine wpAny_bind (wpAny_pure ?_)
 refine wpAny_bind (wpAny_fieldsOf ho hd ?_)
 dsimp only
 unfold setEntries
 refine wpAny_bind (wpAny_bind (wpAny_setState_of hoa hda g.fits (wpAny_pure ?_)))
 refine wpAny_ite_split (fun hcc=>?_) (fun _=>?_)
 ·simp at hcc
 ·simp only [Int.toNat_natCast]
  refine wpAny_bind (zaZ hl hA g (Nat.le_of_lt hlt) ?_)
  rw [hx]
  show wpAny _ _ (setField (.ref it) 0 (rawInt (zU w t (i+1):Nat)) >>= _) _ _ _
  refine wpAny_bind (wpAny_setField ho hd (by simp) ?_)
  have ho1:=JT (Obj.mapFields (·.setIfInBounds 0 (rawInt (zU w t (i+1):Nat)))) ho (KQ (Ks hd _))
  have hd1:=Ks hd (·.setIfInBounds 0 (rawInt (zU w t (i+1):Nat)))
  refine wpAny_bind (wpAny_setField (s:={ s with heap:=s.heap.update it (Obj.mapFields (·.setIfInBounds 0 (rawInt (zU w t (i+1):Nat)))) }) ho1 hd1 (by simp) ?_)
  have ho2:=JT (Obj.mapFields (·.setIfInBounds 1 (rawInt ((i:Int)+1)))) ho1 (KQ (Ks hd1 _))
  refine wpAny_pure ⟨_,rfl,wpAny_pure (hQ _ ⟨_,ho2,(Obj.cls_mapFields ..).trans ((Obj.cls_mapFields ..).trans hc),by rw [Obj.data_mapFields hd1];simp [rawInt]⟩ ((Heap.SameBut.update ..).trans (Heap.SameBut.update ..)))⟩
theorem zjB{Q:Option Value->Shared->Prop}(hh:A.handled=none)(hl:led=!w.params.followText "set-order")(hit:IsSI s.heap it a (zU w t i) i es.size ep)(hA:SetAt s.heap a es ep t)(g:Tab.Good t es.size led)(hi:i=es.size)
  (hQ:∀ h',Heap.ExtBut it s.heap h'->Q none { s with heap:=h' }):wpAny (model prog w) A (pyNext (.ref it)) Q E s:=by
 obtain ⟨o,ho,hc,hd⟩:=id hit
 obtain ⟨oa,hoa,hexa,hda⟩:=id hA
 unfold pyNext
 refine wpAny_bind (wpAny_attempt (wpAny_callSpecial?_slot (name:=Str.ofString "__next__") hit.typeIs slot_si_next
  (wpAny_call_entry slot_si_next hit.typeIs zw ?_ (yI _))))
 unfold Builtin.«set_iterator.__next__»
 refine wpAny_bind (wpAny_pure ?_)
 refine wpAny_bind (wpAny_fieldsOf ho hd ?_)
 dsimp only
 unfold setEntries
 refine wpAny_bind (wpAny_bind (wpAny_setState_of hoa hda g.fits (wpAny_pure ?_)))
 refine wpAny_ite_split (fun hcc=>?_) (fun _=>?_)
 ·simp at hcc
 ·simp only [Int.toNat_natCast]
  refine wpAny_bind (zaZ hl hA g (Nat.le_of_eq hi) ?_)
  rw [getElem?_neg _ i (by rw [xE];omega)]
  show wpAny _ _ (setField (.ref it) 2 .none >>= _) _ _ _
  refine wpAny_bind (wpAny_setField ho hd (by simp) ?_)
  show wpAny _ _ (newExc (.type "StopIteration") [] >>= _) _ _ _
  refine wpAny_bind ?_
  simp only [newExc,newTuple]
  refine wpAny_bind (wpAny_newObj_type ?_ (by size_fits))
  refine wpAny_bind (m:=firstArgMember _ _) (wpAny_of_eq (a:=Value.none) (by first | rfl | (simp only [firstArgMember];rfl)) ?_)
  refine wpAny_newObj_type ?_ (by size_fits)
  simp only [raiseNew]
  refine wpAny_bind (wpAny_handled ?_)
  rw [show A.in1.handled=none from hh]
  refine wpAny_bind (wpAny_pure (wpAny_throw ?_))
  refine wpAny_bind (wpAny_isInstance (T:="StopIteration") (b:=true) ⟨_,Jl _ rfl,rfl⟩ isSubtype_stop ?_)
  exact wpAny_pure (hQ _ (((KI ..).extBut.push _).push _))
theorem SetAt.at{h h':Heap}(x:SetAt h a es ep t)(e:∀ o,h.get? a=some o->h'.get? a=some o):SetAt h' a es ep t:=let ⟨o,ho,r⟩:=x;⟨o,e _ ho,r⟩
theorem IsSI.at{h h':Heap}(x:IsSI h it a slot i n ep)(e:∀ o,h.get? it=some o->h'.get? it=some o):IsSI h' it a slot i n ep:=let ⟨o,ho,r⟩:=x;⟨o,e _ ho,r⟩
theorem zdT(hh:A.handled=none)(hl:led=!w.params.followText "set-order")(g:Tab.Good t es.size led)(I:Addr)(hne:a≠I):
  PySem.Walks prog w A I [I,a] [I] es.size (fun i v=>∃ x,(yV w a es ep)[i]?=some x/\v=x.2) (fun i h=>IsSI h I a (zU w t i) i es.size ep/\SetAt h a es ep t) where
 sub:=fun b hb=>by simp at hb;simp [hb]
 frame:=fun _ _ _ st hk=>⟨st.1.at fun o e=>hk I (by simp) o e,st.2.at fun o e=>hk a (by simp) o e⟩
 item:=fun i s Q E hi st hQ=>by
  have hi':i<(yV w a es ep).size:=by rw [xE];exact hi
  refine zgY hl st.1 st.2 g (getElem?_pos _ i hi') fun h' hit' hs'=>?_
  exact hQ _ h' s.toks ⟨_,getElem?_pos _ i hi',rfl⟩ ⟨hit',st.2.at fun o e=>by rw [hs'.2 a hne];exact e⟩ fun b o hb e=>hs'.extBut b o (fun h=>hb (by simp [h])) e
 done:=fun s Q E st hQ=>zjB hh hl st.1 st.2 g rfl fun h' he'=>hQ h' s.toks fun b o hb e=>he' b o (fun h=>hb (by simp [h])) e
 self:=fun _ _ _ _ st hQ=>zaH st.1 hQ
theorem j6{Q:Bool->Shared->Prop}(hT:s.TypeIs (.ref r) "set")(h:Q false s):wpAny (model prog w) A (Builtin.List.listLengthHint (.ref r)) Q E s:=by
 unfold Builtin.List.listLengthHint
 refine wpAny_bind (wpAny_specialOf hT PySem.F.slot_set_len.lookup ?_)
 generalize hid:("set.__len__":String)=id0
 wp_delta
 rw [show splitId id0=some ("set","__len__") from by subst hid;decide +kernel]
 subst hid
 refine wpAny_bind (wpAny_isInstance (T:="set") (b:=true) hT (by rw [isSubtype_type];kernel_rfl) ?_)
 refine wpAny_ite_split (fun hab=>absurd hab (by decide)) (fun _=>?_)
 refine wpAny_ite_split (fun _=>?_) (fun hab=>absurd (by decide +kernel) hab)
 refine wpAny_bind (wpAny_typeOf hT ?_)
 exact wpAny_pure h
theorem ziC(hl:led=!w.params.followText "set-order")(g:Tab.Good t es.size led):KdlSrc prog w "set" a a es.size (fun i v=>∃ x,(yV w a es ep)[i]?=some x/\v=x.2) (fun h=>SetAt h a es ep t) where
 type:=fun _ ⟨o,ho,hex,_⟩=>⟨o,ho,hex.1⟩
 there:=fun _ ⟨o,ho,_⟩=>⟨Ji ho,Ji ho⟩
 keep:=fun _ _ hm hk=>hm.at fun o e=>hk a (.inl rfl) o e
 notList:=by decide
 notTuple:=by decide
 hint:=fun _ _ _ _ ⟨o,ho,hex,_⟩ hq=>j6 ⟨o,ho,hex.1⟩ hq
 iter:=fun _ s hh hm=>⟨_,_,(fun _ _ hq=>zgX hl hm g hq),zdT hh hl g _ (Jx (let ⟨o,ho,_⟩:=hm;Ji ho)),⟨⟨_,Jl _ rfl,rfl,rfl⟩,hm.at fun o e=>Jb _ e⟩⟩
end
end F
namespace L2
open PySem PySem.Spec PyProof.Rows F
end L2
namespace F
open PySem PySem.Spec PyProof.Rows L2
end F
namespace L2
open PySem PySem.Spec PyProof.Rows PySem.W
end L2
namespace F
open PySem PySem.Spec PyProof.Rows L2
noncomputable def GC(K:PySem.W.Frag)(mg:Str->Option Value)(x:Str)(p:PV):Prop:=∃ a,mg x=some (.ref a)/\∀ H,Rp K H p (.ref a) []
theorem zmG{X:Cx}(hg:Gl X x)(h:GC X.K X.mg x p)(hd:(x == ("__debug__":Str))=false:=by decide):VE X κ G (.mv []) (.Name x pos) (fC p):=by
 obtain ⟨a,hm,hr⟩:=h
 refine (zdi hg hm (v:=.ref a) rfl hd).imp fun σ H Q hq_=>?_
 refine hq_.elim fun own env q I hf k=>?_
 cases hf
 exact k _ H [] (Same.refl _) (hr H) (Cat.nil _ _ _)
end F
namespace HT
open PySem PySem.Spec PyProof.Rows
end HT
namespace L2
open PySem PySem.Spec PyProof.Rows
end L2
namespace F
open PySem PySem.Spec PyProof.Rows L2
section
variable {X:Cx} {κ:Nat->Option Nat} {G:Hp} {O:List Nat} {st:Stmt} {es:List Expr} {pos:Pos}
noncomputable def zpz(O':List Nat)(own:Addr->Option Nat):Addr->Option Nat:=fun a=>(own a).bind fun l=>if l ∈ O' then some l else none
end
end F
namespace F
open PySem PySem.Spec PyProof.Rows L2 PySem.W
inductive Df (K:PySem.W.Frag) (x:Str) (st:Stmt):Prop
 | mk {f:Addr} {oc:Value} {od:Option Addr} {kV dc pm:Value} {an:Option Addr} {cd ct:Value} {sl:Array (Option Value)} (a:nsIn K mainGlobals x=some (some (.ref f))) (l:K.lookup f=some ⟨oc,od,.func (fnOf x x (wE st) (yr st) (zH st) .none kV dc pm an cd ct),sl⟩) (c:codeIn K cd x=true) (k:keepIn K (.ref f)=true):Df K x st
theorem Df.fn{P:Program}{w:World}{K:PySem.W.Frag}{h:Heap}{mg:Str->Option Value}{base:Heap}{x:Str}{st:Stmt}{k:Nat}{ps:List Str}{sp:Sp}(d:Df K x st)(X:K.In h)(G:h.Ns mainGlobals mg)(ok:∀ f fd,Fun K x x st f fd->FnOk P w K mg base CX0 k f fd ps sp)
  (hb:∀ (kV doc pm:Value) (an:Option Addr) (cdv ct:Value) (us:List Value),us.length=ps.length->bindArgs (PySem.W.fnOf x x (wE st) (yr st) (zH st) .none kV doc pm an cdv ct) ⟨us,[]⟩=pure (ps.zip us)):Fn P w K mg base x k ps sp:=by
 obtain ⟨a,l,c,k⟩:=d
 have F:=zhh (st:=st) l c k
 exact ⟨_,_,ok _ _ F,mg_of X G a,k,F.binds hb⟩
end F
namespace L2
open PySem PySem.Spec PyProof.Rows
theorem zln{X:Cx}(F:Fn X.prog X.w X.K X.mg X.base x k ps sp)(hr:Room k X.A)(hg:Gl X x)(hdb:(x == ("__debug__":Str))=false:=by decide):
  PE X (.Call (.Name x p) [] [] pos) (zcW sp [] E0 zef):=by
 obtain ⟨f,fd,F,hm,hk,hb⟩:=F.ex
 exact zgt F hr hg hm hk hb .nil zjU hdb
end L2
namespace F
open PySem PySem.Spec PyProof.Rows L2
theorem zfC{X:Cx}(hF:Fn X.prog X.w X.K X.mg X.base x k ps (spV X.K 0 Φ))(hr:Room k X.A)(hg:Gl X x)(hdb:(x == ("__debug__":Str))=false:=by decide):
  VE X κ G (.mv []) (.Call (.Name x p) [] [] pos) (zI Φ zE):=(zln hF hr hg hdb).imp fun σ H Q hq_=>by
 refine hq_.elim fun own env z I hf k=>?_
 have hf':Φ []=some z:=hf
 exact ⟨[],[],z,by unfold Rps;exact ⟨rfl,rfl⟩,rfl,hf',fun v H' C s2 r2 nd fr=>k v H' C s2 r2 ⟨nd,fun a ha=>.inl (fr a ha)⟩⟩
end F
namespace F
open PySem PySem.W PyProof.Rows
section
variable {O:KeyOrd} {key:Nat->O.α} {n:Nat} {α β:Type}
noncomputable def Ans(key:Nat->O.α)(n:Nat):KasT α->(α->Prop)->Prop
 | .ret a,P=>P a
 | .ask i j k,P=>(i<n/\j<n/\i≠j)/\Ans key n (k (O.blt (key i) (key j))) P
noncomputable def Kp(key:Nat->O.α)(p:Array Nat)(i:Nat):O.α:=key (p.getD i 0)
noncomputable def Up(key:Nat->O.α)(p:Array Nat)(k:Nat):Prop:=∀ i j,i≤j->j<k->O.kle (Kp key p i) (Kp key p j)
noncomputable def Dn(key:Nat->O.α)(p:Array Nat)(k:Nat):Prop:=∀ i j,i≤j->j<k->O.kle (Kp key p j) (Kp key p i)
structure Pm (n:Nat) (p:Array Nat):Prop where
 sz:p.size=n
 pm:p.toList.Perm (List.range n)
theorem Up.one{p:Array Nat}:Up key p 1:=fun i j h1 h2=>by
 obtain rfl:i=j:=by omega
 exact Ki _
theorem Up.more(h:Up key p k)(h0:1≤k)(hl:O.kle (Kp key p (k - 1)) (Kp key p k)):Up key p (k+1):=fun i j h1 h2=>by
 rcases Nat.lt_or_ge j k with c | c
 ·exact h i j h1 c
 ·obtain rfl:j=k:=by omega
  rcases Nat.lt_or_ge i j with d | d
  ·exact JL (h i (j - 1) (by omega) (by omega)) hl
  ·obtain rfl:i=j:=by omega
   exact Ki _
theorem Dn.more(h:Dn key p k)(h0:1≤k)(hl:O.kle (Kp key p k) (Kp key p (k - 1))):Dn key p (k+1):=fun i j h1 h2=>by
 rcases Nat.lt_or_ge j k with c | c
 ·exact h i j h1 c
 ·obtain rfl:j=k:=by omega
  rcases Nat.lt_or_ge i j with d | d
  ·exact JL hl (h i (j - 1) (by omega) (by omega))
  ·obtain rfl:i=j:=by omega
   exact Ki _
structure Fall (key:Nat->O.α) (n r:Nat) (x:Array Nat × Nat × Nat):Prop where
 pm:Pm n x.1
 lo:1≤x.2.1
 hi:x.2.1≤r
 dn:Dn key x.1 x.2.1
 q:x.2.2+1≤x.2.1
 eq:∀ i,x.2.1 - (x.2.2+1)≤i->i<x.2.1->Kp key x.1 i=Kp key x.1 (x.2.1 - 1)
theorem Fall.zero(hp:Pm n p)(h1:1≤m)(hm:m≤r)(d:Dn key p m):Fall key n r (p,m,0):=
 ⟨hp,h1,hm,d,h1,fun i a b=>by
  have a':m - 1≤i:=a
  have b':i<m:=b
  obtain rfl:i=m - 1:=by omega
  rfl⟩
end
end F
namespace HT
open PySem PySem.Spec PyProof.Rows
open PySem.AutoSeq1 (wpAny_loadPart')
open PySem.MeetsSeq PySem.MeetsSeq2 PySem.MeetsSeq3
end HT
namespace F
open PySem PySem.Spec PySem.W PyProof.Rows
structure Heads (h:Heap) (a:Addr) (vs:List Value) (hs:List Int):Prop where
 len:vs.length=hs.length
 at':∀ i,i<vs.length->∃ l items t m,vs.getD i Value.none=.ref l/\l≠a/\h.get? l=some { cls:=.type "list",dict:=none,data:=.seq items m,slots:=#[] }/\items[0]?=some (.int (hs.getD i 0) t)
 nd:hs.Nodup
end F
namespace L2
open PySem PySem.Spec PySem.W PyProof.Rows
structure HeadsV (H:Hp) (xs:List V) (hs:List Int):Prop where
 len:xs.length=hs.length
 at':∀ i,i<xs.length->∃ l r,xs[i]?=some (.ref l)/\H l=some (.lst (.int (hs.getD i 0)::r))
 nd:hs.Nodup
theorem kg{qs:List V}{its:List Value}(r:Vals qs its):∀ o:List Nat,(∀ i ∈ o,i<qs.length)->Vals (o.map fun i=>qs.getD i V.non) (o.map fun i=>its.getD i Value.none)
 | [],_=>.nil
 | i::o,h=>by
  have hi:i<qs.length:=h i Jc
  obtain ⟨u,e,ru⟩:=r.get (Jd hi)
  refine .cons ?_ (kg r o fun j hj=>h j (Jf _ hj))
  show RelV (qs.getD i V.non) (its.getD i Value.none)
  rw [JD,JD,e,Jd hi]
  exact ru
end L2
namespace F
open PySem PySem.Spec PyProof.Rows L2
theorem zaK{K:PySem.W.Frag}{H:Hp}{qs:List PV}{xs:List V}{B:List Addr}(r:Rps K H qs xs B):∀ o:List Nat,(∀ i ∈ o,i<qs.length)->∃ C,Rps K H (o.map fun i=>qs.getD i PV.non) (o.map fun i=>xs.getD i V.non) C/\∀ a ∈ C,a ∈ B
 | [],_=>⟨[],.nil,fun _ h=>nomatch h⟩
 | i::o,h=>by
  have hi:i<qs.length:=h i Jc
  obtain ⟨v,C,e,rv,sub⟩:=r.get (Jd hi)
  obtain ⟨D,rD,hD⟩:=zaK r o fun j hj=>h j (Jf _ hj)
  refine ⟨C++D,.cons ?_ rD,fun a ha=>(JK.mp ha).elim (fun z=>sub.subset z) (hD a)⟩
  show Rp K H (qs.getD i PV.non) (xs.getD i V.non) C
  rw [JD,JD,e,Jd hi]
  exact rv
end F
namespace HT
open PySem PySem.Spec PySem.W PyProof.Rows
open PySem.AutoSeq1 (wpAny_loadPart')
end HT
namespace L2
open PySem PySem.Spec PySem.W PyProof.Rows
end L2
namespace F
open PySem PySem.Spec PyProof.Rows L2
end F
namespace L2
open PySem PySem.Spec PySem.W PyProof.Rows
section
variable {X:Cx}
noncomputable def zhT(K:PySem.W.Frag)(H:Hp)(x y:V)(d:PyData)(ds:List PyData):Prop:=Rep K H x d/\(Rep K H y (.list ds)∨Rep K H y (.tuple ds))/\PyData.canLayAll0 ds=true/\d.canLay0=true/\d.depth≤62
noncomputable def znd(K:PySem.W.Frag)(neg:Bool):R2:=fun x y H Q=>∃ d ds,zhT K H x y d ds/\Q (.bl (if neg then !(ds.any fun z=>PyData.eqv z d) else ds.any fun z=>PyData.eqv z d)) H
theorem zdd(hu:u+64<cLine)(h:d≤62):u+1+min k d<cLine:=by have:=Nat.min_le_right k d;omega
open PySem.SeqAt in
theorem zlC(hu:X.A.units+64<cLine):OpR X (compareOp .In) (znd X.K false):=by
 intro pins s σ H x y v u Q I rx ry h
 obtain ⟨d,ds,⟨hd,he,h1,h2,h3⟩,q⟩:=h
 obtain ⟨as,ra⟩:=hd.reads I rx
 rcases he with he | he
 ·obtain ⟨bs,rb⟩:=he.reads I ry
  exact in_list_reads rb ra h1 h2 (zdd hu h3) ⟨.bl _,H,I,rfl,q⟩
 ·obtain ⟨bs,rb⟩:=he.reads I ry
  exact in_tuple_reads rb ra h1 h2 (zdd hu h3) ⟨.bl _,H,I,rfl,q⟩
open PySem.SeqAt in
end
end L2
namespace F
open PySem PySem.Spec PyProof.Rows L2
noncomputable def zju(p:PV)(xs:List PV):Bool:=xY p && (zy p).canLay0 && decide ((zy p).depth≤62) && okPys xs && PyData.canLayAll0 (toPys xs)
noncomputable def inD(p:PV)(xs:List PV):Option Bool:=if zju p xs=true then some ((toPys xs).any fun z=>PyData.eqv z (zy p)) else none
noncomputable def zkC(p:PV):PV->Option Bool
 | .lst xs=>inD p xs
 | .tup xs=>inD p xs
 | _=>none
noncomputable def kj(p q:PV):Option PV:=(zkC p q).map .bl
theorem zlT{K:PySem.W.Frag}{H:Hp}{p q:PV}{x y:V}{A B:List Addr}{b:Bool}(r1:Rp K H p x A)(r2:Rp K H q y B)(e:zkC p q=some b):∃ d ds,zhT K H x y d ds/\(b=ds.any fun z=>PyData.eqv z d):=by
 have key:∀ xs,inD p xs=some b->(okPys xs=true->Rep K H y (.list (toPys xs))∨Rep K H y (.tuple (toPys xs)))->∃ d ds,zhT K H x y d ds/\(b=ds.any fun z=>PyData.eqv z d):=fun xs h hr=>by
  unfold inD at h
  split at h
  case isFalse=>cases h
  rename_i hc
  cases h
  unfold zju at hc
  simp only [Bool.and_eq_true,decide_eq_true_eq] at hc
  obtain ⟨⟨⟨⟨h1,h2⟩,h3⟩,h4⟩,h5⟩:=hc
  exact ⟨_,_,⟨Rp.rep p h1 r1,hr h4,h5,h2,h3⟩,rfl⟩
 unfold zkC at e
 split at e
 ·rename_i xs
  exact key xs e fun h=>.inl (by have:=Rp.rep (.lst xs) (by unfold xY;exact h) r2;unfold zy at this;exact this)
 ·rename_i xs
  exact key xs e fun h=>.inr (by have:=Rp.rep (.tup xs) (by unfold xY;exact h) r2;unfold zy at this;exact this)
 ·cases e
theorem zlu{K:PySem.W.Frag}:OpV K (znd K false) kj:=by
 intro H p q x y A B z Q r1 r2 e k
 unfold kj at e
 obtain ⟨b,hb,rfl⟩:=JA.mp e
 obtain ⟨d,ds,h,rfl⟩:=zlT r1 r2 hb
 exact ⟨d,ds,h,k _ H [] (Same.refl _) (.mkB _) .nil (by simp)⟩
end F
namespace F
open PySem PySem.Spec PyProof.Rows
namespace Tab
noncomputable def adv(t:SetTable):Nat->SetTable.Probe->SetTable.Probe
 | 0,P=>P
 | n+1,P=>adv t n (t.advance P)
noncomputable def In(t:SetTable)(P:SetTable.Probe):Prop:=P.j+P.more≤t.mask/\P.dummy=none
theorem In.next{t:SetTable}(h:In t P):In t (t.advance P):=by
 unfold SetTable.advance
 split
 ·rename_i hm
  exact ⟨by show P.j+1+(P.more - 1)≤t.mask;have:=h.1;omega,h.2⟩
 ·have hi:(SetTable.leap t.mask P.i P.perturb).1≤t.mask:=Kg (Qa _ (Kn _))
  have hr:=yu hi
  exact ⟨by show (SetTable.leap t.mask P.i P.perturb).1+(SetTable.runEnd t.mask (SetTable.leap t.mask P.i P.perturb).1 - (SetTable.leap t.mask P.i P.perturb).1)≤t.mask;omega,h.2⟩
theorem In.start(t:SetTable)(h:Int):In t (t.probeStart h):=by
 have hi:SetTable.bits h % (t.mask+1)≤t.mask:=Kg (Qa _ (Kn _))
 have hr:=yu hi
 exact ⟨by show SetTable.bits h % (t.mask+1)+(SetTable.runEnd t.mask (SetTable.bits h % (t.mask+1)) - SetTable.bits h % (t.mask+1))≤t.mask;omega,rfl⟩
section
variable {t:SetTable} {h:Int}
theorem zdn{hashAt:Nat->Int}(hd:t.dummies=#[]):∀ (fuel:Nat) (P:SetTable.Probe) {j:Nat} {d:Option Nat},SetTable.probe.go t hashAt h fuel P=some (.empty j d)->∃ m,m<fuel/\t.slot (adv t m P).j=.empty
 | 0,P,j,d,e=>nomatch e
 | f+1,P,j,d,e=>by
  rw [uI] at e
  cases hs:t.slot P.j with
  | empty=>exact ⟨0,Kn _,hs⟩
  | dummy=>exact absurd hs (yz hd _)
  | live i=>
   rw [hs] at e
   dsimp only at e
   split at e
   ·cases e
   ·obtain ⟨m,h1,h2⟩:=zdn hd f _ e
    exact ⟨m+1,Nat.succ_lt_succ h1,h2⟩
theorem zjg(g:Good t n led)(h:Int):∃ m,m<10 * SetTable.turns t.mask/\t.slot (adv t m (t.probeStart h)).j=.empty:=by
 obtain ⟨j0,h0,h1⟩:=zoS t.mask t.place.toList g.rise (by rw [Jg,g.size];exact g.room)
 have hi:SetTable.bits h % (t.mask+1)≤t.mask:=Kg (Qa _ (Kn _))
 obtain ⟨m,hm,e⟩:=g.full.leaps (j:=j0) hi (zdM h) h0
 obtain ⟨j,e1,e2,e3⟩:=zgi (t:=t) (hashAt:=fun _=>h+1) (h:=h) g.dm (fun _=>beq_eq_false_iff_ne.mpr (by omega)) (jV g.dm h1) m (10 * SetTable.turns t.mask) (t.probeStart h) rfl rfl hi (by omega) e
 exact zdn g.dm _ _ e1
inductive Meet (t:SetTable) (m:Nat) (P:SetTable.Probe):Option SetTable.Met->Prop
 | empty (j:Nat):t.slot j=.empty->j≤t.mask->Meet t m P (some (.empty j none))
 | cand (j i k:Nat) (next:SetTable.Probe):t.slot j=.live i->k<m->In t next->t.slot (adv t k next).j=.empty->Meet t m P (some (.candidate j i next))
theorem zdz{hashAt:Nat->Int}(hd:t.dummies=#[]):∀ (m fuel:Nat) (P:SetTable.Probe),m<fuel->In t P->t.slot (adv t m P).j=.empty->Meet t m P (SetTable.probe.go t hashAt h fuel P)
 | m,0,P,hf,_,_=>absurd hf (Kh _)
 | m,f+1,P,hf,hi,hm=>by
  rw [uI]
  cases hs:t.slot P.j with
  | empty=>
   dsimp only
   rw [hi.2]
   exact .empty P.j hs (by have:=hi.1;omega)
  | dummy=>exact absurd hs (yz hd _)
  | live i=>
   dsimp only
   cases m with
   | zero=>
    have:t.slot P.j=.empty:=hm
    rw [hs] at this;cases this
   | succ m=>
    split
    ·exact .cand P.j i m _ hs (Qj _) hi.next hm
    ·have:=zdz (hashAt:=hashAt) hd m f (t.advance P) (Qb hf) hi.next hm
     generalize SetTable.probe.go t hashAt h f (t.advance P)=r at this
     cases this with
     | empty j h1 h2=>exact .empty j h1 h2
     | cand j i k next h1 h2 h3 h4=>exact .cand j i k next h1 (by omega) h3 h4
theorem zbT(hd:t.dummies=#[])(e:t.probe hashAt h P=r)(hm:m<10 * SetTable.turns t.mask)(hi:In t P)(hs:t.slot (adv t m P).j=.empty):Meet t m P r:=by
 rw [← e]
 exact zdz hd m _ P hm hi hs
theorem probe_some(hd:t.dummies=#[])(hm:m<10 * SetTable.turns t.mask)(hi:In t P)(hs:t.slot (adv t m P).j=.empty):∃ met,t.probe hashAt h P=some met:=by
 have:=zbT (h:=h) (hashAt:=hashAt) hd rfl hm hi hs
 generalize t.probe hashAt h P=r at this
 cases this with
 | empty j h1 h2=>exact ⟨_,rfl⟩
 | cand j i k next h1 h2 h3 h4=>exact ⟨_,rfl⟩
theorem zel(g:Good t n led)(h:t.slot j=.live i):i<n:=by
 unfold SetTable.slot at h
 dsimp only at h
 split at h
 ·rename_i hc
  cases h
  have e:=beq_iff_eq.mp hc
  obtain ⟨h1,_⟩:=Ju.mp e
  rw [← g.size];exact h1
 ·split at h<;>cases h
end
end Tab
noncomputable def ElT(prog:Program)(w:World)(h:Heap)(e:Int × Value):Prop:=∃ b k,e.2=.ref b/\IsTupleKey (intKind prog w) h k b/\e.1=tupleKeyHash (intKind prog w) k
structure SetTt (prog:Program) (w:World) (h:Heap) (es:Array (Int × Value)) (t:SetTable) (L:List Value) (led:Bool):Prop where
 el:∀ e ∈ es.toList,ElT prog w h e
 perm:(es.toList.map (·.2)).Perm L
 good:Tab.Good t es.size led
 mask:t.mask=7∨t.mask=31∨t.mask=127
 nf:es.size * 5<t.mask * 3
noncomputable def zpJ(prog:Program)(w:World)(h:Heap)(a:Addr)(L:List Value)(led:Bool):Prop:=∃ o es ep t,h.get? a=some o/\o.ExactSet/\o.data=.set es ep t/\SetTt prog w h es t L led
section
variable {prog:Program} {w:World} {A:Around} {E:Value->Shared->Prop} {s:Shared}
structure Tups (prog:Program) (w:World) (h0:Heap) (n:Nat) (ad:Nat->Addr) (key:Nat->List Int) (wr:List Addr):Prop where
 at':∀ i,i<n->IsTupleKey (intKind prog w) h0 (key i) (ad i)
 out:∀ i,i<n->ad i ∉ wr
 ne:∀ i j,i<j->j<n->key i≠key j
noncomputable def tl(ad:Nat->Addr)(n:Nat):List Value:=(List.range n).map fun j=>.ref (ad j)
end
end F
namespace F
open PySem PySem.Spec PySem.W PyProof.Rows
noncomputable def plt(a b:Int × Int):Prop:=a.1<b.1∨a.1=b.1/\a.2<b.2
instance (a b:Int × Int):Decidable (plt a b):=by unfold plt;infer_instance
structure PairsAt (h:Heap) (a:Addr) (vs:List Value) (ks:List (Int × Int)):Prop where
 len:vs.length=ks.length
 at':∀ i,i<vs.length->∃ l o items m t u,vs.getD i Value.none=.ref l/\l≠a/\h.get? l=some o/\o.cls=.type "tuple"/\o.data=.seq items m/\items.toList=[.int (ks.getD i (0,0)).1 t,.int (ks.getD i (0,0)).2 u]
 nd:ks.Nodup
end F
namespace F
theorem zaN{α:Type}(d:α)(ks:List α):(List.range ks.length).map (ks.getD · d)=ks:=by
 apply List.ext_getElem
 ·simp
 ·intro i h1 h2
  simp [List.getD,h2]
end F
namespace L2
open PySem PySem.Spec PySem.W PyProof.Rows F
theorem zcN:∀ {xs:List V} {its:List Value},Vals xs its->∀ i,i<xs.length->RelV (xs.getD i .non) (its.getD i Value.none)
 | _,_,.nil,i,h=>absurd h (Kh _)
 | _::_,_::_,.cons r _,0,_=>r
 | _::xs,_::us,.cons _ t,i+1,h=>zcN (xs:=xs) (its:=us) t i (Qb h)
noncomputable def adV(xs:List V)(i:Nat):Addr:=match xs.getD i .non with | .ref a=>a | _=>0
end L2
namespace F
open PySem PySem.Spec PyProof.Rows L2
namespace Tab
noncomputable def GoodN(t:SetTable)(n:Nat)(led:Bool):Prop:=Good { t with plain:=true } n led
section
variable {t:SetTable} {n:Nat} {led:Bool}
theorem GoodN.fits(g:GoodN t n led):t.fits n=true:=Good.fits (t:={ t with plain:=true }) g
theorem GoodN.dm(g:GoodN t n led):t.dummies=#[]:=Good.dm (t:={ t with plain:=true }) g
theorem GoodN.ledd(g:GoodN t n l):t.led=l:=Good.led (t:={ t with plain:=true }) g
theorem GoodN.size(g:GoodN t n led):t.place.size=n:=Good.size (t:={ t with plain:=true }) g
theorem GoodN.live(g:GoodN t n led)(h:t.slot j=.live i):i<n:=zel (t:={ t with plain:=true }) g h
theorem qL:∀ (m:Nat) (P:SetTable.Probe),adv { t with plain:=true } m P=adv t m P
 | 0,P=>rfl
 | m+1,P=>qL m (t.advance P)
theorem GoodN.near(g:GoodN t n led)(h:Int):∃ m,m<10 * SetTable.turns t.mask/\t.slot (adv t m (t.probeStart h)).j=.empty:=by
 obtain ⟨m,h1,h2⟩:=zjg g h
 rw [qL] at h2
 exact ⟨m,h1,h2⟩
theorem GoodN.put(g:GoodN t n led)(hn:n+1≤t.mask)(hs:t.slot j=.empty)(hj:j≤t.mask):GoodN (t.put j).1 (n+1) led/\(t.put j).1.mask=t.mask:=zkW (t:={ t with plain:=true }) g hn hs hj
theorem laid_any{mask finger moves:Nat}{led plain:Bool}{hashes:Array Int}(F:Full mask)(hn:hashes.size≤mask):∃ t order,SetTable.laid mask finger moves led plain hashes=some (t,order)/\order.toList.Perm (List.range hashes.size)/\GoodN t hashes.size led/\t.mask=mask:=by
 obtain ⟨t,order,h1,h2,h3,h4⟩:=zjm (finger:=finger) (moves:=moves) (led:=led) (plain:=true) F hn rfl
 refine ⟨{ t with plain:=plain },order,?_,h2,?_,h4⟩
 ·unfold SetTable.laid at h1 ⊢
  cases hc:SetTable.layClean mask hashes with
  | none=>rw [hc] at h1;cases h1
  | some owner=>
   rw [hc] at h1
   cases h1
   rfl
 ·have e:t.plain=true:=h3.plain
  unfold GoodN
  have:({ ({ t with plain:=plain }:SetTable) with plain:=true }:SetTable)=t:=by
   cases t;simp only at e;subst e;rfl
  rw [this];exact h3
end
end Tab
noncomputable def ElM(prog:Program)(w:World)(h:Heap)(e:Int × Value):Prop:=∃ b k,e.2=.ref b/\IsTupleKey (zC prog w) h k b/\e.1=tupleKeyHash (zC prog w) k
noncomputable def NoM(prog:Program)(w:World)(h:Heap)(k:List Key)(v:Value):Prop:=∀ b' k',v=.ref b'->IsTupleKey (zC prog w) h k' b'->k'≠k
section
variable {prog:Program} {w:World} {A:Around} {E:Value->Shared->Prop} {s:Shared}
theorem k5(h:ItemsAre (zC prog w) k vs):∀ v ∈ vs,(∃ n t,v=Value.int n t)∨∃ x t,v=Value.str x t:=by
 induction h with
 | nil=>intro v hv;cases hv
 | @cons n v ks vs h1 _ ih=>
  intro u hu
  rcases List.mem_cons.mp hu with rfl | hu
  ·rcases zJ h1 with ⟨i,t,_,e⟩ | ⟨y,t,_,e⟩
   ·exact .inl ⟨i,t,e⟩
   ·exact .inr ⟨y,t,e⟩
  ·exact ih u hu
theorem kd{Q:Bool->Shared->Prop}(hk:IsTupleKey (zC prog w) s.heap k b)(h:∀ c,Q c s):wpAny (model prog w) A (hashByValue 8 (.ref b)) Q E s:=by
 have hT:=hk.typeIs
 obtain ⟨o,items,n,ho,_,hd,hi⟩:=hk
 unfold hashByValue
 refine wpAny_bind (wpAny_specialOf hT PySem.F.slot_tuple_hash.lookup ?_)
 show wpAny _ _ (seqItems? (.ref b) >>= _) _ _ s
 refine wpAny_bind ?_
 unfold seqItems?
 refine wpAny_bind (wpAny_load ho ?_)
 rw [hd]
 refine wpAny_pure ?_
 refine wpAny_bind ?_
 show wpAny _ _ (forIn items _ _) _ _ s
 rw [← Array.forIn_toList]
 refine wpAny_forIn_list _ (fun yC r s'=>r.1=none/\s'=s/\∀ v ∈ yC,(∃ n t,v=Value.int n t)∨∃ x t,v=Value.str x t) _ ?_ ?_ _ _ ⟨rfl,rfl,k5 hi⟩
 ·rintro v yC r s' ⟨hr,rfl,hall⟩
  rcases hall v List.mem_cons_self with ⟨n,t,rfl⟩ | ⟨n,t,rfl⟩
  ·rw [show hashByValue 7 (Value.int n t)=pure true from rfl]
   refine wpAny_bind (wpAny_pure ?_)
   simp only [Bool.not_true,Bool.false_eq_true,if_false]
   exact wpAny_pure ⟨rfl,rfl,fun u hu'=>hall u (Jf _ hu')⟩
  ·rw [show hashByValue 7 (Value.str n t)=pure false from rfl]
   refine wpAny_bind (wpAny_pure ?_)
   simp only [Bool.not_false,if_true]
   exact wpAny_pure (wpAny_pure (h false))
 ·rintro ⟨r1,r2⟩ s' ⟨hr,rfl,_⟩
  simp only at hr
  subst hr
  exact wpAny_pure (h true)
theorem k4{Q:Bool->Shared->Prop}(hk:IsTupleKey (zC prog w) s.heap k b)(h:Q false s):wpAny (model prog w) A (ofAClassStatement 8 (.ref b)) Q E s:=by
 have hT:=hk.typeIs
 obtain ⟨o,items,n,ho,_,hd,hi⟩:=hk
 unfold ofAClassStatement
 refine wpAny_bind (wpAny_typeOf hT ?_)
 dsimp only
 rw [if_pos (by decide)]
 refine wpAny_bind (wpAny_pure ?_)
 simp only [Bool.not_true,Bool.false_eq_true,if_false]
 show wpAny _ _ (seqItems? (.ref b) >>= _) _ _ s
 refine wpAny_bind ?_
 unfold seqItems?
 refine wpAny_bind (wpAny_load ho ?_)
 rw [hd]
 refine wpAny_pure ?_
 dsimp only
 refine wpAny_bind ?_
 show wpAny _ _ (forIn items _ _) _ _ s
 rw [← Array.forIn_toList]
 refine wpAny_forIn_list _ (fun yC r s'=>r.1=none/\s'=s/\∀ v ∈ yC,(∃ n t,v=Value.int n t)∨∃ x t,v=Value.str x t) _ ?_ ?_ _ _ ⟨rfl,rfl,k5 hi⟩
 ·rintro v yC r s' ⟨hr,rfl,hall⟩
  have hv:ofAClassStatement 7 v=pure false:=by rcases hall v List.mem_cons_self with ⟨n,t,rfl⟩ | ⟨n,t,rfl⟩<;>rfl
  rw [hv]
  refine wpAny_bind (wpAny_pure ?_)
  simp only [Bool.false_eq_true,if_false]
  exact wpAny_pure ⟨rfl,rfl,fun u hu'=>hall u (Jf _ hu')⟩
 ·rintro ⟨r1,r2⟩ s' ⟨hr,rfl,_⟩
  simp only at hr
  subst hr
  exact wpAny_pure h
theorem zeA{Q:Bool->Shared->Prop}(hk:IsTupleKey (zC prog w) s.heap k b)(hy:∀ y ∈ ys,∃ b' k',y=.ref b'/\IsTupleKey (zC prog w) s.heap k' b')(h:Q false s):wpAny (model prog w) A (searchCouldBeSeen (.ref b) ys) Q E s:=by
 unfold searchCouldBeSeen
 refine wpAny_bind ?_
 refine wpAny_forIn_list _ (fun yC r s'=>r.1=none/\s'=s/\∀ y ∈ yC,∃ b' k',y=.ref b'/\IsTupleKey (zC prog w) s.heap k' b') _ ?_ ?_ _ _ ⟨rfl,rfl,hy⟩
 ·rintro y yC r s' ⟨hr,rfl,hall⟩
  obtain ⟨b',k',rfl,hk'⟩:=hall y Jc
  have hn:∀ u ∈ yC,∃ b' k',u=.ref b'/\IsTupleKey (zC prog w) s'.heap k' b':=fun u hu=>hall u (Jf _ hu)
  dsimp only
  split
  ·exact wpAny_pure ⟨rfl,rfl,hn⟩
  ·refine wpAny_bind (wpAny_eqIsQuiet_tuple hk ?_)
   simp only [Bool.not_true,Bool.false_eq_true,if_false]
   refine wpAny_bind (wpAny_eqIsQuiet_tuple hk' ?_)
   simp only [Bool.not_true,Bool.false_eq_true,if_false]
   refine wpAny_bind (k4 hk ?_)
   simp only [Bool.false_eq_true,if_false]
   refine wpAny_bind (k4 hk' ?_)
   simp only [Bool.false_eq_true,if_false]
   exact wpAny_pure ⟨rfl,rfl,hn⟩
 ·rintro ⟨r1,r2⟩ s' ⟨hr,rfl,_⟩
  simp only at hr
  subst hr
  exact wpAny_pure h
structure SetTm (prog:Program) (w:World) (h:Heap) (es:Array (Int × Value)) (t:SetTable) (L:List Value) (led:Bool):Prop where
 el:∀ e ∈ es.toList,ElM prog w h e
 perm:(es.toList.map (·.2)).Perm L
 good:Tab.GoodN t es.size led
 mask:t.mask=7∨t.mask=31∨t.mask=127
 nf:es.size * 5<t.mask * 3
noncomputable def zpK(prog:Program)(w:World)(h:Heap)(a:Addr)(L:List Value)(led:Bool):Prop:=∃ o es ep t,h.get? a=some o/\o.ExactSet/\o.data=.set es ep t/\SetTm prog w h es t L led
theorem ziy{h:Heap}{o:Obj}(hk:IsTupleKey (zC prog w) h k b)(ho:h.get? a=some o)(hd:o.data=.set es ep t):b≠a:=by
 rintro rfl
 obtain ⟨o',items,n,ho',_,hd',_⟩:=hk
 obtain rfl:o'=o:=Jq (ho'.symm.trans ho)
 rw [hd] at hd';exact nomatch hd'
theorem wu{h h':Heap}(hk:IsTupleKey (zC prog w) h k b)(e:∀ o,h.get? b=some o->h'.get? b=some o):IsTupleKey (zC prog w) h' k b:=by
 obtain ⟨o,items,n,ho,r⟩:=hk
 exact ⟨o,items,n,e o ho,r⟩
structure TupsM (prog:Program) (w:World) (h0:Heap) (n:Nat) (ad:Nat->Addr) (key:Nat->List Key) (wr:List Addr):Prop where
 at':∀ i,i<n->IsTupleKey (zC prog w) h0 (key i) (ad i)
 out:∀ i,i<n->ad i ∉ wr
 ne:∀ i j,i<j->j<n->key i≠key j
end
end F
namespace F
open PySem PySem.Spec PyProof.Rows PySem.W
section
variable {prog:Program} {w:World} {A:Around} {E:Value->Shared->Prop} {s:Shared} {a:Addr} {es:Array (Int × Value)} {ep:Nat} {t:SetTable}
theorem qO{Q:Nat->Shared->Prop}(hn:n≠0)(h:∀ i d,i<n->Q i { s with drawn:=d }):wpAny (model prog w) A (choose src n) Q E s:=fun Γ p hΓ=>by
 unfold choose
 rw [Sem.wp_choose]
 refine ⟨hn,?_⟩
 have:=h ((model prog w).w.draws src (s.drawn.get src) % n) (s.drawn.bump src) (Qa _ (Nat.pos_of_ne_zero hn))
 simpa using this
theorem wl{α:Type}:∀ (n:Nat) (xs:List α) {s:Shared} {Q:List α->Shared->Prop},xs.length=n->(∀ ys d,ys.Perm xs->Q ys { s with drawn:=d })->wpAny (model prog w) A (drawOrder n xs) Q E s
 | 0,xs,s,Q,hl,h=>by
  obtain rfl:=KZ.mp hl
  unfold drawOrder
  exact wpAny_pure (h [] s.drawn (.refl _))
 | n+1,[],s,Q,hl,h=>nomatch hl
 | n+1,x::xs,s,Q,hl,h=>by
  unfold drawOrder
  refine wpAny_bind (qO (by rw [hl];omega) fun i d hi=>?_)
  rw [Jd hi]
  dsimp only
  refine wpAny_bind (wl n ((x::xs).eraseIdx i) (s:={ s with drawn:=d }) (by rw [List.length_eraseIdx_of_lt hi,hl];omega) fun ys d' hp=>?_)
  exact wpAny_pure (h _ d' ((hp.cons _).trans (uk _ _ hi)))
noncomputable def IsSD(h:Heap)(it tp a:Addr)(i n ep:Nat):Prop:=∃ o,h.get? it=some o/\o.cls=.type "set_iterator"/\o.data=.fields #[.ref tp,.int i 0,.ref a,.int n 0,.int ep 0]
noncomputable def OrdAt(h:Heap)(tp:Addr)(ord:List Nat):Prop:=∃ o k,h.get? tp=some o/\o.data=.seq (ord.map fun (i:Nat)=>rawInt i).toArray k
theorem IsSD.typeIs(x:IsSD s.heap it tp a i n ep):s.TypeIs (.ref it) "set_iterator":=let ⟨o,ho,hc,_⟩:=x;⟨o,ho,hc⟩
theorem IsSD.at{h h':Heap}(x:IsSD h it tp a i n ep)(e:∀ o,h.get? it=some o->h'.get? it=some o):IsSD h' it tp a i n ep:=let ⟨o,ho,r⟩:=x;⟨o,e _ ho,r⟩
theorem OrdAt.at{h h':Heap}(x:OrdAt h tp ord)(e:∀ o,h.get? tp=some o->h'.get? tp=some o):OrdAt h' tp ord:=let ⟨o,k,ho,r⟩:=x;⟨o,k,e _ ho,r⟩
theorem ziG{Q:Value->Shared->Prop}(hit:IsSD s.heap it tp a i n ep)(h:Q (.ref it) s):wpAny (model prog w) A (pyIter (.ref it)) Q E s:=by
 refine wpAny_pyIter_slot hit.typeIs yo (wpAny_call_entry yo hit.typeIs vM ?_ (uV _))
 show wpAny _ _ (ret (.ref it)) _ _ s
 exact wpAny_pure ⟨_,rfl,"set_iterator",_,hit.typeIs,slot_si_next.lookup,h⟩
theorem zjt{ord:List Nat}{x:Int × Value}{Q:Option Value->Shared->Prop}(hit:IsSD s.heap it tp a i es.size ep)(hO:OrdAt s.heap tp ord)(hA:SetAt s.heap a es ep t)(hf:t.fits es.size=true)(hj:ord[i]?=some j)(hx:es[j]?=some x)
  (hQ:∀ h',IsSD h' it tp a (i+1) es.size ep->Heap.SameBut it s.heap h'->Q (some x.2) { s with heap:=h' }):wpAny (model prog w) A (pyNext (.ref it)) Q E s:=by
 obtain ⟨o,ho,hc,hd⟩:=id hit
 obtain ⟨ot,kt,hot,hdt⟩:=hO
 obtain ⟨oa,hoa,hexa,hda⟩:=id hA
 unfold pyNext
 refine wpAny_bind (wpAny_attempt (wpAny_callSpecial?_slot (name:=Str.ofString "__next__") hit.typeIs slot_si_next
  (wpAny_call_entry slot_si_next hit.typeIs zw ?_ (yI _))))
 unfold Builtin.«set_iterator.__next__»
 refine wpAny_bind (wpAny_pure ?_)
 refine wpAny_bind (wpAny_fieldsOf ho hd ?_)
 dsimp only
 unfold setEntries
 refine wpAny_bind (wpAny_bind (wpAny_setState_of hoa hda hf (wpAny_pure ?_)))
 refine wpAny_ite_split (fun hcc=>?_) (fun _=>?_)
 ·simp at hcc
 ·simp only [Int.toNat_natCast]
  refine wpAny_bind ?_
  unfold seqItems?
  refine wpAny_bind (wpAny_load hot ?_)
  rw [hdt]
  refine wpAny_pure ?_
  dsimp only
  have e1:(ord.map fun (i:Nat)=>rawInt i).toArray[i]?=some (.int (j:Int) 0):=by
   rw [List.getElem?_toArray,JQ,hj];rfl
  rw [e1]
  dsimp only
  refine wpAny_bind ?_
  unfold setNextDrawn
  refine wpAny_bind (wpAny_setState_of hoa hda hf ?_)
  dsimp only
  rw [if_neg (by simp),Int.toNat_natCast,hx]
  refine wpAny_pure ?_
  refine wpAny_bind (wpAny_setField ho hd (by simp) ?_)
  have ho1:=JT (Obj.mapFields (·.setIfInBounds 1 (rawInt ((i:Int)+1)))) ho (KQ (Ks hd _))
  refine wpAny_pure ⟨_,rfl,wpAny_pure (hQ _ ⟨_,ho1,(Obj.cls_mapFields ..).trans hc,by rw [Obj.data_mapFields hd];simp [rawInt]⟩ (Heap.SameBut.update ..))⟩
theorem zme{ord:List Nat}{Q:Option Value->Shared->Prop}(hh:A.handled=none)(hit:IsSD s.heap it tp a i es.size ep)(hO:OrdAt s.heap tp ord)(hA:SetAt s.heap a es ep t)(hf:t.fits es.size=true)(hi:ord.length≤i)
  (hQ:∀ h',Heap.ExtBut it s.heap h'->Q none { s with heap:=h' }):wpAny (model prog w) A (pyNext (.ref it)) Q E s:=by
 obtain ⟨o,ho,hc,hd⟩:=id hit
 obtain ⟨ot,kt,hot,hdt⟩:=hO
 obtain ⟨oa,hoa,hexa,hda⟩:=id hA
 unfold pyNext
 refine wpAny_bind (wpAny_attempt (wpAny_callSpecial?_slot (name:=Str.ofString "__next__") hit.typeIs slot_si_next
  (wpAny_call_entry slot_si_next hit.typeIs zw ?_ (yI _))))
 unfold Builtin.«set_iterator.__next__»
 refine wpAny_bind (wpAny_pure ?_)
 refine wpAny_bind (wpAny_fieldsOf ho hd ?_)
 dsimp only
 unfold setEntries
 refine wpAny_bind (wpAny_bind (wpAny_setState_of hoa hda hf (wpAny_pure ?_)))
 refine wpAny_ite_split (fun hcc=>?_) (fun _=>?_)
 ·simp at hcc
 ·simp only [Int.toNat_natCast]
  refine wpAny_bind ?_
  unfold seqItems?
  refine wpAny_bind (wpAny_load hot ?_)
  rw [hdt]
  refine wpAny_pure ?_
  dsimp only
  have e1:(ord.map fun (i:Nat)=>rawInt i).toArray[i]?=none:=by
   rw [List.getElem?_toArray,JQ,Qc hi];rfl
  rw [e1]
  dsimp only
  refine wpAny_bind (wpAny_setField ho hd (by simp) ?_)
  have ho1:=JT (Obj.mapFields (·.setIfInBounds 0 (rawInt 0))) ho (KQ (Ks hd _))
  have hd1:=Ks hd (·.setIfInBounds 0 (rawInt 0))
  refine wpAny_bind (wpAny_setField (s:={ s with heap:=s.heap.update it (Obj.mapFields (·.setIfInBounds 0 (rawInt 0))) }) ho1 hd1 (by simp) ?_)
  show wpAny _ _ (newExc (.type "StopIteration") [] >>= _) _ _ _
  refine wpAny_bind ?_
  simp only [newExc,newTuple]
  refine wpAny_bind (wpAny_newObj_type ?_ (by size_fits))
  refine wpAny_bind (m:=firstArgMember _ _) (wpAny_of_eq (a:=Value.none) (by first | rfl | (simp only [firstArgMember];rfl)) ?_)
  refine wpAny_newObj_type ?_ (by size_fits)
  simp only [raiseNew]
  refine wpAny_bind (wpAny_handled ?_)
  rw [show A.in1.handled=none from hh]
  refine wpAny_bind (wpAny_pure (wpAny_throw ?_))
  refine wpAny_bind (wpAny_isInstance (T:="StopIteration") (b:=true) ⟨_,Jl _ rfl,rfl⟩ isSubtype_stop ?_)
  exact wpAny_pure (hQ _ ((((KI ..).trans (KI ..)).extBut.push _).push _))
theorem zjr{Q:Value->Shared->Prop}(hb:¬ w.params.followText "set-order"=true)(hdr:(!t.plain && decide (es.size > 1))=true)(hA:SetAt s.heap a es ep t)(hf:t.fits es.size=true)(hz:es.size≤1000)
  (hQ:∀ (ord:List Nat) d,ord.Perm (List.range es.size)->Q (.ref (s.heap.objs.size+1)) { s with heap:=(s.heap.push { cls:=.type "tuple",data:=.seq (ord.map fun (i:Nat)=>rawInt i).toArray }).push { cls:=.type "set_iterator",data:=.fields #[.ref s.heap.objs.size,.int 0 0,.ref a,.int es.size 0,.int ep 0] },drawn:=d }):
  wpAny (model prog w) A (pyIter (.ref a)) Q E s:=by
 obtain ⟨o,ho,hex,hd⟩:=id hA
 have hT:s.TypeIs (.ref a) "set":=⟨o,ho,hex.1⟩
 refine wpAny_pyIter_slot hT zv (wpAny_call_entry zv hT xK ?_ (xg _))
 unfold Builtin.«frozenset.__iter__» Builtin.Frozenset.slot0 slotArgs
 simp only [List.isEmpty_nil,Bool.not_true,Bool.false_eq_true,↓reduceIte,bind_assoc,List.length_nil,bne_self_eq_false]
 unfold Builtin.Frozenset.addrOf Builtin.Frozenset.sizeOf setEntries setDrawn setsByText
 refine wpAny_bind (wpAny_pure ?_)
 refine wpAny_bind (wpAny_pure ?_)
 refine wpAny_bind (wpAny_bind (wpAny_bind (wpAny_setState_of ho hd hf (wpAny_pure (wpAny_pure ?_)))))
 refine wpAny_bind (wpAny_bind (wpAny_setState_of ho hd hf ?_))
 dsimp only
 refine wpAny_bind (wpAny_bind (wpAny_askSetting (wpAny_pure (wpAny_pure ?_))))
 refine wpAny_ite_split (fun _=>?_) (fun hc=>?_)
 ·refine wpAny_bind (wl es.size (List.range es.size) KG fun ord d hp=>?_)
  refine wpAny_bind (wpAny_newTuple ?_ (by rw [Jt,hp.length_eq,KG,sizeLine_eq];omega))
  refine wpAny_bind (wpAny_setEpoch_of (Jb _ ho) hd hf ?_)
  refine wpAny_bind (wpAny_newObj_type (wpAny_pure ⟨_,rfl,"set_iterator",_,⟨_,Jl _ rfl,rfl⟩,slot_si_next.lookup,?_⟩))
  have:=hQ ord d hp
  simpa [Heap.size_push,rawInt] using this
 ·refine absurd (QA.mpr ⟨?_,hdr⟩) hc
  show (!w.params.followText "set-order")=true
  rw [Bool.eq_false_iff.mpr hb];rfl
theorem zfo{ord:List Nat}(hh:A.handled=none)(hf:t.fits es.size=true)(hl:ord.length=es.size)(ho:∀ j ∈ ord,j<es.size)(I tp:Addr)(h1:a≠I)(h2:tp≠I):
  PySem.Walks prog w A I [I,tp,a] [I] es.size (fun i v=>∃ j x,ord[i]?=some j/\es[j]?=some x/\v=x.2) (fun i h=>IsSD h I tp a i es.size ep/\OrdAt h tp ord/\SetAt h a es ep t) where
 sub:=fun b hb=>by simp at hb;simp [hb]
 frame:=fun _ _ _ st hk=>⟨st.1.at fun o e=>hk I (by simp) o e,st.2.1.at fun o e=>hk tp (by simp) o e,st.2.2.at fun o e=>hk a (by simp) o e⟩
 item:=fun i s Q E hi st hQ=>by
  have hi':i<ord.length:=by omega
  have hj:=Jd hi'
  have hx:=getElem?_pos es ord[i] (ho _ (JP hi'))
  refine zjt st.1 st.2.1 st.2.2 hf hj hx fun h' hit' hs'=>?_
  exact hQ _ h' s.toks ⟨_,_,hj,hx,rfl⟩ ⟨hit',st.2.1.at fun o e=>by rw [hs'.2 tp h2];exact e,st.2.2.at fun o e=>by rw [hs'.2 a h1];exact e⟩ fun b o hb e=>hs'.extBut b o (fun h=>hb (by simp [h])) e
 done:=fun s Q E st hQ=>zme hh st.1 st.2.1 st.2.2 hf (by omega) fun h' he'=>hQ h' s.toks fun b o hb e=>he' b o (fun h=>hb (by simp [h])) e
 self:=fun _ _ _ _ st hQ=>ziG st.1 hQ
theorem zeM{R:Result->Shared->Prop}(hh:A.handled=none)(hb:¬ w.params.followText "set-order"=true)(hdr:(!t.plain && decide (es.size > 1))=true)(hA:SetAt s.heap a es ep t)(hf:t.fits es.size=true)(hz:es.size≤1000)(S:Addr)(hSa:S≠a)(res:Value)(c₀:Nat)(hS:s.heap.get? S=some { cls:=.type "list",data:=.seq #[] c₀ })
  (hR:∀ h' tk d acc' c' (ord:List Nat),ord.Perm (List.range es.size)->(∀ b o,b≠S->s.heap.get? b=some o->h'.get? b=some o)->h'.get? S=some { cls:=.type "list",dict:=none,data:=.seq acc' c',slots:=#[] }->ItemsOf (fun i v=>∃ j x,ord[i]?=some j/\es[j]?=some x/\v=x.2) acc' es.size->R (.ok (.ret res)) { s with heap:=h',toks:=tk,drawn:=d }):
  wpAny (model prog w) A.in1 (Builtin.List.listExtendWith (.ref S) (.ref a) res)
   (fun fin s'=>match fin with | .done f=>R (.ok f) s' | .again c'=>c'.quiet=true/\codeAny (model prog w) A c' R s') (fun e s'=>R (.error e) s') s:=by
 obtain ⟨oa,hoa,hexa,hda⟩:=id hA
 have hT:s.TypeIs (.ref a) "set":=⟨oa,hoa,hexa.1⟩
 have hSl:=Ji hS
 have hal:=Ji hoa
 unfold Builtin.List.listExtendWith
 refine wpAny_bind (wpAny_typeOf (T:="set") hT ?_)
 have h1:Builtin.List.listSameRef (.ref S) (.ref a)=false:=by simp [Builtin.List.listSameRef,hSa]
 have n1:(Value.type "set" == Value.type "list")=false:=by decide
 have n2:(Value.type "set" == Value.type "tuple")=false:=by decide
 simp only [h1,n1,n2,Bool.or_false,Bool.false_eq_true,if_false]
 refine wpAny_bind (zjr hb hdr hA hf hz fun ord d hp=>?_)
 have hol:ord.length=es.size:=by rw [hp.length_eq,KG]
 have hoj:∀ j ∈ ord,j<es.size:=fun j hj=>Jw.mp (hp.mem_iff.mp hj)
 generalize hh1:(s.heap.push { cls:=.type "tuple",data:=.seq (ord.map fun (i:Nat)=>rawInt i).toArray })=h1'
 have hsz1:h1'.objs.size=s.heap.objs.size+1:=by rw [← hh1];exact KF ..
 have keep1:∀ b o,s.heap.get? b=some o->(h1'.push { cls:=.type "set_iterator",data:=.fields #[.ref s.heap.objs.size,.int 0 0,.ref a,.int es.size 0,.int ep 0] }).get? b=some o:=fun b o e=>Jb _ (by rw [← hh1];exact Jb _ e)
 have st:IsSD (h1'.push { cls:=.type "set_iterator",data:=.fields #[.ref s.heap.objs.size,.int 0 0,.ref a,.int es.size 0,.int ep 0] }) (s.heap.objs.size+1) s.heap.objs.size a 0 es.size ep/\OrdAt (h1'.push { cls:=.type "set_iterator",data:=.fields #[.ref s.heap.objs.size,.int 0 0,.ref a,.int es.size 0,.int ep 0] }) s.heap.objs.size ord/\SetAt (h1'.push { cls:=.type "set_iterator",data:=.fields #[.ref s.heap.objs.size,.int 0 0,.ref a,.int es.size 0,.int ep 0] }) a es ep t:=by
  refine ⟨⟨_,by rw [← hsz1];exact Jl _ rfl,rfl,rfl⟩,⟨_,_,Jb _ (by rw [← hh1];exact Jl _ rfl),rfl⟩,hA.at fun o e=>keep1 a o e⟩
 have W:=zfo (prog:=prog) (w:=w) (A:=A.in1) (a:=a) (es:=es) (ep:=ep) (t:=t) hh hf hol hoj (s.heap.objs.size+1) s.heap.objs.size (Jx (Ky hal)) (Jx (Qj _))
 have hSf:S ∉ [s.heap.objs.size+1,s.heap.objs.size,a]:=by
  simp only [List.mem_cons,List.not_mem_nil,or_false,not_or]
  exact ⟨Jx (Ky hSl),Jx hSl,hSa⟩
 have key:∀ (h:Heap) (c₁ tk:Nat),IsSD h (s.heap.objs.size+1) s.heap.objs.size a 0 es.size ep/\OrdAt h s.heap.objs.size ord/\SetAt h a es ep t->(∀ b o,b≠S->s.heap.get? b=some o->h.get? b=some o)->
   h.get? S=some { cls:=.type "list",data:=.seq #[] c₁ }->codeAny (model prog w) A (.builtin "list.extend.loop" ⟨[.ref S,.ref (s.heap.objs.size+1),res],[]⟩) R { s with heap:=h,toks:=tk,drawn:=d }:=by
  intro h c₁ tk hst hk hS₁
  refine codeAny_extend_loopS W.toS (by rw [sizeLine_eq];omega) S hSf res es.size 0 _ #[] c₁ rfl (Kq _) hst hS₁ (ItemsOf.nil _) fun s' acc' c' hm hS' hacc=>?_
  rw [Moved.eq_with hm]
  refine hR s'.heap s'.toks d acc' c' ord hp (fun b o hb e=>hm.heap b o (fun hmem=>?_) (hk b o hb e)) hS' hacc
  rcases List.mem_cons.mp hmem with e' | hmem
  ·exact hb e'
  ·have:=Ji e
   rw [Jh.mp hmem] at this
   exact absurd this (by simp)
 have hS₁:=keep1 S _ hS
 refine wpAny_bind (wpAny_holding (j6 (st.2.2.elim fun o z=>⟨o,z.1,z.2.1.1⟩) ?_))
 refine wpAny_ite_split (fun _=>?_) (fun _=>wpAny_pure ⟨plainId_quiet PySem.F.plain_extend_loop _,key _ c₀ _ st (fun b o _ e=>keep1 b o e) hS₁⟩)
 refine wpAny_bind (wpAny_rule ?_)
 refine wpAny_bind ?_
 show wpAny _ _ (updateSeq S (·.push .none) >>= fun _=>updateSeq S (·.pop)) _ _ _
 refine wpAny_bind (wpAny_updateSeq hS₁ rfl ?_)
 have hS₂:=JT (Obj.mapSeq (·.push Value.none)) hS₁ rfl
 refine wpAny_updateSeq (hz:=by seq_fits) hS₂ rfl ?_
 have hS₃:=JT (Obj.mapSeq (·.pop)) hS₂ rfl
 refine wpAny_pure ⟨plainId_quiet PySem.F.plain_extend_loop _,key _ _ _ ?_ (fun b o hb e=>?_) hS₃⟩
 ·refine W.frame 0 _ _ st fun b hb o e=>?_
  have hbS:b≠S:=fun h=>hSf (h ▸ hb)
  exact (KJ _ _ (Qw hbS)).trans ((KJ _ _ (Qw hbS)).trans e)
 ·exact (KJ _ _ (Qw hb)).trans ((KJ _ _ (Qw hb)).trans (keep1 b o e))
theorem zdm{Q:Option (Value × Nat)->Shared->Prop}(hw:w.params.followText "set-order"=true)(hA:SetAt s.heap a es ep t)(hf:t.fits es.size=true)(hi:i≤es.size)
  (h:Q ((yV w a es ep)[i]?.map fun e=>(e.2,zU w t (i+1))) s):wpAny (model prog w) A (setNext a (zU w t i) i ep) Q E s:=by
 obtain ⟨o,ho,hex,hd⟩:=hA
 unfold setNext
 refine wpAny_bind (wpAny_setState_of ho hd hf ?_)
 dsimp only
 unfold setsByText
 refine wpAny_bind (wpAny_bind (wpAny_askSetting (wpAny_pure ?_)))
 show wpAny _ _ (if w.params.followText "set-order"=true then _ else _) _ _ _
 rw [if_pos hw]
 rw [if_neg (by simp)]
 unfold setWalk
 refine wpAny_bind (wpAny_bind (wpAny_setState_of ho hd hf ?_))
 dsimp only
 unfold setsByText
 refine wpAny_bind (wpAny_bind (wpAny_askSetting (wpAny_pure ?_)))
 show wpAny _ _ (if w.params.followText "set-order"=true then _ else _) _ _ _
 rw [if_pos hw]
 refine wpAny_bind (wpAny_askSetting (wpAny_pure (wpAny_pure ?_)))
 have e1:yV w a es ep=pickOrder (w.params.setOrder a ep) es:=if_pos hw
 have e2:zU w t i=zU w t (i+1):=by
  have e3:∀ j,zU w t (j+1)=0:=fun j=>if_pos hw
  cases i with
  | zero=>rw [e3];rfl
  | succ i=>rw [e3,e3]
 rw [e1,← e2] at h
 exact h
theorem zjq{Q:Value->Shared->Prop}(hw:w.params.followText "set-order"=true)(hA:SetAt s.heap a es ep t)(hf:t.fits es.size=true)
  (hQ:Q (.ref s.heap.objs.size) { s with heap:=s.heap.push { cls:=.type "set_iterator",data:=.fields #[.int 0 0,.int 0 0,.ref a,.int es.size 0,.int ep 0] } }):
  wpAny (model prog w) A (pyIter (.ref a)) Q E s:=by
 obtain ⟨o,ho,hex,hd⟩:=id hA
 have hT:s.TypeIs (.ref a) "set":=⟨o,ho,hex.1⟩
 refine wpAny_pyIter_slot hT zv (wpAny_call_entry zv hT xK ?_ (xg _))
 unfold Builtin.«frozenset.__iter__» Builtin.Frozenset.slot0 slotArgs
 simp only [List.isEmpty_nil,Bool.not_true,Bool.false_eq_true,↓reduceIte,bind_assoc,List.length_nil,bne_self_eq_false]
 unfold Builtin.Frozenset.addrOf Builtin.Frozenset.sizeOf setEntries setDrawn setsByText
 refine wpAny_bind (wpAny_pure ?_)
 refine wpAny_bind (wpAny_pure ?_)
 refine wpAny_bind (wpAny_bind (wpAny_bind (wpAny_setState_of ho hd hf (wpAny_pure (wpAny_pure ?_)))))
 refine wpAny_bind (wpAny_bind (wpAny_setState_of ho hd hf ?_))
 dsimp only
 refine wpAny_bind (wpAny_bind (wpAny_askSetting (wpAny_pure (wpAny_pure ?_))))
 refine wpAny_ite_split (fun hc=>?_) (fun _=>?_)
 ·have h2:=(QA.mp hc).1
  have h3:(!w.params.followText "set-order")=true:=h2
  rw [hw] at h3
  cases h3
 ·refine wpAny_bind (wpAny_pure ?_)
  refine wpAny_bind (wpAny_setEpoch_of ho hd hf ?_)
  refine wpAny_bind (wpAny_newObj_type (wpAny_pure ⟨_,rfl,"set_iterator",_,⟨_,Jl _ rfl,rfl⟩,slot_si_next.lookup,?_⟩))
  exact hQ
theorem zjs{Q:Option Value->Shared->Prop}(hw:w.params.followText "set-order"=true)(hit:IsSI s.heap it a (zU w t i) i es.size ep)(hA:SetAt s.heap a es ep t)(hf:t.fits es.size=true){x:Int × Value}(hx:(yV w a es ep)[i]?=some x)
  (hQ:∀ h',IsSI h' it a (zU w t (i+1)) (i+1) es.size ep->Heap.SameBut it s.heap h'->Q (some x.2) { s with heap:=h' }):wpAny (model prog w) A (pyNext (.ref it)) Q E s:=by
 obtain ⟨o,ho,hc,hd⟩:=id hit
 obtain ⟨oa,hoa,hexa,hda⟩:=id hA
 have hlt:i<es.size:=by
  rw [← xE (w:=w) (a:=a) (ep:=ep)]
  exact (Ju.mp hx).1
 unfold pyNext
 refine wpAny_bind (wpAny_attempt (wpAny_callSpecial?_slot (name:=Str.ofString "__next__") hit.typeIs slot_si_next
  (wpAny_call_entry slot_si_next hit.typeIs zw ?_ (yI _))))
 unfold Builtin.«set_iterator.__next__»
 refine wpAny_bind (wpAny_pure ?_)
 refine wpAny_bind (wpAny_fieldsOf ho hd ?_)
 dsimp only
 unfold setEntries
 refine wpAny_bind (wpAny_bind (wpAny_setState_of hoa hda hf (wpAny_pure ?_)))
 refine wpAny_ite_split (fun hcc=>?_) (fun _=>?_)
 ·simp at hcc
 ·simp only [Int.toNat_natCast]
  refine wpAny_bind (zdm hw hA hf (Nat.le_of_lt hlt) ?_)
  rw [hx]
  show wpAny _ _ (setField (.ref it) 0 (rawInt (zU w t (i+1):Nat)) >>= _) _ _ _
  refine wpAny_bind (wpAny_setField ho hd (by simp) ?_)
  have ho1:=JT (Obj.mapFields (·.setIfInBounds 0 (rawInt (zU w t (i+1):Nat)))) ho (KQ (Ks hd _))
  have hd1:=Ks hd (·.setIfInBounds 0 (rawInt (zU w t (i+1):Nat)))
  refine wpAny_bind (wpAny_setField (s:={ s with heap:=s.heap.update it (Obj.mapFields (·.setIfInBounds 0 (rawInt (zU w t (i+1):Nat)))) }) ho1 hd1 (by simp) ?_)
  have ho2:=JT (Obj.mapFields (·.setIfInBounds 1 (rawInt ((i:Int)+1)))) ho1 (KQ (Ks hd1 _))
  refine wpAny_pure ⟨_,rfl,wpAny_pure (hQ _ ⟨_,ho2,(Obj.cls_mapFields ..).trans ((Obj.cls_mapFields ..).trans hc),by rw [Obj.data_mapFields hd1];simp [rawInt]⟩ ((Heap.SameBut.update ..).trans (Heap.SameBut.update ..)))⟩
theorem zmd{Q:Option Value->Shared->Prop}(hh:A.handled=none)(hw:w.params.followText "set-order"=true)(hit:IsSI s.heap it a (zU w t i) i es.size ep)(hA:SetAt s.heap a es ep t)(hf:t.fits es.size=true)(hi:i=es.size)
  (hQ:∀ h',Heap.ExtBut it s.heap h'->Q none { s with heap:=h' }):wpAny (model prog w) A (pyNext (.ref it)) Q E s:=by
 obtain ⟨o,ho,hc,hd⟩:=id hit
 obtain ⟨oa,hoa,hexa,hda⟩:=id hA
 unfold pyNext
 refine wpAny_bind (wpAny_attempt (wpAny_callSpecial?_slot (name:=Str.ofString "__next__") hit.typeIs slot_si_next
  (wpAny_call_entry slot_si_next hit.typeIs zw ?_ (yI _))))
 unfold Builtin.«set_iterator.__next__»
 refine wpAny_bind (wpAny_pure ?_)
 refine wpAny_bind (wpAny_fieldsOf ho hd ?_)
 dsimp only
 unfold setEntries
 refine wpAny_bind (wpAny_bind (wpAny_setState_of hoa hda hf (wpAny_pure ?_)))
 refine wpAny_ite_split (fun hcc=>?_) (fun _=>?_)
 ·simp at hcc
 ·simp only [Int.toNat_natCast]
  refine wpAny_bind (zdm hw hA hf (Nat.le_of_eq hi) ?_)
  rw [getElem?_neg _ i (by rw [xE];omega)]
  show wpAny _ _ (setField (.ref it) 2 .none >>= _) _ _ _
  refine wpAny_bind (wpAny_setField ho hd (by simp) ?_)
  show wpAny _ _ (newExc (.type "StopIteration") [] >>= _) _ _ _
  refine wpAny_bind ?_
  simp only [newExc,newTuple]
  refine wpAny_bind (wpAny_newObj_type ?_ (by size_fits))
  refine wpAny_bind (m:=firstArgMember _ _) (wpAny_of_eq (a:=Value.none) (by first | rfl | (simp only [firstArgMember];rfl)) ?_)
  refine wpAny_newObj_type ?_ (by size_fits)
  simp only [raiseNew]
  refine wpAny_bind (wpAny_handled ?_)
  rw [show A.in1.handled=none from hh]
  refine wpAny_bind (wpAny_pure (wpAny_throw ?_))
  refine wpAny_bind (wpAny_isInstance (T:="StopIteration") (b:=true) ⟨_,Jl _ rfl,rfl⟩ isSubtype_stop ?_)
  exact wpAny_pure (hQ _ (((KI ..).extBut.push _).push _))
theorem zfn(hh:A.handled=none)(hw:w.params.followText "set-order"=true)(hf:t.fits es.size=true)(I:Addr)(hne:a≠I):
  PySem.Walks prog w A I [I,a] [I] es.size (fun i v=>∃ x,(yV w a es ep)[i]?=some x/\v=x.2) (fun i h=>IsSI h I a (zU w t i) i es.size ep/\SetAt h a es ep t) where
 sub:=fun b hb=>by simp at hb;simp [hb]
 frame:=fun _ _ _ st hk=>⟨st.1.at fun o e=>hk I (by simp) o e,st.2.at fun o e=>hk a (by simp) o e⟩
 item:=fun i s Q E hi st hQ=>by
  have hi':i<(yV w a es ep).size:=by rw [xE];exact hi
  refine zjs hw st.1 st.2 hf (getElem?_pos _ i hi') fun h' hit' hs'=>?_
  exact hQ _ h' s.toks ⟨_,getElem?_pos _ i hi',rfl⟩ ⟨hit',st.2.at fun o e=>by rw [hs'.2 a hne];exact e⟩ fun b o hb e=>hs'.extBut b o (fun h=>hb (by simp [h])) e
 done:=fun s Q E st hQ=>zmd hh hw st.1 st.2 hf rfl fun h' he'=>hQ h' s.toks fun b o hb e=>he' b o (fun h=>hb (by simp [h])) e
 self:=fun _ _ _ _ st hQ=>zaH st.1 hQ
theorem zkK(hw:w.params.followText "set-order"=true)(hf:t.fits es.size=true):KdlSrc prog w "set" a a es.size (fun i v=>∃ x,(yV w a es ep)[i]?=some x/\v=x.2) (fun h=>SetAt h a es ep t) where
 type:=fun _ ⟨o,ho,hex,_⟩=>⟨o,ho,hex.1⟩
 there:=fun _ ⟨o,ho,_⟩=>⟨Ji ho,Ji ho⟩
 keep:=fun _ _ hm hk=>hm.at fun o e=>hk a (.inl rfl) o e
 notList:=by decide
 notTuple:=by decide
 hint:=fun _ _ _ _ ⟨o,ho,hex,_⟩ hq=>j6 ⟨o,ho,hex.1⟩ hq
 iter:=fun _ s hh hm=>⟨_,_,(fun _ _ hq=>zjq hw hm hf hq),zfn hh hw hf _ (Jx (let ⟨o,ho,_⟩:=hm;Ji ho)),⟨⟨_,Jl _ rfl,rfl,rfl⟩,hm.at fun o e=>Jb _ e⟩⟩
end
end F
namespace F
open PySem PySem.Spec PySem.W PyProof.Rows
noncomputable def dS:Str:=⟨#[]⟩
noncomputable def qlt(a b:Int × Str):Prop:=a.1<b.1∨a.1=b.1/\a.2.cps.toList<b.2.cps.toList
instance (a b:Int × Str):Decidable (qlt a b):=by unfold qlt;infer_instance
structure PairsQ (h:Heap) (a:Addr) (vs:List Value) (ks:List (Int × Str)):Prop where
 len:vs.length=ks.length
 at':∀ i,i<vs.length->∃ l o items m t u,vs.getD i Value.none=.ref l/\l≠a/\h.get? l=some o/\o.cls=.type "tuple"/\o.data=.seq items m/\items.toList=[.int (ks.getD i (0,dS)).1 t,.str (ks.getD i (0,dS)).2 u]
 nd:ks.Nodup
end F
namespace F
open PySem PySem.Spec PyProof.Rows L2
end F
namespace F
open PySem PySem.Spec PyProof.Rows PySem.W
section
variable {prog:Program} {w:World} {A:Around} {E:Value->Shared->Prop} {s:Shared} {a:Addr} {es:Array (Int × Value)} {ep:Nat} {t:SetTable}
theorem zcB{R:List Value->Shared->Prop}(hh:A.handled=none)(hb:¬ w.params.followText "set-order"=true)(hdr:(!t.plain && decide (es.size > 1))=true)(hA:SetAt s.heap a es ep t)(hf:t.fits es.size=true)(hz:es.size≤1000)
  (h:∀ (h':Heap) (tk:Nat) d (acc:Array Value) (ord:List Nat),ord.Perm (List.range es.size)->(∀ b o,s.heap.get? b=some o->h'.get? b=some o)->ItemsOf (fun i v=>∃ j x,ord[i]?=some j/\es[j]?=some x/\v=x.2) acc es.size->R acc.toList { s with heap:=h',toks:=tk,drawn:=d }):
  wpAny (model prog w) A (collect (.ref a)) R E s:=by
 obtain ⟨oa,hoa,_⟩:=id hA
 have hlt:=Ji hoa
 unfold collect
 refine wpAny_bind (wpAny_runValue (codeAny_builtin entry_proto_collect' ?_))
 rw [Qh PySem.F.plain_proto_collect _]
 show wpAny _ A.in1 (newList [] >>= fun l=>again (.builtin "list.__iadd__" ⟨[l,.ref a],[]⟩)) _ _ s
 refine wpAny_bind (wpAny_newObj_type ?_)
 refine wpAny_pure ⟨plainId_quiet PySem.F.plain_list_iadd _,codeAny_builtin entry_list_iadd' ?_⟩
 rw [Qh PySem.F.plain_list_iadd _]
 have hS₁:(s.heap.push { cls:=.type "list",data:=.seq ([]:List Value).toArray }).get? s.heap.objs.size=some { cls:=.type "list",data:=.seq #[] }:=Jl _ rfl
 show wpAny _ A.in1 (Builtin.List.listExtendWith (.ref s.heap.objs.size) (.ref a) (.ref s.heap.objs.size)) _ _ _
 have key:=zeM (prog:=prog) (A:=A) (s:={ s with heap:=s.heap.push { cls:=.type "list",data:=.seq ([]:List Value).toArray } })
  (R:=fun (q:Result) (s':Shared)=>∃ (h':Heap) (tk:Nat) (d:Drawn) (acc':Array Value) (c':Nat) (ord:List Nat),q=.ok (.ret (.ref s.heap.objs.size))/\s'={ s with heap:=h',toks:=tk,drawn:=d }/\ord.Perm (List.range es.size)/\
   (∀ b o,s.heap.get? b=some o->h'.get? b=some o)/\h'.get? s.heap.objs.size=some { cls:=.type "list",dict:=none,data:=.seq acc' c',slots:=#[] }/\ItemsOf (fun i v=>∃ j x,ord[i]?=some j/\es[j]?=some x/\v=x.2) acc' es.size)
  hh hb hdr (hA.at fun o e=>Jb _ e) hf hz s.heap.objs.size (Ku hlt) (.ref s.heap.objs.size) 0 hS₁
  (fun h' tk d acc' c' ord hp hk hS' hacc=>⟨h',tk,d,acc',c',ord,rfl,rfl,hp,fun b o e=>hk b o (Jx (Ji e)) (Jb _ e),hS',hacc⟩)
 refine wpAny_mono key (fun fin s' x=>?_) fun e s' x=>?_
 ·cases fin with
  | done f=>
   obtain ⟨h',tk,d,acc',c',ord,e,rfl,hp,hk,hS',hacc⟩:=x
   cases e
   show wpAny _ A (load s.heap.objs.size >>= _) _ _ _
   refine wpAny_bind (wpAny_load hS' ?_)
   exact wpAny_pure (h h' tk d acc' ord hp hk hacc)
  | again c₁=>
   refine ⟨x.1,codeAny_mono x.2 fun q s₂ y=>?_⟩
   obtain ⟨h',tk,d,acc',c',ord,rfl,rfl,hp,hk,hS',hacc⟩:=y
   show wpAny _ A (load s.heap.objs.size >>= _) _ _ _
   refine wpAny_bind (wpAny_load hS' ?_)
   exact wpAny_pure (h h' tk d acc' ord hp hk hacc)
 ·obtain ⟨_,_,_,_,_,_,e',_⟩:=x
  cases e'
theorem zcm{acc:Array Value}{ord:List Nat}(hp:ord.Perm (List.range es.size))(hi:ItemsOf (fun i v=>∃ j x,ord[i]?=some j/\es[j]?=some x/\v=x.2) acc es.size):acc.toList.Perm (es.toList.map (·.2)):=by
 have e:acc.toList=ord.map fun j=>(es.toList.map (·.2)).getD j Value.none:=by
  apply Qt
  intro i
  rw [JQ,Js]
  by_cases hj:i<es.size
  ·have hj':i<acc.size:=by rw [hi.1];exact hj
   obtain ⟨j,x,h1,h2,h3⟩:=hi.2 i acc[i] (getElem?_pos acc i hj')
   rw [getElem?_pos acc i hj',h1,h3,Option.map_some,JD,JQ,Js,h2];rfl
  ·rw [getElem?_neg acc i (by rw [hi.1];exact hj),Qc (by rw [hp.length_eq,KG];omega)];rfl
 rw [e]
 have:=hp.map fun j=>(es.toList.map (·.2)).getD j Value.none
 have e2:=zaN Value.none (es.toList.map (·.2))
 rw [Jt,Jg] at e2
 rwa [e2] at this
theorem zfe{R:List Value->Shared->Prop}(hh:A.handled=none)(hl:led=!w.params.followText "set-order")(hA:SetAt s.heap a es ep t)(g:Tab.GoodN t es.size led)(h2:2≤es.size)(hz:es.size≤1000)
  (h:∀ (h':Heap) (tk:Nat) d (acc:Array Value),(∀ b o,s.heap.get? b=some o->h'.get? b=some o)->acc.toList.Perm (es.toList.map (·.2))->R acc.toList { s with heap:=h',toks:=tk,drawn:=d }):
  wpAny (model prog w) A (collect (.ref a)) R E s:=by
 have fin:∀ (h':Heap) (tk:Nat) (acc:Array Value),(∀ b o,s.heap.get? b=some o->h'.get? b=some o)->ItemsOf (fun i v=>∃ x,(yV w a es ep)[i]?=some x/\v=x.2) acc es.size->R acc.toList { s with heap:=h',toks:=tk }:=fun h' tk acc hk hi=>by
  refine h h' tk s.drawn acc hk ?_
  have hacc:acc.toList=(yV w a es ep).toList.map (·.2):=by
   apply Qt
   intro j
   rw [JQ,Js,Js]
   by_cases hj:j<es.size
   ·have hj':j<acc.size:=by rw [hi.1];exact hj
    obtain ⟨x,hx1,hx2⟩:=hi.2 j acc[j] (getElem?_pos acc j hj')
    rw [getElem?_pos acc j hj',hx1,hx2];rfl
   ·rw [getElem?_neg acc j (by rw [hi.1];exact hj),getElem?_neg _ j (by rw [xE];exact hj)];rfl
  rw [hacc]
  exact its_perm.map _
 by_cases hw:w.params.followText "set-order"=true
 ·exact PySem.W.kdu_collect (zkK (ep:=ep) hw g.fits) hh hA (by rw [sizeLine_eq];omega) fin
 ·cases hp:t.plain with
  | true=>
   have g':Tab.Good t es.size led:=by
    have e:({ t with plain:=true }:SetTable)=t:=by cases t;simp only at hp;subst hp;rfl
    have:=g
    unfold Tab.GoodN at this
    rwa [e] at this
   exact PySem.W.kdu_collect (ziC (ep:=ep) hl g') hh hA (by rw [sizeLine_eq];omega) fin
  | false=>
   exact zcB hh hw (by rw [hp];simp;omega) hA g.fits hz fun h' tk d acc ord hp hk hi=>h h' tk d acc hk (zcm hp hi)
end
end F
namespace F
end F
namespace L2
open PySem PySem.Spec PySem.W PyProof.Rows F
theorem Inv.drew{s:Shared}(I:Inv X pins σ H s):Inv X pins σ H { s with drawn:=d }:=⟨I.ok,I.os,I.bare,I.base,I.loc,I.cell,I.free,I.freeC,I.pin,I.hok,I.len⟩
end L2
namespace F
open PySem PySem.Spec PyProof.Rows L2
end F
namespace L2
open PySem PySem.Spec PySem.W PyProof.Rows F
end L2
namespace F
open PySem PySem.Spec PyProof.Rows L2
end F
namespace TS
open PySem PyProof.Rows
noncomputable def qv:Bool->Keyed->Array Keyed->Nat->Nat->Nat->StateT SortSt Sem (Option Nat):=sortPriv% PySem.Builtin.gallop
noncomputable def zgH:Array Keyed->Array Keyed->StateT SortSt Sem (Array Keyed):=sortPriv% PySem.Builtin.mergeLo
noncomputable def zgI:Array Keyed->Array Keyed->StateT SortSt Sem (Array Keyed):=sortPriv% PySem.Builtin.mergeHi
noncomputable def ziF:Nat->StateT SortSt Sem Unit:=sortPriv% PySem.Builtin.setMinGallop
section
variable {prog:Program} {w:World} {A:Around} {E:Value->Shared->Prop} {s:Shared} {O:KeyOrd} {key:Keyed->O.α} {L:List Keyed} {κ:SortKind} {st:SortSt}
noncomputable def Asks(prog:Program)(w:World)(A:Around)(s:Shared)(κ:SortKind)(L:List Keyed)(key:Keyed->O.α):Prop:=
 ∀ x y (Q:Bool->Shared->Prop),x ∈ L->y ∈ L->Q (O.blt (key x) (key y)) s->wpAny (model prog w) A (keyLt' κ x.1 y.1) Q (fun _ _=>False) s
theorem jO{Q:Option Bool->SortSt->Prop}(hA:Asks prog w A s κ L key)(hk:kindOf st=κ)(hx:x ∈ L)(hy:y ∈ L)(h:Q (some (O.blt (key x) (key y))) st):wpS (model prog w) A E s (lt' x y) Q st:=by
 rw [lt'_eq]
 refine wpS_bind (wpS_get ?_)
 rw [hk]
 refine wpS_bind (wpS_lift (wpAny_attempt (wpAny_mono (hA x y (fun b s'=>s'=s/\b=O.blt (key x) (key y)) hx hy ⟨rfl,rfl⟩) (fun b s' hb=>?_) fun _ _ z=>z.elim)))
 obtain ⟨rfl,rfl⟩:=hb
 exact ⟨rfl,wpS_pure h⟩
theorem zN{xs:Array Keyed}{Q:Keyed->SortSt->Prop}(hx:xs[i]?=some x)(h:Q x st):wpS (model prog w) A E s (elem' xs i) Q st:=by
 rw [elem'_eq,hx];exact wpS_pure h
noncomputable def bey(l:Bool)(k x:O.α):Bool:=if l=true then O.blt x k else !O.blt k x
theorem zhW{xs:Array Keyed}{Q:Option Bool->SortSt->Prop}(hA:Asks prog w A s κ L key)(hk:kindOf st=κ)(hi:xs[i]?=some x)(hx:x ∈ L)(h0:k0 ∈ L)(h:Q (some (bey l (key k0) (key x))) st):
  wpS (model prog w) A E s (do let x ← elem' xs i;if l=true then lt' x k0 else do { let r ← lt' k0 x;pure (r.map fun x=>!x) }) Q st:=by
 refine wpS_bind (zN hi ?_)
 cases l with
 | true=>exact jO hA hk hx h0 h
 | false=>exact wpS_bind (jO hA hk h0 hx (wpS_pure h))
noncomputable def Step(p:Nat->Bool)(n:Nat):Prop:=∀ i j,i≤j->j<n->p j=true->p i=true
theorem Step.no{p:Nat->Bool}(h:Step p n)(hij:i≤j)(hj:j<n)(e:p i=false):p j=false:=by
 cases c:p j with
 | false=>rfl
 | true=>rw [h i j hij hj c] at e;cases e
noncomputable def Cut(p:Nat->Bool)(n k:Nat):Prop:=k≤n/\(∀ i,i<k->p i=true)/\∀ i,k≤i->i<n->p i=false
theorem zbw{n:Nat}{p:Nat->Bool}{f:Nat->StateT SortSt Sem (Option Bool)}(hf:∀ i (Q:Option Bool->SortSt->Prop),i<n->Q (some (p i)) st->wpS (model prog w) A E s (f i) Q st)(hp:Step p n){lo hi:Nat}(h1:lo≤hi)(h2:hi≤n)(a:∀ i,i<lo->p i=true)(b:∀ i,hi≤i->i<n->p i=false){Q:Option (Option Nat) × Nat × Nat->SortSt->Prop}(h:∀ k,Cut p n k->Q (none,k,k) st):
 wpS (model prog w) A E s (forIn [:n] ((none,lo,hi):Option (Option Nat) × Nat × Nat) fun _ c=>
  if c.2.1 ≥ c.2.2 then pure (.done (none,c.2.1,c.2.2)) else do
   let x ← f (c.2.1+(c.2.2 - c.2.1) / 2)
   match x with
   | some m=>if m=true then pure (.yield (none,c.2.1+(c.2.2 - c.2.1) / 2+1,c.2.2)) else pure (.yield (none,c.2.1,c.2.1+(c.2.2 - c.2.1) / 2))
   | _=>pure (.done (some none,c.2.1,c.2.2))) Q st:=by
 refine wpS_forRange (I:=fun x c st'=>st'=st/\∃ lo hi,c=(none,lo,hi)/\lo≤hi/\hi≤n/\hi - lo≤n - x/\(∀ i,i<lo->p i=true)/\∀ i,hi≤i->i<n->p i=false) ?_ ?_ ⟨rfl,lo,hi,rfl,h1,h2,by omega,a,b⟩
 ·rintro x c st' _ hx ⟨rfl,lo,hi,rfl,h1,h2,h3,a,b⟩
  dsimp only
  by_cases hg:lo ≥ hi
  ·rw [if_pos hg]
   obtain rfl:lo=hi:=by omega
   exact wpS_pure (h lo ⟨h2,a,b⟩)
  ·rw [if_neg hg]
   refine wpS_bind (hf _ _ (by omega) ?_)
   cases c:p (lo+(hi - lo) / 2) with
   | true=>exact wpS_pure ⟨rfl,_,_,rfl,by omega,h2,by omega,fun i hi'=>hp i _ (by omega) (by omega) c,b⟩
   | false=>exact wpS_pure ⟨rfl,_,_,rfl,by omega,by omega,by omega,a,fun i h4 h5=>hp.no h4 h5 c⟩
 ·rintro c st' ⟨rfl,lo,hi,rfl,h1,h2,h3,a,b⟩
  obtain rfl:lo=hi:=by omega
  exact h lo ⟨h2,a,b⟩
theorem jP{xs:Array Keyed}{Q:Option Nat->SortSt->Prop}(hA:Asks prog w A s κ L key)(hk:kindOf st=κ)(h0:k0 ∈ L){g:Nat->Keyed}(hx:∀ i,i<n->xs[base+i]?=some (g i)/\g i ∈ L)
  (hp:Step (fun i=>bey l (key k0) (key (g i))) n)(hh:hint<n)(h:∀ k,Cut (fun i=>bey l (key k0) (key (g i))) n k->Q (some k) st):wpS (model prog w) A E s (qv l k0 xs base n hint) Q st:=by
 have hf:∀ i (Q:Option Bool->SortSt->Prop),i<n->Q (some (bey l (key k0) (key (g i)))) st->wpS (model prog w) A E s (do let x ← elem' xs (base+i);if l=true then lt' x k0 else do { let r ← lt' k0 x;pure (r.map fun x=>!x) }) Q st:=fun i Q hi hq=>zhW hA hk (hx i hi).1 (hx i hi).2 h0 hq
 generalize hpp:(fun i=>bey l (key k0) (key (g i)))=p at *
 have hpi:∀ i,bey l (key k0) (key (g i))=p i:=fun i=>by rw [← hpp]
 refine wpS_bind (hf hint _ hh ?_)
 rw [hpi]
 cases c:p hint with
 | true=>
  dsimp only
  rw [if_pos rfl]
  refine wpS_bind (wpS_mono (wpS_forRange (I:=fun x c st'=>st'=st/\∃ la of,c=(none,la,of)/\la<of/\x+1≤of/\hint+la<n/\p (hint+la)=true) (Q:=fun c st'=>st'=st/\∃ la of,c=(none,la,of)/\la<of/\hint+la<n/\p (hint+la)=true/\(n - hint≤of∨hint+of<n/\p (hint+of)=false)) ?_ ?_ ⟨rfl,0,1,rfl,by omega,by omega,by omega,c⟩) ?_)
  ·rintro x c st' _ hx ⟨rfl,la,of,rfl,h1,h2,h3,h4⟩
   dsimp only
   by_cases hg:of ≥ n - hint
   ·rw [if_pos hg]
    exact wpS_pure ⟨rfl,la,of,rfl,h1,h3,h4,.inl hg⟩
   ·rw [if_neg hg]
    refine wpS_bind (hf (hint+of) _ (by omega) ?_)
    rw [hpi]
    cases d:p (hint+of) with
    | true=>exact wpS_pure ⟨rfl,of,2 * of+1,rfl,by omega,by omega,by omega,d⟩
    | false=>exact wpS_pure ⟨rfl,la,of,rfl,h1,h3,h4,.inr ⟨by omega,d⟩⟩
  ·rintro c st' ⟨rfl,la,of,rfl,h1,h2,h3,h4⟩
   exact ⟨rfl,la,of,rfl,h1,h3,h4,.inl (by omega)⟩
  ·rintro c st' ⟨rfl,la,of,rfl,h1,h3,h4,h5⟩
   dsimp only
   refine wpS_bind (zbw (p:=p) (fun i Q hi hq=>hf i Q hi (by rw [hpi];exact hq)) hp (by omega) (by omega) (fun i hi=>hp i _ (by omega) h3 h4) (fun i h6 h7=>?_) fun k hc=>wpS_pure (h k hc))
   rcases h5 with h5 | ⟨h5,h8⟩
   ·omega
   ·exact hp.no (by omega) h7 h8
 | false=>
  dsimp only
  rw [if_neg Jj]
  refine wpS_bind (wpS_mono (wpS_forRange (I:=fun x c st'=>st'=st/\∃ la of,c=(none,la,of)/\la<of/\x+1≤of/\la≤hint/\p (hint - la)=false) (Q:=fun c st'=>st'=st/\∃ la of,c=(none,la,of)/\la<of/\la≤hint/\p (hint - la)=false/\(hint+1≤of∨of≤hint/\p (hint - of)=true)) ?_ ?_ ⟨rfl,0,1,rfl,by omega,by omega,by omega,c⟩) ?_)
  ·rintro x c st' _ hx ⟨rfl,la,of,rfl,h1,h2,h3,h4⟩
   dsimp only
   by_cases hg:of ≥ hint+1
   ·rw [if_pos hg]
    exact wpS_pure ⟨rfl,la,of,rfl,h1,h3,h4,.inl hg⟩
   ·rw [if_neg hg]
    refine wpS_bind (hf (hint - of) _ (by omega) ?_)
    rw [hpi]
    cases d:p (hint - of) with
    | false=>exact wpS_pure ⟨rfl,of,2 * of+1,rfl,by omega,by omega,by omega,d⟩
    | true=>exact wpS_pure ⟨rfl,la,of,rfl,h1,h3,h4,.inr ⟨by omega,d⟩⟩
  ·rintro c st' ⟨rfl,la,of,rfl,h1,h2,h3,h4⟩
   exact ⟨rfl,la,of,rfl,h1,h3,h4,.inl (by omega)⟩
  ·rintro c st' ⟨rfl,la,of,rfl,h1,h3,h4,h5⟩
   dsimp only
   refine wpS_bind (zbw (p:=p) (fun i Q hi hq=>hf i Q hi (by rw [hpi];exact hq)) hp (by omega) (by omega) (fun i hi=>?_) (fun i h6 h7=>hp.no h6 h7 h4) fun k hc=>wpS_pure (h k hc))
   rcases h5 with h5 | ⟨h5,h8⟩
   ·omega
   ·exact hp i _ (by omega) (by omega) h8
end
section
variable {prog:Program} {w:World} {A:Around} {E:Value->Shared->Prop} {s:Shared} {O:KeyOrd} {key:Keyed->O.α} {L T out X Y X1 X2:List Keyed} {κ:SortKind} {st st' st'':SortSt}
noncomputable def Srt(key:Keyed->O.α)(l:List Keyed):Prop:=l.Pairwise fun x y=>O.kle (key x) (key y)
structure Inv (key:Keyed->O.α) (T out X Y:List Keyed):Prop where
 perm:(out++(X++Y)).Perm T
 srt:Srt key out
 cut:∀ x ∈ out,∀ y ∈ X++Y,O.kle (key x) (key y)
theorem Inv.swap(h:Inv key T out X Y):Inv key T out Y X:=
 ⟨(Qy out List.perm_append_comm).trans h.perm,h.srt,fun x hx y hy=>h.cut x hx y (JK.mpr (JK.mp hy).symm)⟩
theorem Inv.move(h:Inv key T out (X1++X2) Y)(hs:Srt key (X1++X2))(hc:∀ x ∈ X1,∀ y ∈ Y,O.kle (key x) (key y)):Inv key T (out++X1) X2 Y:=by
 obtain ⟨s1,s2,s3⟩:=Jz.mp hs
 refine ⟨?_,List.pairwise_append.mpr ⟨h.srt,s1,fun x hx y hy=>h.cut x hx y (by simp [hy])⟩,fun x hx y hy=>?_⟩
 ·have:=h.perm
  rw [JC] at this ⊢
  exact this
 ·rcases List.mem_append.mp hx with hx | hx
  ·exact h.cut x hx y (by rcases List.mem_append.mp hy with hy | hy<;>simp [hy])
  ·rcases List.mem_append.mp hy with hy | hy
   ·exact s3 x hx y hy
   ·exact hc x hx y hy
theorem Inv.fin(h:Inv key T out X Y)(h1:Srt key X)(h2:Srt key Y)(hc:∀ x ∈ X,∀ y ∈ Y,O.kle (key x) (key y)):(out++X++Y).Perm T/\Srt key (out++X++Y):=by
 rw [JC]
 exact ⟨h.perm,Jz.mpr ⟨h.srt,Jz.mpr ⟨h1,h2,hc⟩,h.cut⟩⟩
noncomputable def Sm(st st':SortSt):Prop:=∃ g,st'=SortSt.mk' (kindOf st) (arrOf st) (pendingOf st) g (failedOf st)
theorem Sm.refl(st:SortSt):Sm st st:=⟨gallopOf st,rfl⟩
theorem Sm.trans(h:Sm st st')(k:Sm st' st''):Sm st st'':=by
 obtain ⟨g,rfl⟩:=h;obtain ⟨g',rfl⟩:=k;exact ⟨g',rfl⟩
theorem Sm.kind(h:Sm st st'):kindOf st'=kindOf st:=by obtain ⟨g,rfl⟩:=h;rfl
theorem xp{Q:Unit->SortSt->Prop}(h:∀ st',Sm st st'->Q () st'):wpS (model prog w) A E s (ziF g) Q st:=
 wpS_modify (h _ ⟨g,rfl⟩)
theorem uM(a:Array Keyed)(i:Nat):(a.extract i).toList=a.toList.drop i:=by
 rw [Array.toList_extract,List.extract];exact List.take_of_length_le (by simp)
theorem zdD(a:Array Keyed)(i k:Nat):(a.extract i (i+k)).toList=(a.toList.drop i).take k:=by simp [List.extract]
theorem yZ{a:Array Keyed}(h:i<a.size):∃ x,a[i]?=some x/\x ∈ a.toList/\a.toList.drop i=x::a.toList.drop (i+1):=by
 refine ⟨a[i],by simp [h],by simp,?_⟩
 rw [List.drop_eq_getElem_cons (by simpa using h)];simp
theorem Srt.drop(h:Srt key X)(i:Nat):Srt key (X.drop i):=List.Pairwise.sublist (List.drop_sublist i X) h
theorem Srt.head(h:Srt key (x::X)):∀ y ∈ X,O.kle (key x) (key y):=(KD.mp h).1
theorem Srt.at{a:Array Keyed}(h:Srt key a.toList){i j:Nat}{x y:Keyed}(hi:a[i]?=some x)(hj:a[j]?=some y)(hij:i≤j):O.kle (key x) (key y):=by
 rcases Nat.lt_or_ge i j with c | c
 ·obtain ⟨hi',ei⟩:=Ju.mp hi
  obtain ⟨hj',ej⟩:=Ju.mp hj
  have:=List.pairwise_iff_getElem.mp h i j (by simpa using hi') (by simpa using hj') c
  simpa [ei,ej] using this
 ·obtain rfl:i=j:=by omega
  rw [hi] at hj;cases hj;exact KeyOrd.kle_refl _
theorem gal{l:Bool}{k0:Keyed}{a:Array Keyed}{i:Nat}{Q:Option Nat->SortSt->Prop}(hA:Asks prog w A s κ L key)(hk:kindOf st=κ)(h0:k0 ∈ L)(ha:∀ x ∈ a.toList,x ∈ L)(hs:Srt key a.toList){n hint:Nat}(hn:i+n≤a.size)(hh:hint<n)
  (h:∀ k,k≤n->(∀ j x,j<k->a[i+j]?=some x->bey l (key k0) (key x)=true)->(∀ j x,k≤j->j<n->a[i+j]?=some x->bey l (key k0) (key x)=false)->Q (some k) st):wpS (model prog w) A E s (qv l k0 a i n hint) Q st:=by
 have hg:∀ j,j<n->a[i+j]?=some (a.getD (i+j) (Value.none,Value.none))/\a.getD (i+j) (Value.none,Value.none) ∈ L:=fun j hj=>by
  have:i+j<a.size:=by omega
  have e:a.getD (i+j) (Value.none,Value.none)=a[i+j]:=by simp [Array.getD,this]
  rw [e]
  exact ⟨by simp [this],ha _ (by simp)⟩
 refine jP hA hk h0 hg (fun j j' hj hj' e=>?_) hh fun k hc=>h k hc.1 (fun j x hj e=>?_) fun j x hj hj' e=>?_
 ·have:=hs.at (hg j (by omega)).1 (hg j' hj').1 (by omega)
  cases l with
  | true=>exact KeyOrd.klt_of_kle_of_klt this e
  | false=>
   have e':O.blt (key k0) (key (a.getD (i+j') (Value.none,Value.none)))=false:=by simpa [bey] using e
   have:O.blt (key k0) (key (a.getD (i+j) (Value.none,Value.none)))=false:=JL this e'
   show (!O.blt _ _)=true
   rw [this];rfl
 ·have:=hc.2.1 j hj
  rw [(hg j (by have:=hc.1;omega)).1] at e
  cases e;exact this
 ·have:=hc.2.2 j hj hj'
  rw [(hg j hj').1] at e
  cases e;exact this
noncomputable def Fin(key:Keyed->O.α)(st:SortSt)(T:List Keyed)(r:Array Keyed)(st':SortSt):Prop:=Sm st st'/\r.toList.Perm T/\Srt key r.toList
structure Lo (key:Keyed->O.α) (st:SortSt) (a b:Array Keyed) (m:Nat) (out:Array Keyed) (ia ib:Nat) (st':SortSt):Prop where
 sm:Sm st st'
 inv:Inv key (a.toList++b.toList) out.toList (a.toList.drop ia) (b.toList.drop ib)
 ha:ia+2≤a.size
 hb:ib+1≤b.size
 hm:m≤out.size
noncomputable def LoQ(key:Keyed->O.α)(st:SortSt)(a b:Array Keyed)(m:Nat)(r:ForInStep (Option (Array Keyed) × Array Keyed × Nat × Nat × Nat × Nat × Nat))(st':SortSt):Prop:=match r with
 | .done c=>(∃ r,c.1=some r/\Fin key st (a.toList++b.toList) r st')∨∃ out ia ib mg ac bc,c=(none,out,ia,ib,mg,ac,bc)/\Lo key st a b m out ia ib st'
 | .yield c=>∃ out ia ib mg ac bc,c=(none,out,ia,ib,mg,ac,bc)/\Lo key st a b m out ia ib st'
theorem xj{a:Array Keyed}(h:x ∈ a.toList.drop i):∃ j,i+j<a.size/\a[i+j]?=some x:=by
 obtain ⟨j,hj,e⟩:=Ke h
 rw [KP,Jg] at hj
 refine ⟨j,by omega,?_⟩
 rw [List.getElem_drop] at e
 rw [Kk (by omega),← Kt,e]
theorem v6{a:Array Keyed}(h:x ∈ (a.toList.drop i).take k):∃ j,j<k/\a[i+j]?=some x:=by
 obtain ⟨j,hj,e⟩:=Ke h
 rw [Kc,KP,Jg] at hj
 refine ⟨j,by omega,?_⟩
 rw [List.getElem_take,List.getElem_drop] at e
 rw [Kk (by omega),← Kt,e]
theorem Inv.moveX{a out:Array Keyed}(h:Inv key T out.toList (a.toList.drop i) Y)(hs:Srt key a.toList)(hc:∀ x ∈ (a.toList.drop i).take k,∀ y ∈ Y,O.kle (key x) (key y)):Inv key T (out++a.extract i (i+k)).toList (a.toList.drop (i+k)) Y:=by
 rw [JO,zdD,← List.drop_drop]
 exact Inv.move (by rw [Ko];exact h) (by rw [Ko];exact hs.drop i) hc
theorem uE{a:Array Keyed}{i j:Nat}{y z x:Keyed}(hs:Srt key a.toList)(hz:a[i]?=some z)(hj:a[i+j]?=some x)(hy:O.kle (key y) (key z)):O.kle (key y) (key x):=JL hy (hs.at hz hj (by omega))
theorem zap{a b:Array Keyed}{Q:Array Keyed->SortSt->Prop}(hA:Asks prog w A s κ L key)(hk:kindOf st=κ)(ha:∀ x ∈ a.toList,x ∈ L)(hb:∀ x ∈ b.toList,x ∈ L)(sa:Srt key a.toList)(sb:Srt key b.toList)(a1:1≤a.size)(b1:1≤b.size)
  (hf:∀ x y,b[0]?=some x->a[0]?=some y->O.kle (key x) (key y))(hl:∀ x ∈ b.toList,∀ y,a[a.size - 1]?=some y->O.kle (key x) (key y))(h:∀ r st',Fin key st (a.toList++b.toList) r st'->Q r st'):wpS (model prog w) A E s (zgH a b) Q st:=by
 -- the ends
 have done1:∀ {out:Array Keyed} {ia ib st'},Sm st st'->Inv key (a.toList++b.toList) out.toList (a.toList.drop ia) (b.toList.drop ib)->(a.size≤ia∨b.size≤ib)->Fin key st (a.toList++b.toList) (out++a.extract ia++b.extract ib) st':=fun {out ia ib st'} sm I hz=>by
  obtain ⟨f1,f2⟩:=I.fin (sa.drop _) (sb.drop _) (by
   rcases hz with hz | hz
   ·rw [List.drop_of_length_le (by simpa using hz)];simp
   ·rw [List.drop_of_length_le (l:=b.toList) (by simpa using hz)];simp)
  refine ⟨sm,?_⟩
  rw [JO,JO,uM,uM]
  exact ⟨f1,f2⟩
 have done2:∀ {out:Array Keyed} {ia ib st'},Sm st st'->Inv key (a.toList++b.toList) out.toList (a.toList.drop ia) (b.toList.drop ib)->ia+1=a.size->Fin key st (a.toList++b.toList) (out++b.extract ib++a.extract ia) st':=fun {out ia ib st'} sm I hz=>by
  obtain ⟨z,z1,z2,z3⟩:=yZ (a:=a) (i:=ia) (by omega)
  obtain ⟨f1,f2⟩:=I.swap.fin (sb.drop _) (sa.drop _) (by
   rw [z3,List.drop_of_length_le (l:=a.toList) (by simp;omega)]
   intro x hx y hy
   rw [Jh.mp hy]
   exact hl x (Qg hx) z (by rw [← hz];exact z1))
  refine ⟨sm,?_⟩
  rw [JO,JO,uM,uM]
  exact ⟨f1,f2⟩
 -- one of b,one of a
 have pushB:∀ {out:Array Keyed} {ia ib y},Inv key (a.toList++b.toList) out.toList (a.toList.drop ia) (b.toList.drop ib)->b[ib]?=some y->(∀ x ∈ a.toList.drop ia,O.kle (key y) (key x))->Inv key (a.toList++b.toList) (out.push y).toList (a.toList.drop ia) (b.toList.drop (ib+1)):=fun {out ia ib y} I hy hc=>by
  obtain ⟨hlt,_⟩:=Ju.mp hy
  obtain ⟨z,z1,z2,z3⟩:=yZ hlt
  rw [hy] at z1;cases z1
  rw [z3] at I
  rw [Kz]
  refine (Inv.move (X1:=[y]) I.swap ?_ (by simpa using hc)).swap
  rw [List.singleton_append,← z3];exact sb.drop _
 have pushA:∀ {out:Array Keyed} {ia ib y},Inv key (a.toList++b.toList) out.toList (a.toList.drop ia) (b.toList.drop ib)->a[ia]?=some y->(∀ x ∈ b.toList.drop ib,O.kle (key y) (key x))->Inv key (a.toList++b.toList) (out.push y).toList (a.toList.drop (ia+1)) (b.toList.drop ib):=fun {out ia ib y} I hy hc=>by
  obtain ⟨hlt,_⟩:=Ju.mp hy
  obtain ⟨z,z1,z2,z3⟩:=yZ hlt
  rw [hy] at z1;cases z1
  rw [z3] at I
  rw [Kz]
  refine Inv.move (X1:=[y]) I ?_ (by simpa using hc)
  rw [List.singleton_append,← z3];exact sa.drop _
 refine wpS_bind (wpS_lift (wpAny_rule ⟨rfl,?_⟩))
 extract_lets -underBinder total done lastA
 obtain ⟨y0,y1,y2,y3⟩:=yZ (a:=b) (i:=0) (by omega)
 obtain ⟨x0,x1,x2,x3⟩:=yZ (a:=a) (i:=0) (by omega)
 refine wpS_bind (zN y1 ?_)
 extract_lets -underBinder out0 ia0 ib0
 have I0:Inv key (a.toList++b.toList) out0.toList (a.toList.drop 0) (b.toList.drop 1):=by
  have:=pushB (out:=#[]) (ia:=0) (ib:=0) (y:=y0) ⟨List.Perm.refl _,.nil,by simp⟩ y1 (fun x hx=>by
   rw [x3] at hx
   rcases List.mem_cons.mp hx with rfl | hx
   ·exact hf _ _ y1 x1
   ·refine JL (hf _ _ y1 x1) ?_
    have:=sa
    rw [← List.drop_zero (l:=a.toList),x3] at this
    exact this.head x hx)
  exact this
 by_cases hb1:1=b.size
 ·rw [if_pos (beq_iff_eq.mpr hb1)]
  exact wpS_pure (h _ _ (done1 (Sm.refl _) I0 (.inr (by omega))))
 rw [if_neg (fun z=>hb1 (beq_iff_eq.mp z))]
 by_cases ha1:0+1=a.size
 ·rw [if_pos (beq_iff_eq.mpr ha1)]
  exact wpS_pure (h _ _ (done2 (Sm.refl _) I0 ha1))
 rw [if_neg (fun z=>ha1 (beq_iff_eq.mp z))]
 refine wpS_bind (wpS_get ?_)
 extract_lets -underBinder mg0
 have len:∀ {out:Array Keyed} {ia ib},Inv key (a.toList++b.toList) out.toList (a.toList.drop ia) (b.toList.drop ib)->out.size+(a.size - ia+(b.size - ib))=total:=fun {out ia ib} I=>by
  have:=I.perm.length_eq
  simpa using this
 refine wpS_bind (wpS_mono (wpS_forRange (I:=fun x c st'=>∃ out ia ib mg,c=(none,out,ia,ib,mg)/\Lo key st a b (x+1) out ia ib st') (Q:=fun c st'=>∃ r,c.1=some r/\Fin key st (a.toList++b.toList) r st') ?_ ?_ ⟨out0,ia0,ib0,mg0,rfl,⟨Sm.refl _,I0,by show 0+2≤_;omega,by show 1+1≤_;omega,by show 0+1≤1;omega⟩⟩) ?_)
 ·rintro x c st1 _ hx ⟨out,ia,ib,mg,rfl,V⟩
  extract_lets -underBinder
  refine wpS_bind (wpS_mono (wpS_forRange (I:=fun x1 c st'=>∃ out ia ib ac bc,c=(none,out,ia,ib,ac,bc)/\Lo key st a b (x+1+x1) out ia ib st') (Q:=fun c st'=>(∃ r,c.1=some r/\Fin key st (a.toList++b.toList) r st')∨∃ out ia ib ac bc,c=(none,out,ia,ib,ac,bc)/\Lo key st a b (x+2) out ia ib st') ?_ ?_ ⟨out,ia,ib,0,0,rfl,V⟩) ?_)
  ·rintro x1 c st2 _ hx1 ⟨out,ia,ib,ac,bc,rfl,V⟩
   have vm:=V.hm
   have va:=V.ha
   have vb:=V.hb
   dsimp only
   obtain ⟨y,y1,y2,y3⟩:=yZ (a:=b) (i:=ib) (by omega)
   obtain ⟨z,z1,z2,z3⟩:=yZ (a:=a) (i:=ia) (by omega)
   refine wpS_bind (zN y1 (wpS_bind (zN z1 (wpS_bind (jO hA (V.sm.kind.trans hk) (hb y y2) (ha z z2) ?_)))))
   cases c:O.blt (key y) (key z) with
   | true=>
    dsimp only
    rw [if_pos rfl]
    have I1:=pushB V.inv y1 fun x hx=>by
     obtain ⟨j,_,hj⟩:=xj hx
     exact uE sa z1 hj (JX c)
    refine wpS_bind (zN y1 ?_)
    by_cases hz:ib+1=b.size
    ·rw [if_pos (beq_iff_eq.mpr hz)]
     exact wpS_pure (.inl ⟨_,rfl,done1 V.sm I1 (.inr (by omega))⟩)
    rw [if_neg (fun z=>hz (beq_iff_eq.mp z))]
    split
    ·exact wpS_pure (.inr ⟨_,_,_,_,_,rfl,⟨V.sm,I1,va,by omega,by rw [Kb];omega⟩⟩)
    ·exact wpS_pure ⟨_,_,_,_,_,rfl,⟨V.sm,I1,va,by omega,by rw [Kb];omega⟩⟩
   | false=>
    dsimp only
    rw [if_neg Jj]
    have I1:=pushA V.inv z1 fun x hx=>by
     obtain ⟨j,_,hj⟩:=xj hx
     exact uE sb y1 hj c
    refine wpS_bind (zN z1 ?_)
    by_cases hz:ia+1+1=a.size
    ·rw [if_pos (beq_iff_eq.mpr hz)]
     exact wpS_pure (.inl ⟨_,rfl,done2 V.sm I1 hz⟩)
    rw [if_neg (fun z=>hz (beq_iff_eq.mp z))]
    split
    ·exact wpS_pure (.inr ⟨_,_,_,_,_,rfl,⟨V.sm,I1,by omega,vb,by rw [Kb];omega⟩⟩)
    ·exact wpS_pure ⟨_,_,_,_,_,rfl,⟨V.sm,I1,by omega,vb,by rw [Kb];omega⟩⟩
  ·rintro c st2 ⟨out,ia,ib,ac,bc,rfl,V⟩
   have:=V.hm
   have ht:1≤total:=by show 1≤a.size+b.size;omega
   exact .inr ⟨_,_,_,_,_,rfl,⟨V.sm,V.inv,V.ha,V.hb,by omega⟩⟩
  rintro c st2 (⟨r,hr,F⟩ | ⟨out,ia,ib,ac,bc,rfl,V⟩)
  ·extract_lets -underBinder rr
   have:rr=some r:=hr
   rw [this]
   exact wpS_pure ⟨r,rfl,F⟩
  refine wpS_bind (wpS_lift (wpAny_rule ⟨rfl,?_⟩))
  extract_lets -underBinder mg1
  refine wpS_bind (wpS_mono (wpS_forRange (I:=fun _ c st'=>∃ out ia ib mg ac bc,c=(none,out,ia,ib,mg,ac,bc)/\Lo key st a b (x+2) out ia ib st') (Q:=fun c st'=>(∃ r,c.1=some r/\Fin key st (a.toList++b.toList) r st')∨∃ out ia ib mg ac bc,c=(none,out,ia,ib,mg,ac,bc)/\Lo key st a b (x+2) out ia ib st') ?_ ?_ ⟨out,ia,ib,_,ac,bc,rfl,V⟩) ?_)
  ·rintro x2 c st3 _ hx2 ⟨out,ia,ib,mg,ac,bc,rfl,V⟩
   have vm:=V.hm
   have va:=V.ha
   have vb:=V.hb
   obtain ⟨y,y1,y2,y3⟩:=yZ (a:=b) (i:=ib) (by omega)
   extract_lets -underBinder _ o _ i _ j _ m _ ac bc jp
   have hjp:∀ u g,wpS (model prog w) A E s (jp u g) (LoQ key st a b (x+2)) st3:=by
    intro u g
    refine wpS_bind (xp fun st4 sm4=>?_)
    have sm:=V.sm.trans sm4
    refine wpS_bind (zN y1 (wpS_bind (gal (a:=a) (i:=ia) hA (sm.kind.trans hk) (hb y y2) ha sa (by show ia+(a.size - ia)≤_;omega) (by show 0<a.size - ia;omega) fun k k1 klo khi=>?_)))
    dsimp (config:={zeta:=false,zetaHave:=false}) only
    extract_lets -underBinder ac1 jp2 o3 ia3
    have hj2:∀ u (o:Array Keyed) i,Inv key (a.toList++b.toList) o.toList (a.toList.drop i) (b.toList.drop ib)->i+2≤a.size->(∀ x ∈ a.toList.drop i,O.kle (key y) (key x))->x+2≤o.size->wpS (model prog w) A E s (jp2 u o i) (LoQ key st a b (x+2)) st4:=by
     intro u o i I hi hc ho
     refine wpS_bind (zN y1 ?_)
     extract_lets -underBinder o2 ib2
     have I1:Inv key (a.toList++b.toList) o2.toList (a.toList.drop i) (b.toList.drop ib2):=pushB I y1 hc
     have ho2:x+2≤o2.size:=by show _≤(o.push y).size;rw [Kb];omega
     by_cases hz:ib2=b.size
     ·rw [if_pos (beq_iff_eq.mpr hz)]
      exact wpS_pure (.inl ⟨_,rfl,done1 sm I1 (.inr (by omega))⟩)
     rw [if_neg (fun z=>hz (beq_iff_eq.mp z))]
     have hib2:ib2+1≤b.size:=by have:ib2=ib+1:=rfl;omega
     clear_value o2 ib2
     obtain ⟨z,z1,z2,z3⟩:=yZ (a:=a) (i:=i) (by omega)
     refine wpS_bind (zN z1 (wpS_bind (gal (a:=b) (i:=ib2) hA (sm.kind.trans hk) (ha z z2) hb sb (by show ib2+(b.size - ib2)≤_;omega) (by show 0<b.size - ib2;omega) fun k k1 klo khi=>?_)))
     dsimp (config:={zeta:=false,zetaHave:=false}) only
     extract_lets -underBinder bc1 jp3 o3 ib3
     have hj3:∀ u (o:Array Keyed) j,Inv key (a.toList++b.toList) o.toList (a.toList.drop i) (b.toList.drop j)->j+1≤b.size->(∀ x ∈ b.toList.drop j,O.kle (key z) (key x))->x+2≤o.size->wpS (model prog w) A E s (jp3 u o j) (LoQ key st a b (x+2)) st4:=by
      intro u o j I hj hc ho
      refine wpS_bind (zN z1 ?_)
      have I1:=pushA I z1 hc
      dsimp only
      by_cases hz:i+1+1=a.size
      ·rw [if_pos (beq_iff_eq.mpr hz)]
       exact wpS_pure (.inl ⟨_,rfl,done2 sm I1 hz⟩)
      rw [if_neg (fun z=>hz (beq_iff_eq.mp z))]
      have W:Lo key st a b (x+2) (o.push z) (i+1) j st4:=⟨sm,I1,by omega,hj,by rw [Kb];omega⟩
      split
      ·exact wpS_pure (.inr ⟨_,_,_,_,_,_,rfl,W⟩)
      ·exact wpS_pure ⟨_,_,_,_,_,_,rfl,W⟩
     clear_value jp3
     have hrest:∀ x ∈ b.toList.drop (ib2+k),O.kle (key z) (key x):=fun x hx=>by
      obtain ⟨j,j1,j2⟩:=xj hx
      rw [Nat.add_assoc] at j2
      exact khi (k+j) x (by omega) (by omega) j2
     by_cases hk0:k > 0
     ·rw [if_pos hk0]
      have I2:Inv key (a.toList++b.toList) o3.toList (a.toList.drop i) (b.toList.drop ib3):=(Inv.moveX (k:=k) I1.swap sb fun y' hy' x' hx'=>by
       obtain ⟨j,j1,j2⟩:=v6 hy'
       obtain ⟨j',j3,j4⟩:=xj hx'
       exact uE sa z1 j4 (JX (klo j y' j1 j2))).swap
      by_cases hz:ib3=b.size
      ·rw [if_pos (beq_iff_eq.mpr hz)]
       exact wpS_pure (.inl ⟨_,rfl,done1 sm I2 (.inr (by omega))⟩)
      rw [if_neg (fun z=>hz (beq_iff_eq.mp z))]
      refine hj3 _ _ _ I2 (by have:ib3=ib2+k:=rfl;omega) hrest (by show _≤(o2++_).size;rw [Qu];omega)
     ·rw [if_neg hk0]
      obtain rfl:k=0:=by omega
      exact hj3 _ _ _ I1 hib2 hrest ho2
    clear_value jp2
    have hrest:∀ x ∈ a.toList.drop (ia+k),O.kle (key y) (key x):=fun x hx=>by
     obtain ⟨j,j1,j2⟩:=xj hx
     rw [Nat.add_assoc] at j2
     have k1:k≤a.size - ia:=k1
     have:=khi (k+j) x (by omega) (show k+j<a.size - ia by omega) j2
     have e:O.blt (key y) (key x)=true:=by simpa [bey] using this
     exact JX e
    by_cases hk0:k > 0
    ·rw [if_pos hk0]
     have I2:Inv key (a.toList++b.toList) o3.toList (a.toList.drop ia3) (b.toList.drop ib):=Inv.moveX (k:=k) V.inv sa fun y' hy' x' hx'=>by
      obtain ⟨j,j1,j2⟩:=v6 hy'
      obtain ⟨j',j3,j4⟩:=xj hx'
      have:=klo j y' j1 j2
      have e:O.blt (key y) (key y')=false:=by simpa [bey] using this
      exact uE sb y1 j4 e
     by_cases hz:ia3+1=a.size
     ·rw [if_pos (beq_iff_eq.mpr hz)]
      exact wpS_pure (.inl ⟨_,rfl,done2 sm I2 hz⟩)
     rw [if_neg (fun z=>hz (beq_iff_eq.mp z))]
     by_cases hz2:ia3=a.size
     ·rw [if_pos (beq_iff_eq.mpr hz2)]
      exact wpS_pure (.inl ⟨_,rfl,done1 sm I2 (.inl (by omega))⟩)
     rw [if_neg (fun z=>hz2 (beq_iff_eq.mp z))]
     exact hj2 _ _ _ I2 (by have:ia3=ia+k:=rfl;omega) hrest (by show _≤(out++_).size;rw [Qu];omega)
    ·rw [if_neg hk0]
     obtain rfl:k=0:=by omega
     exact hj2 _ _ _ V.inv va hrest vm
   clear_value jp
   split
   ·exact wpS_mono (hjp _ _) fun r st' h=>by cases r<;>exact h
   ·exact wpS_mono (hjp _ _) fun r st' h=>by cases r<;>exact h
  ·rintro c st3 ⟨out,ia,ib,mg,ac,bc,rfl,V⟩
   exact .inr ⟨_,_,_,_,_,_,rfl,V⟩
  rintro c st3 (⟨r,hr,F⟩ | ⟨out,ia,ib,mg,ac,bc,rfl,V⟩)
  ·extract_lets -underBinder rr
   have:rr=some r:=hr
   rw [this]
   exact wpS_pure ⟨r,rfl,F⟩
  dsimp only
  refine wpS_bind (xp fun st4 sm4=>wpS_pure ⟨_,_,_,_,rfl,⟨V.sm.trans sm4,V.inv,V.ha,V.hb,V.hm⟩⟩)
 ·rintro c st1 ⟨out,ia,ib,mg,rfl,V⟩
  have:=len V.inv
  have:=V.hm
  omega
 ·rintro c st1 ⟨r,hr,F⟩
  extract_lets -underBinder rr
  have:rr=some r:=hr
  rw [this]
  exact wpS_pure (h r st1 F)
end
section
variable {prog:Program} {w:World} {A:Around} {E:Value->Shared->Prop} {s:Shared} {O:KeyOrd} {key:Keyed->O.α} {L T R X Y X1 X2:List Keyed} {κ:SortKind} {st st' st'':SortSt}
structure InvH (key:Keyed->O.α) (T R X Y:List Keyed):Prop where
 perm:(X++Y++R).Perm T
 srt:Srt key R
 cut:∀ x ∈ X++Y,∀ y ∈ R,O.kle (key x) (key y)
theorem InvH.swap(h:InvH key T R X Y):InvH key T R Y X:=
 ⟨(List.Perm.append_right R List.perm_append_comm).trans h.perm,h.srt,fun x hx y hy=>h.cut x (JK.mpr (JK.mp hx).symm) y hy⟩
theorem InvH.move(h:InvH key T R Y (X1++X2))(hs:Srt key (X1++X2))(hc:∀ x ∈ X2,∀ y ∈ Y,O.kle (key y) (key x)):InvH key T (X2++R) Y X1:=by
 obtain ⟨s1,s2,s3⟩:=Jz.mp hs
 refine ⟨?_,List.pairwise_append.mpr ⟨s2,h.srt,fun x hx y hy=>h.cut x (by simp [hx]) y hy⟩,fun x hx y hy=>?_⟩
 ·have:=h.perm
  rw [JC] at this ⊢
  rw [JC] at this
  exact this
 ·rcases List.mem_append.mp hy with hy | hy
  ·rcases List.mem_append.mp hx with hx | hx
   ·exact hc y hy x hx
   ·exact s3 x hx y hy
  ·exact h.cut x (by rcases List.mem_append.mp hx with hx | hx<;>simp [hx]) y hy
theorem InvH.fin(h:InvH key T R X Y)(h1:Srt key X)(h2:Srt key Y)(hc:∀ x ∈ X,∀ y ∈ Y,O.kle (key x) (key y)):(X++Y++R).Perm T/\Srt key (X++Y++R):=
 ⟨h.perm,Jz.mpr ⟨Jz.mpr ⟨h1,h2,hc⟩,h.srt,h.cut⟩⟩
theorem uL(a:Array Keyed)(n:Nat):(a.extract 0 n).toList=a.toList.take n:=by rw [Array.toList_extract,List.extract];simp
theorem kB(a:Array Keyed)(i n:Nat):(a.extract i n).toList=(a.toList.take n).drop i:=by rw [Array.toList_extract,List.extract,List.drop_take]
theorem Srt.take(h:Srt key X)(i:Nat):Srt key (X.take i):=List.Pairwise.sublist (List.take_sublist i X) h
theorem xi{a:Array Keyed}(h:x ∈ a.toList.take n):∃ j,j<n/\a[j]?=some x:=by
 obtain ⟨j,j1,j2⟩:=v6 (i:=0) (by rw [List.drop_zero];exact h)
 exact ⟨j,j1,by rw [KU] at j2;exact j2⟩
theorem zdq{a:Array Keyed}(h:x ∈ (a.toList.take n).drop i):∃ j,i≤j/\j<n/\a[j]?=some x:=by
 rw [List.drop_take] at h
 obtain ⟨j,j1,j2⟩:=v6 h
 exact ⟨i+j,by omega,by omega,j2⟩
theorem xt{a:Array Keyed}(h1:1≤n)(h:n≤a.size):∃ x,a[n - 1]?=some x/\x ∈ a.toList/\(a.toList.take n).drop (n - 1)=[x]:=by
 obtain ⟨x,x1,x2,x3⟩:=yZ (a:=a) (i:=n - 1) (by omega)
 refine ⟨x,x1,x2,?_⟩
 rw [List.drop_take,x3,show n - (n - 1)=1 by omega];rfl
theorem InvH.moveX{a out:Array Keyed}(h:InvH key T out.toList.reverse Y (a.toList.take n))(hin:i≤n)(hs:Srt key a.toList)(hc:∀ x ∈ (a.toList.take n).drop i,∀ y ∈ Y,O.kle (key y) (key x)):InvH key T (out++(a.extract i n).reverse).toList.reverse Y (a.toList.take i):=by
 rw [JO,List.reverse_append,Qi,List.reverse_reverse,kB]
 have e:(a.toList.take n).take i++(a.toList.take n).drop i=a.toList.take n:=Ko _ _
 rw [List.take_take,Nat.min_eq_left hin] at e
 exact InvH.move (by rw [e];exact h) (by rw [e];exact hs.take n) hc
structure Hi (key:Keyed->O.α) (st:SortSt) (a b:Array Keyed) (m:Nat) (out:Array Keyed) (na nb:Nat) (st':SortSt):Prop where
 sm:Sm st st'
 inv:InvH key (a.toList++b.toList) out.toList.reverse (a.toList.take na) (b.toList.take nb)
 ha:1≤na/\na≤a.size
 hb:2≤nb/\nb≤b.size
 hm:m≤out.size
noncomputable def HiQ(key:Keyed->O.α)(st:SortSt)(a b:Array Keyed)(m:Nat)(r:ForInStep (Option (Array Keyed) × Nat × Nat × Array Keyed × Nat × Nat × Nat))(st':SortSt):Prop:=match r with
 | .done c=>(∃ r,c.1=some r/\Fin key st (a.toList++b.toList) r st')∨∃ na nb out mg ac bc,c=(none,na,nb,out,mg,ac,bc)/\Hi key st a b m out na nb st'
 | .yield c=>∃ na nb out mg ac bc,c=(none,na,nb,out,mg,ac,bc)/\Hi key st a b m out na nb st'
theorem zaq{a b:Array Keyed}{Q:Array Keyed->SortSt->Prop}(hA:Asks prog w A s κ L key)(hk:kindOf st=κ)(ha:∀ x ∈ a.toList,x ∈ L)(hb:∀ x ∈ b.toList,x ∈ L)(sa:Srt key a.toList)(sb:Srt key b.toList)(a1:1≤a.size)(b1:1≤b.size)
  (hf:∀ x ∈ a.toList,∀ y,b[0]?=some y->O.kle (key y) (key x))(hl:∀ x ∈ b.toList,∀ y,a[a.size - 1]?=some y->O.kle (key x) (key y))(h:∀ r st',Fin key st (a.toList++b.toList) r st'->Q r st'):wpS (model prog w) A E s (zgI a b) Q st:=by
 have done1:∀ {out:Array Keyed} {na nb st'},Sm st st'->InvH key (a.toList++b.toList) out.toList.reverse (a.toList.take na) (b.toList.take nb)->(na=0∨nb=0)->Fin key st (a.toList++b.toList) (a.extract 0 na++b.extract 0 nb++out.reverse) st':=fun {out na nb st'} sm I hz=>by
  obtain ⟨f1,f2⟩:=I.fin (sa.take _) (sb.take _) (by
   rcases hz with rfl | rfl
   ·simp
   ·simp)
  refine ⟨sm,?_⟩
  rw [JO,JO,uL,uL,Qi]
  exact ⟨f1,f2⟩
 have done2:∀ {out:Array Keyed} {na nb st'},Sm st st'->InvH key (a.toList++b.toList) out.toList.reverse (a.toList.take na) (b.toList.take nb)->nb=1->Fin key st (a.toList++b.toList) (b.extract 0 nb++a.extract 0 na++out.reverse) st':=fun {out na nb st'} sm I hz=>by
  subst hz
  obtain ⟨f1,f2⟩:=I.swap.fin (sb.take _) (sa.take _) (fun x hx y hy=>by
   obtain ⟨j,j1,j2⟩:=xi hx
   obtain rfl:j=0:=by omega
   exact hf y (QB hy) x j2)
  refine ⟨sm,?_⟩
  rw [JO,JO,uL,uL,Qi]
  exact ⟨f1,f2⟩
 have pushB:∀ {out:Array Keyed} {na nb y},1≤nb->nb≤b.size->InvH key (a.toList++b.toList) out.toList.reverse (a.toList.take na) (b.toList.take nb)->b[nb - 1]?=some y->(∀ x ∈ a.toList.take na,O.kle (key x) (key y))->InvH key (a.toList++b.toList) (out.push y).toList.reverse (a.toList.take na) (b.toList.take (nb - 1)):=fun {out na nb y} h1 h2 I hy hc=>by
  obtain ⟨z,z1,z2,z3⟩:=xt h1 h2
  rw [hy] at z1;cases z1
  have:=InvH.moveX (i:=nb - 1) I (by omega) sb (by rw [z3];simpa using hc)
  have e:(b.extract (nb - 1) nb).toList=[y]:=by rw [kB,z3]
  rw [JO,Qi,e] at this
  rw [Kz];exact this
 have pushA:∀ {out:Array Keyed} {na nb y},1≤na->na≤a.size->InvH key (a.toList++b.toList) out.toList.reverse (a.toList.take na) (b.toList.take nb)->a[na - 1]?=some y->(∀ x ∈ b.toList.take nb,O.kle (key x) (key y))->InvH key (a.toList++b.toList) (out.push y).toList.reverse (a.toList.take (na - 1)) (b.toList.take nb):=fun {out na nb y} h1 h2 I hy hc=>by
  obtain ⟨z,z1,z2,z3⟩:=xt h1 h2
  rw [hy] at z1;cases z1
  have:=(InvH.moveX (i:=na - 1) I.swap (by omega) sa (by rw [z3];simpa using hc)).swap
  have e:(a.extract (na - 1) na).toList=[y]:=by rw [kB,z3]
  rw [JO,Qi,e] at this
  rw [Kz];exact this
 have topB:∀ {n:Nat} {y x:Keyed},b[n - 1]?=some y->x ∈ b.toList.take n->O.kle (key x) (key y):=fun {n y x} hy hx=>by
  obtain ⟨j,j1,j2⟩:=xi hx
  exact sb.at j2 hy (by omega)
 have topA:∀ {n:Nat} {y x:Keyed},a[n - 1]?=some y->x ∈ a.toList.take n->O.kle (key x) (key y):=fun {n y x} hy hx=>by
  obtain ⟨j,j1,j2⟩:=xi hx
  exact sa.at j2 hy (by omega)
 refine wpS_bind (wpS_lift (wpAny_rule ⟨rfl,?_⟩))
 extract_lets -underBinder total done firstB na0 nb0
 obtain ⟨z0,z1,z2,z3⟩:=xt (a:=a) a1 (Jm _)
 refine wpS_bind (zN z1 ?_)
 extract_lets -underBinder out0
 have I0:InvH key (a.toList++b.toList) out0.toList.reverse (a.toList.take na0) (b.toList.take nb0):=by
  have eA:a.toList.take a.size=a.toList:=List.take_of_length_le (by simp)
  have eB:b.toList.take b.size=b.toList:=List.take_of_length_le (by simp)
  exact pushA (out:=#[]) (nb:=b.size) a1 (Nat.le_refl _) ⟨by rw [eA,eB];simp,.nil,by simp⟩ z1 (fun x hx=>hl x (List.mem_of_mem_take hx) z0 z1)
 by_cases ha1:na0=0
 ·rw [if_pos (beq_iff_eq.mpr ha1)]
  exact wpS_pure (h _ _ (done1 (Sm.refl _) I0 (.inl ha1)))
 rw [if_neg (fun z=>ha1 (beq_iff_eq.mp z))]
 by_cases hb1:nb0=1
 ·rw [if_pos (beq_iff_eq.mpr hb1)]
  exact wpS_pure (h _ _ (done2 (Sm.refl _) I0 hb1))
 rw [if_neg (fun z=>hb1 (beq_iff_eq.mp z))]
 refine wpS_bind (wpS_get ?_)
 extract_lets -underBinder mg0
 have len:∀ {out:Array Keyed} {na nb},na≤a.size->nb≤b.size->InvH key (a.toList++b.toList) out.toList.reverse (a.toList.take na) (b.toList.take nb)->out.size+(na+nb)=total:=fun {out na nb} h1 h2 I=>by
  have:=I.perm.length_eq
  simp only [List.length_append,List.length_take,List.length_reverse,Array.length_toList] at this
  show _=a.size+b.size
  omega
 refine wpS_bind (wpS_mono (wpS_forRange (I:=fun x c st'=>∃ na nb out mg,c=(none,na,nb,out,mg)/\Hi key st a b (x+1) out na nb st') (Q:=fun c st'=>∃ r,c.1=some r/\Fin key st (a.toList++b.toList) r st') ?_ ?_ ⟨na0,nb0,out0,mg0,rfl,⟨Sm.refl _,I0,⟨by omega,by show a.size - 1≤_;omega⟩,⟨by have:nb0=b.size:=rfl;omega,Jm _⟩,by show 0+1≤1;omega⟩⟩) ?_)
 ·rintro x c st1 _ hx ⟨na,nb,out,mg,rfl,V⟩
  extract_lets -underBinder
  refine wpS_bind (wpS_mono (wpS_forRange (I:=fun x1 c st'=>∃ na nb out ac bc,c=(none,na,nb,out,ac,bc)/\Hi key st a b (x+1+x1) out na nb st') (Q:=fun c st'=>(∃ r,c.1=some r/\Fin key st (a.toList++b.toList) r st')∨∃ na nb out ac bc,c=(none,na,nb,out,ac,bc)/\Hi key st a b (x+2) out na nb st') ?_ ?_ ⟨na,nb,out,0,0,rfl,V⟩) ?_)
  ·rintro x1 c st2 _ hx1 ⟨na,nb,out,ac,bc,rfl,V⟩
   have vm:=V.hm
   have va:=V.ha
   have vb:=V.hb
   dsimp only
   obtain ⟨y,y1,y2,y3⟩:=xt (a:=b) (n:=nb) (by omega) (by omega)
   obtain ⟨z,z1,z2,z3⟩:=xt (a:=a) (n:=na) (by omega) (by omega)
   refine wpS_bind (zN y1 (wpS_bind (zN z1 (wpS_bind (jO hA (V.sm.kind.trans hk) (hb y y2) (ha z z2) ?_)))))
   cases c:O.blt (key y) (key z) with
   | true=>
    dsimp only
    rw [if_pos rfl]
    have I1:=pushA va.1 va.2 V.inv z1 fun x hx=>JL (topB y1 hx) (JX c)
    refine wpS_bind (zN z1 ?_)
    by_cases hz:na - 1=0
    ·rw [if_pos (beq_iff_eq.mpr hz)]
     exact wpS_pure (.inl ⟨_,rfl,done1 V.sm I1 (.inl hz)⟩)
    rw [if_neg (fun z=>hz (beq_iff_eq.mp z))]
    split
    ·exact wpS_pure (.inr ⟨_,_,_,_,_,rfl,⟨V.sm,I1,by omega,vb,by rw [Kb];omega⟩⟩)
    ·exact wpS_pure ⟨_,_,_,_,_,rfl,⟨V.sm,I1,by omega,vb,by rw [Kb];omega⟩⟩
   | false=>
    dsimp only
    rw [if_neg Jj]
    have I1:=pushB (by omega) vb.2 V.inv y1 fun x hx=>JL (topA z1 hx) c
    refine wpS_bind (zN y1 ?_)
    by_cases hz:nb - 1=1
    ·rw [if_pos (beq_iff_eq.mpr hz)]
     exact wpS_pure (.inl ⟨_,rfl,done2 V.sm I1 hz⟩)
    rw [if_neg (fun z=>hz (beq_iff_eq.mp z))]
    split
    ·exact wpS_pure (.inr ⟨_,_,_,_,_,rfl,⟨V.sm,I1,va,by omega,by rw [Kb];omega⟩⟩)
    ·exact wpS_pure ⟨_,_,_,_,_,rfl,⟨V.sm,I1,va,by omega,by rw [Kb];omega⟩⟩
  ·rintro c st2 ⟨na,nb,out,ac,bc,rfl,V⟩
   have:=V.hm
   have ht:1≤total:=by show 1≤a.size+b.size;omega
   exact .inr ⟨_,_,_,_,_,rfl,⟨V.sm,V.inv,V.ha,V.hb,by omega⟩⟩
  rintro c st2 (⟨r,hr,F⟩ | ⟨na,nb,out,ac,bc,rfl,V⟩)
  ·extract_lets -underBinder rr
   have:rr=some r:=hr
   rw [this]
   exact wpS_pure ⟨r,rfl,F⟩
  refine wpS_bind (wpS_lift (wpAny_rule ⟨rfl,?_⟩))
  extract_lets -underBinder mg1
  refine wpS_bind (wpS_mono (wpS_forRange (I:=fun _ c st'=>∃ na nb out mg ac bc,c=(none,na,nb,out,mg,ac,bc)/\Hi key st a b (x+2) out na nb st') (Q:=fun c st'=>(∃ r,c.1=some r/\Fin key st (a.toList++b.toList) r st')∨∃ na nb out mg ac bc,c=(none,na,nb,out,mg,ac,bc)/\Hi key st a b (x+2) out na nb st') ?_ ?_ ⟨na,nb,out,_,ac,bc,rfl,V⟩) ?_)
  ·rintro x2 c st3 _ hx2 ⟨na,nb,out,mg,ac,bc,rfl,V⟩
   have vm:=V.hm
   have va:=V.ha
   have vb:=V.hb
   obtain ⟨y,y1,y2,y3⟩:=xt (a:=b) (n:=nb) (by omega) (by omega)
   extract_lets -underBinder _ i _ j _ o _ m _ ac bc jp
   have hjp:∀ u g,wpS (model prog w) A E s (jp u g) (HiQ key st a b (x+2)) st3:=by
    intro u g
    refine wpS_bind (xp fun st4 sm4=>?_)
    have sm:=V.sm.trans sm4
    refine wpS_bind (zN y1 (wpS_bind (gal (a:=a) (i:=0) hA (sm.kind.trans hk) (hb y y2) ha sa (by show 0+na≤_;omega) (by show na - 1<na;omega) fun k k1 klo khi=>?_)))
    have k1:k≤na:=k1
    dsimp (config:={zeta:=false,zetaHave:=false}) only
    extract_lets -underBinder kk ac1 jp2 o3 na3
    have hj2:∀ u (na:Nat) (o:Array Keyed),InvH key (a.toList++b.toList) o.toList.reverse (a.toList.take na) (b.toList.take nb)->1≤na->na≤a.size->(∀ x ∈ a.toList.take na,O.kle (key x) (key y))->x+2≤o.size->wpS (model prog w) A E s (jp2 u na o) (HiQ key st a b (x+2)) st4:=by
     intro u na o I hi hi2 hc ho
     refine wpS_bind (zN y1 ?_)
     extract_lets -underBinder o2
     have I1:InvH key (a.toList++b.toList) o2.toList.reverse (a.toList.take na) (b.toList.take (nb - 1)):=pushB (by omega) vb.2 I y1 hc
     have ho2:x+2≤o2.size:=by show _≤(o.push y).size;rw [Kb];omega
     by_cases hz:nb - 1=1
     ·rw [if_pos (beq_iff_eq.mpr hz)]
      exact wpS_pure (.inl ⟨_,rfl,done2 sm I1 hz⟩)
     rw [if_neg (fun z=>hz (beq_iff_eq.mp z))]
     clear_value o2
     obtain ⟨z,z1,z2,z3⟩:=xt (a:=a) (n:=na) (by omega) (by omega)
     refine wpS_bind (zN z1 (wpS_bind (gal (a:=b) (i:=0) hA (sm.kind.trans hk) (ha z z2) hb sb (by show 0+(nb - 1)≤_;omega) (by show nb - 1 - 1<nb - 1;omega) fun k k1 klo khi=>?_)))
     have k1:k≤nb - 1:=k1
     dsimp (config:={zeta:=false,zetaHave:=false}) only
     extract_lets -underBinder kk bc1 jp3 o3 nb3
     have hj3:∀ u (nb:Nat) (o:Array Keyed),InvH key (a.toList++b.toList) o.toList.reverse (a.toList.take na) (b.toList.take nb)->2≤nb->nb≤b.size->(∀ x ∈ b.toList.take nb,O.kle (key x) (key z))->x+2≤o.size->wpS (model prog w) A E s (jp3 u nb o) (HiQ key st a b (x+2)) st4:=by
      intro u nb o I hj hj2 hc ho
      refine wpS_bind (zN z1 ?_)
      have I1:=pushA hi hi2 I z1 hc
      dsimp only
      by_cases hz:na - 1=0
      ·rw [if_pos (beq_iff_eq.mpr hz)]
       exact wpS_pure (.inl ⟨_,rfl,done1 sm I1 (.inl hz)⟩)
      rw [if_neg (fun z=>hz (beq_iff_eq.mp z))]
      have W:Hi key st a b (x+2) (o.push z) (na - 1) nb st4:=⟨sm,I1,by omega,⟨hj,hj2⟩,by rw [Kb];omega⟩
      split
      ·exact wpS_pure (.inr ⟨_,_,_,_,_,_,rfl,W⟩)
      ·exact wpS_pure ⟨_,_,_,_,_,_,rfl,W⟩
     clear_value jp3
     have hrest:∀ x ∈ b.toList.take k,O.kle (key x) (key z):=fun x hx=>by
      obtain ⟨j,j1,j2⟩:=xi hx
      exact JX (klo j x j1 (by rw [KU];exact j2))
     by_cases hk0:kk > 0
     ·rw [if_pos hk0]
      have I2:InvH key (a.toList++b.toList) o3.toList.reverse (a.toList.take na) (b.toList.take nb3):=InvH.moveX I1 (by omega) sb fun y' hy' x' hx'=>by
       obtain ⟨j,j1,j2,j3⟩:=zdq hy'
       exact JL (topA z1 hx') (khi j y' j1 j2 (by rw [KU];exact j3))
      by_cases hz:nb3=1
      ·rw [if_pos (beq_iff_eq.mpr hz)]
       exact wpS_pure (.inl ⟨_,rfl,done2 sm I2 hz⟩)
      rw [if_neg (fun z=>hz (beq_iff_eq.mp z))]
      by_cases hz2:nb3=0
      ·rw [if_pos (beq_iff_eq.mpr hz2)]
       exact wpS_pure (.inl ⟨_,rfl,done1 sm I2 (.inr hz2)⟩)
      rw [if_neg (fun z=>hz2 (beq_iff_eq.mp z))]
      exact hj3 _ _ _ I2 (by omega) (by show k≤_;omega) hrest (by show _≤(o2++_).size;rw [Qu];omega)
     ·rw [if_neg hk0]
      obtain rfl:k=nb - 1:=by have:kk=nb - 1 - k:=rfl;omega
      exact hj3 _ _ _ I1 (by omega) (by omega) hrest ho2
    clear_value jp2
    have hrest:∀ x ∈ a.toList.take k,O.kle (key x) (key y):=fun x hx=>by
     obtain ⟨j,j1,j2⟩:=xi hx
     have:=klo j x j1 (by rw [KU];exact j2)
     have e:O.blt (key y) (key x)=false:=by simpa [bey] using this
     exact e
    by_cases hk0:kk > 0
    ·rw [if_pos hk0]
     have I2:InvH key (a.toList++b.toList) o3.toList.reverse (a.toList.take na3) (b.toList.take nb):=(InvH.moveX V.inv.swap (show k≤na from k1) sa fun y' hy' x' hx'=>by
      obtain ⟨j,j1,j2,j3⟩:=zdq hy'
      have:=khi j y' j1 j2 (by rw [KU];exact j3)
      have e:O.blt (key y) (key y')=true:=by simpa [bey] using this
      exact JL (topB y1 hx') (JX e)).swap
     by_cases hz:na3=0
     ·rw [if_pos (beq_iff_eq.mpr hz)]
      exact wpS_pure (.inl ⟨_,rfl,done1 sm I2 (.inl hz)⟩)
     rw [if_neg (fun z=>hz (beq_iff_eq.mp z))]
     exact hj2 _ _ _ I2 (by omega) (by show k≤_;omega) hrest (by show _≤(out++_).size;rw [Qu];omega)
    ·rw [if_neg hk0]
     obtain rfl:k=na:=by have:kk=na - k:=rfl;omega
     exact hj2 _ _ _ V.inv va.1 va.2 hrest vm
   clear_value jp
   split
   ·exact wpS_mono (hjp _ _) fun r st' h=>by cases r<;>exact h
   ·exact wpS_mono (hjp _ _) fun r st' h=>by cases r<;>exact h
  ·rintro c st3 ⟨na,nb,out,mg,ac,bc,rfl,V⟩
   exact .inr ⟨_,_,_,_,_,_,rfl,V⟩
  rintro c st3 (⟨r,hr,F⟩ | ⟨na,nb,out,mg,ac,bc,rfl,V⟩)
  ·extract_lets -underBinder rr
   have:rr=some r:=hr
   rw [this]
   exact wpS_pure ⟨r,rfl,F⟩
  dsimp only
  refine wpS_bind (xp fun st4 sm4=>wpS_pure ⟨_,_,_,_,rfl,⟨V.sm.trans sm4,V.inv,V.ha,V.hb,V.hm⟩⟩)
 ·rintro c st1 ⟨na,nb,out,mg,rfl,V⟩
  have:=len V.ha.2 V.hb.2 V.inv
  have:=V.hm
  omega
 ·rintro c st1 ⟨r,hr,F⟩
  extract_lets -underBinder rr
  have:rr=some r:=hr
  rw [this]
  exact wpS_pure (h r st1 F)
end
section
variable {prog:Program} {w:World} {A:Around} {E:Value->Shared->Prop} {s:Shared} {O:KeyOrd} {key:Keyed->O.α} {L P X Y S:List Keyed} {κ:SortKind} {st st' st'':SortSt}
theorem jG{xs:Array Keyed}(e:xs.toList=P++X++S)(hi:i<X.length):xs[P.length+i]?=some X[i]:=by
 rw [← Js,e,JC,KN (by omega),Qn,Kj hi,Jd hi]
theorem znL{xs:Array Keyed}{Q:Option Nat->SortSt->Prop}(hA:Asks prog w A s κ L key)(hk:kindOf st=κ)(h0:k0 ∈ L)(e:xs.toList=P++X++S)(hX:∀ x ∈ X,x ∈ L)(hs:Srt key X)(hb:base=P.length)(hn:n=X.length)(hh:hint<n)
  (h:∀ k,k≤X.length->(∀ x ∈ X.take k,bey l (key k0) (key x)=true)->(∀ x ∈ X.drop k,bey l (key k0) (key x)=false)->Q (some k) st):wpS (model prog w) A E s (qv l k0 xs base n hint) Q st:=by
 subst hb hn
 have hg:∀ j (hj:j<X.length),X.getD j (Value.none,Value.none)=X[j]:=fun j hj=>by simp [List.getD,hj]
 refine jP (g:=fun j=>X.getD j (Value.none,Value.none)) hA hk h0 (fun j hj=>?_) (fun j j' hj hj' c=>?_) hh fun k hc=>h k hc.1 (fun x hx=>?_) fun x hx=>?_
 ·show xs[P.length+j]?=some (X.getD j _)/\X.getD j _ ∈ L
  rw [hg j hj]
  exact ⟨jG e hj,hX _ (JP hj)⟩
 ·dsimp only at c ⊢
  rw [hg j' hj'] at c
  rw [hg j (by omega)]
  rcases Nat.lt_or_ge j j' with d | d
  ·have:=JZ.mp hs j j' (by omega) hj' d
   cases l with
   | true=>exact KeyOrd.klt_of_kle_of_klt this c
   | false=>
    have e':O.blt (key k0) (key X[j'])=false:=by simpa [bey] using c
    have:O.blt (key k0) (key X[j])=false:=JL this e'
    show (!O.blt _ _)=true
    rw [this];rfl
  ·obtain rfl:j=j':=by omega
   exact c
 ·obtain ⟨j,hj,rfl⟩:=Ke hx
  rw [Kc] at hj
  have:=hc.2.1 j (by omega)
  dsimp only at this
  rw [hg j (by omega)] at this
  rw [List.getElem_take];exact this
 ·obtain ⟨j,hj,rfl⟩:=Ke hx
  rw [KP] at hj
  have:=hc.2.2 (k+j) (by omega) (by omega)
  dsimp only at this
  rw [hg (k+j) (by omega)] at this
  rw [List.getElem_drop];exact this
theorem jN(off:Nat):∀ (M:List Keyed) (xs:Array Keyed) (P M0 S:List Keyed) (j:Nat),xs.toList=P++M0++S->M0.length=M.length->P.length=off+j->((M.zipIdx j).foldl (fun a x=>a.setIfInBounds (off+x.snd) x.fst) xs).toList=P++M++S
 | [],xs,P,M0,S,j,e,hl,hp=>by
  have:M0=[]:=KZ.mp hl
  subst this
  exact e
 | m::M,xs,P,M0,S,j,e,hl,hp=>by
  match M0,hl with
  | m0::M0,hl=>
   rw [List.zipIdx_cons,QJ,jN off M _ (P++[m]) M0 S (j+1) ?_ (Nat.succ.inj hl) (by rw [Jk,hp];rfl)]
   ·simp
   ·rw [QF,e]
    dsimp only
    rw [JC,List.set_append_right _ _ (by omega),hp,Nat.sub_self]
    simp
theorem zej{A1 A2 M B1 B2:List Keyed}{b0 z:Keyed}(hX:Srt key (A1++A2))(hY:Srt key (B1++B2))(hM:Srt key M)(pm:M.Perm (A2++B1))(h1:∀ x ∈ A1,∀ y ∈ B1++B2,O.kle (key x) (key y))(h2:∀ x ∈ A2,∀ y ∈ B2,O.kle (key x) (key y)):Srt key (A1++M++B2):=by
 obtain ⟨a1,a2,a3⟩:=Jz.mp hX
 obtain ⟨b1,b2,b3⟩:=Jz.mp hY
 refine Jz.mpr ⟨Jz.mpr ⟨a1,hM,fun x hx y hy=>?_⟩,b2,fun x hx y hy=>?_⟩
 ·rcases List.mem_append.mp (pm.mem_iff.mp hy) with hy | hy
  ·exact a3 x hx y hy
  ·exact h1 x hx y (Jr _ hy)
 ·rcases List.mem_append.mp hx with hx | hx
  ·exact h1 x hx y (Jn _ hy)
  ·rcases List.mem_append.mp (pm.mem_iff.mp hx) with hx | hx
   ·exact h2 x hx y hy
   ·exact b3 x hx y hy
theorem ext_of{xs:Array Keyed}{P X S:List Keyed}(e:xs.toList=P++X++S)(hi:i=P.length)(hj:j=P.length+X.length):(xs.extract i j).toList=X:=by
 subst hi hj
 rw [zdD,e,JC,List.drop_left',List.take_left']
 all_goals rfl
theorem zao{Q:PUnit->SortSt->Prop}(h:∀ st1,st2=st1->Q ⟨⟩ st1):wpS (model prog w) A E s (set st2:StateT SortSt Sem PUnit) Q st:=by
 unfold wpS;exact wpAny_pure ⟨rfl,h _ rfl⟩
theorem zar{p1 p2:List (Nat × Nat × Nat)}{Q:Bool->SortSt->Prop}(hA:Asks prog w A s κ L key)(hk:kindOf st=κ)(hL:∀ x ∈ (arrOf st).toList,x ∈ L)(e:(arrOf st).toList=P++X++Y++S)(nX:X≠[])(nY:Y≠[])(sX:Srt key X)(sY:Srt key Y)
  (hp:(pendingOf st).toList=p1++(P.length,X.length,pw)::(P.length+X.length,Y.length,pw2)::p2)(hi:i=p1.length)(hf:failedOf st=none)
  (h:∀ Z st',Z.Perm (X++Y)->Srt key Z->(arrOf st').toList=P++Z++S->(pendingOf st').toList=p1++(P.length,X.length+Y.length,pw)::p2->kindOf st'=κ->failedOf st'=none->Q true st'):wpS (model prog w) A E s (mergeAt' i) Q st:=by
 subst hi
 have g1:(pendingOf st)[p1.length]?=some (P.length,X.length,pw):=by rw [← Array.getElem?_toList,hp];simp
 have g2:(pendingOf st)[p1.length+1]?=some (P.length+X.length,Y.length,pw2):=by
  rw [← Js,hp,KN (by omega),Qn];rfl
 have er:(((pendingOf st).setIfInBounds p1.length (P.length,X.length+Y.length,pw)).eraseIdxIfInBounds (p1.length+1)).toList=p1++(P.length,X.length+Y.length,pw)::p2:=by
  rw [Array.toList_eraseIdxIfInBounds,QF,hp,List.set_append_right _ _ (Jm _),Nat.sub_self,List.set_cons_zero,List.eraseIdx_append_of_length_le (by omega),Qn];rfl
 have eX:(arrOf st).toList=P++X++(Y++S):=by rw [e];simp
 have eY:(arrOf st).toList=(P++X)++Y++S:=e
 have hXL:∀ x ∈ X,x ∈ L:=fun x hx=>hL x (by rw [e];simp [hx])
 have hYL:∀ x ∈ Y,x ∈ L:=fun x hx=>hL x (by rw [e];simp [hx])
 have lX:0<X.length:=List.length_pos_iff.mpr nX
 have lY:0<Y.length:=List.length_pos_iff.mpr nY
 refine wpS_bind (wpS_get ?_)
 extract_lets -underBinder
 rw [g1,g2]
 dsimp (config:={zeta:=false,zetaHave:=false}) only
 refine wpS_bind (zao fun st1 hst1=>?_)
 have k1:kindOf st1=κ:=by rw [← hst1];exact hk
 have f1:failedOf st1=none:=by rw [← hst1];exact hf
 have ar1:arrOf st1=arrOf st:=by rw [← hst1]
 have pe1:(pendingOf st1).toList=p1++(P.length,X.length+Y.length,pw)::p2:=by rw [← hst1];exact er
 have y0:(arrOf st)[P.length+X.length]?=some Y[0]:=by
  have:=jG eY (i:=0) lY
  rw [Jk] at this;exact this
 have hY0:∀ y ∈ Y,O.kle (key Y[0]) (key y):=fun y hy=>by
  obtain ⟨j,hj,rfl⟩:=Ke hy
  rcases Nat.eq_zero_or_pos j with rfl | c
  ·exact Ki _
  ·exact JZ.mp sY 0 j lY hj c
 have same:Srt key (X++Y)->wpS (model prog w) A E s (pure true) Q st1:=fun hs=>wpS_pure (h (X++Y) st1 (List.Perm.refl _) hs (by rw [ar1,e];simp) pe1 k1 f1)
 refine wpS_bind (zN y0 (wpS_bind (znL (P:=P) (X:=X) (S:=Y++S) hA k1 (hYL _ (JP lY)) eX hXL sX rfl rfl lX fun k hk1 klo khi=>?_)))
 dsimp (config:={zeta:=false,zetaHave:=false}) only
 have kl:∀ x ∈ X.take k,∀ y ∈ Y,O.kle (key x) (key y):=fun x hx y hy=>by
  have:=klo x hx
  have e:O.blt (key Y[0]) (key x)=false:=by simpa [bey] using this
  exact JL (show O.kle (key x) (key Y[0]) from e) (hY0 y hy)
 have kh:∀ x ∈ X.drop k,O.kle (key Y[0]) (key x):=fun x hx=>by
  have:=khi x hx
  have e:O.blt (key Y[0]) (key x)=true:=by simpa [bey] using this
  exact JX e
 by_cases hz:X.length - k=0
 ·rw [if_pos (beq_iff_eq.mpr hz)]
  refine same (Jz.mpr ⟨sX,sY,fun x hx y hy=>kl x ?_ y hy⟩)
  rw [List.take_of_length_le (by omega)];exact hx
 rw [if_neg (fun z=>hz (beq_iff_eq.mp z))]
 have zl:X.length - 1<X.length:=by omega
 have z0:(arrOf st)[P.length+k+(X.length - k) - 1]?=some X[X.length - 1]:=by
  have:=jG eX zl
  rwa [show P.length+(X.length - 1)=P.length+k+(X.length - k) - 1 by omega] at this
 have hZ:∀ x ∈ X,O.kle (key x) (key X[X.length - 1]):=fun x hx=>by
  obtain ⟨j,hj,rfl⟩:=Ke hx
  rcases Nat.lt_or_ge j (X.length - 1) with c | c
  ·exact JZ.mp sX j _ hj zl c
  ·have:j=X.length - 1:=by omega
   subst this;exact Ki _
 generalize hzz:X[X.length - 1]=z at *
 have zX:z ∈ X:=by rw [← hzz];exact JP zl
 refine wpS_bind (zN z0 (wpS_bind (znL (P:=P++X) (X:=Y) (S:=S) hA k1 (hXL _ zX) eY hYL sY (by rw [Jk]) rfl (by omega) fun m hm1 mlo mhi=>?_)))
 dsimp (config:={zeta:=false,zetaHave:=false}) only
 have mh:∀ x ∈ X,∀ y ∈ Y.drop m,O.kle (key x) (key y):=fun x hx y hy=>JL (hZ x hx) (mhi y hy)
 by_cases hz2:m=0
 ·rw [if_pos (beq_iff_eq.mpr hz2)]
  subst hz2
  exact same (Jz.mpr ⟨sX,sY,fun x hx y hy=>mh x hx y hy⟩)
 rw [if_neg (fun z=>hz2 (beq_iff_eq.mp z))]
 extract_lets -underBinder xa yb jp
 have tdX:X.take k++X.drop k=X:=Ko k X
 have tdY:Y.take m++Y.drop m=Y:=Ko m Y
 have exa:xa.toList=X.drop k:=ext_of (P:=P++X.take k) (S:=Y++S) (by rw [JC P,tdX];exact eX) (by rw [Jk,Kc];omega) (by rw [Jk,Kc,KP];omega)
 have eyb:yb.toList=Y.take m:=ext_of (P:=P++X) (S:=Y.drop m++S) (eY.trans (by rw [show P++X++Y.take m++(Y.drop m++S)=P++X++(Y.take m++Y.drop m)++S by simp only [List.append_assoc],tdY])) (by rw [List.length_append]) (by rw [List.length_append,List.length_take];omega)
 have sxa:xa.size=X.length - k:=by rw [← Jg,exa,KP]
 have syb:yb.size=m:=by rw [← Jg,eyb,Kc];omega
 have a1:1≤xa.size:=by omega
 have b1:1≤yb.size:=by omega
 have la:∀ x ∈ xa.toList,x ∈ L:=fun x hx=>hXL x (Qg (exa ▸ hx))
 have lb:∀ x ∈ yb.toList,x ∈ L:=fun x hx=>hYL x (QB (eyb ▸ hx))
 have sa:Srt key xa.toList:=by rw [exa];exact sX.drop k
 have sb:Srt key yb.toList:=by rw [eyb];exact sY.take m
 have hb0:∀ y,yb[0]?=some y->y=Y[0]:=fun y hy=>by
  rw [← Js,eyb,List.getElem?_take,if_pos (by omega),Jd lY] at hy
  exact (Jq hy).symm
 have hal:∀ y,xa[xa.size - 1]?=some y->y=z:=fun y hy=>by
  rw [← Js,exa,List.getElem?_drop,Jd (by omega)] at hy
  have:=Jq hy
  rw [← this,← hzz]
  congr 1
  omega
 have hl:∀ x ∈ yb.toList,∀ y,xa[xa.size - 1]?=some y->O.kle (key x) (key y):=fun x hx y hy=>by
  rw [hal y hy]
  exact JX (mlo x (eyb ▸ hx))
 have hjp:∀ (r:Array Keyed) st2,Fin key st1 (xa.toList++yb.toList) r st2->wpS (model prog w) A E s (jp r) Q st2:=by
  intro r st2 F
  obtain ⟨⟨g,rfl⟩,pm,sr⟩:=F
  rw [exa,eyb] at pm
  refine wpS_bind (wpS_modify (wpS_bind (wpS_get ?_)))
  have wb:=jN (P.length+k) r.toList (arrOf st1) (P++X.take k) (X.drop k++Y.take m) (Y.drop m++S) 0 (by
   rw [ar1,e]
   conv=>lhs;rw [← tdX,← tdY]
   simp only [List.append_assoc]) pm.length_eq.symm (by rw [List.length_append,List.length_take];omega)
  have hfn:(failedOf st1).isNone=true:=by rw [f1];rfl
  refine (show ∀ b:Bool,b=true->wpS (model prog w) A E s (pure b) Q _ from fun b hb=>wpS_pure ?_) _ hfn
  rw [hb]
  refine h (X.take k++r.toList++Y.drop m) _ ?_ (zej (b0:=z) (z:=z) (by rw [tdX];exact sX) (by rw [tdY];exact sY) sr pm (fun x hx y hy=>kl x hx y (by rw [tdY] at hy;exact hy)) fun x hx y hy=>mh x (Qg hx) y hy) ?_ pe1 k1 f1
  ·have:(X.take k++r.toList++Y.drop m).Perm (X.take k++(X.drop k++Y.take m)++Y.drop m):=List.Perm.append_right _ (Qy _ pm)
   rw [← JC,tdX,JC X,tdY] at this
   exact this
  ·refine wb.trans ?_
   simp only [List.append_assoc]
 clear_value jp
 split
 ·exact wpS_bind (zap hA k1 la lb sa sb a1 b1 (fun x y hx hy=>by
   rw [hb0 x hx]
   exact kh y (by
    rw [← exa]
    obtain ⟨_,e2⟩:=Ju.mp hy
    rw [← e2];simp)) hl hjp)
 ·exact wpS_bind (zaq hA k1 la lb sa sb a1 b1 (fun x hx y hy=>by
   rw [hb0 y hy]
   exact kh x (exa ▸ hx)) hl hjp)
end
section
variable {prog:Program} {w:World} {A:Around} {E:Value->Shared->Prop} {s:Shared} {O:KeyOrd} {key:Keyed->O.α} {L:List Keyed} {κ:SortKind} {st st' st'':SortSt} {xs ys zs:Array Keyed} {lo n m:Nat}
noncomputable def Kx(key:Keyed->O.α)(xs:Array Keyed)(i:Nat):O.α:=key (xs.getD i (Value.none,Value.none))
theorem zbC(h:xs[i]?=ys[j]?):Kx key xs i=Kx key ys j:=by
 unfold Kx
 rw [JF,JF,h]
structure Ch (lo:Nat) (xs ys:Array Keyed):Prop where
 pm:ys.Perm xs
 fx:∀ i,i<lo->ys[i]?=xs[i]?
theorem Ch.refl(lo:Nat)(xs:Array Keyed):Ch lo xs xs:=⟨.refl _,fun _ _=>rfl⟩
theorem Ch.trans(h:Ch lo xs ys)(k:Ch lo ys zs):Ch lo xs zs:=⟨k.pm.trans h.pm,fun i hi=>(k.fx i hi).trans (h.fx i hi)⟩
theorem Ch.size(h:Ch lo xs ys):ys.size=xs.size:=h.pm.size_eq
theorem Ch.mirror(hi:lo≤i)(hj:j≤xs.size):Ch lo xs (mirror xs i j ((j - i) / 2)):=⟨mirror_perm _ _ _ _,fun k hk=>by
 rw [getElem?_mirror_all hj,if_neg (by omega)]⟩
theorem Ch.bubble(hi:lo≤i - d)(hd:d≤i)(hj:i<xs.size):Ch lo xs (bubble xs i d):=⟨bubble_perm _ _ _,fun k hk=>by
 rw [getElem?_bubble hj d hd k,if_neg (by omega),if_neg (by omega)]⟩
structure Cs (κ:SortKind) (L:List Keyed) (lo:Nat) (st st':SortSt):Prop where
 k:kindOf st'=κ
 f:failedOf st'=none
 p:pendingOf st'=pendingOf st
 c:Ch lo (arrOf st) (arrOf st')
 l:∀ x ∈ (arrOf st').toList,x ∈ L
theorem Cs.arr(h:Cs κ L lo st st')(c:Ch lo (arrOf st') xs):Cs κ L lo st (setArr st' xs):=⟨h.k,h.f,h.p,h.c.trans c,fun x hx=>h.l x (by
 have:=c.pm.mem_iff (a:=x)
 rw [← Array.mem_def] at hx ⊢
 exact this.mp hx)⟩
theorem Cs.size(h:Cs κ L lo st st'):(arrOf st').size=(arrOf st).size:=h.c.size
theorem jQ{Q:Option Bool->SortSt->Prop}(hA:Asks prog w A s κ L key)(h:Cs κ L lo st st')(hi:i<(arrOf st).size)(hj:j<(arrOf st).size)(hq:Q (some (O.blt (Kx key (arrOf st') i) (Kx key (arrOf st') j))) st'):wpS (model prog w) A E s (ltAt' i j) Q st':=by
 have g:∀ i,i<(arrOf st).size->(arrOf st')[i]?=some ((arrOf st').getD i (Value.none,Value.none))/\(arrOf st').getD i (Value.none,Value.none) ∈ L:=fun i hi=>by
  have hi':i<(arrOf st').size:=by rw [h.size];exact hi
  have e:(arrOf st').getD i (Value.none,Value.none)=(arrOf st')[i]:=by simp [Array.getD,hi']
  rw [e]
  exact ⟨by simp [hi'],h.l _ (by simp)⟩
 rw [ltAt'_eq]
 exact wpS_bind (wpS_get (wpS_bind (zN (g i hi).1 (wpS_bind (zN (g j hj).1 (jO hA h.k (g i hi).2 (g j hj).2 hq))))))
theorem xq{Q:Unit->SortSt->Prop}(h:Cs κ L lo st st')(hi:lo≤i)(hj:j≤(arrOf st).size)(hq:∀ st2,Cs κ L lo st st2->arrOf st2=mirror (arrOf st') i j ((j - i) / 2)->Q () st2):wpS (model prog w) A E s (reverseSlice' i j) Q st':=by
 rw [reverseSlice'_eq]
 exact wpS_modify (hq _ (h.arr (.mirror hi (by rw [h.size];exact hj))) rfl)
noncomputable def Up(key:Keyed->O.α)(xs:Array Keyed)(lo n:Nat):Prop:=∀ i j,i≤j->j<n->O.kle (Kx key xs (lo+i)) (Kx key xs (lo+j))
noncomputable def Dn(key:Keyed->O.α)(xs:Array Keyed)(lo n:Nat):Prop:=∀ i j,i≤j->j<n->O.kle (Kx key xs (lo+j)) (Kx key xs (lo+i))
theorem Up.one:Up key xs lo 1:=fun i j h1 h2=>by
 obtain rfl:i=j:=by omega
 exact Ki _
theorem Up.more(h:Up key xs lo n)(h0:1≤n)(hl:O.kle (Kx key xs (lo+n - 1)) (Kx key xs (lo+n))):Up key xs lo (n+1):=fun i j h1 h2=>by
 rcases Nat.lt_or_ge j n with c | c
 ·exact h i j h1 c
 ·obtain rfl:j=n:=by omega
  rcases Nat.lt_or_ge i j with d | d
  ·have:=h i (j - 1) (by omega) (by omega)
   rw [show lo+(j - 1)=lo+j - 1 by omega] at this
   exact JL this hl
  ·obtain rfl:i=j:=by omega
   exact Ki _
theorem Dn.more(h:Dn key xs lo n)(h0:1≤n)(hl:O.kle (Kx key xs (lo+n)) (Kx key xs (lo+n - 1))):Dn key xs lo (n+1):=fun i j h1 h2=>by
 rcases Nat.lt_or_ge j n with c | c
 ·exact h i j h1 c
 ·obtain rfl:j=n:=by omega
  rcases Nat.lt_or_ge i j with d | d
  ·have:=h i (j - 1) (by omega) (by omega)
   rw [show lo+(j - 1)=lo+j - 1 by omega] at this
   exact JL hl this
  ·obtain rfl:i=j:=by omega
   exact Ki _
theorem zcK(hj:j≤xs.size)(k:Nat):Kx key (mirror xs i j ((j - i) / 2)) k=if i≤k/\k<j then Kx key xs (i+j - 1 - k) else Kx key xs k:=by
 have e:=getElem?_mirror_all (xs:=xs) (i:=i) hj k
 by_cases h:i≤k/\k<j
 ·rw [if_pos h] at e ⊢;exact zbC e
 ·rw [if_neg h] at e ⊢;exact zbC e
theorem xm(hj:j≤xs.size)(he:∀ k,i≤k->k<j->Kx key xs k=Kx key xs (j - 1))(k:Nat):Kx key (mirror xs i j ((j - i) / 2)) k=Kx key xs k:=by
 rw [zcK hj]
 by_cases h:i≤k/\k<j
 ·rw [if_pos h,he (i+j - 1 - k) (by omega) (by omega),he k h.1 h.2]
 ·rw [if_neg h]
theorem zby{a nrem:Nat}{Q:Option (Option Nat) × Nat->SortSt->Prop}(hA:Asks prog w A s κ L key)(h:Cs κ L lo st st')(hn:lo+nrem≤(arrOf st).size)(h1:1≤a)(h2:a≤nrem)(u:Up key (arrOf st') lo a)
  (hq:∀ n,a≤n->n≤nrem->Up key (arrOf st') lo n->(n=nrem∨O.klt (Kx key (arrOf st') (lo+n)) (Kx key (arrOf st') (lo+n - 1)))->Q (none,n) st'):
  wpS (model prog w) A E s (forIn [a:nrem] ((none,a):Option (Option Nat) × Nat) fun _ c=>do
   let x ← ltAt' (lo+c.2) (lo+c.2 - 1)
   match x with
   | some m=>if m=true then pure (.done (none,c.2)) else pure (.yield (none,c.2+1))
   | _=>pure (.done (some none,c.2))) Q st':=by
 refine wpS_forRange (I:=fun x c st2=>st2=st'/\c=(none,x)/\Up key (arrOf st') lo x) ?_ ?_ ⟨rfl,rfl,u⟩
 ·rintro x c st2 a1 a2 ⟨rfl,rfl,u⟩
  dsimp only
  refine wpS_bind (jQ hA h (by omega) (by omega) ?_)
  cases c:O.blt (Kx key (arrOf st2) (lo+x)) (Kx key (arrOf st2) (lo+x - 1)) with
  | true=>exact wpS_pure (hq x a1 (by omega) u (.inr c))
  | false=>exact wpS_pure ⟨rfl,rfl,u.more (by omega) c⟩
 ·rintro c st2 ⟨rfl,rfl,u⟩
  rw [show max a nrem=nrem by omega] at u ⊢
  exact hq nrem h2 (Jm _) u (.inl rfl)
structure Fall (κ:SortKind) (L:List Keyed) (key:Keyed->O.α) (st:SortSt) (lo nrem m q:Nat) (st':SortSt):Prop where
 cs:Cs κ L lo st st'
 hm:m≤nrem
 dn:Dn key (arrOf st') lo m
 hq:q+1≤m
 eq:∀ i,lo+m - (q+1)≤i->i<lo+m->Kx key (arrOf st') i=Kx key (arrOf st') (lo+m - 1)
theorem Fall.zero(h:Cs κ L lo st st')(hm:m≤nrem)(h1:1≤m)(d:Dn key (arrOf st') lo m):Fall κ L key st lo nrem m 0 st':=
 ⟨h,hm,d,h1,fun i a b=>by rw [show i=lo+m - 1 by omega]⟩
theorem zdS{Q:Option Nat->SortSt->Prop}(hA:Asks prog w A s κ L key)(h:Cs κ L lo st st)(hn:lo+nrem≤(arrOf st).size)(h1:1≤nrem)(hq:∀ n st',Cs κ L lo st st'->1≤n->n≤nrem->Up key (arrOf st') lo n->Q (some n) st'):wpS (model prog w) A E s (countRun' lo nrem) Q st:=by
 refine wpS_bind (zby hA h hn (Jm 1) h1 .one fun n n1 n2 u o=>?_)
 extract_lets -underBinder r0 m0
 show wpS _ _ _ _ (if (n == nrem)=true then _ else _) _ _
 by_cases hz:n=nrem
 ·rw [if_pos (beq_iff_eq.mpr hz)]
  exact wpS_pure (hq n st h n1 n2 u)
 rw [if_neg (fun z=>hz (beq_iff_eq.mp z))]
 have lt:O.klt (Kx key (arrOf st) (lo+n)) (Kx key (arrOf st) (lo+n - 1)):=o.resolve_left hz
 extract_lets -underBinder jp
 have hjp:∀ u st1,Cs κ L lo st st1->Dn key (arrOf st1) lo (n+1)->wpS (model prog w) A E s (jp u) Q st1:=by
  intro u st1 c1 d1
  refine wpS_bind (wpS_lift (wpAny_rule ⟨rfl,?_⟩))
  extract_lets -underBinder n2 q0
  refine wpS_bind (wpS_mono (wpS_forRange (I:=fun x c st2=>∃ q,c=(none,x,q)/\Fall κ L key st lo nrem x q st2) (Q:=fun c st2=>∃ m q,c=(none,m,q)/\Fall κ L key st lo nrem m q st2) ?_ ?_ ⟨0,rfl,.zero c1 (show n+1≤nrem by omega) (show 1≤n+1 by omega) d1⟩) ?_)
  ·rintro x c st2 a1 a2 ⟨q,rfl,F⟩
   dsimp only
   have fq:=F.hq
   have hs2:lo+x≤(arrOf st2).size:=by rw [F.cs.size];omega
   refine wpS_bind (jQ hA F.cs (by omega) (by omega) ?_)
   cases c:O.blt (Kx key (arrOf st2) (lo+x)) (Kx key (arrOf st2) (lo+x - 1)) with
   | true=>
    have d2:=F.dn.more (by omega) (JX c)
    dsimp only
    rw [if_pos rfl]
    by_cases hz:q > 0
    ·rw [if_pos hz]
     refine wpS_bind (xq F.cs (by omega) (by omega) fun st3 c3 e3=>wpS_pure ⟨0,rfl,.zero c3 a2 (by omega) fun i j a b=>?_⟩)
     rw [e3,xm hs2 F.eq,xm hs2 F.eq]
     exact d2 i j a b
    ·rw [if_neg hz]
     exact wpS_pure ⟨0,rfl,.zero F.cs a2 (by omega) d2⟩
   | false=>
    dsimp only
    rw [if_neg Jj]
    refine wpS_bind (jQ hA F.cs (by omega) (by omega) ?_)
    cases c2:O.blt (Kx key (arrOf st2) (lo+x - 1)) (Kx key (arrOf st2) (lo+x)) with
    | true=>exact wpS_pure ⟨x,q,rfl,F⟩
    | false=>
     have ex:Kx key (arrOf st2) (lo+x)=Kx key (arrOf st2) (lo+x - 1):=KeyOrd.kle_antisymm c2 c
     refine wpS_pure ⟨q+1,rfl,⟨F.cs,a2,F.dn.more (by omega) (by rw [ex];exact Ki _),by omega,fun i b1 b2=>?_⟩⟩
     rw [show lo+(x+1) - 1=lo+x by omega]
     rcases Nat.lt_or_ge i (lo+x) with d | d
     ·rw [ex];exact F.eq i (by omega) d
     ·rw [show i=lo+x by omega]
  ·rintro c st2 ⟨q,rfl,F⟩
   exact ⟨_,q,rfl,F⟩
  rintro c st2 ⟨m,q,rfl,F⟩
  have fq:=F.hq
  have fm:=F.hm
  have hs2:lo+m≤(arrOf st2).size:=by rw [F.cs.size];omega
  extract_lets -underBinder r3 s3 m3 q3
  have er3:r3=none:=rfl
  rw [er3]
  dsimp (config:={zeta:=false,zetaHave:=false}) only
  extract_lets -underBinder jp3
  have hj3:∀ u st3,Cs κ L lo st st3->Dn key (arrOf st3) lo m->wpS (model prog w) A E s (jp3 u) Q st3:=by
   intro u st3 c3 d3
   have hs3:lo+m≤(arrOf st3).size:=by rw [c3.size];omega
   refine wpS_bind (xq c3 (Jm _) (show lo+m≤_ by omega) fun st4 c4 e4=>?_)
   refine wpS_bind (zby hA c4 hn (show 1≤m by omega) fm (fun i j a b=>?_) fun k k1 k2 u4 _=>wpS_pure (hq k st4 c4 (by have:m≤k:=k1;omega) k2 u4))
   have e4:arrOf st4=mirror (arrOf st3) lo (lo+m) ((lo+m - lo) / 2):=e4
   have b:j<m:=b
   rw [e4,zcK hs3,zcK hs3,if_pos (by omega),if_pos (by omega)]
   have:=d3 (m - 1 - j) (m - 1 - i) (by omega) (by omega)
   rw [show lo+(m - 1 - j)=lo+(lo+m) - 1 - (lo+j) by omega,show lo+(m - 1 - i)=lo+(lo+m) - 1 - (lo+i) by omega] at this
   exact this
  clear_value jp3
  show wpS _ _ _ _ (if q > 0 then _ else _) _ _
  by_cases hz:q > 0
  ·rw [if_pos hz]
   refine wpS_bind (xq F.cs (show lo≤lo+m - (q+1) by omega) (show lo+m≤_ by omega) fun st3 c3 e3=>hj3 _ st3 c3 fun i j a b=>?_)
   have e3:arrOf st3=mirror (arrOf st2) (lo+m - (q+1)) (lo+m) ((lo+m - (lo+m - (q+1))) / 2):=e3
   rw [e3,xm hs2 F.eq,xm hs2 F.eq]
   exact F.dn i j a b
  ·rw [if_neg hz]
   exact hj3 _ st2 F.cs F.dn
 clear_value jp
 show wpS _ _ _ _ (if n > 1 then _ else _) _ _
 have hs:lo+n≤(arrOf st).size:=by omega
 by_cases hg:n > 1
 ·rw [if_pos hg]
  refine wpS_bind (jQ hA h (show lo<_ by omega) (show lo+n - 1<_ by omega) ?_)
  show wpS _ _ _ _ (if O.blt (Kx key (arrOf st) lo) (Kx key (arrOf st) (lo+n - 1))=true then _ else _) _ _
  cases c:O.blt (Kx key (arrOf st) lo) (Kx key (arrOf st) (lo+n - 1)) with
  | true=>
   rw [if_pos rfl]
   exact wpS_pure (hq n st h n1 n2 u)
  | false=>
   rw [if_neg Jj]
   have al:∀ i,lo≤i->i<lo+n->Kx key (arrOf st) i=Kx key (arrOf st) (lo+n - 1):=fun i i1 i2=>by
    have a1:=u 0 (i - lo) (by omega) (by omega)
    have a2:=u (i - lo) (n - 1) (by omega) (by omega)
    rw [show lo+(i - lo)=i by omega,show lo+0=lo by omega] at a1
    rw [show lo+(i - lo)=i by omega,show lo+(n - 1)=lo+n - 1 by omega] at a2
    exact KeyOrd.kle_antisymm a2 (JL (show O.kle (Kx key (arrOf st) (lo+n - 1)) (Kx key (arrOf st) lo) from c) a1)
   refine wpS_bind (xq h (Jm _) (show lo+n≤_ by omega) fun st2 c2 e2=>hjp _ st2 c2 ?_)
   have e2:arrOf st2=mirror (arrOf st) lo (lo+n) ((lo+n - lo) / 2):=e2
   have d0:Dn key (arrOf st) lo n:=fun i j a b=>by rw [al (lo+i) (by omega) (by omega),al (lo+j) (by omega) (by omega)];exact Ki _
   have d1:=d0.more (by omega) (JX lt)
   exact fun i j a b=>by rw [e2,xm hs al,xm hs al];exact d1 i j a b
 ·rw [if_neg hg]
  obtain rfl:n=1:=by omega
  have d0:Dn key (arrOf st) lo 1:=fun i j a b=>by
   obtain rfl:i=j:=by omega
   exact Ki _
  exact hjp _ st h (d0.more (Jm _) (JX lt))
end
section
variable {prog:Program} {w:World} {A:Around} {E:Value->Shared->Prop} {s:Shared} {O:KeyOrd} {key:Keyed->O.α} {L T V:List Keyed} {κ:SortKind} {st st' st'':SortSt} {xs ys zs:Array Keyed} {lo n m:Nat}
theorem zhV{Q:Bool->SortSt->Prop}(hA:Asks prog w A s κ L key)(h:Cs κ L lo st st')(hn:lo+n≤(arrOf st).size)(h1:1≤ok)(h2:ok≤n)(u:Up key (arrOf st') lo ok)(hq:∀ st2,Cs κ L lo st st2->Up key (arrOf st2) lo n->Q true st2):wpS (model prog w) A E s (binarySort' lo n ok) Q st':=by
 have e1:max ok 1=ok:=by omega
 refine wpS_bind (wpS_mono (wpS_forRange (I:=fun x c st2=>c=(none,())/\Cs κ L lo st st2/\Up key (arrOf st2) lo x) (Q:=fun c st2=>c=(none,())/\Cs κ L lo st st2/\Up key (arrOf st2) lo n) ?_ ?_ ⟨rfl,h,by rw [e1];exact u⟩) ?_)
 ·rintro k c st2 k1 k2 ⟨rfl,c2,u2⟩
  dsimp only
  refine wpS_bind (wpS_mono (wpS_forRange (I:=fun x c st3=>st3=st2/\∃ l r,c=(none,l,r)/\l≤r/\r≤k/\r - l≤k - x/\(∀ i,i<l->O.kle (Kx key (arrOf st2) (lo+i)) (Kx key (arrOf st2) (lo+k)))/\∀ i,r≤i->i<k->O.klt (Kx key (arrOf st2) (lo+k)) (Kx key (arrOf st2) (lo+i)))
   (Q:=fun c st3=>st3=st2/\∃ l,c=(none,l,l)/\l≤k/\(∀ i,i<l->O.kle (Kx key (arrOf st2) (lo+i)) (Kx key (arrOf st2) (lo+k)))/\∀ i,l≤i->i<k->O.klt (Kx key (arrOf st2) (lo+k)) (Kx key (arrOf st2) (lo+i))) ?_ ?_ ⟨rfl,0,k,rfl,by omega,by omega,by omega,fun i hi=>absurd hi (by omega),fun i a b=>absurd a (by omega)⟩) ?_)
  ·rintro x c st3 _ hx ⟨rfl,l,r,rfl,a1,a2,a3,a4,a5⟩
   dsimp only
   by_cases hg:l ≥ r
   ·rw [if_pos hg]
    obtain rfl:l=r:=by omega
    exact wpS_pure ⟨rfl,l,rfl,a2,a4,a5⟩
   ·rw [if_neg hg]
    refine wpS_bind (jQ hA c2 (by omega) (by omega) ?_)
    cases c:O.blt (Kx key (arrOf st3) (lo+k)) (Kx key (arrOf st3) (lo+(l+r) / 2)) with
    | true=>exact wpS_pure ⟨rfl,l,(l+r) / 2,rfl,by omega,by omega,by omega,a4,fun i b1 b2=>KeyOrd.klt_of_klt_of_kle c (u2 _ i b1 b2)⟩
    | false=>exact wpS_pure ⟨rfl,(l+r) / 2+1,r,rfl,by omega,a2,by omega,fun i b1=>JL (u2 i ((l+r) / 2) (by omega) (by omega)) c,a5⟩
  ·rintro c st3 ⟨rfl,l,r,rfl,a1,a2,a3,a4,a5⟩
   obtain rfl:l=r:=by omega
   exact ⟨rfl,l,rfl,a2,a4,a5⟩
  rintro c st3 ⟨rfl,l,rfl,a2,a4,a5⟩
  dsimp only
  have hsz:lo+k<(arrOf st3).size:=by rw [c2.size];omega
  refine wpS_bind (wpS_modify (wpS_pure ⟨rfl,c2.arr (.bubble (by omega) (by omega) hsz),?_⟩))
  have kb:∀ i,Kx key (bubble (arrOf st3) (lo+k) (lo+k - (lo+l))) i=if i=lo+l then Kx key (arrOf st3) (lo+k) else if lo+l<i/\i≤lo+k then Kx key (arrOf st3) (i - 1) else Kx key (arrOf st3) i:=fun i=>by
   have e:=getElem?_bubble hsz (lo+k - (lo+l)) (by omega) i
   rw [show lo+k - (lo+k - (lo+l))=lo+l by omega] at e
   by_cases b1:i=lo+l
   ·rw [if_pos b1] at e ⊢;exact zbC e
   ·rw [if_neg b1] at e ⊢
    by_cases b2:lo+l<i/\i≤lo+k
    ·rw [if_pos b2] at e ⊢;exact zbC e
    ·rw [if_neg b2] at e ⊢;exact zbC e
  intro i j i1 i2
  show O.kle (Kx key (bubble (arrOf st3) (lo+k) (lo+k - (lo+l))) (lo+i)) (Kx key (bubble (arrOf st3) (lo+k) (lo+k - (lo+l))) (lo+j))
  rw [kb,kb]
  by_cases b1:i=l
  ·rw [if_pos (by omega)]
   by_cases b2:j=l
   ·rw [if_pos (by omega)];exact Ki _
   ·rw [if_neg (by omega),if_pos (by omega),show lo+j - 1=lo+(j - 1) by omega]
    exact JX (a5 _ (by omega) (by omega))
  ·rw [if_neg (by omega)]
   by_cases b3:l<i
   ·rw [if_pos (by omega),if_neg (by omega),if_pos (by omega),show lo+i - 1=lo+(i - 1) by omega,show lo+j - 1=lo+(j - 1) by omega]
    exact u2 _ _ (by omega) (by omega)
   ·rw [if_neg (by omega)]
    by_cases b2:j=l
    ·rw [if_pos (by omega)];exact a4 i (by omega)
    ·rw [if_neg (by omega)]
     by_cases b4:l<j
     ·rw [if_pos (by omega),show lo+j - 1=lo+(j - 1) by omega];exact u2 _ _ (by omega) (by omega)
     ·rw [if_neg (by omega)];exact u2 _ _ i1 (by omega)
 ·rintro c st2 ⟨rfl,c2,u2⟩
  rw [show max (max ok 1) n=n by omega] at u2
  exact ⟨rfl,c2,u2⟩
 ·rintro c st2 ⟨rfl,c2,u2⟩
  exact wpS_pure (hq st2 c2 u2)
noncomputable def Runs(key:Keyed->O.α):List (Nat × Nat × Nat)->Nat->List Keyed->Prop
 | [],_,U=>U=[]
 | t::r,off,U=>t.1=off/\1≤t.2.1/\∃ X V,U=X++V/\X.length=t.2.1/\Srt key X/\Runs key r (off+t.2.1) V
theorem Runs.split:∀ {p q:List (Nat × Nat × Nat)} {off:Nat} {U:List Keyed},Runs key (p++q) off U->∃ U1 U2,U=U1++U2/\Runs key p off U1/\Runs key q (off+U1.length) U2
 | [],q,off,U,h=>⟨[],U,rfl,rfl,h⟩
 | t::p,q,off,U,h=>by
  obtain ⟨h1,h0,X,V,rfl,h3,h4,h5⟩:=h
  obtain ⟨U1,U2,rfl,g1,g2⟩:=Runs.split h5
  refine ⟨X++U1,U2,by simp,⟨h1,h0,X,U1,rfl,h3,h4,g1⟩,?_⟩
  rw [Jk,h3,← Nat.add_assoc];exact g2
theorem Runs.join:∀ {p q:List (Nat × Nat × Nat)} {off:Nat} {U1 U2:List Keyed},Runs key p off U1->Runs key q (off+U1.length) U2->Runs key (p++q) off (U1++U2)
 | [],q,off,U1,U2,h,k=>by
  have:U1=[]:=h
  subst this;exact k
 | t::p,q,off,U1,U2,h,k=>by
  obtain ⟨h1,h0,X,V,rfl,h3,h4,h5⟩:=h
  refine ⟨h1,h0,X,V++U2,by simp,h3,h4,Runs.join h5 ?_⟩
  rw [Jk,h3,← Nat.add_assoc] at k;exact k
theorem Runs.len:∀ {p:List (Nat × Nat × Nat)} {off:Nat} {U:List Keyed},Runs key p off U->p.length≤U.length
 | [],off,U,h=>Kq _
 | t::p,off,U,h=>by
  obtain ⟨h1,h0,X,V,rfl,h3,h4,h5⟩:=h
  have:=Runs.len h5
  rw [Jk,JH];omega
structure RI (κ:SortKind) (L:List Keyed) (key:Keyed->O.α) (T V:List Keyed) (st:SortSt):Prop where
 k:kindOf st=κ
 f:failedOf st=none
 l:∀ x ∈ (arrOf st).toList,x ∈ L
 pm:(arrOf st).toList.Perm T
 r:∃ U,(arrOf st).toList=U++V/\Runs key (pendingOf st).toList 0 U
theorem jo{Q:Bool->SortSt->Prop}(hA:Asks prog w A s κ L key)(R:RI κ L key T V st)(hi:i+1<(pendingOf st).size)(hq:∀ st',RI κ L key T V st'->(pendingOf st').size+1=(pendingOf st).size->Q true st'):wpS (model prog w) A E s (mergeAt' i) Q st:=by
 obtain ⟨U,e,hr⟩:=R.r
 generalize hp:(pendingOf st).toList=p at hr
 have hl:p.length=(pendingOf st).size:=by rw [← hp,Jg]
 have d1:p=p.take i++p[i]'(by omega)::p[i+1]'(by omega)::p.drop (i+2):=by
  conv=>lhs;rw [← Ko i p,Qf (show i<p.length by omega),Qf (show i+1<p.length by omega)]
 have li:i=(p.take i).length:=by rw [Kc];omega
 generalize p.take i=p1 at *
 generalize p.drop (i+2)=p2 at *
 generalize p[i]'(by omega)=ta at *
 generalize p[i+1]'(by omega)=tb at *
 subst d1
 obtain ⟨U1,W,rfl,r1,a1,a0,X,W1,rfl,a3,a4,b1,b0,Y,W2,rfl,b3,b4,r2⟩:=Runs.split hr
 rw [KU] at a1 b1 r2
 obtain ⟨ta1,ta2,pw⟩:=ta
 obtain ⟨tb1,tb2,pw2⟩:=tb
 dsimp only at a1 a0 a3 b1 b0 b3 r2
 subst a1 a3 b1 b3
 refine zar (P:=U1) (X:=X) (Y:=Y) (S:=W2++V) hA R.k R.l (by rw [e];simp) (fun z=>by rw [z] at a0;cases a0) (fun z=>by rw [z] at b0;cases b0) a4 b4 hp li R.f fun Z st' z1 z2 z3 z4 z5 z6=>?_
 have zl:Z.length=X.length+Y.length:=by rw [z1.length_eq,Jk]
 have pmz:(arrOf st').toList.Perm (arrOf st).toList:=by
  rw [z3,e]
  have:(U1++Z++(W2++V)).Perm (U1++(X++Y)++(W2++V)):=List.Perm.append_right _ (Qy _ z1)
  simpa using this
 refine hq st' ⟨z5,z6,fun x hx=>R.l x (pmz.mem_iff.mp hx),pmz.trans R.pm,U1++Z++W2,by rw [z3];simp,?_⟩ ?_
 ·rw [z4,JC]
  refine Runs.join r1 ⟨by show U1.length=_;omega,by show 1≤X.length+Y.length;omega,Z,W2,rfl,zl,z2,?_⟩
  show Runs key p2 (0+U1.length+(X.length+Y.length)) W2
  rw [show 0+U1.length+(X.length+Y.length)=U1.length+X.length+Y.length by omega];exact r2
 ·have l1:(pendingOf st').size=(pendingOf st').toList.length:=Array.length_toList.symm
  have l2:(pendingOf st).size=(pendingOf st).toList.length:=Array.length_toList.symm
  rw [l1,l2,z4,hp]
  simp only [List.length_append,List.length_cons];omega
theorem zkD{U R V:List Keyed}(e:xs.toList=U++R++V)(u:Up key xs U.length R.length):Srt key R:=by
 rw [Srt,JZ]
 intro i j hi hj hij
 have g:∀ i (hi:i<R.length),Kx key xs (U.length+i)=key R[i]:=fun i hi=>by
  unfold Kx
  rw [JF,jG e hi];rfl
 have:=u i j (by omega) hj
 rwa [g i hi,g j hj] at this
theorem Runs.like:∀ {p q:List (Nat × Nat × Nat)} {off:Nat} {U:List Keyed},q.map (fun t=>(t.1,t.2.1))=p.map (fun t=>(t.1,t.2.1))->Runs key p off U->Runs key q off U
 | [],[],off,U,e,h=>h
 | [],_::_,off,U,e,h=>by cases e
 | _::_,[],off,U,e,h=>by cases e
 | t::p,t'::q,off,U,e,h=>by
  rw [Jo,Jo,KW,Prod.mk.injEq] at e
  obtain ⟨⟨e1,e2⟩,e3⟩:=e
  obtain ⟨h1,h0,X,V,h2,h3,h4,h5⟩:=h
  exact ⟨by rw [e1];exact h1,by rw [e2];exact h0,X,V,h2,by rw [e2];exact h3,h4,Runs.like e3 (by rw [e2];exact h5)⟩
theorem zbd{f:Nat × Nat × Nat->Nat × Nat × Nat}(hf:∀ t,((f t).1,(f t).2.1)=(t.1,t.2.1)):∀ (p:List (Nat × Nat × Nat)) (i:Nat),(p.modify i f).map (fun t=>(t.1,t.2.1))=p.map (fun t=>(t.1,t.2.1))
 | [],i=>by cases i<;>rfl
 | t::p,0=>by
  exact congrArg (·::p.map fun t=>(t.1,t.2.1)) (hf t)
 | t::p,i+1=>by
  show _::(p.modify i f).map _=_::_
  rw [zbd hf p i]
theorem RI.len(R:RI κ L key T V st):∀ {U:List Keyed},(arrOf st).toList=U++V->U.length+V.length=T.length:=fun {U} e=>by
 rw [← R.pm.length_eq,e,Jk]
noncomputable def RQ(κ:SortKind)(L:List Keyed)(key:Keyed->O.α)(T:List Keyed)(x:Nat)(r:ForInStep (Option Unit × Nat))(st:SortSt):Prop:=match r with
 | .done c=>c.1=none/\RI κ L key T [] st
 | .yield c=>∃ lo V,c=(none,lo)/\RI κ L key T V st/\lo+V.length=T.length/\x+1≤lo
theorem wpS_runs{Q:Unit->SortSt->Prop}(hA:Asks prog w A s κ L key)(hk:kindOf st=κ)(hf:failedOf st=none)(hp:pendingOf st=#[])(hl:∀ x ∈ (arrOf st).toList,x ∈ L)
  (h:∀ st',(arrOf st').toList.Perm (arrOf st).toList->Srt key (arrOf st').toList->failedOf st'=none->Q () st'):wpS (model prog w) A E s sortRuns' Q st:=by
 generalize hT:(arrOf st).toList=T at h
 have hTs:(arrOf st).size=T.length:=by rw [← hT,Jg]
 have R0:RI κ L key T T st:=⟨hk,hf,hl,by rw [hT],[],by rw [hT];rfl,by rw [hp];rfl⟩
 refine wpS_bind (wpS_get ?_)
 extract_lets -underBinder size minrun lo
 have hsize:size=T.length:=hTs
 clear_value size minrun
 subst hsize
 refine wpS_bind (wpS_mono (wpS_forRange (I:=fun x c st'=>∃ lo V,c=(none,lo)/\RI κ L key T V st'/\lo+V.length=T.length/\x≤lo) (Q:=fun c st'=>c.1=none/\RI κ L key T [] st') ?_ ?_ ⟨0,T,rfl,R0,by omega,by omega⟩) ?_)
 ·rintro x c st1 _ hx ⟨lo,V,rfl,R,hV,hxl⟩
  extract_lets -underBinder lo'
  show wpS _ _ _ _ (if lo ≥ T.length then _ else _) _ _
  by_cases hz:lo ≥ T.length
  ·rw [if_pos hz]
   have:V=[]:=KZ.mp (by omega)
   subst this
   exact wpS_pure ⟨rfl,R⟩
  rw [if_neg hz]
  have sz1:(arrOf st1).size=T.length:=by rw [← Jg,R.pm.length_eq]
  have C0:Cs κ L lo st1 st1:=⟨R.k,R.f,rfl,.refl _ _,R.l⟩
  obtain ⟨U,e,hr⟩:=R.r
  have hU:U.length=lo:=by have:=R.len e;omega
  refine wpS_bind (zdS hA C0 (show lo+(T.length - lo)≤_ by omega) (show 1≤T.length - lo by omega) fun n st2 c2 n1 n2 u2=>?_)
  have n2:n≤T.length - lo:=n2
  dsimp (config:={zeta:=false,zetaHave:=false}) only
  extract_lets -underBinder n0 jp
  have hjp:∀ u n st2,Cs κ L lo st1 st2->1≤n->n≤T.length - lo->Up key (arrOf st2) lo n->wpS (model prog w) A E s (jp u n) (RQ κ L key T x) st2:=by
   intro u n st2 c2 n1 n2 u2
   have sz2:(arrOf st2).toList.length=T.length:=by rw [Jg,c2.size,sz1]
   have eU:(arrOf st2).toList.take lo=U:=by
    apply Qt
    intro i
    rw [List.getElem?_take]
    by_cases hi:i<lo
    ·rw [if_pos hi,Js,c2.c.fx i hi,← Js,e,Kj (by omega)]
    ·rw [if_neg hi,Qc (by omega)]
   have e2:(arrOf st2).toList=U++(((arrOf st2).toList.drop lo).take n++(arrOf st2).toList.drop (lo+n)):=by
    conv=>lhs;rw [← Ko lo (arrOf st2).toList,eU,← Ko n ((arrOf st2).toList.drop lo),List.drop_drop]
   generalize hX:((arrOf st2).toList.drop lo).take n=X at e2
   generalize (arrOf st2).toList.drop (lo+n)=W at e2
   have lX:X.length=n:=by rw [← hX,Kc,KP];omega
   have sX:Srt key X:=zkD (U:=U) (V:=W) (by rw [e2];simp) (by rw [hU,lX];exact u2)
   have R2:RI κ L key T (X++W) st2:=⟨c2.k,c2.f,c2.l,(Array.perm_iff_toList_perm.mp c2.c.pm).trans R.pm,U,e2,by rw [c2.p];exact hr⟩
   refine wpS_bind (wpS_get ?_)
   extract_lets -underBinder jp2
   have hj2:∀ u st3,RI κ L key T (X++W) st3->wpS (model prog w) A E s (jp2 u) (RQ κ L key T x) st3:=by
    intro u st3 R3
    obtain ⟨U3,e3,r3⟩:=R3.r
    have l3:U3.length=lo:=by
     have:=R3.len e3
     have:=R2.len e2
     omega
    have lW:=R3.len e3
    rw [Jk] at lW
    refine wpS_bind (wpS_modify (wpS_pure ⟨lo+n,W,rfl,⟨R3.k,R3.f,R3.l,R3.pm,U3++X,by show (arrOf st3).toList=_;rw [e3];simp,?_⟩,by omega,by omega⟩))
    show Runs key ((pendingOf st3).push (lo,n,0)).toList 0 (U3++X)
    rw [Kz]
    exact Runs.join r3 ⟨by show lo=_;omega,n1,X,[],by simp,lX,sX,rfl⟩
   clear_value jp2
   split
   ·rename_i s1 n1' pz hb
    extract_lets -underBinder pw
    refine wpS_bind (wpS_mono (wpS_forRange (I:=fun _ c st3=>c=(none,())/\RI κ L key T (X++W) st3) (Q:=fun c st3=>c=(none,())/\RI κ L key T (X++W) st3) ?_ (fun c st3 hc=>hc) ⟨rfl,R2⟩) ?_)
    ·rintro x3 c st3 _ _ ⟨rfl,R3⟩
     refine wpS_bind (wpS_get ?_)
     extract_lets -underBinder p
     split
     ·rename_i older hb3
      split
      ·exact wpS_pure ⟨rfl,R3⟩
      ·have hps:p.size > 1:=by
        by_cases hg:p.size > 1
        ·exact hg
        ·rw [if_neg hg] at hb3;cases hb3
       refine wpS_bind (jo hA R3 (show p.size - 2+1<p.size by omega) fun st4 R4 _=>?_)
       exact wpS_pure ⟨rfl,R4⟩
     ·exact wpS_pure ⟨rfl,R3⟩
    ·rintro c st3 ⟨rfl,R3⟩
     refine wpS_bind (wpS_modify (hj2 _ _ ⟨R3.k,R3.f,R3.l,R3.pm,?_⟩))
     obtain ⟨U3,e3,r3⟩:=R3.r
     refine ⟨U3,e3,Runs.like ?_ r3⟩
     show ((pendingOf st3).modify _ _).toList.map _=_
     rw [Array.toList_modify]
     exact zbd (f:=fun x=>(x.1,x.2.1,pw)) (fun t=>rfl) _ _
   ·exact hj2 _ _ R2
  clear_value jp
  split
  ·rename_i hlt
   refine wpS_bind (wpS_lift (wpAny_rule ⟨rfl,?_⟩))
   extract_lets -underBinder force
   have hforce:force=min (T.length - lo) minrun:=rfl
   have hlt:n<minrun:=hlt
   refine wpS_bind (zhV hA c2 (show lo+force≤_ by omega) n1 (by show n≤force;omega) u2 fun st3 c3 u3=>?_)
   exact wpS_mono (hjp _ _ _ c3 (by omega) (by omega) u3) fun r st' h=>by cases r<;>exact h
  ·exact wpS_mono (hjp _ _ _ c2 n1 n2 u2) fun r st' h=>by cases r<;>exact h
 ·rintro c st1 ⟨lo,V,rfl,R,hV,hxl⟩
  have:V=[]:=KZ.mp (by omega)
  subst this
  exact ⟨rfl,R⟩
 rintro c st1 ⟨hc,R⟩
 extract_lets -underBinder r1 lo1
 have er1:r1=none:=hc
 rw [er1]
 dsimp (config:={zeta:=false,zetaHave:=false}) only
 refine wpS_bind (wpS_mono (wpS_forRange (I:=fun x c st'=>c=(none,())/\RI κ L key T [] st'/\(pendingOf st').size≤max 1 (T.length - x)) (Q:=fun c st'=>c=(none,())/\RI κ L key T [] st'/\(pendingOf st').size≤1) ?_ ?_ ⟨rfl,R,?_⟩) ?_)
 ·rintro x c st2 _ hx ⟨rfl,R2,hs⟩
  extract_lets -underBinder r2
  refine wpS_bind (wpS_get ?_)
  extract_lets -underBinder p i before i2
  have ep:p.size=(pendingOf st2).size:=rfl
  show wpS _ _ _ _ (if p.size≤1 then _ else _) _ _
  by_cases hz:p.size≤1
  ·rw [if_pos hz]
   exact wpS_pure ⟨rfl,R2,hz⟩
  rw [if_neg hz]
  have hi2:i2≤p.size - 2:=by
   show (if _ then _ else _)≤_
   split
   ·show p.size - 2 - 1≤_;omega
   ·exact Jm _
  clear_value i2
  refine wpS_bind (jo hA R2 (show i2+1<(pendingOf st2).size by omega) fun st3 R3 h3=>?_)
  exact wpS_pure ⟨rfl,R3,by omega⟩
 ·rintro c st2 ⟨rfl,R2,hs⟩
  exact ⟨rfl,R2,by omega⟩
 ·obtain ⟨U,e,hr⟩:=R.r
  have h1:=Runs.len hr
  have h2:=R.len e
  rw [Jg] at h1
  simp only [List.length_nil] at h2
  omega
 ·rintro c st2 ⟨rfl,R2,hs⟩
  refine wpS_pure (h st2 R2.pm ?_ R2.f)
  obtain ⟨U,e,hr⟩:=R2.r
  rw [e,JR]
  have hl:(pendingOf st2).toList.length≤1:=by rw [Jg];exact hs
  generalize (pendingOf st2).toList=p at hr hl
  match p,hr,hl with
  | [],hr,_=>
   have:U=[]:=hr
   subst this;exact .nil
  | [t],hr,_=>
   obtain ⟨h1,h0,X,V,rfl,h3,h4,h5⟩:=hr
   have:V=[]:=h5
   subst this
   rw [JR];exact h4
end
end TS
namespace F
open PySem PySem.Spec PySem.W PyProof.Rows L2
noncomputable def ke:Key->List Int
 | .inl n=>[n]
 | .inr x=>x.cps.toList.map Int.ofNat++[-1]
noncomputable def enc:List Key->List Int
 | []=>[]
 | k::r=>ke k++enc r
noncomputable def shp(k:List Key):List Bool:=k.map Sum.isLeft
noncomputable def znF:KeyOrd where
 α:=List Int
 blt a b:=decide (a<b)
 irrefl a:=decide_eq_false (List.lt_irrefl a)
 trans a b c h k:=decide_eq_true (List.lt_trans (of_decide_eq_true h) (of_decide_eq_true k))
 negTrans a b c h:=by
  by_cases z:a<b
  ·exact .inl (decide_eq_true z)
  ·exact .inr (decide_eq_true (List.lt_of_le_of_lt (Qs.mp z) (of_decide_eq_true h)))
 total a b h k:=List.le_antisymm (Qs.mp (of_decide_eq_false k)) (Qs.mp (of_decide_eq_false h))
theorem zbU:∀ (l a b:List Int),(l++a<l++b) ↔ a<b
 | [],a,b=>Iff.rfl
 | x::l,a,b=>by
  rw [List.cons_append,List.cons_append,KB,← zbU l a b]
  exact ⟨fun h=>h.elim (fun z=>absurd z (Int.lt_irrefl x)) (·.2),fun h=>.inr ⟨rfl,h⟩⟩
theorem jS:∀ (x y:List Nat) (a b:List Int),x≠y->((x.map Int.ofNat++[-1])++a<(y.map Int.ofNat++[-1])++b ↔ x<y)
 | [],[],a,b,h=>absurd rfl h
 | [],y::ys,a,b,_=>by
  refine ⟨fun _=>List.nil_lt_cons _ _,fun _=>?_⟩
  show (-1:Int)::a<Int.ofNat y::_
  rw [KB]
  exact .inl (by have:=Int.natCast_nonneg y;show (-1:Int)<(y:Int);omega)
 | x::xs,[],a,b,_=>by
  refine ⟨fun h=>?_,fun h=>absurd h (List.not_lt_nil _)⟩
  have h:Int.ofNat x::(xs.map Int.ofNat++[-1]++a)<(-1:Int)::b:=h
  rw [KB] at h
  exfalso
  have e:Int.ofNat x=(x:Int):=rfl
  rw [e] at h
  omega
 | x::xs,y::ys,a,b,h=>by
  show Int.ofNat x::(xs.map Int.ofNat++[-1]++a)<Int.ofNat y::(ys.map Int.ofNat++[-1]++b) ↔ _
  rw [KB,KB]
  have e1:Int.ofNat x<Int.ofNat y ↔ x<y:=Int.ofNat_lt
  have e2:Int.ofNat x=Int.ofNat y ↔ x=y:=⟨fun z=>Int.ofNat.inj z,fun z=>by rw [z]⟩
  rw [e1,e2]
  by_cases z:x=y
  ·subst z
   rw [jS xs ys a b fun q=>h (by rw [q])]
  ·simp [z]
theorem zcz{x y:Str}(h:x≠y):x.cps.toList≠y.cps.toList:=fun z=>h (by
 obtain ⟨⟨xl⟩⟩:=x
 obtain ⟨⟨yl⟩⟩:=y
 simp only at z
 rw [z])
theorem zaa:∀ {k k':List Key},shp k=shp k'->enc k=enc k'->k=k'
 | [],[],_,_=>rfl
 | [],_::_,h,_=>by cases h
 | _::_,[],h,_=>by cases h
 | .inl a::k,.inl b::k',h,e=>by
  have e:a::enc k=b::enc k':=e
  have h:true::shp k=true::shp k':=h
  rw [KW] at e h
  rw [e.1,zaa h.2 e.2]
 | .inl a::k,.inr b::k',h,e=>by cases h
 | .inr a::k,.inl b::k',h,e=>by cases h
 | .inr x::k,.inr y::k',h,e=>by
  have h2:false::shp k=false::shp k':=h
  rw [KW] at h2
  have e:(x.cps.toList.map Int.ofNat++[-1])++enc k=(y.cps.toList.map Int.ofNat++[-1])++enc k':=e
  by_cases z:x=y
  ·subst z
   rw [zaa h2.2 (List.append_cancel_left e)]
  ·exfalso
   have n:=zcz z
   have l1:=jS _ _ (enc k) (enc k') n
   have l2:=jS _ _ (enc k') (enc k) n.symm
   rw [e] at l1
   rw [← e] at l2
   have a1:¬ x.cps.toList<y.cps.toList:=fun q=>List.lt_irrefl _ (l1.mpr q)
   have a2:¬ y.cps.toList<x.cps.toList:=fun q=>List.lt_irrefl _ (l2.mpr q)
   exact n (List.le_antisymm (Qs.mp a2) (Qs.mp a1))
section
variable {prog:Program} {w:World} {A:Around} {E:Value->Shared->Prop} {s:Shared} {Q:Bool->Shared->Prop}
theorem zdu{fin:Bool}(hf:fin=false):∀ {k k':List Key} {us vs:List Value} {i:Nat},PySem.ItemsAre (zC prog w) k us->PySem.ItemsAre (zC prog w) k' vs->shp k=shp k'->Q (decide (enc k<enc k')) s->KatLex prog w A true fin Q (us.zip vs) i s
 | _,_,_,_,i,.nil,.nil,_,h=>kat_nil (by rw [hf];exact h)
 | _,_,_,_,i,.nil,.cons _ _,e,_=>by cases e
 | _,_,_,_,i,.cons _ _,.nil,e,_=>by cases e
 | _,_,_,_,i,.cons (k:=a) (v:=u) (ks:=k) h1 r1,.cons (k:=b) (v:=v) (ks:=k') h2 r2,e,h=>by
  have e':a.isLeft=b.isLeft/\shp k=shp k':=by
   have e:a.isLeft::shp k=b.isLeft::shp k':=e
   rwa [KW] at e
  refine kat_cons ((zC prog w).eqBool h1 h2 (kat_go (fun z=>kat_yes (zdu hf r1 r2 e'.2 ?_)) (fun z=>kat_no ?_)))
  ·have:=of_decide_eq_true z
   subst this
   have q:decide (enc (a::k)<enc (a::k'))=decide (enc k<enc k'):=by
    rw [decide_eq_decide];exact zbU _ _ _
   rw [← q];exact h
  ·have ne:=of_decide_eq_false z
   rcases zJ h1 with ⟨n,t,rfl,rfl⟩ | ⟨x,t,rfl,rfl⟩
   ·rcases zJ h2 with ⟨m,t',rfl,rfl⟩ | ⟨y,t',rfl,rfl⟩
    ·have q:decide (enc (.inl n::k)<enc (.inl m::k'))=decide (n<m):=by
      rw [decide_eq_decide]
      show n::enc k<m::enc k' ↔ _
      rw [KB]
      exact ⟨fun z=>z.elim id fun z=>absurd (by rw [z.1]) ne,.inl⟩
     rw [q] at h
     cases i with
     | zero=>exact oneLt_int h
     | succ i=>exact kat_one _ _ (lt_int h)
    ·cases e'.1
   ·rcases zJ h2 with ⟨m,t',rfl,rfl⟩ | ⟨y,t',rfl,rfl⟩
    ·cases e'.1
    ·have q:decide (enc (.inr x::k)<enc (.inr y::k'))=decide (x.cps.toList<y.cps.toList):=by
      rw [decide_eq_decide]
      exact jS _ _ _ _ (zcz fun z=>ne (by rw [z]))
     rw [q] at h
     cases i with
     | zero=>exact oneLt_str h
     | succ i=>exact kat_one _ _ (lt_str h)
theorem ItemsM.len{k:List Key}{vs:List Value}(h:PySem.ItemsAre (zC prog w) k vs):vs.length=k.length:=by
 induction h with
 | nil=>rfl
 | cons _ _ ih=>rw [JH,JH,ih]
theorem zjo(h1:IsTupleKey (zC prog w) s.heap k l)(h2:IsTupleKey (zC prog w) s.heap k' b)(e:shp k=shp k')(h:Q (decide (enc k<enc k')) s):wpAny (model prog w) A (keyLt' (tuples' true) (.ref l) (.ref b)) Q E s:=by
 obtain ⟨o,its,n,g1,_,g3,g4⟩:=h1
 obtain ⟨o',its',n',g1',_,g3',g4'⟩:=h2
 refine kat_lt g1 g3 g1' g3' (zdu ?_ g4 g4' e h)
 have l1:=ItemsM.len g4
 have l2:=ItemsM.len g4'
 have l3:k.length=k'.length:=by have:=congrArg List.length e;simpa [shp] using this
 rw [Jg] at l1 l2
 exact decide_eq_false (by omega)
open Classical in
noncomputable def rdK(prog:Program)(w:World)(h:Heap)(v:Value):List Key:=if H:∃ k l,v=.ref l/\IsTupleKey (zC prog w) h k l then H.choose else []
theorem qZ(hk:IsTupleKey (zC prog w) h k l):rdK prog w h (.ref l)=k:=by
 have H:∃ k l',Value.ref l=.ref l'/\IsTupleKey (zC prog w) h k l':=⟨k,l,rfl,hk⟩
 unfold rdK
 rw [dif_pos H]
 obtain ⟨l',e,hk'⟩:=H.choose_spec
 cases e
 obtain ⟨o,its,n,g1,_,g3,g4⟩:=hk
 obtain ⟨o',its',n',g1',_,g3',g4'⟩:=hk'
 rw [g1] at g1';cases g1'
 rw [g3] at g3';cases g3'
 exact PySem.ItemsAre.inj g4' g4
structure TupsX (prog:Program) (w:World) (h:Heap) (a:Addr) (vs:List Value) (ks:List (List Key)):Prop where
 len:vs.length=ks.length
 at':∀ i,i<vs.length->∃ l,vs.getD i Value.none=.ref l/\l≠a/\IsTupleKey (zC prog w) h (ks.getD i []) l
 alike:∀ i j,i<ks.length->j<ks.length->shp (ks.getD i [])=shp (ks.getD j [])
 ne:∀ i,i<ks.length->ks.getD i []≠[]
theorem TupsX.other{h h':Heap}(x:TupsX prog w h a vs ks)(k:∀ l o,l≠a->h.get? l=some o->h'.get? l=some o):TupsX prog w h' a vs ks:=
 ⟨x.len,fun i hi=>let ⟨l,e1,e2,e3⟩:=x.at' i hi;⟨l,e1,e2,wu e3 fun o ho=>k l o e2 ho⟩,x.alike,x.ne⟩
theorem uo{h:Heap}:∀ {vs:List Value} {ks:List (List Key)},vs.length=ks.length->(∀ i,i<vs.length->∃ l,vs.getD i Value.none=.ref l/\IsTupleKey (zC prog w) h (ks.getD i []) l)->(∀ k ∈ ks,k≠[])->∃ fs,KatTups h vs fs/\fs.length=vs.length/\∀ v ∈ fs,∃ k r,k::r ∈ ks/\uF k v=true
 | [],ks,_,_,_=>⟨[],.nil,rfl,fun v hv=>nomatch hv⟩
 | v::vs,[],e,_,_=>nomatch e
 | v::vs,k::ks,e,hh,hn=>by
  obtain ⟨fs,g1,g2,g3⟩:=uo (vs:=vs) (ks:=ks) (Nat.succ.inj e) (fun i hi=>hh (i+1) (Nat.succ_lt_succ hi)) fun k hk=>hn k (Jf _ hk)
  obtain ⟨l,e1,o,its,n,a1,a2,a3,a4⟩:=hh 0 (Kn _)
  have e1':v=.ref l:=e1
  subst e1'
  have a4':PySem.ItemsAre (zC prog w) k its.toList:=a4
  cases hk:k with
  | nil=>exact absurd hk (hn k Jc)
  | cons x r=>
   rw [hk] at a4'
   generalize hi:its.toList=L at a4'
   cases a4' with
   | cons h1 h2=>
    rename_i u us
    refine ⟨u::fs,.cons a1 a2 a3 (by rw [← Js,hi];rfl) g1,by rw [JH,JH,g2],fun v hv=>?_⟩
    rcases List.mem_cons.mp hv with rfl | hv
    ·exact ⟨x,r,Jc,h1⟩
    ·obtain ⟨y,r',y1,y2⟩:=g3 v hv
     exact ⟨y,r',Jf _ y1,y2⟩
theorem zjS{α β:Type}(f:α->β):∀ {l' l:List β},l'.Perm l->∀ q:List α,l=q.map f->∃ p:List α,p.Perm q/\l'=p.map f:=by
 intro l' l h
 induction h with
 | nil=>intro q e;exact ⟨[],by rw [QG.mp e.symm],rfl⟩
 | cons x _ ih=>
  intro q e
  cases q with
  | nil=>cases e
  | cons y q=>
   rw [Jo,KW] at e
   obtain ⟨p,p1,p2⟩:=ih q e.2
   exact ⟨y::p,p1.cons y,by rw [Jo,e.1,p2]⟩
 | swap x y l=>
  intro q e
  cases q with
  | nil=>cases e
  | cons a q=>
   cases q with
   | nil=>cases e
   | cons b q=>
    rw [Jo,Jo,KW,KW] at e
    exact ⟨b::a::q,.swap _ _ _,by rw [Jo,Jo,e.1,e.2.1,e.2.2]⟩
 | trans _ _ ih1 ih2=>
  intro q e
  obtain ⟨p,p1,p2⟩:=ih2 q e
  obtain ⟨p',p3,p4⟩:=ih1 p p2
  exact ⟨p',p3.trans p1,p4⟩
end
section
variable {prog:Program} {w:World} {A:Around} {E:Value->Shared->Prop} {s:Shared}
theorem zek{vs:List Value}{ks:List (List Key)}{P:PySem.Fin->Shared->Prop}(ho:s.heap.get? a=some (seqObj "list" vs.toArray n))(hH:TupsX prog w s.heap a vs ks)(h64:vs.length≤1000)
  (h:∀ p:List Nat,p.Perm (List.range vs.length)->(p.map (ks.getD · [])).Pairwise (fun x y=>¬ enc y<enc x)->P (.done (.ret .none)) { s with heap:=sortedHeap s.heap a vs (p.map fun i=>vs.getD i Value.none).toArray }):
  wpAny (model prog w) A (Builtin.«list.sort» ⟨[.ref a],[]⟩) P E s:=by
 have hz:vs.toArray.size≤sizeLine:=by rw [Jy,sizeLine_eq];omega
 obtain ⟨e1,ho1⟩:∃ e1,(s.heap.update a (Obj.mapSeq fun _=>(#[]:Array Value))).get? a=some (seqObj "list" #[] e1):=⟨_,get?_update_seq ho fun _=>#[]⟩
 rw [list_sort_plain]
 refine wpAny_bind (listItems_at ho rfl (wpAny_bind (listUpdate_at ho rfl ?_ hz (Kq _))))
 refine wpAny_bind (seqEpoch_at ho1 rfl (wpAny_bind (wpAny_newTuple ?_ (by show vs.length≤_;rw [sizeLine_eq];omega))))
 refine wpAny_bind (wpAny_newList (wpAny_holding ?_) (Kq _))
 generalize hh3:((s.heap.update a (Obj.mapSeq fun _=>(#[]:Array Value))).push (seqObj "tuple" vs.toArray 0)).push (seqObj "list" #[] 0)=h3
 have hsh:∀ out,sortedHeap s.heap a vs out=h3.update a (Obj.mapSeq fun _=>out):=fun out=>by rw [← hh3];rfl
 have ho3:h3.get? a=some (seqObj "list" #[] e1):=by rw [← hh3];exact Jb _ (Jb _ ho1)
 have hH3:TupsX prog w h3 a vs ks:=hH.other fun l o hl e=>by
  rw [← hh3]
  exact Jb _ (Jb _ ((Heap.get?_update_ne _ _ _ _ hl).trans e))
 show wpAny (model prog w) A _ P E { s with heap:=h3 }
 dsimp only
 let f:Nat->Keyed:=fun i=>(vs.getD i Value.none,vs.getD i Value.none)
 have eT:(vs.toArray.zip vs.toArray).toList=(List.range vs.length).map f:=by
  rw [Array.toList_zip]
  apply List.ext_getElem
  ·simp
  ·intro i h1 h2
   have hi:i<vs.length:=by simpa using h1
   simp [f,hi]
 have fin:∀ (st:SortSt) (p:List Nat),p.Perm (List.range vs.length)->(p.map (ks.getD · [])).Pairwise (fun x y=>¬ enc y<enc x)->(arrOf st).toList=p.map f->failedOf st=none->
   wpAny (model prog w) A (do
    let sorted:=(arrOf st).map (·.2)
    let touched:=(← seqEpoch a) != e1
    Builtin.List.listUpdate (.ref a) fun _=>sorted
    if let some e:=failedOf st then rule "list.sort.comparison-raised";throw e
    if touched then rule "list.sort.modified";raiseError "ValueError" "list modified during sort"
    ret .none) P E { s with heap:=h3 }:=by
  intro st p hp hs' hout hf
  have hout:(arrOf st).map (·.2)=(p.map fun i=>vs.getD i Value.none).toArray:=by
   apply Array.toList_inj.mp
   rw [Array.toList_map,hout,KL];rfl
  dsimp only
  rw [hout]
  refine wpAny_bind (seqEpoch_at ho3 rfl (wpAny_bind (listUpdate_at ho3 rfl ?_ (Kq _) ?_)))
  ·rw [hf]
   simp only [bne_self_eq_false,Bool.false_eq_true,if_false]
   refine wpAny_pure ?_
   have:=h p hp hs'
   rw [hsh] at this
   exact this
  ·rw [Jy,Jt,hp.length_eq,KG,sizeLine_eq];omega
 by_cases h2:vs.toArray.size<2
 ·rw [if_pos h2,if_pos h2]
  refine wpAny_bind (wpAny_pure (wpAny_bind (wpAny_pure ?_)))
  rw [Jy] at h2
  refine fin _ (List.range vs.length) (List.Perm.refl _) ?_ eT rfl
  match hv:vs.length,h2 with
  | 0,_=>exact .nil
  | 1,_=>exact .cons (by simp) .nil
 ·rw [if_neg h2,if_neg h2]
  have h2':2≤vs.length:=by rw [Jy] at h2;omega
  have hkl:=hH3.len
  obtain ⟨fs,k1,k2,k3⟩:=uo (prog:=prog) (w:=w) (h:=h3) hkl (fun i hi=>let ⟨l,a1,_,a3⟩:=hH3.at' i hi;⟨l,a1,a3⟩) (fun k hk=>by
   obtain ⟨i,hi,rfl⟩:=Ke hk
   have:=hH3.ne i hi
   simpa [List.getD,hi] using this)
  have sh:∀ k ∈ ks,shp k=shp (ks.getD 0 []):=fun k hk=>by
   obtain ⟨i,hi,rfl⟩:=Ke hk
   have:=hH3.alike i 0 hi (by omega)
   simpa [List.getD,hi] using this
  obtain ⟨T,hT1,hT2,hT3⟩:∃ T:Value,(∀ v ∈ fs,Looks (model prog w) h3 (typeOf v) T)/\(T == T)=true/\(T != Value.type "tuple")=true:=by
   cases hk0:(shp (ks.getD 0 [])) with
   | nil=>exact absurd (QG.mp hk0) (hH3.ne 0 (by omega))
   | cons b r=>
    have key:∀ v ∈ fs,∃ k,uF k v=true/\k.isLeft=b:=fun v hv=>by
     obtain ⟨k,r',m1,m2⟩:=k3 v hv
     have:=sh _ m1
     rw [hk0] at this
     have:k.isLeft::shp r'=b::r:=this
     rw [KW] at this
     exact ⟨k,m2,this.1⟩
    cases b with
    | true=>
     refine ⟨.type "int",fun v hv=>?_,rfl,rfl⟩
     obtain ⟨k,m1,m2⟩:=key v hv
     rcases zJ m1 with ⟨i,t,rfl,rfl⟩ | ⟨x,t,rfl,rfl⟩
     ·exact .now
     ·cases m2
    | false=>
     refine ⟨.type "str",fun v hv=>?_,rfl,rfl⟩
     obtain ⟨k,m1,m2⟩:=key v hv
     rcases zJ m1 with ⟨i,t,rfl,rfl⟩ | ⟨x,t,rfl,rfl⟩
     ·cases m2
     ·exact .now
  refine wpAny_bind (kat_kind k1 (by omega) hT1 hT2 ?_)
  rw [hT3]
  have hA:TS.Asks (O:=znF) prog w A { s with heap:=h3 } (tuples' true) ((List.range vs.length).map f) (fun x=>enc (rdK prog w h3 x.1)):=fun x y Q hx hy hq=>by
   obtain ⟨i,hi,rfl⟩:=Jp.mp hx
   obtain ⟨j,hj,rfl⟩:=Jp.mp hy
   obtain ⟨l,a1,_,a3⟩:=hH3.at' i (Jw.mp hi)
   obtain ⟨l',b1,_,b3⟩:=hH3.at' j (Jw.mp hj)
   have hq:Q (decide (enc (rdK prog w h3 (vs.getD i Value.none))<enc (rdK prog w h3 (vs.getD j Value.none)))) { s with heap:=h3 }:=hq
   show wpAny _ _ (keyLt' _ (vs.getD i Value.none) (vs.getD j Value.none)) _ _ _
   rw [a1,b1] at hq ⊢
   rw [qZ a3,qZ b3] at hq
   exact zjo a3 b3 (hH3.alike i j (by rw [← hkl];exact Jw.mp hi) (by rw [← hkl];exact Jw.mp hj)) hq
  have run:=TS.wpS_runs (prog:=prog) (w:=w) (A:=A) (E:=E) (s:={ s with heap:=h3 }) (st:=SortSt.mk' (tuples' true) (vs.toArray.zip vs.toArray) #[] 7 none) (Q:=fun _ st'=>(arrOf st').toList.Perm ((List.range vs.length).map f)/\TS.Srt (O:=znF) (fun x=>enc (rdK prog w h3 x.1)) (arrOf st').toList/\failedOf st'=none) hA rfl rfl rfl (fun x hx=>by rw [← eT];exact hx) (fun st' q1 q2 q3=>⟨by rw [← eT];exact q1,q2,q3⟩)
  unfold wpS at run
  refine wpAny_bind (wpAny_mono run ?_ fun _ _ e=>e)
  rintro ⟨⟨⟩,st⟩ s' ⟨rfl,c1,c2,c3⟩
  obtain ⟨p,p1,p2⟩:=zjS f c1 _ rfl
  refine fin st p p1 ?_ p2 c3
  rw [p2] at c2
  have c2:=JW.mp c2
  rw [JW]
  refine c2.imp_of_mem fun {i j} hi hj z=>?_
  obtain ⟨l,a1,_,a3⟩:=hH3.at' i (Jw.mp (p1.mem_iff.mp hi))
  obtain ⟨l',b1,_,b3⟩:=hH3.at' j (Jw.mp (p1.mem_iff.mp hj))
  have z:decide (enc (rdK prog w h3 (vs.getD j Value.none))<enc (rdK prog w h3 (vs.getD i Value.none)))=false:=z
  rw [a1,b1,qZ a3,qZ b3] at z
  exact of_decide_eq_false z
end
end F
namespace L2
open PySem PySem.Spec PySem.W PyProof.Rows F
section
variable {X:Cx}
noncomputable def TuL(K:PySem.W.Frag)(H:Hp)(xs:List V)(ks:List (List Key)):Prop:=xs.length=ks.length/\∀ i,i<xs.length->∃ a,xs.getD i .non=.ref a/\SqT K H a ((ks.getD i []).map kV)
theorem zmL{s:Shared}(I:Inv X pins σ H s){xs:List V}{its:List Value}{ks:List (List Key)}(v1:Vals xs its)(h:TuL X.K H xs ks):∀ i,i<ks.length->∃ l,its.getD i Value.none=.ref l/\xs.getD i .non=.ref l/\PySem.IsTupleKey (zC X.prog X.w) s.heap (ks.getD i []) l:=fun i hi=>by
 obtain ⟨hlk,hpr⟩:=h
 obtain ⟨a,e1,e2⟩:=hpr i (by omega)
 have r:=zcN v1 i (by omega)
 rw [e1] at r
 have r':its.getD i Value.none=Value.ref a:=r
 obtain ⟨is,ri,⟨o,ho,hc,n,hd⟩,_⟩:=I.tuple e2
 exact ⟨a,r',e1,o,_,n,ho,hc,hd,ue ri⟩
noncomputable def okM(ks:List (List Key)):Bool:=ks.all fun k=>!k.isEmpty && (shp k == shp (ks.headD []))
theorem zca{ks:List (List Key)}(h:okM ks=true)(hi:i<ks.length):ks.getD i []≠[]/\shp (ks.getD i [])=shp (ks.headD []):=by
 have:=QC.mp h ks[i] (JP hi)
 rw [JG] at this
 have e:ks.getD i []=ks[i]:=by simp [List.getD,hi]
 rw [e]
 exact ⟨fun z=>by rw [z] at this;simp at this,beq_iff_eq.mp this.2⟩
end
end L2
namespace F
open PySem PySem.Spec PyProof.Rows L2
noncomputable def zeG(a:List Key):List (List Key)->List (List Key)
 | []=>[a]
 | b::r=>if enc b<enc a then b::zeG a r else a::b::r
noncomputable def vG(ks:List (List Key)):List (List Key):=ks.foldr zeG []
theorem uf(a:List Key):∀ r:List (List Key),(zeG a r).Perm (a::r)
 | []=>.refl _
 | b::r=>by
  unfold zeG
  split
  ·exact ((uf a r).cons b).trans (.swap a b r)
  ·exact .refl _
theorem vO:∀ ks:List (List Key),(vG ks).Perm ks
 | []=>.refl _
 | k::ks=>(uf k (vG ks)).trans ((vO ks).cons k)
theorem uz(a:List Key):∀ r:List (List Key),r.Pairwise (fun x y=>¬ enc y<enc x)->(zeG a r).Pairwise fun x y=>¬ enc y<enc x
 | [],_=>List.pairwise_singleton _ _
 | b::r,h=>by
  unfold zeG
  split
  ·rename_i hb
   refine KD.mpr ⟨fun y hy=>?_,uz a r (KD.mp h).2⟩
   rcases List.mem_cons.mp ((uf a r).mem_iff.mp hy) with rfl | hy
   ·exact fun z=>List.lt_irrefl _ (List.lt_trans hb z)
   ·exact (KD.mp h).1 y hy
  ·rename_i hb
   refine KD.mpr ⟨fun y hy=>?_,h⟩
   rcases List.mem_cons.mp hy with rfl | hy
   ·exact hb
   ·exact fun z=>hb (List.lt_of_le_of_lt (Qs.mp ((KD.mp h).1 y hy)) z)
theorem vq:∀ ks:List (List Key),(vG ks).Pairwise fun x y=>¬ enc y<enc x
 | []=>.nil
 | k::ks=>uz k _ (vq ks)
theorem zaF{xs ks:List (List Key)}(hs:∀ k ∈ ks,shp k=b)(p:xs.Perm ks)(h:xs.Pairwise fun x y=>¬ enc y<enc x):vG ks=xs:=
 List.Perm.eq_of_pairwise (le:=fun x y=>¬ enc y<enc x) (fun x y hx hy h1 h2=>zaa ((hs x ((vO ks).mem_iff.mp hx)).trans (hs y (p.mem_iff.mp hy)).symm) (List.le_antisymm (Qs.mp h1) (Qs.mp h2))) (vq ks) h ((vO ks).trans p.symm)
noncomputable def zds:Key->PV
 | .inl i=>.int i
 | .inr x=>.str x
noncomputable def tPV(k:List Key):PV:=.tup (k.map zds)
noncomputable def tkI:List PV->Option (List Key)
 | []=>some []
 | p::ps=>(qB p).bind fun k=>(tkI ps).map (k::·)
noncomputable def zbK:List PV->Option (List (List Key))
 | []=>some []
 | p::ps=>match p with
  | .tup qs=>(tkI qs).bind fun k=>(zbK ps).map (k::·)
  | _=>none
theorem zfG:∀ {ps:List PV} {k:List Key},tkI ps=some k->ps=k.map zds
 | [],k,e=>by cases e;rfl
 | p::ps,k,e=>by
  unfold tkI at e
  replace e:=Ja.mp e;obtain ⟨x,hx,e⟩:=e
  obtain ⟨r,hr,rfl⟩:=JA.mp e
  rw [Jo,← zfG hr]
  cases p<;>cases hx<;>rfl
theorem zcR:∀ {qs:List PV} {ks:List (List Key)},zbK qs=some ks->qs=ks.map tPV
 | [],ks,e=>by cases e;rfl
 | q::qs,ks,e=>by
  unfold zbK at e
  split at e
  case h_2=>cases e
  replace e:=Ja.mp e;obtain ⟨x,hx,e⟩:=e
  obtain ⟨r,hr,rfl⟩:=JA.mp e
  rw [Jo,← zcR hr,tPV,← zfG hx]
theorem zcS:∀ k:List Key,tkI (k.map zds)=some k
 | []=>rfl
 | k::r=>by
  rw [Jo]
  unfold tkI
  rw [zcS r]
  cases k<;>rfl
theorem zay:∀ ks:List (List Key),zbK (ks.map tPV)=some ks
 | []=>rfl
 | k::r=>by
  rw [Jo]
  unfold zbK
  rw [zay r]
  dsimp only [tPV]
  rw [zcS];rfl
theorem zgT{K:PySem.W.Frag}{H:Hp}:∀ {k:List Key} {xs:List V} {B:List Addr},Rps K H (k.map zds) xs B->B=[]/\xs=k.map kV
 | [],xs,B,r=>by
  obtain ⟨rfl,rfl⟩:=r.inv0
  exact ⟨rfl,rfl⟩
 | k::ks,xs,B,r=>by
  obtain ⟨v,xs',A1,A2,rfl,rfl,r1,r2⟩:=r.inv
  obtain ⟨rfl,rfl⟩:=zgT r2
  cases k with
  | inl i=>obtain ⟨rfl,rfl⟩:=r1.I;exact ⟨rfl,rfl⟩
  | inr x=>obtain ⟨rfl,rfl⟩:=r1.S;exact ⟨rfl,rfl⟩
theorem zcQ{K:PySem.W.Frag}{H:Hp}:∀ {ks:List (List Key)} {xs:List V} {B:List Addr},Rps K H (ks.map tPV) xs B->B=[]/\TuL K H xs ks
 | [],xs,B,r=>by
  obtain ⟨rfl,rfl⟩:=r.inv0
  exact ⟨rfl,rfl,fun i hi=>absurd hi (Kh _)⟩
 | k::ks,xs,B,r=>by
  obtain ⟨v,xs',A1,A2,rfl,rfl,r1,r2⟩:=r.inv
  obtain ⟨ad,ys,rfl,hT,r3⟩:=Rp.T r1
  obtain ⟨rfl,rfl⟩:=zgT r3
  obtain ⟨rfl,g1,g2⟩:=zcQ r2
  refine ⟨rfl,by rw [JH,JH,g1],fun i hi=>?_⟩
  cases i with
  | zero=>exact ⟨ad,rfl,hT⟩
  | succ i=>exact g2 i (Qb hi)
section
variable {X:Cx} {κ:Nat->Option Nat} {G:Hp} {c:Cat} {e:Expr} {fs:FA} {pos p1:Pos}
theorem zje{ks:List (List Key)}(h:okM ks=true):∀ k ∈ ks,shp k=shp (ks.headD []):=fun k hk=>by
 have:=QC.mp h k hk
 rw [JG] at this
 exact beq_iff_eq.mp this.2
end
end F
namespace L2
open PySem PySem.Spec PySem.W PyProof.Rows F
end L2
namespace F
open PySem PySem.Spec PyProof.Rows L2
end F
namespace F
open PySem PySem.Spec PySem.W PyProof.Rows PySem.Calls
end F
namespace L2
open PySem PySem.Spec PySem.W PyProof.Rows F
end L2
namespace F
open PySem PySem.Spec PyProof.Rows L2
section
variable {X:Cx} {κ:Nat->Option Nat} {G:Hp} {c1:Cat} {e:Expr} {f:FE} {pos:Pos}
theorem psI(i:Nat)(hN:X.N.Nodup)(he:PE X e te)(hi:X.N[i]?=some x:=by rfl)(hx:Loc X.env.scope x:=by first | exact .inl rfl | exact .inr rfl)(hs:swapsWith e (some (.Name x pos')) pos.line X.env=pure false:=by rfl)(hf:X.fn x=true∨X.env.scope.names.lookup x=some .local:=by first | exact .inl rfl | exact .inr rfl | assumption):
  PS X (.Assign [.Name x pos'] e pos) (vp te (wd i)):=zkZ hN hi hx he hs hf
theorem vgI(i:Nat)(hN:X.N.Nodup)(hk:κ i=none:=by rfl)(hi:X.N[i]?=some x:=by rfl)(hx:Loc X.env.scope x:=by first | exact .inl rfl | exact .inr rfl)(hf:X.fn x=true∨X.env.scope.names.lookup x=some .local:=by first | exact .inl rfl | exact .inr rfl | assumption):VG X κ G [i] (.Name x pos) (zF i):=zis i hk (zdh hN hi hx hf)
theorem vx(i:Nat)(h:PE X (.Name x pos) (vo i))(hk:κ i=none:=by rfl):VE X κ G .sh (.Name x pos) (zA i):=zmB i hk h
end
section
noncomputable def zoB:Expr->List Str
 | .Name x _=>[x]
 | _=>[]
noncomputable def zoA:Expr->List Str
 | .Name x _=>[x]
 | .Tuple es _ _=>es.flatMap zoB
 | _=>[]
noncomputable def tgN:Expr->List Str
 | .Name x _=>[x]
 | .Tuple es _ _=>es.flatMap zoA
 | _=>[]
variable {X:Cx} {κ:Nat->Option Nat} {G:Hp} {c c1:Cat} {e:Expr} {es:List Expr} {f:FE} {fs:FA} {pos:Pos}
theorem zij(he:VE X κ G (.mv L) e f)(h0:0 ∉ L):VS X κ G (.Return (some e) pos) (yQ f):=zki he h0
theorem zkB(h:VE X κ G (.mv L1) e f)(hr:VA X κ G (.mv L2) es fs)(hL:∀ l ∈ L1,l ∉ L2)(hs:starEach (e::es) X.env=(false,eval e X.env)::starEach es X.env:=by rfl):VA X κ G (.mv (L1++L2)) (e::es) (zB f fs):=zjL h hr hL hs
noncomputable def OpT(X:Cx)(op:CmpOp)(g:PV->PV->Option PV):Prop:=∃ r,OpR X (compareOp op) r/\OpV X.K r g
noncomputable def OpB(X:Cx)(op:Operator)(g:PV->PV->Option PV):Prop:=∃ r,OpR X (binaryOp op) r/\OpV X.K r g
variable {a b d:Expr} {fa fb fd:FE} {c2 c3:Cat} {g g':PV->PV->Option PV}
theorem zkt(h:OpB X op g)(ha:VE X κ G c1 a fa)(hb:VE X κ G c2 b fb):VE X κ G (.mv []) (.BinOp a op b pos) (fOp g fa fb):=h.elim fun _ h=>zmC h.1 h.2 ha hb
theorem ziv(h:OpT X op g)(ha:VE X κ G c1 a fa)(hb:VE X κ G c2 b fb)(hm:behindInMarks op b=false:=by first | exact zcc _ | with_unfolding_all rfl):VE X κ G (.mv []) (.Compare a [op] [b] pos) (fOp g fa fb):=h.elim fun _ h=>zkA h.1 h.2 ha hb hm
theorem zif(h:OpT X op g)(ha:VE X κ G c1 a fa)(hb:VE X κ G c2 b fb)(hm:behindInMarks op b=false:=by first | exact zcc _ | with_unfolding_all rfl):VT X κ G (.Compare a [op] [b] pos) (fT (fOp g fa fb)):=h.elim fun _ h=>zkh h.1 h.2 ha hb hm
theorem zdV(h:OpT X op g)(h':OpT X op' g')(ha:VE X κ G c1 a fa)(hb:VE X κ G c2 b fb)(hd:VE X κ G c3 d fd)(hm:lastMarks [op,op'] [b,d]=false:=by rfl):VT X κ G (.Compare a [op,op'] [b,d] pos) (fT (yk g g' fa fb fd)):=h.elim fun _ h=>h'.elim fun _ h'=>zfs h.1 h'.1 h.2 h'.2 ha hb hd hm
theorem zdY(h:OpT X op g)(h':OpT X op' g')(ha:VE X κ G c1 a fa)(hb:VE X κ G c2 b fb)(hd:VE X κ G c3 d fd)(hm:lastMarks [op,op'] [b,d]=false:=by rfl):VE X κ G (.mv []) (.Compare a [op,op'] [b,d] pos) (yk g g' fa fb fd):=h.elim fun _ h=>h'.elim fun _ h'=>zfA h.1 h'.1 h.2 h'.2 ha hb hd hm
theorem zdU{l:Nat}{op:CmpOp}{fa:FI}(h:OpT X op g)(ha:VEi X κ G l a fa)(hb:VE X κ G c b fb)(hm:behindInMarks op b=false:=by exact zcc _):VTi X κ G l (.Compare a [op] [b] pos) (zhq g fa fb):=h.elim fun _ h=>zfq h.1 h.2 ha hb hm
variable {n:Nat} {js Bs:List Nat} {scope:Scope} {elt tg iter:Expr} {ifs:List Expr} {bnd:PV->En->Option En} {t:FT}
theorem zkx(hi:VIt X (ko []) G false tg iter fs)(hg:∀ C s₀ H₀ fp,VG (zb X (tgN tg) js scope C s₀ H₀ fp) (cK n js (ko [])) G Bs tg bnd)(ht:∀ C s₀ H₀ fp,VTs (zb X (tgN tg) js scope C s₀ H₀ fp) (cK n js (ko [])) G ifs t)
  (he:∀ C s₀ H₀ fp,VE (zb X (tgN tg) js scope C s₀ H₀ fp) (cK n js (ko [])) G (.mv []) elt f)(hB:∀ i ∈ Bs,i<n)(hn:(tgN tg).length=n:=by rfl)(hc:X.calm=true:=by rfl)(ok:u7 js scope X.env.kindOf X.N=true:=by first | rfl | decide +kernel)(hs:∀ x,foldedSetIterable iter X.env x=pure x:=by intro _;rfl):
  VE X κ G (.mv []) (.ListComp elt [⟨tg,iter,ifs,0⟩] scope pos) (fLC fs n js bnd t f):=by
 subst hn
 exact ziu (zmE (.mv []) (.inl rfl) hB hc hi hg ht he ok hs)
theorem zgg{py spos:Pos}(hN:X.N.Nodup)(hi:VIt X (ko []) G false tg iter fs)(hg:∀ C s₀ H₀ fp,VG (zb X (tgN tg) js scope C s₀ H₀ fp) (cK n js (ko [])) G Bs tg bnd)(ht:∀ C s₀ H₀ fp,VTs (zb X (tgN tg) js scope C s₀ H₀ fp) (cK n js (ko [])) G ifs t)
  (he:∀ C s₀ H₀ fp,VE (zb X (tgN tg) js scope C s₀ H₀ fp) (cK n js (ko [])) G (.mv []) elt f)(hB:∀ i ∈ Bs,i<n)(hi':X.N[i]?=some y:=by rfl)(hx:Loc X.env.scope y:=by first | exact .inl rfl | exact .inr rfl)(hn:(tgN tg).length=n:=by rfl)(hc:X.calm=true:=by rfl)(ok:u7 js scope X.env.kindOf X.N=true:=by first | rfl | decide +kernel)(hs:∀ x,foldedSetIterable iter X.env x=pure x:=by intro _;rfl)
  (hsw:swapsWith (.ListComp elt [⟨tg,iter,ifs,0⟩] scope pos) (some (.Name y py)) spos.line X.env=pure true:=by rfl)(hf:X.fn y=true∨X.env.scope.names.lookup y=some .local:=by first | exact .inl rfl | exact .inr rfl | assumption):
  PS X (.Assign [.Name y py] (.ListComp elt [⟨tg,iter,ifs,0⟩] scope pos) spos) (vp (tV X.K κ G (.mv []) (fLC fs n js bnd t f)) (wd i)):=by
 subst hn
 exact ziQ (znf (.mv []) hN hi' hx (.inl rfl) hB hc hi hg ht he ok hs hsw hf)
variable {O:List Nat} {st:Stmt}
end
namespace Tab
noncomputable def Way(t:SetTable)(h:Int)(p:Nat):Prop:=∃ c,(adv t c (t.probeStart h)).j=p/\∀ m,m<c->t.slot (adv t m (t.probeStart h)).j≠.empty
section
variable {t t':SetTable} {h:Int}
theorem kO(e:t.mask=t'.mask):∀ (m:Nat) (P:SetTable.Probe),adv t m P=adv t' m P
 | 0,P=>rfl
 | m+1,P=>by
  have:t.advance P=t'.advance P:=by unfold SetTable.advance;rw [e]
  show adv t m (t.advance P)=adv t' m (t'.advance P)
  rw [this];exact kO e m _
theorem jU(e:t.mask=t'.mask)(h:Int):t.probeStart h=t'.probeStart h:=by unfold SetTable.probeStart;rw [e]
theorem zbB:∀ (m:Nat) (P:SetTable.Probe),adv t (m+1) P=t.advance (adv t m P)
 | 0,P=>rfl
 | m+1,P=>zbB m (t.advance P)
theorem adv_add:∀ (a b:Nat) (P:SetTable.Probe),adv t (a+b) P=adv t b (adv t a P)
 | 0,b,P=>by rw [KU];rfl
 | a+1,b,P=>by rw [Nat.succ_add];exact adv_add a b _
theorem Way.mono{p:Nat}(w:Way t h p)(e:t.mask=t'.mask)(ne:∀ j,t.slot j≠.empty->t'.slot j≠.empty):Way t' h p:=by
 obtain ⟨c,h1,h2⟩:=w
 refine ⟨c,by rw [← h1,← jU e,← kO e],fun m hm=>?_⟩
 rw [← jU e,← kO e]
 exact ne _ (h2 m hm)
inductive Met3 (t:SetTable) (hashAt:Nat->Int) (h:Int) (m:Nat) (P:SetTable.Probe):Option SetTable.Met->Prop
 | empty (k:Nat):k≤m->t.slot (adv t k P).j=.empty->(adv t k P).j≤t.mask->(∀ m',m'<k->∃ i,t.slot (adv t m' P).j=.live i/\hashAt i≠h)->Met3 t hashAt h m P (some (.empty (adv t k P).j none))
 | cand (k i:Nat):k<m->t.slot (adv t k P).j=.live i->(∀ m',m'<k->∃ i,t.slot (adv t m' P).j=.live i/\hashAt i≠h)->Met3 t hashAt h m P (some (.candidate (adv t k P).j i (adv t (k+1) P)))
theorem zdy{hashAt:Nat->Int}(hd:t.dummies=#[]):∀ (m fuel:Nat) (P:SetTable.Probe),m<fuel->In t P->t.slot (adv t m P).j=.empty->Met3 t hashAt h m P (SetTable.probe.go t hashAt h fuel P)
 | m,0,P,hf,_,_=>absurd hf (Kh _)
 | m,f+1,P,hf,hi,hm=>by
  rw [uI]
  cases hs:t.slot P.j with
  | empty=>
   dsimp only
   rw [hi.2]
   exact .empty 0 (Kq _) hs (by show P.j≤_;have:=hi.1;omega) fun _ z=>absurd z (Kh _)
  | dummy=>exact absurd hs (yz hd _)
  | live i=>
   dsimp only
   cases m with
   | zero=>
    have:t.slot P.j=.empty:=hm
    rw [hs] at this;cases this
   | succ m=>
    split
    ·exact .cand 0 i (Kn _) hs fun _ z=>absurd z (Kh _)
    ·rename_i hne
     have hne':hashAt i≠h:=fun e=>hne (beq_iff_eq.mpr e)
     have first:∀ k,(∀ m',m'<k->∃ i,t.slot (adv t m' (t.advance P)).j=.live i/\hashAt i≠h)->∀ m',m'<k+1->∃ i,t.slot (adv t m' P).j=.live i/\hashAt i≠h:=fun k hk m' hm'=>by
      cases m' with
      | zero=>exact ⟨i,hs,hne'⟩
      | succ m'=>exact hk m' (by omega)
     have:=zdy (hashAt:=hashAt) hd m f (t.advance P) (Qb hf) hi.next hm
     generalize SetTable.probe.go t hashAt h f (t.advance P)=r at this
     cases this with
     | empty k h1 h2 h3 h4=>exact .empty (k+1) (by omega) h2 h3 (first k h4)
     | cand k i h1 h2 h4=>exact .cand (k+1) i (by omega) h2 (first k h4)
theorem probe_met3{hashAt:Nat->Int}{m:Nat}{P:SetTable.Probe}{r:Option SetTable.Met}(hd:t.dummies=#[])(e:t.probe hashAt h P=r)(hm:m<10 * SetTable.turns t.mask)(hi:In t P)(hs:t.slot (adv t m P).j=.empty):Met3 t hashAt h m P r:=by
 rw [← e]
 exact zdy hd m _ P hm hi hs
theorem In.advs:∀ (m:Nat) {P:SetTable.Probe},In t P->In t (adv t m P)
 | 0,P,h=>h
 | m+1,P,h=>In.advs m h.next
theorem vz:∀ (k:Nat) (P:SetTable.Probe),k≤P.more->adv t k P={ P with j:=P.j+k,more:=P.more - k }
 | 0,P,_=>rfl
 | k+1,P,hk=>by
  have e:t.advance P={ P with j:=P.j+1,more:=P.more - 1 }:=by unfold SetTable.advance;rw [if_pos (by omega)]
  show adv t k (t.advance P)=_
  rw [e,vz k _ (by show k≤P.more - 1;omega)]
  simp only [SetTable.Probe.mk.injEq,and_true,true_and]
  omega
theorem zbj{owner:Array (Option Nat)}:∀ (fuel i p:Nat) (P:SetTable.Probe),i≤t.mask->P.j=i->P.i=i->P.perturb=p->P.more=SetTable.runEnd t.mask i - i->∀ {j:Nat},SetTable.layClean.free t.mask owner fuel i p=some j->owner.getD j (some 0)=none/\∃ c,(adv t c P).j=j/\∀ m,m<c->(adv t m P).j≤t.mask/\owner.getD (adv t m P).j (some 0)≠none
 | 0,i,p,P,_,_,_,_,_,j,e=>nomatch e
 | f+1,i,p,P,hi,h1,h2,h3,h4,j,e=>by
  have hr:=yu hi
  unfold SetTable.layClean.free at e
  cases hc:(List.range (SetTable.runEnd t.mask i+1 - i)).find? fun k=>(owner.getD (i+k) (some 0)).isNone with
  | some k=>
   rw [hc] at e
   cases e
   have hk:=Jw.mp (QK hc)
   refine ⟨QL.mp (List.find?_some (p:=fun k=>(owner.getD (i+k) (some 0)).isNone) hc),k,by rw [vz k P (by omega),h1],fun m hm=>?_⟩
   rw [vz m P (by omega),h1]
   refine ⟨by show i+m≤_;omega,fun z=>?_⟩
   obtain ⟨_,as,bs,eq,hb⟩:=List.find?_eq_some_iff_append.mp hc
   have hmem:m ∈ as:=by
    have hlen:as=List.range k:=by
     have e1:(as++k::bs).take as.length=as:=List.take_left
     have e2:(as++k::bs)[as.length]?=some k:=by simp
     rw [← eq] at e1 e2
     obtain ⟨e3,e4⟩:=Jv.mp e2
     rw [List.getElem_range] at e4
     rw [e4,List.take_range] at e1
     rw [← e1];congr 1;omega
    rw [hlen];exact Jw.mpr hm
   have:=hb m hmem
   rw [z] at this
   cases this
  | none=>
   rw [hc] at e
   have hall:=List.find?_eq_none.mp hc
   have hadv:adv t (P.more+1) P=wx t P:=by
    rw [zbB,vz _ P (Jm _)]
    unfold SetTable.advance wx
    rw [if_neg (by show ¬ (P.more - P.more > 0);omega)]
   obtain ⟨c0,c,c1,c2⟩:=zbj f (SetTable.leap t.mask i p).1 (SetTable.leap t.mask i p).2 (wx t P) (Kg (Qa _ (Kn _))) (by rw [← h2,← h3];rfl) (by rw [← h2,← h3];rfl) (by rw [← h2,← h3];rfl) (by rw [← h2,← h3];rfl) e
   refine ⟨c0,P.more+1+c,by rw [adv_add,hadv,c1],fun m hm=>?_⟩
   by_cases hq:m≤P.more
   ·rw [vz m P hq,h1]
    refine ⟨by show i+m≤_;omega,fun z=>?_⟩
    have:=hall m (Jw.mpr (by omega))
    rw [z] at this
    exact this rfl
   ·obtain ⟨d,rfl⟩:∃ d,m=P.more+1+d:=⟨m - (P.more+1),by omega⟩
    rw [adv_add,hadv]
    exact c2 d (by omega)
noncomputable def WO(t:SetTable)(owner:Array (Option Nat))(hs:List Int):Prop:=∀ j k,owner.getD j none=some k->∃ h,hs[k]?=some h/\∃ c,(adv t c (t.probeStart h)).j=j/\∀ m,m<c->(adv t m (t.probeStart h)).j≤t.mask/\owner.getD (adv t m (t.probeStart h)).j (some 0)≠none
theorem qo{step:Option (Array (Option Nat) × Nat)->Int->Option (Array (Option Nat) × Nat)}(hstep:step=fun acc h=>do
 let (owner,k) ← acc
 let j ← SetTable.layClean.free t.mask owner (SetTable.turns t.mask) (SetTable.bits h % (t.mask+1)) (SetTable.bits h)
 pure (owner.setIfInBounds j (some k),k+1)):∀ (hs pre:List Int) (owner:Array (Option Nat)) (r:Array (Option Nat) × Nat),owner.size=t.mask+1->WO t owner pre->hs.foldl step (some (owner,pre.length))=some r->r.1.size=t.mask+1/\WO t r.1 (pre++hs)
 | [],pre,owner,r,hz,W,e=>by
  cases e
  rw [JR];exact ⟨hz,W⟩
 | h::hs,pre,owner,r,hz,W,e=>by
  have none_fold:∀ l:List Int,l.foldl step none=none:=fun l=>by
   induction l with
   | nil=>rfl
   | cons x l ih=>rw [QJ,show step none x=none by rw [hstep];rfl];exact ih
  rw [QJ] at e
  cases hf:SetTable.layClean.free t.mask owner (SetTable.turns t.mask) (SetTable.bits h % (t.mask+1)) (SetTable.bits h) with
  | none=>
   have:step (some (owner,pre.length)) h=none:=by
    rw [hstep]
    show (SetTable.layClean.free t.mask owner (SetTable.turns t.mask) (SetTable.bits h % (t.mask+1)) (SetTable.bits h)).bind _=none
    rw [hf];rfl
   rw [this,none_fold] at e
   cases e
  | some j=>
   have:step (some (owner,pre.length)) h=some (owner.setIfInBounds j (some pre.length),(pre++[h]).length):=by
    rw [hstep,Jk]
    show (SetTable.layClean.free t.mask owner (SetTable.turns t.mask) (SetTable.bits h % (t.mask+1)) (SetTable.bits h)).bind _=_
    rw [hf];rfl
   rw [this] at e
   obtain ⟨f0,c,f1,f2⟩:=zbj (t:=t) (owner:=owner) _ _ _ (t.probeStart h) (Kg (Qa _ (Kn _))) rfl rfl rfl rfl hf
   have hjs:j<owner.size:=JB fun z=>by
    rw [JF,Array.getElem?_eq_none (by omega)] at f0
    cases f0
   have get:∀ j' d,j'≠j->(owner.setIfInBounds j (some pre.length)).getD j' d=owner.getD j' d:=fun j' d hne=>by
    rw [JF,JF,Array.getElem?_setIfInBounds_ne (Qw hne)]
   have getj:∀ d,(owner.setIfInBounds j (some pre.length)).getD j d=some pre.length:=fun d=>by
    rw [JF,Array.getElem?_setIfInBounds_self_of_lt hjs];rfl
   have keep:∀ j',owner.getD j' (some 0)≠none->(owner.setIfInBounds j (some pre.length)).getD j' (some 0)≠none:=fun j' hne=>by
    by_cases z:j'=j
    ·rw [z,getj];exact Option.some_ne_none _
    ·rw [get j' _ z];exact hne
   have W':WO t (owner.setIfInBounds j (some pre.length)) (pre++[h]):=fun j' k' e'=>by
    by_cases z:j'=j
    ·subst z
     rw [getj] at e'
     cases e'
     exact ⟨h,by simp,c,f1,fun m hm=>⟨(f2 m hm).1,keep _ (f2 m hm).2⟩⟩
    ·rw [get j' _ z] at e'
     obtain ⟨h',e1,c',e2,e3⟩:=W j' k' e'
     exact ⟨h',by rw [Kj (Jv.mp e1).1];exact e1,c',e2,fun m hm=>⟨(e3 m hm).1,keep _ (e3 m hm).2⟩⟩
   have:=qo hstep hs (pre++[h]) _ r (by rw [Array.size_setIfInBounds];exact hz) W' e
   rw [JC] at this
   exact this
theorem slot_in{j:Nat}(hr:zai t.place)(hj:j ∈ t.place.toList):t.slot j≠.empty:=fun e=>by
 obtain ⟨i,hi⟩:=Kf.mp hj
 rw [Js] at hi
 obtain ⟨b1,b2,b3⟩:=below_ok hr j
 have hout:=zaG e
 have hib:¬ i<SetTable.below t.place j:=fun z=>KM _ (b2 i j z hi)
 have hne:i≠SetTable.below t.place j:=fun z=>hout (by rw [← z];exact hi)
 have hlt:SetTable.below t.place j<t.place.size:=by have:=(Ju.mp hi).1;omega
 have h1:=b3 _ _ (Jm _) (getElem?_pos t.place _ hlt)
 have h2:=JZ.mp hr (SetTable.below t.place j) i (by rw [Jg];exact hlt) (by rw [Jg];exact (Ju.mp hi).1) (by omega)
 rw [Kt,Kt,(Ju.mp hi).2] at h2
 omega
noncomputable def Ways(t:SetTable)(es:Array (Int × Value)):Prop:=∀ q ∈ es.toList.zip t.place.toList,Way t q.1.1 q.2
theorem zam{es:Array (Int × Value)}:∀ (l:List (Nat × Nat)),(∀ z ∈ l,z.2<es.size)->∀ q ∈ ((l.map (·.2)).filterMap (es[·]?)).zip (l.map (·.1)),∃ z ∈ l,es[z.2]?=some q.1/\q.2=z.1
 | [],_,q,hq=>by simp at hq
 | z::l,hz,q,hq=>by
  have hlt:=hz z Jc
  rw [Jo,Jo,List.filterMap_cons,getElem?_pos es _ hlt] at hq
  simp only [List.zip_cons_cons] at hq
  rcases List.mem_cons.mp hq with rfl | hq
  ·exact ⟨z,Jc,getElem?_pos es _ hlt,rfl⟩
  ·obtain ⟨z',h1,h2,h3⟩:=zam l (fun y hy=>hz y (Jf _ hy)) q hq
   exact ⟨z',Jf _ h1,h2,h3⟩
theorem laid_ways{mask finger moves:Nat}{led plain:Bool}{es:Array (Int × Value)}{order:Array Nat}{n:Nat}{l:Bool}(e:SetTable.laid mask finger moves led plain (es.map (·.1))=some (t,order))(g:GoodN t n l)(hm:t.mask=mask)(hp:order.toList.Perm (List.range es.size)):Ways t (order.filterMap (es[·]?)):=by
 subst hm
 unfold SetTable.laid at e
 cases hc:SetTable.layClean t.mask (es.map (·.1)) with
 | none=>rw [hc] at e;cases e
 | some owner=>
  rw [hc] at e
  have e:=Jq e
  have e1:t.place=(((List.range (t.mask+1)).filterMap fun j=>(owner.getD j none).map (j,·)).map (·.1)).toArray:=(congrArg (fun z=>z.1.place) e).symm
  have e2:order=(((List.range (t.mask+1)).filterMap fun j=>(owner.getD j none).map (j,·)).map (·.2)).toArray:=(congrArg Prod.snd e).symm
  have W:WO t owner (es.map (·.1)).toList:=by
   unfold SetTable.layClean at hc
   rw [← Array.foldl_toList] at hc
   obtain ⟨r,hr,hr2⟩:=JA.mp hc
   have:=(qo (t:=t) rfl (es.map (·.1)).toList [] (Array.replicate (t.mask+1) none) r (by simp) (fun j k z=>by
    rw [JF,Array.getElem?_replicate] at z
    split at z<;>cases z) hr).2
   rw [hr2,List.nil_append] at this
   exact this
  have hrise:zai t.place:=Good.rise (t:={ t with plain:=true }) g
  intro q hq
  rw [Array.toList_filterMap,e1,e2] at hq
  obtain ⟨z,hz,hz1,hz2⟩:=zam _ (fun z hz=>by
   have:z.2 ∈ order.toList:=by rw [e2];exact Jp.mpr ⟨z,hz,rfl⟩
   exact Jw.mp (hp.mem_iff.mp this)) q hq
  obtain ⟨j,_,hj⟩:=Qo.mp hz
  obtain ⟨k,hk,rfl⟩:=JA.mp hj
  obtain ⟨h,w1,c,w2,w3⟩:=W j k hk
  have hh:h=q.1.1:=by
   rw [Array.toList_map,JQ,Js,hz1] at w1
   exact (Jq w1).symm
  subst hh
  refine ⟨c,by rw [w2];exact hz2.symm,fun m hm=>?_⟩
  obtain ⟨v1,v2⟩:=w3 m hm
  refine slot_in hrise ?_
  generalize (adv t m (t.probeStart q.1.1)).j=y at *
  cases ho:owner.getD y none with
  | none=>
   have:owner.getD y (some 0)=none∨owner.size≤y:=by
    rw [JF] at ho ⊢
    cases hx:owner[y]? with
    | none=>exact .inr (by simpa using hx)
    | some x=>rw [hx] at ho;exact .inl ho
   rcases this with z | z
   ·exact absurd z v2
   ·unfold SetTable.layClean at hc
    rw [← Array.foldl_toList] at hc
    obtain ⟨r,hr,hr2⟩:=JA.mp hc
    have:=(qo (t:=t) rfl (es.map (·.1)).toList [] (Array.replicate (t.mask+1) none) r (by simp) (fun j k z=>by
     rw [JF,Array.getElem?_replicate] at z
     split at z<;>cases z) hr).1
    rw [hr2] at this
    omega
  | some x=>
   rw [e1]
   exact Jp.mpr ⟨(y,x),Qo.mpr ⟨y,Jw.mpr (by omega),by rw [ho];rfl⟩,rfl⟩
theorem zgb{n:Nat}{led:Bool}(g:GoodN t n led)(hn:n+1≤t.mask){j:Nat}(hs:t.slot j=.empty)(hj:j≤t.mask):∀ i,t.slot i≠.empty->(t.put j).1.slot i≠.empty:=fun i hi=>by
 obtain ⟨g',_⟩:=g.put hn hs hj
 refine slot_in (Good.rise (t:={ (t.put j).1 with plain:=true }) g') ?_
 show i ∈ (SetTable.insertAt t.place (SetTable.below t.place j) j).toList
 rw [(Qr t.place (SetTable.below t.place j) j).mem_iff,Kz]
 exact Jr _ (JB fun z=>hi (jV g.dm z))
theorem put_ways{n:Nat}{led:Bool}{es:Array (Int × Value)}{x:Value}(g:GoodN t n led)(hz:es.size=n)(hn:n+1≤t.mask){j:Nat}(hs:t.slot j=.empty)(hj:j≤t.mask)(W:Ways t es)(w:Way t h j):Ways (t.put j).1 (SetTable.insertAt es (t.put j).2 (h,x)):=by
 have mono:∀ {h p},Way t h p->Way (t.put j).1 h p:=fun w=>w.mono rfl (zgb g hn hs hj)
 intro q hq
 have hb:SetTable.below t.place j≤t.place.size:=(below_ok (Good.rise (t:={ t with plain:=true }) g) j).1
 have hl:es.toList.length=t.place.toList.length:=by rw [Jg,Jg,hz,g.size]
 have e:(SetTable.insertAt es (t.put j).2 (h,x)).toList.zip (t.put j).1.place.toList=(es.toList.take (SetTable.below t.place j)).zip (t.place.toList.take (SetTable.below t.place j))++((h,x),j)::(es.toList.drop (SetTable.below t.place j)).zip (t.place.toList.drop (SetTable.below t.place j)):=by
  show (SetTable.insertAt es (SetTable.below t.place j) (h,x)).toList.zip (SetTable.insertAt t.place (SetTable.below t.place j) j).toList=_
  rw [SetTable.toList_insertAt,SetTable.toList_insertAt,List.zip_append (by rw [Kc,Kc,hl]),JM]
 rw [e] at hq
 rcases List.mem_append.mp hq with hq | hq
 ·have hq:q ∈ (es.toList.zip t.place.toList).take (SetTable.below t.place j):=by unfold List.zip;rw [List.take_zipWith];exact hq
  exact mono (W q (QB hq))
 ·rcases List.mem_cons.mp hq with rfl | hq
  ·exact mono w
  ·have hq:q ∈ (es.toList.zip t.place.toList).drop (SetTable.below t.place j):=by unfold List.zip;rw [List.drop_zipWith];exact hq
   exact mono (W q (Qg hq))
end
theorem full511:Full 511:=jI (by decide +kernel) (by decide +kernel)
end Tab
section
variable {prog:Program} {w:World} {A:Around} {E:Value->Shared->Prop} {s:Shared}
theorem zez{t:SetTable}(h:t.mask=7∨t.mask=31∨t.mask=127∨t.mask=511):t.gaveWay=false:=by
 unfold SetTable.gaveWay
 rcases h with h | h | h | h<;>(rw [h];rfl)
noncomputable def zhU(prog:Program)(w:World)(h:Heap)(k:List Key)(es:Array (Int × Value))(t:SetTable)(hh:Int)(c:Nat):Prop:=∀ m,m<c->∃ i e,t.slot (Tab.adv t m (t.probeStart hh)).j=.live i/\es[i]?=some e/\NoM prog w h k e.2
theorem zfS{a b:Addr}{o:Obj}{es:Array (Int × Value)}{ep:Nat}{t:SetTable}{led:Bool}{k:List Key}{Q:SetFound->Shared->Prop}(ho:s.heap.get? a=some o)(hd:o.data=.set es ep t)(g:Tab.GoodN t es.size led)(hm7:t.mask=7∨t.mask=31∨t.mask=127∨t.mask=511)(hel:∀ e ∈ es.toList,ElM prog w s.heap e)(hk:IsTupleKey (zC prog w) s.heap k b)(hu:A.units<cLine)
  (hq1:(∃ e ∈ es.toList,¬ NoM prog w s.heap k e.2)->Q (.there none) s)
  (hq:∀ j c,t.slot j=.empty->j≤t.mask->(Tab.adv t c (t.probeStart (tupleKeyHash (zC prog w) k))).j=j->zhU prog w s.heap k es t (tupleKeyHash (zC prog w) k) c->Q (.free j false) s):
  ∀ (m fuel c:Nat) (st:Option SetTable.Probe),m<fuel->m<10 * SetTable.turns t.mask->st.getD (t.probeStart (tupleKeyHash (zC prog w) k))=Tab.adv t c (t.probeStart (tupleKeyHash (zC prog w) k))->zhU prog w s.heap k es t (tupleKeyHash (zC prog w) k) c->t.slot (Tab.adv t m (st.getD (t.probeStart (tupleKeyHash (zC prog w) k)))).j=.empty->wpAny (model prog w) A (setSearchFrom a (.ref b) (tupleKeyHash (zC prog w) k) true fuel st) Q E s:=by
 intro m fuel
 induction fuel generalizing m with
 | zero=>intro c st hf;exact absurd hf (Kh _)
 | succ f ih=>
  intro c st hf ht hst hah hs
  have hi:Tab.In t (st.getD (t.probeStart (tupleKeyHash (zC prog w) k))):=by rw [hst];exact Tab.In.advs c (Tab.In.start _ _)
  unfold setSearchFrom
  refine wpAny_bind (wpAny_setState_of ho hd g.fits ?_)
  dsimp only
  rw [zez hm7]
  simp only [Bool.false_eq_true,if_false]
  split
  ·rename_i met he
   have hM:=Tab.probe_met3 g.dm he ht hi hs
   have more:∀ q,(∀ m',m'<q->∃ i,t.slot (Tab.adv t m' (st.getD (t.probeStart (tupleKeyHash (zC prog w) k)))).j=.live i/\(es[i]?.map (·.1)).getD 0≠tupleKeyHash (zC prog w) k)->zhU prog w s.heap k es t (tupleKeyHash (zC prog w) k) (c+q):=fun q hq2 m' hm'=>by
    by_cases z:m'<c
    ·exact hah m' z
    ·obtain ⟨d,rfl⟩:∃ d,m'=c+d:=⟨m' - c,by omega⟩
     obtain ⟨i,h1,h2⟩:=hq2 d (by omega)
     have hin:=g.live h1
     refine ⟨i,es[i],by rw [Tab.adv_add,← hst];exact h1,getElem?_pos es i hin,fun b' k' e1 e2 e3=>h2 ?_⟩
     obtain ⟨b2,k2,e4,e5,e6⟩:=hel es[i] (by simp)
     rw [e1] at e4
     cases e4
     rw [getElem?_pos es i hin]
     show es[i].1=_
     rw [e6,e5.inj e2,e3]
   cases hM with
   | empty q h1 h2 h3 h4=>exact wpAny_pure (hq _ (c+q) h2 h3 (by rw [Tab.adv_add,← hst]) (more q h4))
   | cand q i h2 h1 h4=>
    have hin:=g.live h1
    have hei:es[i] ∈ es.toList:=by simp
    obtain ⟨b',k',e1,e2,e3⟩:=hel _ hei
    have hM2:=more q h4
    have yC:wpAny (model prog w) A (do
      let some (_,y):=es[i]? | unsupported "internal:set-entry"
      let equal ← holding [y] (eqBool y (.ref b))
      let (es',_,t') ← setState a
      if true && equal then return .there none
      let some same:=t'.sameMemory t.moves t.mask | unsupported "set.changed-during-lookup:is-the-new-block-at-the-old-address"
      let still ← match (if same then t'.slot (Tab.adv t q (st.getD (t.probeStart (tupleKeyHash (zC prog w) k)))).j else .empty) with
       | .live i'=>match es'[i']? with
        | some (_,y')=>do pure (if ← isSame y' y then some i' else none)
        | none=>pure none
       | _=>pure none
      match still with
      | none=>rule "set.search.anew";setSearchFrom a (.ref b) (tupleKeyHash (zC prog w) k) true f none
      | some i'=>if equal then return .there (some i') else setSearchFrom a (.ref b) (tupleKeyHash (zC prog w) k) true f (some (Tab.adv t (q+1) (st.getD (t.probeStart (tupleKeyHash (zC prog w) k)))))) Q E s:=by
     rw [Kk hin]
     generalize hee:es[i]=ee at *
     obtain ⟨eh,y⟩:=ee
     simp only at e1
     subst e1
     dsimp only
     refine wpAny_bind (wpAny_holding (wpAny_eqBool_tuple hu e2 hk ?_))
     by_cases hne:k'=k
     ·rw [decide_eq_true hne]
      refine wpAny_bind (wpAny_setState_of ho hd g.fits ?_)
      dsimp only
      simp only [Bool.and_self,if_true]
      exact wpAny_pure (hq1 ⟨_,hei,fun z=>z b' k' rfl e2 hne⟩)
     rw [decide_eq_false hne]
     refine wpAny_bind (wpAny_setState_of ho hd g.fits ?_)
     dsimp only
     simp only [Bool.and_false,Bool.false_eq_true,if_false]
     rw [show t.sameMemory t.moves t.mask=some true by unfold SetTable.sameMemory;simp]
     dsimp only
     rw [if_pos rfl,h1]
     dsimp only
     rw [Kk hin,hee]
     dsimp only
     refine wpAny_bind ?_
     unfold isSame
     simp only [beq_self_eq_true,if_true]
     refine wpAny_pure ?_
     simp only [if_true]
     refine ih (m - (q+1)) (c+(q+1)) (some _) (by omega) (by omega) (by show Tab.adv t (q+1) _=_;rw [Tab.adv_add c,← hst]) (fun m' hm'=>?_) (by show t.slot (Tab.adv t (m - (q+1)) (Tab.adv t (q+1) _)).j=_;rw [← Tab.adv_add,show q+1+(m - (q+1))=m by omega];exact hs)
     by_cases z:m'<c+q
     ·exact hM2 m' z
     ·obtain rfl:m'=c+q:=by omega
      refine ⟨i,(eh,Value.ref b'),by rw [Tab.adv_add,← hst];exact h1,by rw [Kk hin,hee],fun b2 k2 z1 z2 z3=>hne ?_⟩
      cases z1
      rw [e2.inj z2];exact z3
    cases hl:t.led with
    | true=>
     simp only [Bool.not_true,Bool.false_eq_true,if_false]
     exact yC
    | false=>
     simp only [Bool.not_false,if_true]
     refine wpAny_bind (zeA hk (fun y hy=>?_) ?_)
     ·obtain ⟨e,he',rfl⟩:=Jp.mp hy
      have:e ∈ es.toList:=by
       rw [Array.mem_toList_iff] at he' ⊢
       exact (Array.mem_filter.mp he').1
      obtain ⟨b',k',e1,e2,_⟩:=hel e this
      exact ⟨b',k',e1,e2⟩
     ·simp only [Bool.false_eq_true,if_false]
      exact yC
  ·rename_i he
   exact absurd (Tab.probe_some g.dm ht hi hs) fun ⟨met,hm⟩=>he met hm
structure SetTd (prog:Program) (w:World) (h:Heap) (es:Array (Int × Value)) (t:SetTable) (L:List Value) (led:Bool):Prop where
 el:∀ e ∈ es.toList,ElM prog w h e
 perm:(es.toList.map (·.2)).Perm L
 good:Tab.GoodN t es.size led
 mask:t.mask=7∨t.mask=31∨t.mask=127∨t.mask=511
 nf:es.size * 5<t.mask * 3
 ways:Tab.Ways t es
noncomputable def SetD(prog:Program)(w:World)(h:Heap)(a:Addr)(L:List Value)(led:Bool):Prop:=∃ o es ep t,h.get? a=some o/\o.ExactSet/\o.data=.set es ep t/\SetTd prog w h es t L led
theorem SetTd.size{h:Heap}{es:Array (Int × Value)}{t:SetTable}{L:List Value}{led:Bool}(b:SetTd prog w h es t L led):es.size=L.length:=by
 have:=b.perm.length_eq
 rw [Jt,Jg] at this
 exact this
theorem zbD{a b:Addr}{L:List Value}{led:Bool}{k:List Key}{Q:Bool->Shared->Prop}(hu:A.units<cLine)(hS:SetD prog w s.heap a L led)(hl:L.length<200)(hk:IsTupleKey (zC prog w) s.heap k b)
  (h0:(∃ v ∈ L,¬ NoM prog w s.heap k v)->Q false s)
  (h:(∀ v ∈ L,NoM prog w s.heap k v)->∀ h' x,Heap.SameBut a s.heap h'->SetD prog w h' a (L++[.ref b]) led->Q x { s with heap:=h' }):wpAny (model prog w) A (setAddHashed a (.ref b) (tupleKeyHash (zC prog w) k)) Q E s:=by
 obtain ⟨o,es,ep,t,ho,hex,hd,B⟩:=hS
 have hf:=B.good.fits
 have hsz:=B.size
 have hnf:=B.nf
 have hEl:∀ {h':Heap},Heap.SameBut a s.heap h'->∀ e,ElM prog w s.heap e->ElM prog w h' e:=fun hs e ⟨b',k',e1,e2,e3⟩=>⟨b',k',e1,wu e2 fun o' ho'=>(hs.2 b' (ziy e2 ho hd)).trans ho',e3⟩
 have hkE:ElM prog w s.heap (tupleKeyHash (zC prog w) k,.ref b):=⟨b,k,rfl,hk,rfl⟩
 unfold setAddHashed setAddHashedIn
 refine wpAny_holding (wpAny_bind (wpAny_setState_of ho hd hf ?_))
 dsimp only
 rw [show byScan (.ref b) es=false from rfl]
 simp only [Bool.false_eq_true,if_false]
 obtain ⟨m,hm1,hm2⟩:=B.good.near (tupleKeyHash (zC prog w) k)
 have hturn:10 * SetTable.turns t.mask≤5260:=by unfold SetTable.turns;rcases B.mask with z | z | z | z<;>omega
 refine wpAny_bind ?_
 unfold setSearch
 refine zfS ho hd B.good B.mask B.el hk hu (fun ⟨e,he,hn⟩=>wpAny_pure (h0 ⟨_,B.perm.mem_iff.mp (Jp.mpr ⟨e,he,rfl⟩),hn⟩)) (fun j c hj1 hj2 hj3 hah=>?_) m 100000 0 none (by omega) hm1 rfl (fun _ z=>absurd z (Kh _)) hm2
 have hno:∀ v ∈ L,NoM prog w s.heap k v:=fun v hv b' k' e1 e2 e3=>by
  obtain ⟨e,he,ev⟩:=Jp.mp (B.perm.mem_iff.mpr hv)
  obtain ⟨i,hi⟩:=Kf.mp he
  have hlt:i<t.place.size:=by rw [B.good.size];rw [Js] at hi;exact (Ju.mp hi).1
  obtain ⟨b2,k2,z1,z2,z3⟩:=B.el e he
  rw [ev,e1] at z1
  cases z1
  have hh:e.1=tupleKeyHash (zC prog w) k:=by rw [z3,z2.inj e2,e3]
  obtain ⟨c0,w1,w2⟩:=B.ways (e,t.place[i]) (Kf.mpr ⟨i,by rw [List.getElem?_zip_eq_some];exact ⟨hi,by rw [Js];exact getElem?_pos t.place i hlt⟩⟩)
  simp only at w1 w2
  rw [hh] at w1 w2
  have hpi:t.place[i] ∈ t.place.toList:=by simp
  by_cases z:c0<c
  ·obtain ⟨i2,e4,s1,s2,s3⟩:=hah c0 z
   rw [w1] at s1
   have:i2=i:=by
    unfold SetTable.slot at s1
    dsimp only at s1
    split at s1
    ·rename_i hc
     cases s1
     have hc:=beq_iff_eq.mp hc
     obtain ⟨q1,q2⟩:=Ju.mp hc
     have nd:=List.pairwise_iff_getElem.mp (Tab.Good.rise (t:={ t with plain:=true }) B.good)
     by_cases lt:SetTable.below t.place t.place[i]<i
     ·have:=nd _ _ (by simpa using q1) (by simpa using hlt) lt
      simp only [Array.getElem_toList] at this
      omega
     by_cases gt:i<SetTable.below t.place t.place[i]
     ·have:=nd _ _ (by simpa using hlt) (by simpa using q1) gt
      simp only [Array.getElem_toList] at this
      omega
     omega
    ·split at s1<;>cases s1
   subst this
   rw [Js] at hi
   rw [hi] at s2
   cases s2
   exact s3 b' k' (ev.trans e1) e2 e3
  ·by_cases z':c<c0
   ·exact w2 c z' (by rw [hj3];exact hj1)
   ·obtain rfl:c0=c:=by omega
    rw [hj3] at w1
    rw [w1] at hj1
    exact Tab.slot_in (Tab.Good.rise (t:={ t with plain:=true }) B.good) hpi hj1
 have hway:Tab.Way t (tupleKeyHash (zC prog w) k) j:=⟨c,hj3,fun m hm z=>by
  obtain ⟨i,e,s1,_⟩:=hah m hm
  rw [s1] at z;cases z⟩
 have h:=h hno
 dsimp only
 refine wpAny_bind (wpAny_setState_of ho hd hf ?_)
 dsimp only
 obtain ⟨g0,m0⟩:=B.good.put (by rcases B.mask with z | z | z | z<;>omega) hj1 hj2
 have W0:=Tab.put_ways (x:=Value.ref b) B.good rfl (by rcases B.mask with z | z | z | z<;>omega) hj1 hj2 B.ways hway
 have key:∀ c:Bool,wpAny (model prog w) A (do
   let t1:=if c=true then (t.put j).1 else { (t.put j).1 with plain:=false }
   storeSet a (SetTable.insertAt es (t.put j).2 (tupleKeyHash (zC prog w) k,Value.ref b)) t1
   if (!false && t1.tooFull)=true then setRelay a (SetTable.grown (es.size+1))
   return true) Q E s:=fun c=>by
  obtain ⟨t1,ht1,g1,m1,W1⟩:∃ t1,t1=(if c=true then (t.put j).1 else { (t.put j).1 with plain:=false })/\Tab.GoodN t1 (es.size+1) led/\t1.mask=t.mask/\Tab.Ways t1 (SetTable.insertAt es (t.put j).2 (tupleKeyHash (zC prog w) k,Value.ref b)):=by
   cases c with
   | true=>exact ⟨_,rfl,g0,m0,W0⟩
   | false=>exact ⟨_,rfl,g0,m0,fun q hq=>(W0 q hq).mono rfl fun j hj=>hj⟩
  dsimp only
  rw [← ht1]
  have p1:=Qr es (t.put j).2 (tupleKeyHash (zC prog w) k,Value.ref b)
  generalize SetTable.insertAt es (t.put j).2 (tupleKeyHash (zC prog w) k,Value.ref b)=es1 at *
  rw [Kz] at p1
  have hz1:es1.size=es.size+1:=by
   have:=p1.length_eq
   rw [Jg,Jk,Jg,Km] at this
   exact this
  have hb1:es1.size<scanBound:=by show es1.size<4096;omega
  have el1:∀ e ∈ es1.toList,ElM prog w s.heap e:=fun e he=>by
   rcases List.mem_append.mp (p1.mem_iff.mp he) with z | z
   ·exact B.el e z
   ·rw [Jh.mp z];exact hkE
  have pm1:(es1.toList.map (·.2)).Perm (L++[.ref b]):=(p1.map _).trans (by rw [KA];exact B.perm.append_right _)
  refine wpAny_bind (wpAny_storeSet_of ho hd ?_ (fits_of_scanBound hb1))
  have ho1:=kr (es':=es1) (t':=t1) ho hd
  have hsb1:=KI s.heap a (Obj.putSet es1 t1)
  have hfill:t1.fill=es.size+1:=by unfold SetTable.fill;rw [g1.size,g1.dm];rfl
  have good1:Tab.GoodN t1 es1.size led:=by rw [hz1];exact g1
  by_cases hT:t1.tooFull=true
  ·have hT':(es.size+1) * 5 ≥ t.mask * 3:=by
    unfold SetTable.tooFull at hT
    rw [hfill,m1] at hT
    exact of_decide_eq_true hT
   obtain ⟨hF,hmk,hn5,hsl⟩:Tab.Full (SetTable.sizeAbove (SetTable.grown (es.size+1)) - 1)/\(SetTable.sizeAbove (SetTable.grown (es.size+1)) - 1=7∨SetTable.sizeAbove (SetTable.grown (es.size+1)) - 1=31∨SetTable.sizeAbove (SetTable.grown (es.size+1)) - 1=127∨SetTable.sizeAbove (SetTable.grown (es.size+1)) - 1=511)/\(es.size+1) * 5<(SetTable.sizeAbove (SetTable.grown (es.size+1)) - 1) * 3/\SetTable.sizeAbove (SetTable.grown (es.size+1))≤sizeLine:=by
    rcases B.mask with h7 | h7 | h7 | h7
    ·have:es.size+1=5:=by omega
     rw [this]
     have e:SetTable.sizeAbove (SetTable.grown 5)=32:=by decide
     rw [e,sizeLine_eq]
     exact ⟨Tab.full31,.inr (.inl rfl),by decide,by decide⟩
    ·have:es.size+1=19:=by omega
     rw [this]
     have e:SetTable.sizeAbove (SetTable.grown 19)=128:=by decide
     rw [e,sizeLine_eq]
     exact ⟨Tab.full127,.inr (.inr (.inl rfl)),by decide,by decide⟩
    ·have:es.size+1=77:=by omega
     rw [this]
     have e:SetTable.sizeAbove (SetTable.grown 77)=512:=by decide
     rw [e,sizeLine_eq]
     exact ⟨Tab.full511,.inr (.inr (.inr rfl)),by decide,by decide⟩
    ·omega
   rw [hT]
   simp only [Bool.not_false,Bool.and_self,if_true]
   unfold setRelay
   refine wpAny_bind ?_
   refine wpAny_bind (wpAny_setState_of ho1 rfl good1.fits ?_)
   dsimp only
   rw [if_neg (by omega)]
   obtain ⟨t2,order,h1,h2,h3,h4⟩:=Tab.laid_any (finger:=t1.finger) (moves:=t1.movedTo (SetTable.sizeAbove (SetTable.grown (es.size+1)) - 1)) (led:=t1.led) (plain:=t1.plain) (hashes:=es1.map (·.1)) hF (by rw [Array.size_map,hz1];omega)
   rw [Array.size_map] at h2 h3
   rw [g1.ledd] at h3
   have W2:=Tab.laid_ways (es:=es1) h1 h3 h4 h2
   have p2:(order.filterMap (es1[·]?)).toList.Perm es1.toList:=by
    have e:=(h2.filterMap (es1[·]?))
    rw [filterMap_getElem?_range] at e
    rw [Array.toList_filterMap];exact e
   have hz2:(order.filterMap (es1[·]?)).size=es1.size:=by
    have:=p2.length_eq
    rw [Jg,Jg] at this
    exact this
   have hrl:t1.relaid (es1.map (·.1)) (SetTable.grown (es.size+1))=some (t2,order):=h1
   rw [hrl]
   refine wpAny_bind ?_
   show wpAny _ _ (if ((order.filterMap (es1[·]?)).size != es1.size)=true then _ else _) _ _ _
   rw [if_neg (by rw [hz2];simp)]
   refine wpAny_pure ?_
   generalize order.filterMap (es1[·]?)=es2 at *
   refine wpAny_storeSet_of ho1 rfl ?_ (fits_of_scanBound (by rw [hz2];exact hb1))
   refine wpAny_pure ?_
   have hsb2:=hsb1.trans (KI (s.heap.update a (Obj.putSet es1 t1)) a (Obj.putSet es2 t2))
   refine h _ true hsb2 ⟨_,es2,_,t2,kr ho1 rfl,hex,rfl,fun e he=>hEl hsb2 e (el1 e (p2.mem_iff.mp he)),(p2.map _).trans pm1,by rw [hz2];exact h3,by rw [h4];exact hmk,by rw [hz2,hz1,h4];exact hn5,W2⟩
  ·have hT':¬ (es.size+1) * 5 ≥ t.mask * 3:=fun z=>hT (by
    unfold SetTable.tooFull
    rw [hfill,m1]
    exact decide_eq_true z)
   rw [Bool.eq_false_iff.mpr hT]
   simp only [Bool.not_false,Bool.and_false,Bool.false_eq_true,if_false]
   refine wpAny_pure ?_
   exact h _ true hsb1 ⟨_,es1,_,t1,ho1,hex,rfl,fun e he=>hEl hsb1 e (el1 e he),pm1,good1,by rw [m1];exact B.mask,by rw [hz1,m1];omega,W1⟩
 cases hpl:(t.put j).1.plain with
 | true=>
  rw [if_pos rfl]
  exact wpAny_bind (kd hk fun c=>key c)
 | false=>
  rw [if_neg Jj]
  exact wpAny_bind (wpAny_pure (key true))
theorem SetD.keep{h h':Heap}{a:Addr}{L:List Value}{led:Bool}(x:SetD prog w h a L led)(k:∀ o,h.get? a=some o->h'.get? a=some o)(kk:∀ b,Value.ref b ∈ L->∀ o,h.get? b=some o->h'.get? b=some o):SetD prog w h' a L led:=by
 obtain ⟨o,es,ep,t,ho,hx,hd,B⟩:=x
 refine ⟨o,es,ep,t,k o ho,hx,hd,fun e he=>?_,B.perm,B.good,B.mask,B.nf,B.ways⟩
 obtain ⟨b,c,e1,e2,e3⟩:=B.el e he
 exact ⟨b,c,e1,wu e2 (kk b (by rw [← e1];exact B.perm.mem_iff.mp (Jp.mpr ⟨e,he,rfl⟩))),e3⟩
theorem SetD.fresh{h:Heap}{a:Addr}{led:Bool}(ho:h.get? a=some { cls:=.type "set",dict:=none,data:=.set #[] 0 (.fresh 0 0 led) }):SetD prog w h a [] led:=
 ⟨_,#[],0,_,ho,⟨rfl,rfl,rfl⟩,rfl,fun e he=>by simp at he,.refl _,⟨Tab.full7,rfl,Nat.zero_le _,rfl,List.Pairwise.nil,fun j hj=>by simp [SetTable.fresh] at hj,rfl,rfl⟩,.inl rfl,by show 0 * 5<7 * 3;decide,fun q hq=>by simp at hq⟩
end
noncomputable def foL(key:Nat->List Key):Nat->List Nat
 | 0=>[]
 | n+1=>if (foL key n).any (fun j=>decide (key j=key n))=true then foL key n else foL key n++[n]
theorem zbk(key:Nat->List Key)(n:Nat):foL key (n+1)=if (foL key n).any (fun j=>decide (key j=key n))=true then foL key n else foL key n++[n]:=rfl
theorem qy{key:Nat->List Key}{n:Nat}(h:∀ j ∈ foL key n,key j≠key n):foL key (n+1)=foL key n++[n]:=by
 rw [zbk,if_neg]
 intro z
 obtain ⟨j,hj,e⟩:=Qk.mp z
 exact h j hj (of_decide_eq_true e)
theorem we{key:Nat->List Key}{j:Nat}:∀ {n:Nat},j ∈ foL key n->j<n
 | 0,h=>by cases h
 | n+1,h=>by
  unfold foL at h
  split at h
  ·exact Ky (we h)
  ·rcases List.mem_append.mp h with h | h
   ·exact Ky (we h)
   ·rw [Jh.mp h];exact Qj _
theorem jJ(key:Nat->List Key):∀ n,(foL key n).length≤n
 | 0=>Jm _
 | n+1=>by
  unfold foL
  split
  ·exact Nat.le_succ_of_le (jJ key n)
  ·rw [Jk];exact Nat.succ_le_succ (jJ key n)
theorem zcs(key:Nat->List Key):∀ n,(foL key n).Pairwise fun i j=>key i≠key j
 | 0=>.nil
 | n+1=>by
  unfold foL
  split
  ·exact zcs key n
  ·rename_i h
   refine Jz.mpr ⟨zcs key n,List.pairwise_singleton _ _,fun i hi j hj e=>h ?_⟩
   rw [Jh.mp hj] at e
   exact Qk.mpr ⟨i,hi,decide_eq_true e⟩
theorem zdA{key:Nat->List Key}{i:Nat}:∀ {n:Nat},i<n->∃ j ∈ foL key n,key j=key i
 | 0,h=>absurd h (Kh _)
 | n+1,h=>by
  unfold foL
  by_cases e:i=n
  ·subst e
   split
   ·rename_i z
    obtain ⟨j,hj,e⟩:=Qk.mp z
    exact ⟨j,hj,of_decide_eq_true e⟩
   ·exact ⟨i,Jn _ (Jh.mpr rfl),rfl⟩
  ·obtain ⟨j,hj,e⟩:=zdA (n:=n) (i:=i) (by omega)
   split
   ·exact ⟨j,hj,e⟩
   ·exact ⟨j,Jr _ hj,e⟩
structure TupsD (prog:Program) (w:World) (h0:Heap) (n:Nat) (ad:Nat->Addr) (key:Nat->List Key) (wr:List Addr):Prop where
 at':∀ i,i<n->IsTupleKey (zC prog w) h0 (key i) (ad i)
 out:∀ i,i<n->ad i ∉ wr
noncomputable def tlD(ad:Nat->Addr)(key:Nat->List Key)(n:Nat):List Value:=(foL key n).map fun j=>.ref (ad j)
theorem zdp{ad:Nat->Addr}{key:Nat->List Key}{n:Nat}{b:Addr}(h:Value.ref b ∈ tlD ad key n):∃ j ∈ foL key n,j<n/\b=ad j:=by
 obtain ⟨j,hj,e⟩:=Jp.mp h
 exact ⟨j,hj,we hj,by injection e with e;exact e.symm⟩
section
variable {prog:Program} {w:World} {A:Around} {E:Value->Shared->Prop} {s:Shared}
theorem zas{a b:Addr}{L:List Value}{led:Bool}{k:List Key}{Q:Bool->Shared->Prop}(hu:A.units<cLine)(hS:SetD prog w s.heap a L led)(hl:L.length<200)(hk:IsTupleKey (zC prog w) s.heap k b)
  (h:∀ h' x L',(∀ b,b≠a->h'.get? b=s.heap.get? b)->SetD prog w h' a L' led->(L'=L/\∃ v ∈ L,¬ NoM prog w s.heap k v)∨(L'=L++[.ref b]/\∀ v ∈ L,NoM prog w s.heap k v)->Q x { s with heap:=h' }):wpAny (model prog w) A (setAddHashed a (.ref b) (tupleKeyHash (zC prog w) k)) Q E s:=
 zbD hu hS hl hk (fun z=>h s.heap false L (fun _ _=>rfl) hS (.inl ⟨rfl,z⟩)) fun hn h' x hsb hS'=>h h' x _ hsb.2 hS' (.inr ⟨rfl,hn⟩)
theorem qP{R:Result->Shared->Prop}{P:Nat->Value->Prop}{St:Nat->Shared->Prop}(W:WalksS prog w A.in1 I fp wr G n P St)(S:Addr)(hSf:S ∉ fp){h0:Heap}{ad:Nat->Addr}(hval:∀ i v,P i v->v=.ref (ad i))(T:TupsD prog w h0 n ad key (S::wr))(hn:n<200)(hu:A.units+8<cLine):
  ∀ (k i:Nat) (s:Shared),n - i=k->i≤n->St i s->(∀ b o,b ∉ S::wr->h0.get? b=some o->s.heap.get? b=some o)->SetD prog w s.heap S (tlD ad key i) led->
   (∀ s',Moved (S::wr) G s s'->SetD prog w s'.heap S (tlD ad key n) led->R (.ok (.ret .none)) s')->
   codeAny (model prog w) A (.builtin "set.update.loop" ⟨[.ref S,.ref I],[]⟩) R s:=by
 have hSw:S ∉ wr:=fun h=>hSf (W.sub _ h)
 have hsub:∀ b ∈ wr,b ∈ S::wr:=fun b hb=>Jf _ hb
 have keep:∀ {i:Nat} {s s':Shared},i≤n->Moved wr G s s'->SetD prog w s.heap S (tlD ad key i) led->SetD prog w s'.heap S (tlD ad key i) led:=fun hi hm hS=>hS.keep (fun o ho=>hm.heap S o hSw ho) fun b hb o ho=>by
  obtain ⟨j,_,hj,rfl⟩:=zdp hb
  exact hm.heap _ o (fun z=>T.out j (by omega) (hsub _ z)) ho
 intro k
 induction k with
 | zero=>
  intro i s hk hi hst _ hS hR
  have hin:i=n:=by omega
  subst hin
  refine codeAny_builtin F.entry_set_update_loop ?_
  rw [Qh F.plain_set_update_loop _]
  show wpAny _ A.in1 (pyNext (.ref I) >>= _) _ _ s
  refine wpAny_bind (W.done s _ _ hst fun s' hm=>?_)
  show wpAny _ A.in1 (ret Value.none) _ _ s'
  exact wpAny_pure (hR s' (hm.mono hsub) (keep hi hm hS))
 | succ k ih=>
  intro i s hk hi hst h0s hS hR
  have hlt:i<n:=by omega
  refine codeAny_builtin F.entry_set_update_loop ?_
  rw [Qh F.plain_set_update_loop _]
  show wpAny _ A.in1 (pyNext (.ref I) >>= _) _ _ s
  refine wpAny_bind (W.item i s _ _ hlt hst fun v s' hP hst' hm=>?_)
  have hv:=hval i v hP
  subst hv
  have hS':=keep hi hm hS
  have h0s':∀ b o,b ∉ S::wr->h0.get? b=some o->s'.heap.get? b=some o:=fun b o hb ho=>hm.heap b o (fun z=>hb (hsub _ z)) (h0s b o hb ho)
  have hkey:∀ j,j<n->IsTupleKey (zC prog w) s'.heap (key j) (ad j):=fun j hj=>wu (T.at' j hj) fun o ho=>h0s' _ o (T.out j hj) ho
  show wpAny _ A.in1 (holding [Value.ref (ad i)] (setAdd S (.ref (ad i))) >>= _) _ _ s'
  refine wpAny_bind (wpAny_holding ?_)
  unfold setAdd
  refine wpAny_holding ?_
  have hu1:A.in1.units<cLine:=by show A.units+1<cLine;omega
  refine wpAny_bind (wpAny_pyHash_tuple hu1 (hkey i hlt) ?_)
  refine zas (s:={ s' with toks:=s'.toks+((key i).length+1) }) hu1 hS' (by rw [tlD,List.length_map];exact Nat.lt_of_le_of_lt (jJ key i) (by omega)) (hkey i hlt) fun h' _ L' hsb hS2 hL'=>?_
  have eL:L'=tlD ad key (i+1):=by
   rcases hL' with ⟨rfl,v,hv,hn⟩ | ⟨rfl,hn⟩
   ·unfold tlD
    rw [zbk,if_pos]
    refine Qk.mpr (JB fun z=>hn fun b' k' e1 e2 e3=>z ?_)
    rw [e1] at hv
    obtain ⟨j,hj,hj2,rfl⟩:=zdp hv
    exact ⟨j,hj,decide_eq_true (by rw [← e3,e2.inj (hkey j (by omega))])⟩
   ·unfold tlD
    rw [qy,KA]
    ·rfl
    intro j hj e
    have hji:=we hj
    exact hn (.ref (ad j)) (Jp.mpr ⟨j,hj,rfl⟩) (ad j) (key j) rfl (hkey j (by omega)) e
  subst eL
  refine wpAny_pure ⟨plainId_quiet F.plain_set_update_loop _,ih (i+1) _ (by omega) hlt (W.frame _ s' _ _ hst' (QD _ _) fun b hb o e=>?_) (fun b o hb ho=>?_) hS2 fun s'' hm'' hS''=>?_⟩
  ·rw [hsb b (fun h:b=S=>hSf (by rw [← h];exact hb))];exact e
  ·rw [hsb b (fun h:b=S=>hb (by rw [h];exact Jc))];exact h0s' b o hb ho
  ·refine hR s'' (Moved.trans W.gtrans ((hm.mono hsub).then_heap (QD _ _) fun b o hb e=>?_) hm'') hS''
   rw [hsb b (fun h:b=S=>hb (by rw [h];exact Jc))];exact e
end
noncomputable def wm(ks:List (List Key)):List (List Key):=(foL (ks.getD · []) ks.length).map (ks.getD · [])
theorem zhf{ks:List (List Key)}{i:Nat}(h:i<ks.length):ks.getD i [] ∈ ks:=by
 rw [JD,Jd h];exact JP _
theorem dedM_mem{ks:List (List Key)}{k:List Key}:k ∈ wm ks ↔ k ∈ ks:=by
 constructor
 ·intro h
  obtain ⟨j,hj,rfl⟩:=Jp.mp h
  exact zhf (we hj)
 ·intro h
  obtain ⟨i,hi⟩:=Kf.mp h
  obtain ⟨j,hj,e⟩:=zdA (key:=(ks.getD · [])) (Jv.mp hi).1
  refine Jp.mpr ⟨j,hj,?_⟩
  have e:ks.getD j []=ks.getD i []:=e
  show ks.getD j []=k
  rw [e,JD,hi];rfl
theorem zcu(ks:List (List Key)):(wm ks).Nodup:=by
 unfold wm
 rw [KO,JW]
 exact zcs _ _
theorem qd{ks:List (List Key)}{o:List Nat}(h:okM ks=true)(q1:o.Perm (foL (ks.getD · []) ks.length))(q2:(o.map (ks.getD · [])).Pairwise fun x y=>¬ enc y<enc x):(o.map fun i=>(ks.map tPV).getD i PV.non)=(vG (wm ks)).map tPV:=by
 have e2:vG (wm ks)=o.map (ks.getD · []):=zaF (b:=shp (ks.headD [])) (fun k hk=>zje h k (dedM_mem.mp hk)) (q1.map _) q2
 rw [e2,KL]
 refine QH fun i hi=>?_
 have hlt:=we (q1.mem_iff.mp hi)
 simp [List.getD,hlt]
section
variable {prog:Program} {w:World} {A:Around} {E:Value->Shared->Prop} {s:Shared}
theorem zfg{l:Addr}{key:Nat->List Key}{items:Array Value}{ad:Nat->Addr}{Q:Value->Shared->Prop}
  (hh:A.handled=none)(hu:A.units+16<cLine)(hl:s.heap.IsList l items)(hv:∀ i v,items[i]?=some v->v=Value.ref (ad i))(T:TupsD prog w s.heap items.size ad key [])(hb:items.size<200)
  (h:∀ (h':Heap) (tk:Nat),SetD prog w h' s.heap.objs.size (tlD ad key items.size) (!w.params.followText "set-order")->
   (∀ b o,b<s.heap.objs.size->s.heap.get? b=some o->h'.get? b=some o)->Q (.ref s.heap.objs.size) { s with heap:=h',toks:=tk }):
  wpAny (model prog w) A (call (.type "set") [.ref l]) Q E s:=by
 generalize hled:(!w.params.followText "set-order")=led at h
 let o0:Obj:={ cls:=.type "set",dict:=none,data:=.set #[] 0 (.fresh 0 0 led) }
 obtain ⟨c,tl0,hmro⟩:=PySem.F.called_set.mro
 have hmade:=PySem.F.called_set.made
 have hsub:=PySem.F.called_set.sub
 refine wpAny_call (codeAny_of_tree ?_)
 show wpAny _ _ (callAny (.type "set") _) _ _ _
 refine wpAny_pure ⟨Code.quiet_builtin _ (by decide +kernel),codeAny_builtin PySem.F.entry_type_call ?_⟩
 rw [Around.under_plain (weight_type_call_type "set" [.ref l] []) rfl]
 have h1:=PySem.F.called_set.notType
 have h2:=PySem.F.called_set.canCreate
 have hct:=PySem.F.typeCall_set_1 (.ref l)
 repeat (any_goals (first | assumption | wp_step))
 refine codeAny_mono (zgE (.ref l) (E:=E) (Q₁:=fun obj s₁=>obj=.ref s.heap.objs.size/\s₁={ s with heap:=s.heap.push o0 }) ⟨rfl,by rw [hled]⟩) fun r s₁ hr=>?_
 cases r with
 | error e=>exact hr
 | ok fl=>
  cases fl with
  | ret obj=>
   obtain ⟨rfl,rfl⟩:=hr
   have hS:(s.heap.push o0).get? s.heap.objs.size=some o0:=Jl _ rfl
   have hT:Shared.TypeIs { s with heap:=s.heap.push o0 } (.ref s.heap.objs.size) "set":=⟨_,hS,rfl⟩
   have hli:=PySem.F.called_set.init.lookup
   have hbi:=PySem.F.called_set.init.bind (.ref s.heap.objs.size)
   repeat (any_goals (first | assumption | wp_step))
   refine codeAny_mono (codeAny_call_builtin (R:=wants (fun r s₂=>r=.none/\∃ h' tk,s₂={ s with heap:=h',toks:=tk }/\
     SetD prog w h' s.heap.objs.size (tlD ad key items.size) led/\(∀ b o,b<s.heap.objs.size->s.heap.get? b=some o->h'.get? b=some o)) E) PySem.F.called_set.init.plain PySem.F.entry_set_init (check_set_init_1 hT ?_)) fun r₂ s₂ hr₂=>?_
   ·obtain ⟨ol,hol,hcl,nl,hdl⟩:=hl
    obtain ⟨ocls,odict,odata,oslots⟩:=ol
    simp only at hcl hdl
    subst hcl;subst hdl
    have hol':(s.heap.push o0).get? l=some { cls:=.type "list",dict:=odict,data:=.seq items nl,slots:=oslots }:=Jb _ hol
    have hsls:=PySem.F.sub_list_set
    have hslf:=PySem.F.sub_list_frozenset
    have hne:(Value.type "list" == Value.type "dict")=false:=by decide
    have hl1:(s.heap.push o0).IsList l items:=⟨_,hol',rfl,nl,rfl⟩
    unfold Builtin.«set.__init__» noKeywords Builtin.Frozenset.updateFrom
    generalize hPI:pyIter=PI
    wp_walk
    subst hPI
    refine wpAny_pyIter_list hl1 ?_
    refine wpAny_bind (wpAny_runValue ?_)
    have hlS:l<s.heap.objs.size:=Ji hol
    have hh3:A.in1.in1.in1.handled=none:=by simp [hh]
    have hneI:l≠(s.heap.push o0).objs.size:=by
     rw [KF];exact Jx (Ky hlS)
    have hSf:s.heap.objs.size ∉ [(s.heap.push o0).objs.size,l]:=by
     rw [Heap.size_push];simp only [List.mem_cons,List.mem_singleton,List.not_mem_nil,or_false,not_or]
     exact ⟨Jx (Qj _),Ku hlS⟩
    have hu2:A.in1.in1.units+8<cLine:=by show A.units+1+1+8<cLine;omega
    have T2:TupsD prog w s.heap items.size ad key (s.heap.objs.size::[(s.heap.push o0).objs.size]):=⟨T.at',fun i hi z=>by
     obtain ⟨o',_,_,ho',_⟩:=T.at' i hi
     have hlt:=Ji ho'
     simp only [List.mem_cons,List.not_mem_nil,or_false] at z
     rcases z with z | z
     ·exact Jx hlt z
     ·rw [KF] at z
      exact Jx (Ky hlt) z⟩
    refine qP ((Walks.list hh3 _ l hneI items).toS) s.heap.objs.size hSf hv T2 hb hu2 (items.size - 0) 0 _ (by omega) (Kq _)
     ⟨⟨_,Jl _ rfl,rfl,rfl⟩,(hl1.push _)⟩ (fun b o _ e=>Jb _ (Jb _ e)) (SetD.fresh (Jb _ hS)) ?hR
    case hR=>
     intro s' hm hS'
     obtain ⟨h',g',d',tk',os'⟩:=s'
     have eg:g'=s.gens:=hm.gens
     have ed:d'=s.drawn:=hm.drawn
     have eo:os'=s.os:=hm.os
     subst eg;subst ed;subst eo
     show wpAny _ _ _ _ _ _
     refine wpAny_pure ?_
     show wpAny _ _ (ret Value.none) _ _ _
     refine wpAny_pure ⟨rfl,h',tk',rfl,hS',fun b o hb e=>?_⟩
     have hb1:b≠s.heap.objs.size:=Jx hb
     have hb2:b≠(s.heap.push o0).objs.size:=by
      rw [KF];exact Jx (Ky hb)
     exact hm.heap b o (by simp only [List.mem_cons,List.mem_singleton,List.not_mem_nil,or_false,not_or];exact ⟨hb1,hb2⟩) (Heap.get?_push_of_some _ (Heap.get?_push_of_some _ e))
   ·cases r₂ with
    | error e=>exact hr₂
    | ok fl₂=>
     cases fl₂ with
     | ret r=>
      obtain ⟨rfl,h',tk,rfl,hS',hk'⟩:=hr₂
      repeat (any_goals (first | assumption | wp_step))
      exact h _ _ hS' hk'
     | _=>exact hr₂.elim
  | _=>exact hr.elim
end
end F
namespace L2
open PySem PySem.Spec PySem.W PyProof.Rows F
noncomputable def zee(K:PySem.W.Frag)(ta:TA):TE:=fun σ H Q=>ta σ H fun vs H1=>∃ p,∃ (xs:List V) (ks:List (List Key)),vs=[.ref p]/\SqL K H1 p xs/\TuL K H1 xs ks/\okM ks=true/\2≤(foL (ks.getD · []) ks.length).length/\ks.length<200/\
 ∀ (o:List Nat) l,o.Perm (foL (ks.getD · []) ks.length)->(o.map (ks.getD · [])).Pairwise (fun x y=>¬ enc y<enc x)->H1 l=none->Q (.ref l) (upd H1 l (.lst (o.map fun i=>xs.getD i V.non)))
theorem zaR{X:Cx}(hc:X.calm=true)(hu:X.A.units+64<cLine)(hg:Gl X "sorted")(hm:X.mg "sorted"=none)(hg2:Gl X "set")(hm2:X.mg "set"=none)(ha:PA X [e] ta)
  (he:starEach [.Call (.Name "set" p2) [e] [] pos2] X.env=[(false,eval (.Call (.Name "set" p2) [e] [] pos2) X.env)]:=by rfl)(he2:starEach [e] X.env=[(false,eval e X.env)]:=by rfl):
  PE X (.Call (.Name "sorted" p1) [.Call (.Name "set" p2) [e] [] pos2] [] pos) (zee X.K ta):=by
 intro pins s σ H Q I h
 refine wpAny_Call_Name_kw (x5 I hg hm boot_sorted ?_)
 refine PyProof.Rows.callWith_builtin1 ?_ he rfl
 rw [he]
 show wpAny _ _ (spliced ((false,eval (.Call (.Name "set" p2) [e] [] pos2) X.env)::[])) _ _ s
 refine QM ?_
 refine wpAny_Call_Name_kw (x5 I hg2 hm2 zhH ?_)
 refine Kr (thn (ha pos2 pins s σ H _ I h) fun us s1 ⟨vs,H1,I1,r1,p,xs,ks,ev,hx,hTu,hok,h2k,hl,q⟩=>?_) he2 rfl
 subst ev
 cases r1 with
 | cons r rr=>
  cases rr
  cases r
  obtain ⟨its,v1,c1,_⟩:=I1.list hx
  have hlk:=hTu.1
  have hlen:its.length=ks.length:=by rw [← v1.length,hlk]
  have hat0:=zmL I1 v1 hTu
  have hat:∀ i,i<ks.length->its.getD i Value.none=.ref (adV xs i)/\PySem.IsTupleKey (zC X.prog X.w) s1.heap (ks.getD i []) (adV xs i):=fun i hi=>by
   obtain ⟨l,a1,a2,a3⟩:=hat0 i hi
   have ea:adV xs i=l:=by unfold adV;rw [a2]
   rw [ea];exact ⟨a1,a3⟩
  have esz:its.toArray.size=ks.length:=by rw [Jy,hlen]
  have T:TupsD X.prog X.w s1.heap its.toArray.size (adV xs) (fun i=>ks.getD i []) []:=⟨fun i hi=>(hat i (by omega)).2,fun i hi z=>(nomatch z)⟩
  have hFl:=jJ (ks.getD · []) ks.length
  have hFm:∀ j ∈ foL (ks.getD · []) ks.length,j<ks.length:=fun j hj=>we hj
  refine zfg (I1.ok.hd hc) (by omega) c1.isList (fun i v hv=>?_) T (by rw [esz];exact hl) fun h' tk hS kk=>?_
  ·have hi:i<its.length:=by
    obtain ⟨z,_⟩:=Ju.mp hv
    simpa using z
   have:=(hat i (by omega)).1
   rw [← this,JD,← List.getElem?_toArray,hv];rfl
  rw [esz] at hS
  refine Calls.spliced_nil ?_
  obtain ⟨o,es,ep,tb,ho,hex,hd,B⟩:=hS
  have I2:Inv X pins σ H1 { s1 with heap:=h',toks:=tk }:=I1.kept (t':=tk) fun b u q=>kk b u (Heap.lt_size q) q
  have hsz:es.size<200:=by rw [B.size,tlD,Jt];exact QN hFl hl
  refine Calls.call_function_entry kind_sorted plain_sorted entry_sorted (args_sorted1 _) ?_
  unfold Builtin.«sorted»
  refine wpAny_bind (m:=checkCount "sorted" 1 1 _) (wpAny_pure ?_)
  have h2e:2≤es.size:=by rw [B.size,tlD,Jt];exact h2k
  refine wpAny_bind (zfe (A:=X.A.in1) (s:={ s1 with heap:=h',toks:=tk }) (I.ok.hd hc) rfl ⟨o,ho,hex,hd⟩ B.good h2e (by omega) fun h2 tk2 d2 acc hk hpa=>?_)
  have hpm:acc.toList.Perm ((foL (ks.getD · []) ks.length).map fun j=>Value.ref (adV xs j)):=hpa.trans B.perm
  obtain ⟨c,hcp,hce⟩:=zjS (fun j=>Value.ref (adV xs j)) hpm _ rfl
  obtain ⟨n',hn'⟩:∃ n',n'=(foL (ks.getD · []) ks.length).length:=⟨_,rfl⟩
  rw [← hn'] at hFl
  have hcl:c.length=n':=by rw [hcp.length_eq,hn']
  have hal:acc.toList.length=n':=by rw [hce,Jt,hcl]
  have hcj:∀ i,i<n'->c.getD i 0<ks.length:=fun i hi=>by
   have:c.getD i 0 ∈ c:=by rw [JD,Jd (by omega)];exact JP _
   exact hFm _ (hcp.mem_iff.mp this)
  have hgk:∀ i,i<n'->(c.map (ks.getD · [])).getD i []=ks.getD (c.getD i 0) []:=fun i hi=>by simp [List.getD,show i<c.length by omega]
  have hga:∀ i,i<n'->acc.toList.getD i Value.none=.ref (adV xs (c.getD i 0)):=fun i hi=>by rw [hce];simp [List.getD,show i<c.length by omega]
  refine wpAny_bind (wpAny_newList ?_ (by rw [sizeLine_eq];omega))
  have hoL:(h2.push (seqObj "list" acc.toList.toArray 0)).get? h2.objs.size=some (seqObj "list" acc.toList.toArray 0):=Jl _ rfl
  have hP:TupsX X.prog X.w (h2.push (seqObj "list" acc.toList.toArray 0)) h2.objs.size acc.toList (c.map (ks.getD · [])):=by
   refine ⟨by rw [Jt,hal,hcl],fun i hi=>?_,fun i j hi hj=>?_,fun i hi=>?_⟩
   ·rw [hal] at hi
    have hK:=(hat _ (hcj i hi)).2
    obtain ⟨o,items,m,ho,hr⟩:=hK
    have hlt:=Ji ho
    have h2o:h2.get? (adV xs (c.getD i 0))=some o:=hk _ _ (kk _ _ hlt ho)
    exact ⟨_,hga i hi,Jx (Ji h2o),by rw [hgk i hi];exact ⟨o,items,m,Jb _ h2o,hr⟩⟩
   ·rw [Jt,hcl] at hi hj
    rw [hgk i hi,hgk j hj,(zca hok (hcj i hi)).2,(zca hok (hcj j hj)).2]
   ·rw [Jt,hcl] at hi
    rw [hgk i hi];exact (zca hok (hcj i hi)).1
  refine wpAny_bind (wpAny_holding (wpAny_call_entry PyProof.Rows.slot_list_sort (s:={ s1 with heap:=h2.push (seqObj "list" acc.toList.toArray 0),toks:=tk2,drawn:=d2 }) ⟨_,hoL,rfl⟩ PyProof.Rows.entry_list_sort (zek hoL hP (by omega) fun p hp hs=>⟨_,rfl,?_⟩) (PyProof.Rows.args_list_sort _)))
  refine wpAny_pure ⟨_,rfl,?_⟩
  rw [hal] at hp
  have hpl:∀ i ∈ p,i<n':=fun i hi=>Jw.mp (hp.mem_iff.mp hi)
  have hqp:(p.map (c.getD · 0)).Perm (foL (ks.getD · []) ks.length):=by
   refine (hp.map _).trans ?_
   have h:=zaN 0 c
   rw [hcl] at h
   rw [h];exact hcp
  have hqs:((p.map (c.getD · 0)).map (ks.getD · [])).Pairwise (fun x y=>¬ enc y<enc x):=by
   rw [KL]
   have:p.map ((ks.getD · []) ∘ (c.getD · 0))=p.map ((c.map (ks.getD · [])).getD · []):=QH fun i hi=>(hgk i (hpl i hi)).symm
   rw [this];exact hs
  generalize hqq:p.map (c.getD · 0)=o2 at hqp hqs
  have hout:(p.map fun i=>acc.toList.getD i Value.none)=o2.map fun j=>its.getD j Value.none:=by
   rw [← hqq,KL]
   exact QH fun i hi=>by rw [hga i (hpl i hi)];exact ((hat _ (hcj i (hpl i hi))).1).symm
  rw [hout]
  have ho2:∀ i ∈ o2,i<xs.length:=fun i hi=>by rw [hlk];exact hFm _ (hqp.mem_iff.mp hi)
  obtain ⟨e',he'⟩:∃ e',(sortedHeap (h2.push (seqObj "list" acc.toList.toArray 0)) h2.objs.size acc.toList (o2.map fun j=>its.getD j Value.none).toArray).get? h2.objs.size=some (seqObj "list" (o2.map fun j=>its.getD j Value.none).toArray e'):=sortedHeap_at hoL
  have I3:Inv X pins σ H1 { s1 with heap:=h2,toks:=tk2,drawn:=d2 }:=(I2.kept (t':=tk2) hk).drew
  have hn:=I3.hok.fresh (a:=h2.objs.size) (Jm _)
  refine ⟨.ref h2.objs.size,_,I3.laid (h':=sortedHeap (h2.push (seqObj "list" acc.toList.toArray 0)) h2.objs.size acc.toList (o2.map fun j=>its.getD j Value.none).toArray) (o:=.lst (o2.map fun i=>xs.getD i V.non)) (t':=tk2) (fun b u hb=>?_) (Nat.le_refl _) ⟨by rw [List.length_map,hqp.length_eq,sizeLine_eq];omega,_,e',kg v1 o2 ho2,by simpa [seqObj] using he'⟩,rfl,q o2 _ hqp hqs hn⟩
  have hlt:=Ji hb
  rw [sortedHeap_old (Jx hlt) (by rw [size_push'];exact Ky hlt)]
  exact Jb _ hb
end L2
namespace F
open PySem PySem.Spec PyProof.Rows L2
noncomputable def yv(f:FA):FE:=fun env=>(f env).bind fun ps=>match ps with | [.lst qs]=>(zbK qs).bind fun ks=>if okM ks=true/\2≤(wm ks).length/\ks.length<200 then some (.lst ((vG (wm ks)).map tPV)) else none | _=>none
theorem zaw{X:Cx}(hc:X.calm=true)(hu:X.A.units+64<cLine)(hg:Gl X "sorted")(hm:X.mg "sorted"=none)(hg2:Gl X "set")(hm2:X.mg "set"=none)(ha:VA X κ G c [e] fs)
  (he:starEach [.Call (.Name "set" p2) [e] [] pos2] X.env=[(false,eval (.Call (.Name "set" p2) [e] [] pos2) X.env)]:=by rfl)(he2:starEach [e] X.env=[(false,eval e X.env)]:=by rfl):
  VE X κ G (.mv []) (.Call (.Name "sorted" p1) [.Call (.Name "set" p2) [e] [] pos2] [] pos) (yv fs):=(zaR hc hu hg hm hg2 hm2 ha.1 he he2).imp fun σ H Q hq=>by
 refine hq.elim fun own env z I hf k=>?_
 unfold yv at hf
 replace hf:=Ja.mp hf;obtain ⟨ps,hp,hf⟩:=hf
 split at hf
 case h_2=>cases hf
 rename_i qs
 replace hf:=Ja.mp hf;obtain ⟨ks,hk,hf⟩:=hf
 split at hf
 case isFalse=>cases hf
 rename_i hh
 cases hf
 have:=zcR hk
 subst this
 refine (.in I hp fun vs H1 A s1 r1 _=>?_)
 obtain ⟨v,rfl,rv⟩:=yW r1
 obtain ⟨a,xs,B,rfl,g2,_,g4⟩:=rv.L
 obtain ⟨rfl,hQ⟩:=zcQ g4
 refine ⟨a,xs,ks,rfl,SqL.of g2,hQ,hh.1,by have:=hh.2.1;unfold wm at this;rwa [List.length_map] at this,hh.2.2,fun o l q1 q2 hn=>?_⟩
 have hlt:∀ i ∈ o,i<ks.length:=fun i hi=>we (q1.mem_iff.mp hi)
 obtain ⟨C,rC,hC⟩:=zaK g4 o fun i hi=>by rw [Jt];exact hlt i hi
 have hC0:C=[]:=List.eq_nil_iff_forall_not_mem.mpr fun x hx=>nomatch hC x hx
 subst hC0
 rw [qd hh.1 q1 q2] at rC
 have hl0:H l=none:=by
  cases hq:H l with
  | none=>rfl
  | some o=>rw [s1 _ _ hq] at hn;cases hn
 have s2:Same H1 (upd H1 l (.lst (o.map fun i=>xs.getD i V.non))):=zZ (Same.refl _) hn
 exact k _ _ [l] (s1.trans s2) (.mkL zL (Rps.same s2 _ rC)) ⟨by simp,by simpa using hl0⟩
end F
namespace F
open PySem L2
noncomputable def jx:List PV->Option (List Key)
 | []=>some []
 | p::r=>(qB p).bind fun k=>(jx r).map fun ks=>k::ks
theorem jw{K:PySem.W.Frag}{H:Hp}:∀ {ps:List PV} {vs:List V} {A:List Addr} {k:List Key},jx ps=some k->Rps K H ps vs A->vs=k.map kV
 | [],_,_,_,h,r=>by cases h;rw [r.inv0.1];rfl
 | p::ps,_,_,_,h,r=>by
  obtain ⟨v,r',A1,A2,rfl,h2,h3,h4⟩:=r.inv
  unfold jx at h
  obtain ⟨k1,e1,h⟩:=Ja.mp h
  obtain ⟨k2,e2,rfl⟩:=JA.mp h
  rw [zdt e1 h3,jw e2 h4];rfl
noncomputable def zeI(ks:List (List Key))(k:List Key):Bool:=ks.any fun x=>decide (x=k)
noncomputable def kG(ks:List (List Key))(vs:List PV)(k:List Key):Option PV:=((ks.zip vs).find? fun kv=>decide (kv.1=k)).map (·.2)
noncomputable def yJ{α:Type}(ks:List (List Key))(vs:List α)(k:List Key)(p:α):List (List Key) × List α:=if zeI ks k=true then (ks,List.zipWith (fun k' v=>if k'=k then p else v) ks vs) else (ks++[k],vs++[p])
theorem zak:∀ {ks:List (List Key)} {xs:List V} (h:ks.length=xs.length) (k:List Key),(xT (ks.zip xs) k).isSome=zeI ks k
 | [],[],_,_=>rfl
 | [],_::_,h,_=>by simp at h
 | _::_,[],h,_=>by simp at h
 | k'::ks,x::xs,h,k=>by
  have ih:=zak (ks:=ks) (xs:=xs) (by simpa using h) k
  rw [JM]
  unfold zeI at ih ⊢
  rw [Kl]
  by_cases e:k'=k
  ·rw [xh (p:=(k',x)) e,decide_eq_true e];rfl
  ·rw [vj (p:=(k',x)) e,ih,decide_eq_false e];rfl
theorem zeT{ks:List (List Key)}{xs:List V}(hl:ks.length=xs.length)(k:List Key)(v:V):vD (ks.zip xs) k v=(yJ ks xs k v).1.zip (yJ ks xs k v).2:=by
 have h:=zak hl k
 rw [← wM] at h
 unfold vD yJ
 by_cases hk:zeI ks k=true
 ·rw [if_pos hk,h,hk,if_pos rfl]
  clear h hk
  induction ks generalizing xs with
  | nil=>simp
  | cons k' ks ih=>
   cases xs with
   | nil=>simp at hl
   | cons x xs=>
    simp only [List.zip_cons_cons,List.map_cons,List.zipWith_cons_cons]
    rw [ih (by simpa using hl)]
    by_cases e:k'=k<;>simp [e]
 ·rw [if_neg hk,h,if_neg hk]
  show ks.zip xs++[(k,v)]=(ks++[k]).zip (xs++[v])
  rw [List.zip_append hl]
  rfl
theorem zeV{α:Type}{ks:List (List Key)}{vs:List α}(hl:ks.length=vs.length)(k:List Key)(p:α):(yJ ks vs k p).1.length=(yJ ks vs k p).2.length:=by
 unfold yJ
 split
 ·simp [hl]
 ·simp [hl]
theorem zcw{α β:Type}{ks:List (List Key)}{vs:List α}{ws:List β}(k:List Key)(p:α)(q:β):(yJ ks vs k p).1=(yJ ks ws k q).1:=by
 unfold yJ
 split<;>rfl
theorem zeU{K:PySem.W.Frag}{H:Hp}{ks:List (List Key)}{k:List Key}{p:PV}{v:V}(rp:Rp K H p v []):∀ {ps:List PV} {xs:List V},Rps K H ps xs []->Rps K H (yJ ks ps k p).2 (yJ ks xs k v).2 []:=by
 intro ps xs r
 unfold yJ
 split
 ·rename_i hk
  clear hk
  induction ks generalizing ps xs with
  | nil=>exact .nil
  | cons k' ks ih=>
   cases ps with
   | nil=>rw [r.inv0.1];exact .nil
   | cons q ps=>
    obtain ⟨w,r',A1,A2,rfl,h2,h3,h4⟩:=r.inv
    obtain ⟨rfl,rfl⟩:=Kv.mp h2.symm
    simp only [List.zipWith_cons_cons]
    by_cases e:k'=k
    ·rw [if_pos e,if_pos e];exact Rps.cons rp (ih h4)
    ·rw [if_neg e,if_neg e];exact Rps.cons h3 (ih h4)
 ·exact r.append (Rps.one rp)
theorem zan{K:PySem.W.Frag}{H:Hp}:∀ {ks:List (List Key)} {ps:List PV} {xs:List V} {A:List Addr} {k:List Key} {p:PV},Rps K H ps xs A->kG ks ps k=some p->∃ v C,xT (ks.zip xs) k=some v/\Rp K H p v C/\C.Sublist A
 | [],_,_,_,_,_,_,h=>by simp [kG] at h
 | k'::ks,[],_,_,_,_,_,h=>by simp [kG] at h
 | k'::ks,q::ps,_,_,k,p,r,h=>by
  obtain ⟨w,r',A1,A2,rfl,rfl,h3,h4⟩:=r.inv
  unfold kG at h
  rw [JM,KH] at h
  by_cases hk:k'=k
  ·subst hk
   simp at h
   subst h
   exact ⟨w,A1,by rw [JM];exact xh rfl,h3,List.sublist_append_left _ _⟩
  ·have:decide (k'=k)=false:=decide_eq_false hk
   rw [show decide ((k',q).1=k)=false from this] at h
   obtain ⟨v,C,g1,g2,g3⟩:=zan (ks:=ks) h4 h
   refine ⟨v,C,?_,g2,g3.trans (List.sublist_append_right _ _)⟩
   rw [JM]
   unfold xT at g1 ⊢
   rw [KH,show decide ((k',w).1=k)=false from this]
   exact g1
noncomputable def q9:FE:=fun _=>some (.dcT [] [])
section
variable {X:Cx} {κ:Nat->Option Nat} {G:Hp} {O:List Nat} {c c2:Cat} {a e:Expr} {es:List Expr} {fa f:FE} {fs:FA} {st:Stmt}
theorem zdX(h:PE X e zfJ):VE X κ G (.mv []) e q9:=h.imp fun σ H Q hq_=>by
 refine hq_.elim fun own env z I hf k=>?_
 cases hf
 intro p hp
 exact k _ _ [p] (zZ (Same.refl _) hp) (.mkDT (by simpa using zL) rfl .nil) ⟨by simp,fun a ha=>.inl (by rw [List.mem_singleton.mp ha];exact hp)⟩
noncomputable def kA(fa:FE)(fs:FA):FE:=fun env=>(fa env).bind fun d=>(fs env).bind fun ps=>match d with | .dcT ks vs=>(jx ps).bind fun k=>kG ks vs k | _=>none
theorem zky{x1:Nat}{pos pos':Pos}(hu:X.A.units+1<cLine)(ha:VE X κ G c a fa)(hb:VA X κ G c2 es fs)(hn:es.length≤100000:=by first | decide | simp):VE X κ G c (.Subscript a (.Tuple es x1 pos) pos') (kA fa fs):=
 (zdj hu ha (zbW hb.1) (fun _ _=>rfl)).imp fun σ H Q hq_=>by
 refine hq_.elim fun own env z I hf k=>?_
 unfold kA at hf
 obtain ⟨d,hd,hf⟩:=Ja.mp hf
 obtain ⟨ps,hp,hf⟩:=Ja.mp hf
 split at hf
 case h_2=>cases hf
 rename_i ks vs
 obtain ⟨kk,hk,hf⟩:=Ja.mp hf
 refine .in I hd fun x H1 A s1 r1 c1=>.in (I.grow s1) hp fun ys H2 B s2 r2 _=>⟨?_,fun p hpn=>?_⟩
 ·have:=hb.2 env ps hp
  rw [sizeLine_eq,← r2.length];omega
 have e2:=jw hk r2
 subst e2
 obtain ⟨ad,xs,B1,e1,h1,hl,rfl,g1⟩:=(Rp.same s2 _ r1).DT
 have s3:Same H2 (upd H2 p (.tup (kk.map kV))):=zZ (Same.refl _) hpn
 obtain ⟨v,C,h3,h4,h5⟩:=zan g1 hf
 refine ⟨ad,v,e1,?_,k v _ C ((s1.trans s2).trans s3) (Rp.same s3 _ h4) (Cat.sub c1 (h5.trans (Qq _ _)))⟩
 rw [← h3]
 exact DGet.t (s3 _ _ h1) zL
noncomputable def zbn(i:Nat)(fs:FA)(f:FE):FS:=fun env=>(f env).bind fun q=>(zA i env).bind fun l=>(fs env).bind fun ps=>match l with | .dcT ks vs=>if (isDatas vs && zQ q && decide (ks.length<100000))=true then (jx ps).map fun k=>.nx (env.set i (some (.dcT (yJ ks vs k q).1 (yJ ks vs k q).2))) else none | _=>none
theorem zjF{K:PySem.W.Frag}{own:Addr->Option Nat}{env:En}{σ:St}{H:Hp}{i:Nat}{ks:List (List Key)}{ps:List PV}(hi:i ∈ O)(I:VI K (ko O) G own env σ H)(hf:zA i env=some (.dcT ks ps)):
  ∃ a xs B,σ[i]?=some (some (.ref a))/\H a=some (.dT (ks.zip xs))/\ks.length=ps.length/\Rps K H ps xs B/\(a::B).Nodup/\own a=some i/\∀ b ∈ B,own b=some i:=by
 obtain ⟨v,A,h1,h2,_,h3⟩:=I.slot i _ (wz hf)
 obtain ⟨nd,ho⟩:=h3 i (k9 hi)
 obtain ⟨a,xs,B,rfl,h4,hl,rfl,h5⟩:=h2.DT
 exact ⟨a,xs,B,h1,h4,hl,h5,nd,ho a Jc,fun b hb=>ho b (Jf _ hb)⟩
theorem zil(i:Nat)(hi:i ∈ O){x1:Nat}{pos:Pos}(hb:VA X (ko O) G c2 es fs)(hd:PE X (.Tuple es x1 pos) (zkG (tVA X.K (ko O) G c2 fs))->PS X st (zdb (vo i) (zkG (tVA X.K (ko O) G c2 fs)) (tV X.K (ko O) G c f)))(hn:es.length≤100000:=by first | decide | simp):VS X (ko O) G st (zbn i fs f):=(hd (zbW hb.1)).imp fun D σ H hq_=>by
 refine hq_.elim fun own env o I hf k=>?_
 unfold zbn at hf
 obtain ⟨q,hq,hf⟩:=Ja.mp hf
 obtain ⟨l,hl,hf⟩:=Ja.mp hf
 obtain ⟨ys,hy,hf⟩:=Ja.mp hf
 obtain ⟨ks,ps,rfl⟩:∃ ks ps,l=.dcT ks ps:=by
  cases l<;>first | (cases hf;done) | exact ⟨_,_,rfl⟩
 dsimp only at hf
 split at hf
 case isFalse=>cases hf
 rename_i hc
 obtain ⟨key,hk,rfl⟩:=JA.mp hf
 simp only [Bool.and_eq_true,decide_eq_true_eq] at hc
 obtain ⟨⟨d1,d2⟩,hlen⟩:=hc
 obtain ⟨a,xs,B,hσ,ha,hkl,hr,nd,ho,hB⟩:=zjF hi I hl
 have eB:=Rps.data ps d1 hr
 subst eB
 refine .in I hq fun v H1 A s1 r1 _=>⟨.ref a,hσ,.in (I.grow s1) hy fun zs H2 B s2 r2 _=>⟨?_,fun p hpn=>?_⟩⟩
 ·have:=hb.2 env ys hy
  rw [sizeLine_eq,← r2.length];omega
 have e2:=jw hk r2
 subst e2
 have s3:Same H2 (upd H2 p (.tup (key.map kV))):=zZ (Same.refl _) hpn
 have eA:=Rp.data q d2 r1
 subst eA
 have s13:=(s1.trans s2).trans s3
 have hxl:=hr.length
 refine ⟨a,_,rfl,DPut.t (s13 _ _ ha) zL (by rw [List.length_zip,sizeLine_eq];omega),?_⟩
 rw [zeT (by omega)]
 have m0:MutH H a:=.inr (.inr ⟨_,ha⟩)
 have m2:=m0.same s13
 have rq:=Rp.same (s2.trans s3) q r1
 obtain ⟨h1,h2⟩:=I.turn (p:=.dcT (yJ ks ps key q).1 (yJ ks ps key q).2) (o:=.dT ((yJ ks xs key v).1.zip (yJ ks xs key v).2)) (B:=[]) hi s13 hσ ho m0
  (.mkDT (by rw [zcw (ws:=xs) key q v];exact zL) (zeV hkl key q) (Rps.upd m2 _ (by simp) (zeU rq (Rps.same s13 ps hr)))) (by simp) (by simp)
 exact k _ _ _ h1 h2
end
section
variable {env:En} {f fa fb fc:FE} {t u:FT} {fs:FA} {g h:FS} {p q:PV}
@[simp] theorem zah(i:Nat):zA i env=(env[i]?).join:=rfl
@[simp] theorem zmq(p:PV):fC p env=some p:=rfl
@[simp] theorem yh(k:PV->PV->Option PV):fOp k fa fb env=(fa env).bind fun x=>(fb env).bind fun y=>k x y:=rfl
@[simp] theorem zpE(k:PV->Option PV):fUn k fa env=(fa env).bind k:=rfl
@[simp] theorem zhP:zh f env=(f env).bind fun p=>if zQ p=true then some p else none:=rfl
@[simp] theorem zbz:fT f env=(f env).bind zk:=rfl
@[simp] theorem zhS:zbp t u env=(t env).bind fun b=>if b=true then u env else some false:=rfl
@[simp] theorem zkb:fOr t u env=(t env).bind fun b=>if b=true then some true else u env:=rfl
@[simp] theorem zpm:zho t env=(t env).map fun b=>!b:=rfl
@[simp] theorem zpF:fIf t fa fb env=(t env).bind fun c=>if c=true then fa env else fb env:=rfl
@[simp] theorem zhN:zE env=some []:=rfl
@[simp] theorem yU:zB f fs env=(f env).bind fun p=>(fs env).map fun ps=>p::ps:=rfl
@[simp] theorem zhM:xJ fs env=(fs env).map .tup:=rfl
@[simp] theorem zpn:xL fs env=(fs env).map .lst:=rfl
@[simp] theorem zdN(Φ:List PV->Option PV):zI Φ fs env=(fs env).bind Φ:=rfl
@[simp] theorem zhQ(k k':PV->PV->Option PV):yk k k' fa fb fc env=(fa env).bind fun x=>(fb env).bind fun y=>(k x y).bind fun z=>(zk z).bind fun b=>if b=true then (fc env).bind fun w=>k' y w else some (.bl false):=rfl
@[simp] theorem zow:znS fa fb env=(fa env).bind fun x=>(zk x).bind fun k=>if k=true then fb env else some (.bl false):=rfl
@[simp] theorem zpl:zpe fa fb env=(fa env).bind fun x=>(zk x).bind fun k=>if k=true then some (.bl true) else fb env:=rfl
@[simp] theorem zou:znQ fa env=(fa env).bind fun x=>(zk x).map fun k=>.bl (!k):=rfl
@[simp] theorem zof:fNx env=some (.nx env):=rfl
@[simp] theorem zpH:fBk env=some (.bk env):=rfl
@[simp] theorem zpG:fCt env=some (.ct env):=rfl
@[simp] theorem kN:yQ f env=(f env).map fun p=>.rt p env:=rfl
@[simp] theorem zot:zjY env=some (.rt .non env):=rfl
@[simp] theorem vh:yj t g h env=(t env).bind fun b=>if b=true then g env else h env:=rfl
@[simp] theorem zcI(i:Nat):zW i f env=(f env).map fun p=>.nx (env.set i (some p)):=rfl
@[simp] theorem zmp(b:PV->En->Option En):zbo b f env=(f env).bind fun p=>(b p env).map .nx:=rfl
@[simp] theorem xS(b:PV->En->Option En):yP fs b g env=(fs env).bind fun ps=>wK b g ps env:=rfl
@[simp] theorem uW:zV f env=(f env).bind xA:=rfl
@[simp] theorem zos:znP f env=(f env).bind fun p=>(xA p).bind fun ps=>if isDatas ps=true then some ps else none:=rfl
@[simp] theorem zhR(i:Nat):zF i p env=some (env.set i (some p)):=rfl
@[simp] theorem zpk:uK env=some true:=rfl
@[simp] theorem zhO:ui env=some (.dct [] []):=rfl
@[simp] theorem zmw:qz env=some none:=rfl
@[simp] theorem zkc(n:Nat)(js:List Nat)(b:PV->En->Option En):fLC fs n js b t f env=(fs env).bind fun ps=>if ps.length≤100000 then (zo b t f ps (cE n js env)).map .lst else none:=rfl
theorem zG(hg:g env=some (.nx e)):zO g h env=h e:=by unfold zO;rw [hg];rfl
theorem zjx(hg:g env=some (.rt p e)):zO g h env=some (.rt p e):=by unfold zO;rw [hg];rfl
@[simp] theorem zjy:zO g h env=(g env).bind fun o=>match o with | .nx e=>h e | o=>some o:=rfl
end
section
variable {i j:Int} {xs ys:List Int} {ps qs:List PV}
@[simp] theorem zhy:zQ (.int i)=true:=rfl
@[simp] theorem zjD{b:Bool}:zQ (.bl b)=true:=rfl
@[simp] theorem znY{x:Str}:zQ (.str x)=true:=rfl
@[simp] theorem znZ:zQ .non=true:=rfl
@[simp] theorem kF:zQ (.tup ps)=isDatas ps:=by simp [zQ]
@[simp] theorem zmu:isDatas []=true:=rfl
@[simp] theorem zmg{p:PV}:isDatas (p::ps)=(zQ p && isDatas ps):=by simp [isDatas]
@[simp] theorem zcv:isDatas (xs.map PV.int)=true:=qr xs
@[simp] theorem zmv:isDatas (ps++qs)=(isDatas ps && isDatas qs):=yf ps qs
@[simp] theorem zpD{b:Bool}:zk (.bl b)=some b:=rfl
@[simp] theorem zpo:zx (.int i) (.int j)=some (.int (i+j)):=rfl
@[simp] theorem zoN:wN (.int i) (.int j)=some (.int (i - j)):=rfl
@[simp] theorem zpu:vLt (.int i) (.int j)=some (.bl (decide (i<j))):=rfl
@[simp] theorem zpv:vLe (.int i) (.int j)=some (.bl (decide (i≤j))):=rfl
@[simp] theorem zpx:vGt (.int i) (.int j)=some (.bl (decide (j<i))):=rfl
@[simp] theorem zpy:vGe (.int i) (.int j)=some (.bl (decide (j≤i))):=rfl
@[simp] theorem zps:zoy (.int i)=some (.int (-i)):=rfl
theorem jm(h:IntMulOk i j):zi (.int i) (.int j)=some (.int (i * j)):=by simp [zi,h]
theorem zjj(h : -(2 ^ 64)<i/\i<2 ^ 64):IntMulOk i j:=.of_left (intBits_le_64 h.1 h.2)
theorem zji(h : -(2 ^ 64)<j/\j<2 ^ 64):IntMulOk i j:=.of_right (intBits_le_64 h.1 h.2)
theorem wH(h : -(2 ^ 64)<i/\i<2 ^ 64):zi (.int i) (.int j)=some (.int (i * j)):=jm (zjj h)
theorem zgF(h : -(2 ^ 64)<j/\j<2 ^ 64):zi (.int i) (.int j)=some (.int (i * j)):=jm (zji h)
theorem wy(h:0<j/\j<1073741824):ye (.int i) (.int j)=some (.int (i / j)):=by simp [ye,h]
theorem yD(h:0<j):xU (.int i) (.int j)=some (.int (i % j)):=by simp [xU,h]
@[simp] theorem zol:xA (.lst ps)=some ps:=rfl
@[simp] theorem zom:xA (.fls ps)=some ps:=rfl
@[simp] theorem zok:xA (.tup ps)=some ps:=rfl
@[simp] theorem zmR:zcZ (.lst ps)=some ps:=rfl
@[simp] theorem zfR:zcZ (.tup ps)=some ps:=rfl
@[simp] theorem zdr:wJ [.lst ps]=some (.int ps.length):=rfl
@[simp] theorem zoo:wJ [.fls ps]=some (.int ps.length):=rfl
@[simp] theorem zon:wJ [.tup ps]=some (.int ps.length):=rfl
@[simp] theorem zop{ks:List Key}:wJ [.dct ks ps]=some (.int ks.length):=rfl
@[simp] theorem zmt:vN [.lst ps]=if isDatas ps=true then some (.tup ps) else none:=rfl
@[simp] theorem znD:zjM [.tup ps]=if isDatas ps=true then some (.lst ps) else none:=rfl
@[simp] theorem znE:zjM [.lst ps]=if isDatas ps=true then some (.lst ps) else none:=rfl
@[simp] theorem zoV{b:Bool}:zoz [.bl b]=some (.int (if b then 1 else 0)):=rfl
@[simp] theorem zlQ:vIx (.lst ps) (.int i)=atI ps i:=rfl
@[simp] theorem zoU:vIx (.fls ps) (.int i)=atI ps i:=rfl
@[simp] theorem ix_tup:vIx (.tup ps) (.int i)=atI ps i:=rfl
theorem zaf{α β:Type}(f:α->β)(l:List α)(i:Int):atI (l.map f) i=(atI l i).map f:=by
 unfold atI
 rw [Jt]
 cases ixN l.length i with
 | none=>rfl
 | some j=>simp
theorem yg{α:Type}{l:List α}{i:Int}(h0:0≤i)(h1:i<l.length):atI l i=l[i.toNat]?:=by
 unfold atI ixN
 rw [if_pos h0,if_pos h1];rfl
@[simp] theorem zka{α:Type}{a:α}{l:List α}:atI (a::l) 0=some a:=by
 rw [yg (by decide) (by simp only [List.length_cons];omega)];rfl
@[simp] theorem zoe{α:Type}{a b:α}{l:List α}:atI (a::b::l) 1=some b:=by
 rw [yg (by decide) (by simp only [List.length_cons];omega)];rfl
@[simp] theorem zod{α:Type}{a b c:α}{l:List α}:atI (a::b::c::l) 2=some c:=by
 rw [yg (by decide) (by simp only [List.length_cons];omega)];rfl
@[simp] theorem zpC{α:Type}{a b c d:α}{l:List α}:atI (a::b::c::d::l) 3=some d:=by
 rw [yg (by decide) (by simp only [List.length_cons];omega)];rfl
theorem uG(n:Int):∀ xs:List Int,inP (.int n) (xs.map PV.int)=decide (n ∈ xs)
 | []=>rfl
 | m::r=>by
  have ih:=uG n r
  unfold inP at ih ⊢
  rw [Jo,Kl,ih]
  by_cases e:m=n
  ·subst e;simp [eqS]
  ·have e':¬ n=m:=fun z=>e z.symm
   simp [eqS,e,e']
theorem ug(xs:List Int):(xs.map PV.int).all xI=true:=by
 rw [List.all_map];exact QC.mpr fun _ _=>rfl
@[simp] theorem zoW:vIn (.int i) (.lst (xs.map .int))=some (decide (i ∈ xs)):=by simp only [vIn,ug,uG];rfl
@[simp] theorem zoX:vIn (.int i) (.fls (xs.map .int))=some (decide (i ∈ xs)):=by simp only [vIn,ug,uG];rfl
@[simp] theorem zcq:vIn (.int i) (.tup (xs.map .int))=some (decide (i ∈ xs)):=by simp only [vIn,ug,uG];rfl
@[simp] theorem zoq:vIn (.int i) (.tup [.int j,.int k])=some (decide (i=j∨i=k)):=by
 have:=zcq (i:=i) (xs:=[j,k])
 simpa using this
@[simp] theorem inE{p q:PV}:vB p q=(vIn p q).map .bl:=rfl
@[simp] theorem zoR{p q:PV}:xr p q=(vIn p q).map fun b=>.bl (!b):=rfl
@[simp] theorem zpf:eqP (.int i) (.int j)=decide (i=j):=by
 unfold eqP zy PyData.eqv
 simp [Bool.beq_eq_decide_eq]
@[simp] theorem zpg:wk (.int i)=true:=by simp [wk,xY,zy,PyData.canLay0,PyData.depth]
@[simp] theorem znU:vEq (.int i) (.int j)=some (.bl (decide (i=j))):=by simp [vEq]
@[simp] theorem zpt:vNe (.int i) (.int j)=some (.bl (!decide (i=j))):=by simp [vNe]
end
section
variable {b:PV->En->Option En} {g:FS} {t:FT} {f:FE}
theorem zjw(P:List PV->En->Prop)(h0:P [] env)
  (step:∀ pre p post e,ps=pre++p::post->P pre e->∃ e1 e2,b p e=some e1/\(g e1=some (.nx e2)∨g e1=some (.ct e2))/\P (pre++[p]) e2):∃ e,wK b g ps env=some (.nx e)/\P ps e:=by
 have go:∀ (post pre:List PV) (e:En),ps=pre++post->P pre e->∃ e',wK b g post e=some (.nx e')/\P ps e':=by
  intro post
  induction post with
  | nil=>intro pre e hp h;exact ⟨e,rfl,by rw [hp,JR];exact h⟩
  | cons p post ih=>
   intro pre e hp h
   obtain ⟨e1,e2,h1,h2,h3⟩:=step pre p post e hp h
   obtain ⟨e',h4,h5⟩:=ih (pre++[p]) e2 (by rw [hp,JC];rfl) h3
   refine ⟨e',?_,h5⟩
   unfold wK
   rw [h1,Je]
   rcases h2 with h2 | h2<;>(rw [h2,Option.bind_some];exact h4)
 exact go ps [] env rfl h0
theorem zfm(P:En->Prop)(μ:En->Nat)(step:∀ e,P e->t e=some false∨(t e=some true/\∃ e',(g e=some (.nx e')∨g e=some (.ct e'))/\P e'/\μ e'<μ e)):
  ∀ (n:Nat) (env:En),P env->μ env<n->∃ e,fWh t g n env=some (.nx e)/\P e/\t e=some false
 | 0,_,_,h=>absurd h (Kh _)
 | n+1,env,hp,hm=>by
  unfold fWh
  rcases step env hp with h | ⟨h,e',h2,h3,h4⟩
  ·refine ⟨env,?_,hp,h⟩
   rw [h];rfl
  ·obtain ⟨e,h5,h6,h7⟩:=zfm P μ step n e' h3 (by omega)
   refine ⟨e,?_,h6,h7⟩
   rw [h,Je,if_pos rfl]
   rcases h2 with h2 | h2<;>(rw [h2,Option.bind_some];exact h5)
theorem zdI{env:En}(T:PV->Bool)(W:PV->PV):∀ (ps:List PV),(∀ p ∈ ps,∃ e,b p env=some e/\t e=some (T p)/\(T p=true->f e=some (W p)))->zo b t f ps env=some ((ps.filter T).map W)
 | [],_=>rfl
 | p::ps,h=>by
  obtain ⟨e,h1,h2,h3⟩:=h p Jc
  have ih:=zdI T W ps fun q hq=>h q (Jf _ hq)
  unfold zo
  rw [h1,Je,h2,Je,ih]
  cases hT:T p with
  | true=>rw [if_pos rfl,h3 hT,Je,List.filter_cons,if_pos hT];rfl
  | false=>rw [if_neg Jj,List.filter_cons,if_neg (by rw [hT];exact Jj)]
theorem yw(T:Int->Bool)(W:Int->PV)(xs:List Int)(h:∀ n ∈ xs,∃ e,b (.int n) env=some e/\t e=some (T n)/\(T n=true->f e=some (W n))):zo b t f (xs.map PV.int) env=some ((xs.filter T).map W):=by
 have:=zdI (env:=env) (b:=b) (t:=t) (f:=f) (fun p=>match p with | .int n=>T n | _=>false) (fun p=>match p with | .int n=>W n | p=>p) (xs.map PV.int) (by
  intro p hp
  obtain ⟨n,hn,rfl⟩:=Jp.mp hp
  exact h n hn)
 rw [this,List.filter_map,KL]
 rfl
theorem zfX(lo:Int)(n:Nat):v0 lo n=((List.range n).map fun (i:Nat)=>lo+(i:Int)).map PV.int:=by
 unfold v0;rw [List.map_map];rfl
theorem zfY(n:Nat):v0 0 n=((List.range n).map fun (i:Nat)=>(i:Int)).map PV.int:=by
 rw [zfX];simp
end
theorem xH{t:FT}(i v:Nat)(mk:List Int->Option PV->En)(T:Int->Bool)
  (h1:∀ acc x y,(mk acc x).set v (some y)=mk acc (some y))(h2:∀ acc acc' x,(mk acc x).set i (some (.lst (acc'.map PV.int)))=mk acc' x)
  (h3:∀ acc x,(mk acc x)[i]?=some (some (.lst (acc.map PV.int))))(h4:∀ acc x,(mk acc x)[v]?=some x):
  ∀ (xs acc:List Int) (x:Option PV),(∀ n ∈ xs,∀ acc,t (mk acc (some (.int n)))=some (T n))->acc.length+xs.length≤1000->
   ∃ x',wK (zF v) (yj t (zY i (zh (zA v))) fNx) (xs.map PV.int) (mk acc x)=some (.nx (mk (acc++xs.filter T) x'))
 | [],acc,x,_,_=>⟨x,by simp [wK]⟩
 | n::xs,acc,x,ht,hl=>by
  simp only [List.length_cons] at hl
  have hn:=ht n Jc acc
  have hL:acc.length<100000:=by omega
  rw [Jo]
  unfold wK
  rw [zhR,Je,h1,vh,hn,Je]
  cases hT:T n with
  | true=>
   obtain ⟨x',e⟩:=xH i v mk T h1 h2 h3 h4 xs (acc++[n]) (some (.int n)) (fun m hm=>ht m (List.mem_cons_of_mem _ hm)) (by simp only [List.length_append,List.length_singleton];omega)
   refine ⟨x',?_⟩
   have ha:zY i (zh (zA v)) (mk acc (some (.int n)))=some (.nx (mk (acc++[n]) (some (.int n)))):=by
    have:(acc.map PV.int++[PV.int n])=(acc++[n]).map PV.int:=by simp
    have hd:zh (zA v) (mk acc (some (.int n)))=some (.int n):=by simp [h4]
    have hv:zA i (mk acc (some (.int n)))=some (.lst (acc.map PV.int)):=by simp [h3]
    unfold zY
    rw [hv,Je,hd,Je]
    dsimp only
    rw [if_pos (by rw [Jt];exact hL),this,h2]
   rw [if_pos rfl,ha,Je]
   dsimp only
   rw [e,List.filter_cons,if_pos hT,JC]
   rfl
  | false=>
   obtain ⟨x',e⟩:=xH i v mk T h1 h2 h3 h4 xs acc (some (.int n)) (fun m hm=>ht m (Jf _ hm)) (by omega)
   refine ⟨x',?_⟩
   rw [if_neg Jj,zof,Je]
   dsimp only
   rw [e,List.filter_cons,if_neg (by rw [hT];exact Jj)]
noncomputable abbrev u8(L:List Int):PV:=.dct (L.map Sum.inl) (L.map fun _=>.bl true)
theorem uH(L:List Int)(p:Int):qu (L.map Sum.inl) (.inl p)=decide (p ∈ L):=by
 rw [Bool.eq_iff_iff,zhc,decide_eq_true_eq]
 constructor
 ·intro h;obtain ⟨q,hq,e⟩:=List.mem_map.mp h;cases e;exact hq
 ·intro h;exact Jp.mpr ⟨p,h,rfl⟩
@[simp] theorem zlS{L:List Int}{p:Int}:vIn (.int p) (u8 L)=some (decide (p ∈ L)):=by simp only [vIn,uH]
theorem zeP(L:List Int):isDatas (L.map fun _=>PV.bl true)=true:=zn _ (fun _=>rfl) L
theorem ziM{L:List Int}(h:p ∉ L)(hl:L.length<100000):jR (u8 L) (.int p) (.bl true)=some (u8 (L++[p])):=by
 simp only [jR,zeP,zjD,List.length_map,hl,decide_true,Bool.and_self,if_true]
 unfold yt
 rw [uH,decide_eq_false h,if_neg Jj]
 simp [u8]
theorem yy:∀ xs:List Int,toPys (xs.map PV.int)=xs.map PyData.int
 | []=>rfl
 | x::r=>by rw [Jo,toPys,yy r];rfl
theorem vU:∀ xs:List Int,okPys (xs.map PV.int)=true
 | []=>rfl
 | x::r=>by rw [Jo,okPys,vU r];rfl
theorem wj:∀ xs ys:List Int,PyData.eqvAll (xs.map PyData.int) (ys.map PyData.int)=decide (xs=ys)
 | [],[]=>rfl
 | [],_::_=>rfl
 | _::_,[]=>rfl
 | x::r,y::t=>by
  simp only [List.map_cons,PyData.eqvAll,PyData.eqv,wj r t]
  by_cases h:x=y<;>by_cases h':r=t<;>simp [h,h']
theorem jv:∀ xs:List Int,PyData.canLayAll0 (xs.map PyData.int)=true
 | []=>rfl
 | x::r=>by rw [Jo,PyData.canLayAll0,jv r];rfl
theorem vc:∀ xs:List Int,PyData.depthAll (xs.map PyData.int)≤1
 | []=>by simp [PyData.depthAll]
 | x::r=>by
  have:=vc r
  rw [Jo,PyData.depthAll,PyData.depth]
  omega
@[simp] theorem zbq{xs:List Int}:wk (.lst (xs.map PV.int))=true:=by
 have h1:=vc xs
 have h2:PyData.depth (.list (xs.map PyData.int))≤64:=by rw [PyData.depth];omega
 simp only [wk,xY,vU,zy,yy,PyData.canLay0,jv,h2,decide_true,Bool.and_self]
@[simp] theorem znV{xs:List Int}:wk (.tup (xs.map PV.int))=true:=by
 have h1:=vc xs
 have h2:PyData.depth (.tuple (xs.map PyData.int))≤64:=by rw [PyData.depth];omega
 simp only [wk,xY,vU,zy,yy,PyData.canLay0,jv,h2,decide_true,Bool.and_self]
@[simp] theorem zdE{xs ys:List Int}:eqP (.lst (xs.map PV.int)) (.lst (ys.map PV.int))=decide (xs=ys):=by
 simp only [eqP,zy,yy,PyData.eqv,wj]
@[simp] theorem zor{xs ys:List Int}:eqP (.tup (xs.map PV.int)) (.tup (ys.map PV.int))=decide (xs=ys):=by
 simp only [eqP,zy,yy,PyData.eqv,wj]
theorem zma{xs ys:List Int}:vEq (.lst (xs.map PV.int)) (.lst (ys.map PV.int))=some (.bl (decide (xs=ys))):=by simp only [vEq,zbq,zdE];rfl
theorem zlG{xs ys:List Int}:vNe (.lst (xs.map PV.int)) (.lst (ys.map PV.int))=some (.bl (!decide (xs=ys))):=by simp only [vNe,zbq,zdE];rfl
theorem zlZ{xs:List Int}:vEq (.lst (xs.map PV.int)) (.lst [])=some (.bl (decide (xs=[]))):=zma (ys:=[])
theorem zob(xs:List Int):zbt (xs.map PV.int) none (some 1)=(xs.take 1).map PV.int:=by
 unfold zbt HT.sIx
 cases xs with
 | nil=>rfl
 | cons x r=>simp
theorem zmX(n:Nat):(List.replicate n [PV.int 1]).flatten=(List.replicate n 1).map PV.int:=by
 induction n with
 | zero=>rfl
 | succ n ih=>rw [Kd,Kw,ih];rfl
end F
namespace F
open PySem PySem.Spec PyProof.Rows L2
theorem kw{K:PySem.W.Frag}{H:Hp}:∀ ns:List Int,Rps K H (ns.map PV.int) (ns.map V.int) []
 | []=>.nil
 | n::ns=>by
  have:=Rps.cons (K:=K) (H:=H) (Rp.mkI n) (kw ns)
  exact this
theorem zlK{K:PySem.W.Frag}{Φ:List PV->Option PV}{H:Hp}{a:Addr}{ns:List Int}(ho:zjH H)(hs:SqL K H a (ns.map V.int))(h:Φ [.fls (ns.map PV.int)]=some (.bl true)):spV K 1 Φ [.ref a] H (fun v _=>v=.bl true) (fun _ _ _=>False):=by
 have fz:Fz K H a (ns.map V.int):=by
  rcases hs with (hs | hs) | hs
  ·rcases ho a with z | ⟨o,xs,z⟩
   ·rw [hs] at z;cases z
   ·rw [hs] at z;cases z
  ·exact .inl hs
  ·exact .inr hs
 refine ⟨[.fls (ns.map PV.int)],[],.bl true,Rps.one (by unfold Rp;exact ⟨a,_,rfl,fz,kw ns⟩),rfl,h,fun v H' C _ r _ _=>r.B.1⟩
end F
namespace F
open PySem L2
section
variable {env:En} {f fk:FE} {fs:FA}
@[simp] theorem zov:znR fs env=(fs env).bind fun ps=>if ps.length≤100000 then some (.lst ps) else none:=rfl
@[simp] theorem zmo:zhl fs env=(fs env).bind fun ps=>match ps with | [p,q]=>(xA p).bind fun xs=>(xA q).bind fun ys=>some ((List.zip xs ys).map fun z=>PV.tup [z.1,z.2]) | _=>none:=rfl
end
noncomputable def dF(L:List Int)(G:Int->PV):PV:=.dct (L.map Sum.inl) (L.map G)
section
variable {L:List Int} {G:Int->PV} {p:Int} {q x:PV}
@[simp] theorem zpw:vIn (.int p) (dF L G)=some (decide (p ∈ L)):=by simp only [dF,vIn,uH]
@[simp] theorem zoY:vIn .non (dF L G)=some false:=rfl
@[simp] theorem zoT:wJ [dF L G]=some (.int L.length):=by simp [dF]
theorem zdH(h:p ∈ L):vd (L.map Sum.inl) (L.map G) (.inl p)=some (G p):=by
 unfold vd
 induction L with
 | nil=>cases h
 | cons a r ih=>
  rw [Jo,Jo,JM,KH]
  by_cases e:a=p
  ·subst e;simp
  ·have:decide ((((Sum.inl a:Key),G a):Key × PV).1=Sum.inl p)=false:=decide_eq_false fun z=>e (Sum.inl.inj z)
   rw [this]
   exact ih ((List.mem_cons.mp h).resolve_left fun z=>e z.symm)
theorem zeW(h:p ∉ L):vd (L.map Sum.inl) (L.map G) (.inl p)=none:=by
 unfold vd
 induction L with
 | nil=>rfl
 | cons a r ih=>
  rw [Jo,Jo,JM,KH]
  have e:¬ a=p:=fun z=>h (z ▸ Jc)
  have:decide ((((Sum.inl a:Key),G a):Key × PV).1=Sum.inl p)=false:=decide_eq_false fun z=>e (Sum.inl.inj z)
  rw [this]
  exact ih fun z=>h (Jf _ z)
theorem zgW(h:p ∈ L):vIx (dF L G) (.int p)=some (G p):=zdH h
noncomputable def kP(L:List Int)(G:Int->PV):Prop:=∀ p ∈ L,zQ (G p)=true
theorem zbs(h:kP L G):isDatas (L.map G)=true:=by
 rw [xP]
 intro y hy
 obtain ⟨a,ha,rfl⟩:=Jp.mp hy
 exact h a ha
theorem zlX(hd:kP L G)(hx:zQ x=true):zix (dF L G) (.int p) x=some (if p ∈ L then G p else x):=by
 simp only [dF,zix,zbs hd,hx,Bool.and_self,if_true,qB,Option.map_some]
 by_cases h:p ∈ L
 ·rw [if_pos h,zdH h];rfl
 ·rw [if_neg h,zeW h];rfl
noncomputable def upF(G:Int->PV)(p:Int)(q:PV):Int->PV:=fun y=>if y=p then q else G y
@[simp] theorem vn:upF G p q p=q:=if_pos rfl
theorem qQ(h:y≠p):upF G p q y=G y:=if_neg h
theorem zbS(hd:kP L G)(hq:zQ q=true)(hl:L.length<100000):jR (dF L G) (.int p) q=some (dF (if p ∈ L then L else L++[p]) (upF G p q)):=by
 simp only [dF,jR,zbs hd,hq,List.length_map,hl,decide_true,Bool.and_self,if_true]
 unfold yt
 rw [uH]
 by_cases h:p ∈ L
 ·rw [decide_eq_true h,if_pos rfl,if_pos h]
  congr 2
  clear h hl hd
  induction L with
  | nil=>rfl
  | cons a r ih=>
   simp only [List.map_cons,List.zipWith_cons_cons,ih]
   congr 1
   unfold upF
   by_cases e:a=p
   ·simp [e]
   ·simp [e]
 ·rw [decide_eq_false h,if_neg Jj,if_neg h]
  simp only [List.map_append,List.map_cons,List.map_nil,vn]
  congr 3
  exact QH fun a ha=>(qQ (show a≠p from fun z=>h (by rw [← z];exact ha))).symm
end
@[simp] theorem zpi(G:Int->PV):PV.dct [] []=dF [] G:=rfl
noncomputable def okB(d:Nat)(p:PV):Prop:=xY p=true/\(zy p).canLay0=true/\(zy p).depth≤d
theorem okB.ok(h:okB d p)(hd:d≤64):wk p=true:=by
 have h3:(zy p).depth≤64:=JV h.2.2 hd
 simp [wk,h.1,h.2.1,h3]
theorem zdl(i:Int):okB 0 (.int i):=⟨rfl,rfl,by simp [zy,PyData.depth]⟩
theorem qk(h:PyData.canLay0 (.str x)=true):okB 0 (.str x):=⟨rfl,h,by simp [zy,PyData.depth]⟩
theorem zlF{d:Nat}:∀ {ps:List PV},(∀ p ∈ ps,okB d p)->okPys ps=true/\PyData.canLayAll0 (toPys ps)=true/\PyData.depthAll (toPys ps)≤d
 | [],_=>⟨rfl,rfl,by simp [toPys,PyData.depthAll]⟩
 | p::ps,h=>by
  obtain ⟨h1,h2,h3⟩:=h p Jc
  obtain ⟨g1,g2,g3⟩:=zlF fun q hq=>h q (Jf _ hq)
  refine ⟨by rw [okPys,h1,g1];rfl,by rw [toPys,PyData.canLayAll0,h2,g2];rfl,by rw [toPys,PyData.depthAll];omega⟩
theorem zdk(h:∀ p ∈ ps,okB d p):okB (d+1) (.tup ps):=by
 obtain ⟨h1,h2,h3⟩:=zlF h
 exact ⟨by rw [xY];exact h1,by rw [zy,PyData.canLay0];exact h2,by rw [zy,PyData.depth];omega⟩
theorem zhs(h:okB d p):eqP p p=true:=PySem.SeqAt.eqv_refl _ h.2.1
theorem zjh(h:okB d p)(hd:d≤64):vNe p p=some (.bl false):=by simp [vNe,h.ok hd,zhs h]
section
variable {b:PV->En->Option En} {g:FS} {t:FT} {f:FE}
theorem yq{α:Type}{xs:List α}{hh:α->PV}(P:List α->En->Prop)(h0:P [] env)
  (step:∀ pre a post e,xs=pre++a::post->P pre e->∃ e1 e2,b (hh a) e=some e1/\(g e1=some (.nx e2)∨g e1=some (.ct e2))/\P (pre++[a]) e2):∃ e,wK b g (xs.map hh) env=some (.nx e)/\P xs e:=by
 have go:∀ (post pre:List α) (e:En),xs=pre++post->P pre e->∃ e',wK b g (post.map hh) e=some (.nx e')/\P xs e':=by
  intro post
  induction post with
  | nil=>intro pre e hp h;exact ⟨e,rfl,by rw [hp,JR];exact h⟩
  | cons p post ih=>
   intro pre e hp h
   obtain ⟨e1,e2,h1,h2,h3⟩:=step pre p post e hp h
   obtain ⟨e',h4,h5⟩:=ih (pre++[p]) e2 (by rw [hp,JC];rfl) h3
   refine ⟨e',?_,h5⟩
   rw [Jo]
   unfold wK
   rw [h1,Je]
   rcases h2 with h2 | h2<;>(rw [h2,Option.bind_some];exact h4)
 exact go xs [] env rfl h0
theorem xk{α:Type}{env:En}{hh:α->PV}(W:α->PV):∀ (xs:List α),(∀ a ∈ xs,∃ e,b (hh a) env=some e/\t e=some true/\f e=some (W a))->zo b t f (xs.map hh) env=some (xs.map W)
 | [],_=>rfl
 | a::xs,h=>by
  obtain ⟨e,h1,h2,h3⟩:=h a Jc
  have ih:=xk W xs fun q hq=>h q (Jf _ hq)
  rw [Jo]
  unfold zo
  rw [h1,Je,h2,Je,ih,if_pos rfl,h3,Je];rfl
end
theorem y4{fs:FA}{env:En}{Φ:List PV->Option PV}(h:fs env=some as)(h2:Φ as=some p):zW i (zI Φ fs) env=some (.nx (env.set i (some p))):=by
 rw [zcI,zdN,h,Je,h2];rfl
theorem xR{fs:FA}{Φ:List PV->Option PV}(h:fs env=some as)(h2:Φ as=some p):zI Φ fs env=some p:=by
 rw [zdN,h,Je,h2]
theorem wf{g:FS}{ps:List PV}(env:En)(he:ps.map some++List.replicate (m - ps.length) none=env)(h:g env=some (.rt p e)):fnV m g ps=some p:=by
 unfold fnV;rw [he,h];rfl
theorem ziJ{fs:FA}{j:Int}(h:fs env=some [.int j])(h1 : -1000000≤j)(h2:j≤1000000):xQ fs env=some (v0 0 j.toNat):=by
 have hj:j<4611686018427387904/\-4611686018427387904≤j:=by omega
 unfold xQ
 rw [h,Je]
 simp [hj]
theorem zjp(h:k<n):ixN n (k:Int)=some k:=by
 unfold ixN
 rw [if_pos (by omega),if_pos (by omega)];rfl
theorem atI_nat{α:Type}{l:List α}(h:k<l.length):atI l (k:Int)=some l[k]:=by
 rw [yg (by omega) (by omega)]
 simp [h]
end F
namespace CB
variable {F:List Int} {d:Int} {stop:Int->Bool} {pre:List Int} {ps:List (Int × Nat)} {f:Int}
theorem Runs.next(r:Runs0 F d stop pre ps)(nf:f ∉ pre){a:Nat}{x:Int × Nat}(ha:ps[a]?=some x)(hc:f - d ∈ zP d x.1 x.2):f=x.1+x.2 * d:=by
 obtain ⟨i,hi,e⟩:=mem_chain.mp hc
 by_cases h:i+1<x.2
 ·have:=(r.inn _ (JY ha) (i+1) h).1
  rw [qR] at this
  exact absurd (by rwa [show f=x.1+(i * d+d) by omega]) nf
 ·have:x.2=i+1:=by omega
  rw [this,qR];omega
theorem Runs.len(r:Runs0 F d stop pre ps):ps.length≤pre.length:=by
 have:=congrArg List.length r.heads
 rw [Jt] at this
 rw [this]
 exact KR _ _
theorem Runs.len0(r:Runs0 F d stop pre ps)(hd:0<d){a:Nat}{x:Int × Nat}(ha:ps[a]?=some x):x.2≤pre.length:=by
 have:=zS (zP d x.1 x.2) pre (wo hd _ _) fun y hy=>by
  obtain ⟨i,hi,rfl⟩:=mem_chain.mp hy
  exact (r.inn x (JY ha) i hi).1
 rwa [qG] at this
end CB
namespace Cb
open PySem L2 F CB PyProof.Rows
noncomputable def wp:FS:=(yj (fT (fOp vB (zA 5) (zA 3))) (zO (wg 3 (zA 4) (fOp vIx (zA 3) (zA 5)))
 (zeL 2 (fOp vIx (zA 3) (zA 4)) (uA (zh (zA 4))))) (zO (wg 3 (zA 4) (zI wJ (zB (zA 2) zE)))
 (zY 2 (xL (zB (zh (zA 4)) zE)))))
noncomputable def zcr:FS:=(zO (zW 2 (xL zE))
 (zO (zW 3 ui)
 (zO (yP (zhl (zB (zA 0) (zB (zA 1) zE))) (vg 2 (yE (zF 4) (yE (zF 5) uT))) wp)
 (yQ (fLC (zV (zA 2)) 1 [] (zF 0) uK (zI vN (zB (zA 0) zE)))))))
noncomputable def xo:List PV->Option PV:=fnV 6 zcr
noncomputable def yp:FS:=(yQ (fIf (fT (fOp vEq (fOp xU (zA 1) (fOp vIx (zA 0) (fC (.int 0)))) (fC (.int 0)))) (fC .non) (fOp wN (zA 1) (fC (.int 1)))))
noncomputable def zt:List PV->Option PV:=fnV 2 yp
noncomputable def vX:FS:=(yQ (zI xo (zB (fOp vIx (zA 0) (fC (.int 2))) (zB (fLC (zV (fOp vIx (zA 0) (fC (.int 2)))) 1 [0] (zF 0) uK (zI zt (zB (zA 1) (zB (zA 0) zE)))) zE))))
noncomputable def yd:List PV->Option PV:=fnV 1 vX
noncomputable def xZ:FS:=(yQ (fOp wN (zA 1) (fOp vIx (zA 0) (fC (.int 0)))))
noncomputable def z8:List PV->Option PV:=fnV 2 xZ
noncomputable def xb:FS:=(yQ (zI xo (zB (fOp vIx (zA 0) (fC (.int 2))) (zB (fLC (zV (fOp vIx (zA 0) (fC (.int 2)))) 1 [0] (zF 0) uK (zI z8 (zB (zA 1) (zB (zA 0) zE)))) zE))))
noncomputable def yA:List PV->Option PV:=fnV 1 xb
noncomputable def j7:FS:=(zO (zW 1 (fLC (zV (zI yd (zB (zA 0) zE))) 1 [] (zF 0) uK (xJ (zB (fC (.str "row")) (zB (zh (zA 0)) zE)))))
 (zO (zW 2 (fLC (zV (zI yA (zB (zA 0) zE))) 1 [] (zF 0) uK (xJ (zB (fC (.str "column")) (zB (zh (zA 0)) zE)))))
 (yQ (fOp zx (zA 1) (zA 2)))))
noncomputable def zf:List PV->Option PV:=fnV 3 j7
noncomputable def yc:FS:=(wg 1 (zA 4) (fOp zx (zhp (zA 1) (zA 4) (xJ zE)) (xJ (zB (zA 2) zE))))
noncomputable def ya:FS:=(yP (zV (fOp vIx (zA 3) (fC (.int 1)))) (zF 4) yc)
noncomputable def wZ:FS:=(zO (zW 1 ui)
 (zO (yP (uh (zB (zI zf (zB (zA 0) zE)) zE)) (vg 2 (yE (zF 2) (yE (zF 3) uT))) ya)
 (yQ (zA 1))))
noncomputable def zp:List PV->Option PV:=fnV 5 wZ
noncomputable def vY:FS:=(yQ (fOp vIx (zI zp (zB (zA 0) zE)) (zA 1)))
noncomputable def zm:List PV->Option PV:=fnV 2 vY
noncomputable def ze(d:Int)(stop:Int->Bool)(f:Int):PV:=if stop f=true then .non else .int (f - d)
noncomputable def ub(d:Int)(x:Int × Nat):PV:=.lst ((zP d x.1 x.2).map PV.int)
noncomputable def qY(d:Int)(x:Int × Nat):PV:=.tup ((zP d x.1 x.2).map PV.int)
theorem zdc{F:List Int}{d:Int}{stop:Int->Bool}(hd:0<d)(rise:F.Pairwise (·<·))(hl:F.length≤1000):
  ∃ ps,xo [.tup (F.map PV.int),.lst (F.map (ze d stop))]=some (.lst (ps.map (qY d)))/\Runs F d stop F ps:=by
 let mk:List (Int × Nat)->List Int->(Int->PV)->Option PV->Option PV->En:=fun ps pre G x y=>[some (.tup (F.map PV.int)),some (.lst (F.map (ze d stop))),some (.lst (ps.map (ub d))),some (dF pre G),x,y]
 obtain ⟨e,h1,ps,G,x,y,rfl,hr,hG⟩:=yq (b:=vg 2 (yE (zF 4) (yE (zF 5) uT))) (g:=wp) (xs:=F) (hh:=fun f=>PV.tup [.int f,ze d stop f]) (env:=mk [] [] (fun _=>.non) none none)
  (fun pre e=>∃ ps G x y,e=mk ps pre G x y/\Runs F d stop pre ps/\∀ f ∈ pre,∃ (k:Nat) (z:Int × Nat),G f=.int k/\ps[k]?=some z/\f ∈ zP d z.1 z.2)
  ⟨[],_,none,none,rfl,.nil,by simp⟩ (by
   rintro pre f post e hF ⟨ps,G,x,y,rfl,r,hG⟩
   have sub:∀ p ∈ pre,p ∈ F:=fun p hp=>by rw [hF];exact Jr _ hp
   have lt:∀ p ∈ pre,p<f:=fun p hp=>by
    rw [hF,Jz] at rise
    exact rise.2.2 p hp f Jc
   have gt:∀ p ∈ F,p<f->p ∈ pre:=fun p hp h=>by
    rw [hF,Jz] at rise
    rw [hF] at hp
    rcases List.mem_append.mp hp with hp | hp
    ·exact hp
    ·rcases List.mem_cons.mp hp with rfl | hp
     ·omega
     ·have:=(KD.mp rise.2.1).1 p hp;omega
   have nf:f ∉ pre:=fun h=>by have:=lt f h;omega
   have nd:pre.Nodup:=by
    rw [hF,Jz] at rise
    exact yL rise.1
   have hD:kP pre G:=fun p hp=>by obtain ⟨k,z,e,_⟩:=hG p hp;rw [e];rfl
   have hpl:pre.length<1000:=by rw [hF,Jk,JH] at hl;omega
   have hpsl:=Runs.len r.toRuns0
   refine ⟨mk ps pre G (some (.int f)) (some (ze d stop f)),?_⟩
   by_cases hin:stop f=false/\f - d ∈ pre
   ·-- it goes on
    obtain ⟨hs,hp⟩:=hin
    obtain ⟨k,z,e1,e2,e3⟩:=hG _ hp
    have hz:=Runs.next r.toRuns0 nf e2 e3
    have hst:yF F d stop f=false:=by simp [yF,hs,sub _ hp]
    obtain ⟨kl,kz⟩:=Jv.mp e2
    refine ⟨mk (ps.set k (z.1,z.2+1)) (pre++[f]) (upF G f (.int k)) (some (.int f)) (some (ze d stop f)),by simp [vg,yE,uT,mk],.inl ?_,_,_,_,_,rfl,r.ext hd sub nd lt hst e2 hz,?_⟩
    ·have ha:ze d stop f=.int (f - d):=by simp [ze,hs]
     have hput:=zbS (p:=f) (q:=.int k) hD rfl (show pre.length<100000 by omega)
     rw [if_neg nf] at hput
     have hzl:z.2≤1000:=by
      have h1:=Runs.len0 r.toRuns0 hd e2
      omega
     have hset:(ps.set k (z.1,z.2+1)).map (ub d)=(ps.map (ub d)).set k (.lst ((zP d z.1 z.2).map PV.int++[.int f])):=by
      rw [List.map_set]
      congr 1
      simp [ub,vf,← hz]
     have ht:fT (fOp vB (zA 5) (zA 3)) (mk ps pre G (some (.int f)) (some (ze d stop f)))=some true:=by simp [mk,ha,hp]
     unfold wp
     rw [vh,ht,Je,if_pos rfl]
     rw [zG (e:=mk ps (pre++[f]) (upF G f (.int k)) (some (.int f)) (some (ze d stop f))) (by simp [mk,wg,ha,zgW hp,e1,hput])]
     have hk:ixN (ps.map (ub d)).length (k:Int)=some k:=zjp (by simpa using kl)
     have hg:(ps.map (ub d))[k]?=some (.lst ((zP d z.1 z.2).map PV.int)):=by simp [kl,kz,ub]
     have hi:fOp vIx (zA 3) (zA 4) (mk ps (pre++[f]) (upF G f (.int k)) (some (.int f)) (some (ze d stop f)))=some (.int k):=by simp [mk,zgW (L:=pre++[f]) (p:=f)]
     unfold zeL
     rw [hi]
     have hv:zA 2 (mk ps (pre++[f]) (upF G f (.int k)) (some (.int f)) (some (ze d stop f)))=some (.lst (ps.map (ub d))):=rfl
     rw [hv,Je,Je]
     simp only [jH,Option.bind_some,hk,hg]
     simp only [uA,mk,zhP,zah,List.getElem?_cons_succ,List.getElem?_cons_zero,Option.join_some,Option.bind_some,zhy,if_true,List.length_map,qG,show z.2<100000 by omega,Option.map_some,hset]
     rfl
    ·intro p hp'
     rcases List.mem_append.mp hp' with hp' | hp'
     ·obtain ⟨k',z',f1,f2,f3⟩:=hG p hp'
      refine ⟨k',if k'=k then (z.1,z.2+1) else z',by rw [qQ (show p≠f from fun h=>nf (by rw [← h];exact hp'))];exact f1,?_,?_⟩
      ·rw [KY]
       by_cases hk:k=k'
       ·subst hk;simp [kl]
       ·rw [if_neg hk,if_neg (fun h=>hk h.symm)];exact f2
      ·split
       ·rename_i hk
        subst hk
        rw [e2] at f2;cases f2
        simp only [vf]
        exact Jr _ f3
       ·exact f3
     ·rw [Jh.mp hp']
      refine ⟨k,(z.1,z.2+1),vn,by rw [KY,if_pos rfl,if_pos kl],?_⟩
      simp only [vf,← hz];simp
   ·have hst:yF F d stop f=true:=by
     by_cases hs:stop f=false
     ·have:f - d ∉ F:=fun h=>hin ⟨hs,gt _ h (by omega)⟩
      simp [yF,this]
     ·simp [yF,hs]
    refine ⟨mk (ps++[(f,1)]) (pre++[f]) (upF G f (.int ps.length)) (some (.int f)) (some (ze d stop f)),by simp [vg,yE,uT,mk],.inl ?_,_,_,_,_,rfl,r.new hd sub lt hst,?_⟩
    ·have hput:=zbS (p:=f) (q:=.int ps.length) hD rfl (show pre.length<100000 by omega)
     rw [if_neg nf] at hput
     have hno:vIn (ze d stop f) (dF pre G)=some false:=by
      unfold ze
      by_cases hs:stop f=true
      ·rw [if_pos hs];rfl
      ·rw [if_neg hs]
       have:f - d ∉ pre:=fun h=>hin ⟨by simpa using hs,h⟩
       simp [this]
     have hap:(ps.map (ub d))++[.lst [.int f]]=(ps++[(f,1)]).map (ub d):=by simp [ub,zdL]
     unfold wp
     simp [mk,hno,wg,hput,zY,show ps.length<100000 by omega,hap]
    ·intro p hp'
     rcases List.mem_append.mp hp' with hp' | hp'
     ·obtain ⟨k',z',f1,f2,f3⟩:=hG p hp'
      exact ⟨k',z',by rw [qQ (show p≠f from fun h=>nf (by rw [← h];exact hp'))];exact f1,by rw [Kj (Jv.mp f2).1];exact f2,f3⟩
     ·rw [Jh.mp hp']
      exact ⟨ps.length,(f,1),vn,by simp,by simp [zdL]⟩)
 refine ⟨ps,?_,hr⟩
 have hz:(List.zip (F.map PV.int) (F.map (ze d stop))).map (fun z=>PV.tup [z.1,z.2])=F.map fun f=>PV.tup [.int f,ze d stop f]:=by
  rw [List.zip_map',KL];rfl
 have hpl:=Runs.len hr.toRuns0
 have hc:zo (zF 0) uK (zI vN (zB (zA 0) zE)) (ps.map (ub d)) [none]=some (ps.map (qY d)):=xk _ _ fun a _=>⟨_,rfl,rfl,by simp [ub,qY]⟩
 unfold xo fnV zcr
 rw [zG (e:=[some (.tup (F.map PV.int)),some (.lst (F.map (ze d stop))),some (.lst []),none,none,none]) (by simp)]
 rw [zG (e:=mk [] [] (fun _=>.non) none none) (by simp [mk];rfl)]
 rw [zG (e:=mk ps F G x y) (by rw [xS,zmo];simp only [mk,yU,zah,zhN];simp [hz];exact h1)]
 simp [mk,show ps.length≤100000 by omega,cE,hc]
noncomputable abbrev flV(w h:Int)(F:List Int):PV:=.tup [.int w,.int h,.tup (F.map PV.int)]
noncomputable def xy(w:Int)(f:Int):Bool:=decide (f % w=0)
noncomputable def uP(_:Int):Bool:=false
theorem yO{w h:Int}{F:List Int}(fl:IsFloor w h F):F.length≤36:=by
 have h1:=fl.h1
 have wh:w * h≤6 * 6:=Int.mul_le_mul fl.w6 fl.h6 (by omega) (by omega)
 have:=zS F (zK w h) (yL fl.rise) fun p hp=>mem_places.mpr (fl.inn p hp)
 simp [zK] at this
 omega
theorem zaL{w h:Int}{F:List Int}(fl:IsFloor w h F):∃ ps,yd [flV w h F]=some (.lst (ps.map (qY 1)))/\Runs F 1 (xy w) F ps:=by
 have hl:=yO fl
 obtain ⟨ps,h1,h2⟩:=zdc (d:=1) (stop:=xy w) (by decide) fl.rise (by omega)
 refine ⟨ps,?_,h2⟩
 have hw:0<w:=by have:=fl.w1;omega
 have hc:zo (zF 0) uK (zI zt (zB (zA 1) (zB (zA 0) zE))) (F.map PV.int) [none,some (flV w h F)]=some (F.map (ze 1 (xy w))):=xk _ _ fun a _=>⟨_,rfl,rfl,by
  by_cases hz:a % w=0
  ·simp [zt,fnV,yp,yD hw,hz,ze,xy]
  ·simp [zt,fnV,yp,yD hw,hz,ze,xy]⟩
 simp [yd,fnV,vX,show F.length≤100000 by omega,cE,hc,h1]
theorem kK{w h:Int}{F:List Int}(fl:IsFloor w h F):∃ ps,yA [flV w h F]=some (.lst (ps.map (qY w)))/\Runs F w uP F ps:=by
 have hl:=yO fl
 have hw:0<w:=by have:=fl.w1;omega
 obtain ⟨ps,h1,h2⟩:=zdc (d:=w) (stop:=uP) hw fl.rise (by omega)
 refine ⟨ps,?_,h2⟩
 have hc:zo (zF 0) uK (zI z8 (zB (zA 1) (zB (zA 0) zE))) (F.map PV.int) [none,some (flV w h F)]=some (F.map (ze w uP)):=xk _ _ fun a _=>⟨_,rfl,rfl,by
  simp [z8,fnV,xZ,ze,uP]⟩
 simp [yA,fnV,xb,show F.length≤100000 by omega,cE,hc,h1]
theorem kE(d:Int)(x:Int × Nat):zQ (qY d x)=true:=by simp [qY]
noncomputable def zD(w:Int)(rs cs:List (Int × Nat)):List (List Int):=rs.map (fun x=>zP 1 x.1 x.2)++cs.map (fun x=>zP w x.1 x.2)
noncomputable def zT(z:Str × List Int):PV:=.tup [.str z.1,.tup (z.2.map PV.int)]
noncomputable def vC(w:Int)(rs cs:List (Int × Nat)):List (Str × List Int):=rs.map (fun x=>(Str.ofString "row",zP 1 x.1 x.2))++cs.map (fun x=>(Str.ofString "column",zP w x.1 x.2))
theorem zfN(w:Int)(rs cs:List (Int × Nat)):(vC w rs cs).map (·.2)=zD w rs cs:=by simp [vC,zD,List.map_map,Function.comp_def]
structure Strips (w h:Int) (F:List Int) (rs cs:List (Int × Nat)):Prop where
 fl:IsFloor w h F
 rows:Runs F 1 (xy w) F rs
 cols:Runs F w uP F cs
theorem zeg{w h:Int}{F:List Int}(fl:IsFloor w h F):∃ rs cs,zf [flV w h F]=some (.lst ((vC w rs cs).map zT))/\Strips w h F rs cs:=by
 obtain ⟨rs,h1,r1⟩:=zaL fl
 obtain ⟨cs,h2,r2⟩:=kK fl
 refine ⟨rs,cs,?_,fl,r1,r2⟩
 have hl:=yO fl
 have l1:=Runs.len r1.toRuns0
 have l2:=Runs.len r2.toRuns0
 have c1:zo (zF 0) uK (xJ (zB (fC (.str "row")) (zB (zh (zA 0)) zE))) (rs.map (qY 1)) [none]=some (rs.map fun x=>zT ("row",zP 1 x.1 x.2)):=xk _ _ fun a _=>⟨_,rfl,rfl,by simp [kE,zT];rfl⟩
 have c2:zo (zF 0) uK (xJ (zB (fC (.str "column")) (zB (zh (zA 0)) zE))) (cs.map (qY w)) [none]=some (cs.map fun x=>zT ("column",zP w x.1 x.2)):=xk _ _ fun a _=>⟨_,rfl,rfl,by simp [kE,zT];rfl⟩
 unfold zf fnV j7
 rw [zG (e:=[some (flV w h F),some (.lst (rs.map fun x=>zT ("row",zP 1 x.1 x.2))),none]) (by simp [h1,show rs.length≤100000 by omega,cE,c1])]
 rw [zG (e:=[some (flV w h F),some (.lst (rs.map fun x=>zT ("row",zP 1 x.1 x.2))),some (.lst (cs.map fun x=>zT ("column",zP w x.1 x.2)))]) (by simp [h2,show cs.length≤100000 by omega,cE,c2])]
 have e:(vC w rs cs).map zT=(rs.map fun x=>zT ("row",zP 1 x.1 x.2))++(cs.map fun x=>zT ("column",zP w x.1 x.2)):=by simp [vC,List.map_map,Function.comp_def]
 rw [e]
 have d1:isDatas (rs.map fun x=>zT (Str.ofString "row",zP 1 x.1 x.2))=true:=zn _ (fun x=>by simp [zT]) rs
 have d2:isDatas (cs.map fun x=>zT (Str.ofString "column",zP w x.1 x.2))=true:=zn _ (fun x=>by simp [zT]) cs
 simp [zx,d1,d2,show rs.length+cs.length≤100000 by omega]
noncomputable def idx(ls:List (List Int))(f:Int):List Nat:=(List.range ls.length).filter fun k=>decide (f ∈ (ls[k]?).getD [])
theorem zha(ls:List (List Int))(z:List Int)(f:Int):idx (ls++[z]) f=idx ls f++(if f ∈ z then [ls.length] else []):=by
 unfold idx
 rw [Jk,Km,List.range_succ,QO]
 congr 1
 ·refine List.filter_congr fun k hk=>?_
  have:=Jw.mp hk
  rw [Kj this]
 ·by_cases h:f ∈ z<;>simp [h]
theorem j9{n k:Nat}{p:Nat->Bool}(hk:k<n)(h:∀ j,j<n->(p j=true ↔ j=k)):(List.range n).filter p=[k]:=by
 have e:(List.range n).filter p=(List.range n).filter (· == k):=List.filter_congr fun j hj=>by
  rw [Bool.eq_iff_iff,h j (List.mem_range.mp hj)];simp
 rw [e,List.filter_beq,List.nodup_range.count,if_pos (Jw.mpr hk)];rfl
theorem zdx{A B:List (List Int)}{f:Int}{r c:Nat}(hr:r<A.length)(hc:c<B.length)(h1:∀ j,j<A.length->(f ∈ (A[j]?).getD [] ↔ j=r))(h2:∀ j,j<B.length->(f ∈ (B[j]?).getD [] ↔ j=c)):idx (A++B) f=[r,A.length+c]:=by
 unfold idx
 rw [Jk,List.range_add,QO,List.filter_map]
 have e1:(List.range A.length).filter (fun k=>decide (f ∈ ((A++B)[k]?).getD []))=[r]:=j9 hr fun j hj=>by
  rw [Kj hj,decide_eq_true_eq];exact h1 j hj
 have e2:(List.range B.length).filter ((fun k=>decide (f ∈ ((A++B)[k]?).getD [])) ∘ fun x=>A.length+x)=[c]:=j9 hc fun j hj=>by
  simp only [Function.comp_apply,decide_eq_true_eq]
  rw [KN (QD _ _),Qn]
  exact h2 j hj
 rw [e1,e2];rfl
theorem Strips.pair{w h:Int}{F:List Int}{rs cs:List (Int × Nat)}(S:Strips w h F rs cs){f:Int}(hf:f ∈ F):∃ r c:Nat,idx (zD w rs cs) f=[r,c]/\r<rs.length/\rs.length≤c/\c<rs.length+cs.length:=by
 have nd:=yL S.fl.rise
 obtain ⟨r,hr,h1⟩:=Runs.one S.rows (fun _ h=>h) nd hf
 obtain ⟨c,hc,h2⟩:=Runs.one S.cols (fun _ h=>h) nd hf
 refine ⟨r,rs.length+c,?_,hr,by omega,by omega⟩
 have:=zdx (A:=rs.map fun x=>zP 1 x.1 x.2) (B:=cs.map fun x=>zP w x.1 x.2) (f:=f) (r:=r) (c:=c) (by simpa using hr) (by simpa using hc)
  (fun j hj=>by
   have hj':j<rs.length:=by simpa using hj
   rw [Jd hj,QE]
   exact h1 j _ (Jd hj'))
  (fun j hj=>by
   have hj':j<cs.length:=by simpa using hj
   rw [Jd hj,QE]
   exact h2 j _ (Jd hj'))
 rw [Jt] at this
 exact this
theorem Strips.sub{w h:Int}{F:List Int}{rs cs:List (Int × Nat)}(S:Strips w h F rs cs){z:List Int}(hz:z ∈ zD w rs cs):z.Nodup/\∀ f ∈ z,f ∈ F:=by
 unfold zD at hz
 rcases List.mem_append.mp hz with hz | hz
 ·obtain ⟨x,hx,rfl⟩:=Jp.mp hz
  exact ⟨wo (by decide) _ _,fun f hf=>by obtain ⟨i,hi,rfl⟩:=mem_chain.mp hf;exact (S.rows.inn x hx i hi).1⟩
 ·obtain ⟨x,hx,rfl⟩:=Jp.mp hz
  exact ⟨wo (by have:=S.fl.w1;omega) _ _,fun f hf=>by obtain ⟨i,hi,rfl⟩:=mem_chain.mp hf;exact (S.cols.inn x hx i hi).1⟩
noncomputable def ve(ls:List (List Int))(f:Int):PV:=.tup ((idx ls f).map fun (k:Nat)=>PV.int k)
theorem ul(l:List Nat):isDatas (l.map fun (k:Nat)=>PV.int k)=true:=zn _ (fun _=>rfl) l
theorem zab{src:PV}{zs:List (Str × List Int)}{F:List Int}(hs:zf [src]=some (.lst (zs.map zT)))(hz:∀ z ∈ zs,z.2.Nodup/\∀ f ∈ z.2,f ∈ F)(hF:F.Nodup)(hl:F.length≤1000)(hzl:zs.length≤1000):
  ∃ L G,zp [src]=some (dF L G)/\(∀ f,f ∈ L ↔ ∃ z ∈ zs,f ∈ z.2)/\∀ f ∈ L,G f=ve (zs.map (·.2)) f:=by
 let mk:List Int->(Int->PV)->Option PV->Option PV->Option PV->En:=fun L G x y z=>[some src,some (dF L G),x,y,z]
 obtain ⟨e,h1,L,G,x,y,z,rfl,nd,mm,hG⟩:=yq (b:=vg 2 (yE (zF 2) (yE (zF 3) uT))) (g:=ya) (xs:=zs.zipIdx) (hh:=fun z=>PV.tup [.int (z.2:Int),zT z.1]) (env:=mk [] (fun _=>.non) none none none)
  (fun pre e=>∃ L G x y z,e=mk L G x y z/\L.Nodup/\(∀ f,f ∈ L ↔ ∃ z ∈ pre.map (·.1),f ∈ z.2)/\∀ f ∈ L,G f=ve ((pre.map (·.1)).map (·.2)) f)
  ⟨[],_,none,none,none,rfl,.nil,by simp,by simp⟩ (by
   rintro pre ⟨a,n⟩ post e hpre ⟨L,G,x,y,z,rfl,nd,mm,hG⟩
   have hn:n=pre.length:=by
    have:=List.getElem?_zipIdx (l:=zs) (i:=0) (j:=pre.length)
    rw [hpre,KN (Jm _),Nat.sub_self,List.getElem?_cons_zero] at this
    cases hq:zs[pre.length]? with
    | none=>rw [hq] at this;cases this
    | some q=>rw [hq] at this;simp at this;exact this.2
   have ha:a ∈ zs:=by
    have h:(a,n) ∈ zs.zipIdx:=by rw [hpre];simp
    have:=List.mem_map_of_mem (f:=Prod.fst) h
    rwa [QI] at this
   have hpz:∀ z ∈ pre.map (·.1),z ∈ zs:=fun z hzz=>by
    obtain ⟨q,hq,rfl⟩:=Jp.mp hzz
    have h:q ∈ zs.zipIdx:=by rw [hpre];exact Jr _ hq
    have:=List.mem_map_of_mem (f:=Prod.fst) h
    rwa [QI] at this
   obtain ⟨and,asub⟩:=hz a ha
   generalize hls:(pre.map (·.1)).map (·.2)=ls at hG
   have hln:ls.length=n:=by rw [← hls,hn];simp
   have mm0:∀ f,f ∈ L ↔ ∃ z ∈ ls,f ∈ z:=fun f=>by
    rw [mm f,← hls]
    exact ⟨fun ⟨z,h1,h2⟩=>⟨z.2,Jp.mpr ⟨z,h1,rfl⟩,h2⟩,fun ⟨z,h1,h2⟩=>by obtain ⟨q,hq,rfl⟩:=Jp.mp h1;exact ⟨q,hq,h2⟩⟩
   have lsub:∀ z ∈ ls,∀ f ∈ z,f ∈ F:=fun z hzz f hf=>by
    rw [← hls] at hzz
    obtain ⟨q,hq,rfl⟩:=Jp.mp hzz
    exact (hz q (hpz q hq)).2 f hf
   obtain ⟨e',g1,L',G',z',rfl,nd',mm',hG'⟩:=yq (b:=zF 4) (g:=yc) (xs:=a.2) (hh:=PV.int) (env:=mk L G (some (.int n)) (some (zT a)) z)
    (fun q e=>∃ L G z,e=mk L G (some (.int n)) (some (zT a)) z/\L.Nodup/\(∀ f,f ∈ L ↔ (∃ z ∈ ls,f ∈ z)∨f ∈ q)/\∀ f ∈ L,G f=.tup ((idx ls f++if f ∈ q then [n] else []).map fun (k:Nat)=>PV.int k))
    ⟨L,G,z,rfl,nd,by simpa using mm0,fun f hf=>by rw [hG f hf];simp [ve]⟩ (by
     rintro q f post e hq ⟨L,G,z,rfl,nd,mm,hG⟩
     have hfa:f ∈ a.2:=by rw [hq];simp
     have nfq:f ∉ q:=by
      rw [hq,JJ] at and
      exact fun h=>and.2.2 f h f Jc rfl
     have Lsub:∀ f ∈ L,f ∈ F:=fun g hg=>by
      rcases (mm g).mp hg with ⟨z,h1,h2⟩ | h
      ·exact lsub z h1 g h2
      ·exact asub g (by rw [hq];exact Jr _ h)
     have Ll:L.length≤1000:=JV (zS L F nd Lsub) hl
     have hD:kP L G:=fun p hp=>by rw [hG p hp];simp only [kF,ul]
     have hget:=zlX (p:=f) (x:=.tup []) hD rfl
     have hval:(if f ∈ L then G f else PV.tup [])=.tup ((idx ls f).map fun (k:Nat)=>PV.int k):=by
      by_cases h:f ∈ L
      ·rw [if_pos h,hG f h,if_neg nfq,JR]
      ·rw [if_neg h]
       have:idx ls f=[]:=by
        unfold idx
        rw [List.filter_eq_nil_iff]
        intro k hk hc
        have hk':=Jw.mp hk
        rw [decide_eq_true_eq,Jd hk'] at hc
        exact h ((mm f).mpr (.inl ⟨_,JP hk',hc⟩))
       rw [this];rfl
     rw [hval] at hget
     have hput:=zbS (p:=f) (q:=.tup ((idx ls f++[n]).map fun (k:Nat)=>PV.int k)) hD (by simp only [kF,ul]) (show L.length<100000 by omega)
     refine ⟨mk L G (some (.int n)) (some (zT a)) (some (.int f)),mk (if f ∈ L then L else L++[f]) (upF G f (.tup ((idx ls f++[n]).map fun (k:Nat)=>PV.int k))) (some (.int n)) (some (zT a)) (some (.int f)),rfl,.inl ?_,_,_,_,rfl,?_,?_,?_⟩
     ·have hil:(idx ls f).length≤ls.length:=by unfold idx;exact Nat.le_trans (List.length_filter_le _ _) (by simp)
      have hadd:zx (.tup ((idx ls f).map fun (k:Nat)=>PV.int k)) (.tup [.int n])=some (.tup ((idx ls f++[n]).map fun (k:Nat)=>PV.int k)):=by
       have nl:n≤1000:=by
        have:=congrArg List.length hpre
        rw [List.length_zipIdx,Jk,JH] at this
        omega
       simp [zx,ul,show (idx ls f).length+1≤100000 by omega]
      unfold yc wg
      simp only [yh,zhp,mk,zah,zhM,yU,zhN,List.getElem?_cons_succ,List.getElem?_cons_zero,Option.join_some,Option.bind_some,Option.map_some,hget,hadd,hput]
      rfl
     ·split
      ·exact nd
      ·rename_i h
       exact List.nodup_append.mpr ⟨nd,by simp,fun a ha b hb=>by rw [List.mem_singleton.mp hb];exact fun e=>h (e ▸ ha)⟩
     ·intro g
      rw [JK,Jh,← or_assoc,← mm g]
      split
      ·rename_i h
       exact ⟨.inl,fun z=>z.elim id fun e=>e ▸ h⟩
      ·rw [JK,Jh]
     ·intro g hg
      by_cases e:g=f
      ·subst e
       rw [vn,if_pos (by simp)]
      ·rw [qQ e,hG g (by
        split at hg
        ·exact hg
        ·exact (JK.mp hg).resolve_right fun z=>e (Jh.mp z))]
       have:(g ∈ q++[f]) ↔ g ∈ q:=by simp [e]
       simp only [this])
   refine ⟨mk L G (some (.int n)) (some (zT a)) z,mk L' G' (some (.int n)) (some (zT a)) z',by simp [vg,yE,uT,mk],.inl ?_,_,_,_,_,_,rfl,nd',?_,?_⟩
   ·unfold ya
    rw [xS]
    have:zV (fOp vIx (zA 3) (fC (.int 1))) (mk L G (some (.int n)) (some (zT a)) z)=some (a.2.map PV.int):=by simp [mk,zT]
    rw [this,Je]
    exact g1
   ·intro f
    rw [mm' f,← hls]
    simp only [List.map_append,List.map_cons,List.map_nil,List.mem_append,List.mem_singleton,List.mem_map]
    constructor
    ·rintro (⟨z,⟨q,hq,rfl⟩,hf⟩ | hf)
     ·exact ⟨q,.inl hq,hf⟩
     ·exact ⟨a,.inr rfl,hf⟩
    ·rintro ⟨z,hz | rfl,hf⟩
     ·exact .inl ⟨z.2,⟨z,hz,rfl⟩,hf⟩
     ·exact .inr hf
   ·intro f hf
    rw [hG' f hf]
    simp only [List.map_append,List.map_cons,List.map_nil,ve]
    rw [hls,zha,hln,KA])
 refine ⟨L,G,?_,fun f=>?_,fun f hf=>?_⟩
 ·unfold zp fnV wZ
  rw [zG (e:=mk [] (fun _=>.non) none none none) (by simp [mk];rfl)]
  rw [zG (e:=mk L G x y z) (by
   rw [xS]
   have:uh (zB (zI zf (zB (zA 0) zE)) zE) (mk [] (fun _=>.non) none none none)=some (zs.zipIdx.map fun z=>PV.tup [.int (z.2:Int),zT z.1]):=by
    simp [uh,mk,hs,uN,List.zipIdx_map,List.map_map,Function.comp_def]
   rw [this,Je]
   exact h1)]
  simp [mk]
 ·rw [mm f,QI]
 ·rw [hG f hf,QI]
theorem Strips.lens{w h:Int}{F:List Int}{rs cs:List (Int × Nat)}(S:Strips w h F rs cs):rs.length≤36/\cs.length≤36:=by
 have:=yO S.fl
 have l1:=Runs.len S.rows.toRuns0
 have l2:=Runs.len S.cols.toRuns0
 omega
theorem jT(w:Int)(rs cs:List (Int × Nat)):(zD w rs cs).length=rs.length+cs.length:=by simp [zD]
theorem zhD{w h:Int}{F:List Int}(fl:IsFloor w h F):∃ rs cs,Strips w h F rs cs/\zf [flV w h F]=some (.lst ((vC w rs cs).map zT))/\
  ∃ L G,zp [flV w h F]=some (dF L G)/\(∀ f,f ∈ L ↔ f ∈ F)/\∀ f ∈ F,G f=ve (zD w rs cs) f:=by
 obtain ⟨rs,cs,h1,S⟩:=zeg fl
 refine ⟨rs,cs,S,h1,?_⟩
 have hz:∀ z ∈ vC w rs cs,z.2.Nodup/\∀ f ∈ z.2,f ∈ F:=fun z hz=>S.sub (by rw [← zfN];exact Jp.mpr ⟨z,hz,rfl⟩)
 obtain ⟨L,G,e,m,g⟩:=zab h1 hz (yL fl.rise) (by have:=yO fl;omega) (by have:=S.lens;simp [vC];omega)
 have mm:∀ f,f ∈ L ↔ f ∈ F:=fun f=>by
  rw [m f]
  refine ⟨fun ⟨z,h1,h2⟩=>(hz z h1).2 f h2,fun hf=>?_⟩
  obtain ⟨x,hx,i,hi,e⟩:=S.rows.cov f hf
  exact ⟨(Str.ofString "row",zP 1 x.1 x.2),Jr _ (Jp.mpr ⟨x,hx,rfl⟩),mem_chain.mpr ⟨i,hi,e⟩⟩
 refine ⟨L,G,e,mm,fun f hf=>?_⟩
 rw [g f ((mm f).mpr hf),zfN]
structure Cross (w h:Int) (F:List Int) (ls:List (List Int)) (L:List Int) (G:Int->PV):Prop where
 val:zp [flV w h F]=some (dF L G)
 mem:∀ f,f ∈ L ↔ f ∈ F
 at':∀ f ∈ F,G f=ve ls f
theorem Cross.ix{w h:Int}{F:List Int}{ls:List (List Int)}{L:List Int}{G:Int->PV}(C:Cross w h F ls L G){f:Int}(hf:f ∈ F){r c:Nat}(hi:idx ls f=[r,c]):vIx (dF L G) (.int f)=some (.tup [.int r,.int c]):=by
 rw [zgW ((C.mem f).mpr hf),C.at' f hf]
 simp [ve,hi]
noncomputable def rc(ls:List (List Int))(f:Int):Nat × Nat:=match idx ls f with | [r,c]=>(r,c) | _=>(0,0)
theorem zeY{w h:Int}{F:List Int}(fl:IsFloor w h F):∃ rs cs L G,Strips w h F rs cs/\zf [flV w h F]=some (.lst ((vC w rs cs).map zT))/\Cross w h F (zD w rs cs) L G:=by
 obtain ⟨rs,cs,S,h1,L,G,h2,h3,h4⟩:=zhD fl
 exact ⟨rs,cs,L,G,S,h1,h2,h3,h4⟩
theorem Strips.pairX{w h:Int}{F:List Int}{rs cs:List (Int × Nat)}(S:Strips w h F rs cs){f:Int}(hf:f ∈ F):∃ r c:Nat,idx (zD w rs cs) f=[r,rs.length+c]/\r<rs.length/\c<cs.length/\(∀ j x,rs[j]?=some x->(f ∈ zP 1 x.1 x.2 ↔ j=r))/\∀ j x,cs[j]?=some x->(f ∈ zP w x.1 x.2 ↔ j=c):=by
 have nd:=yL S.fl.rise
 obtain ⟨r,hr,h1⟩:=Runs.one S.rows (fun _ h=>h) nd hf
 obtain ⟨c,hc,h2⟩:=Runs.one S.cols (fun _ h=>h) nd hf
 refine ⟨r,c,?_,hr,hc,h1,h2⟩
 have:=zdx (A:=rs.map fun x=>zP 1 x.1 x.2) (B:=cs.map fun x=>zP w x.1 x.2) (f:=f) (r:=r) (c:=c) (by simpa using hr) (by simpa using hc)
  (fun j hj=>by
   have hj':j<rs.length:=by simpa using hj
   rw [Jd hj,QE]
   exact h1 j _ (Jd hj'))
  (fun j hj=>by
   have hj':j<cs.length:=by simpa using hj
   rw [Jd hj,QE]
   exact h2 j _ (Jd hj'))
 rw [Jt] at this
 exact this
theorem Strips.rc_of{w h:Int}{F:List Int}{rs cs:List (Int × Nat)}(S:Strips w h F rs cs){f:Int}(hf:f ∈ F):idx (zD w rs cs) f=[(rc (zD w rs cs) f).1,(rc (zD w rs cs) f).2]/\(rc (zD w rs cs) f).1<rs.length/\rs.length≤(rc (zD w rs cs) f).2/\(rc (zD w rs cs) f).2<rs.length+cs.length:=by
 obtain ⟨r,c,h1,h2,h3,h4⟩:=S.pair hf
 simp only [rc,h1]
 exact ⟨trivial,h2,h3,h4⟩
theorem Runs.next_in{F:List Int}{d:Int}{stop:Int->Bool}{ps:List (Int × Nat)}(r:Runs0 F d stop F ps){x:Int × Nat}(hx:x ∈ ps){p:Int}(hp:p ∈ zP d x.1 x.2)(hq:p+d ∈ F)(hs:stop (p+d)=false):p+d ∈ zP d x.1 x.2:=by
 obtain ⟨i,hi,rfl⟩:=mem_chain.mp hp
 have e:x.1+i * d+d=x.1+((i+1:Nat):Int) * d:=by rw [qR];omega
 rw [e] at hq hs ⊢
 by_cases h:i+1<x.2
 ·exact mem_chain.mpr ⟨i+1,h,rfl⟩
 ·have hx2:x.2=i+1:=by omega
  have:=r.mx x hx
  rw [hx2] at this
  rw [this hq] at hs
  cases hs
theorem Strips.row_next{w h:Int}{F:List Int}{rs cs:List (Int × Nat)}(S:Strips w h F rs cs){p:Int}(hp:p ∈ F)(hq:p+1 ∈ F)(hd:p / w=(p+1) / w):(rc (zD w rs cs) p).1=(rc (zD w rs cs) (p+1)).1:=by
 obtain ⟨r,c,h1,h2,h3,h4,h5⟩:=S.pairX hp
 obtain ⟨r',c',g1,g2,g3,g4,g5⟩:=S.pairX hq
 simp only [rc,h1,g1]
 have hx:rs[r]?=some rs[r]:=Jd h2
 have:=Runs.next_in S.rows.toRuns0 (JP h2) ((h4 r _ hx).mpr rfl) hq (by
  unfold xy
  refine decide_eq_false fun hz=>?_
  have hm:=(zaE S.fl.w1 (zfV S.fl.w1 hd)).2
  have:=S.fl.w1
  have:=JU p (show w≠0 by omega)
  omega)
 exact (g4 r _ hx).mp this
theorem Strips.col_next{w h:Int}{F:List Int}{rs cs:List (Int × Nat)}(S:Strips w h F rs cs){p:Int}(hp:p ∈ F)(hq:p+w ∈ F):(rc (zD w rs cs) p).2=(rc (zD w rs cs) (p+w)).2:=by
 obtain ⟨r,c,h1,h2,h3,h4,h5⟩:=S.pairX hp
 obtain ⟨r',c',g1,g2,g3,g4,g5⟩:=S.pairX hq
 simp only [rc,h1,g1]
 have hx:cs[c]?=some cs[c]:=Jd h3
 have:=Runs.next_in S.cols.toRuns0 (JP h3) ((h5 c _ hx).mpr rfl) hq rfl
 rw [(g5 c _ hx).mp this]
noncomputable def wc:FS:=(zO (yj (fT (fOp vLt (zA 1) (zI wJ (zB (zA 0) zE)))) (yQ (zh (fOp vIx (zA 0) (zA 1)))) fNx)
 (zO (zW 2 (fOp zx (fOp zx (fOp zi (fOp zi (zA 1) (zA 1)) (fC (.int 7919))) (fOp zi (fC (.int 104729)) (zA 1))) (fC (.int 11))))
 (zO (yj (fT (fOp vGt (zI wJ (zB (zA 0) zE)) (fC (.int 0)))) (zW 2 (fOp zx (zA 2) (fOp zi (fOp vIx (zA 0) (fOp xU (zA 1) (zI wJ (zB (zA 0) zE)))) (fOp zx (zA 1) (fC (.int 3)))))) fNx)
 (yQ (fOp xU (fOp zi (zA 2) (zA 2)) (fC (.int 2147483629)))))))
noncomputable def za:List PV->Option PV:=fnV 3 wc
noncomputable def yT:FS:=(yj (fT (fOp vEq (fOp xU (zI za (zB (zA 0) (zB (fC (.int 0)) zE))) (fC (.int 2))) (fC (.int 0)))) (zO (zY 5 (fOp xU (zA 4) (zA 3)))
 (zW 4 (fOp ye (zA 4) (zA 3)))) (zO (zW 7 (fOp xU (fOp zx (fOp zx (fOp zi (fOp xU (zA 4) (fC (.int 2147483647))) (fOp zx (fOp zi (fC (.int 2)) (zA 6)) (fC (.int 69621)))) (fOp zi (fOp zi (zA 6) (zA 6)) (fC (.int 48271)))) (fC (.int 7))) (fC (.int 2147483629))))
 (zO (zW 8 (fOp xU (fOp zi (fOp xU (fOp zi (zA 7) (zA 7)) (fC (.int 2147483587))) (fC (.int 16807))) (fC (.int 2147483647))))
 (zY 5 (fOp xU (fOp ye (zA 8) (fC (.int 7))) (zA 3))))))
noncomputable def vZ:FS:=(zO (zW 4 (zI za (zB (zA 0) (zB (zA 1) zE))))
 (zO (zW 5 (xL zE))
 (zO (yP (xQ (zB (zA 2) zE)) (zF 6) yT)
 (yQ (zA 5)))))
noncomputable def yN:List PV->Option PV:=fnV 9 vZ
noncomputable def yn:FS:=(yj (zbp (fT (fOp vGe (zA 4) (fC (.int 0)))) (fT (fOp vEq (fOp ye (zA 4) (zA 0)) (fOp ye (zA 2) (zA 0))))) (zY 3 (zh (zA 4))) fNx)
noncomputable def ym:FS:=(yj (fT (yk vLe vLt (fC (.int 0)) (zA 4) (fOp zi (zA 0) (zA 1)))) (zY 3 (zh (zA 4))) fNx)
noncomputable def xc:FS:=(zO (zW 3 (xL zE))
 (zO (yP (zV (xL (zB (fOp wN (zA 2) (fC (.int 1))) (zB (fOp zx (zA 2) (fC (.int 1))) zE)))) (zF 4) yn)
 (zO (yP (zV (xL (zB (fOp wN (zA 2) (zA 0)) (zB (fOp zx (zA 2) (zA 0)) zE)))) (zF 4) ym)
 (yQ (zA 3)))))
noncomputable def yB:List PV->Option PV:=fnV 5 xc
noncomputable def zc:FT:=(fT (fOp vGt (zI wJ (zB (zA 5) zE)) (fC (.int 0))))
noncomputable def zj:FS:=(zO (zeJ 6 5)
 (yj (fT (fOp xr (zA 6) (zA 4))) (zO (wg 4 (zA 6) (fC (.bl true)))
 (yR 5 (fLC (zV (zI yB (zB (zA 0) (zB (zA 1) (zB (zA 6) zE))))) 1 [3] (zF 0) (fT (fOp vB (zA 0) (zA 1))) (zh (zA 0))))) fNx))
noncomputable def wC:FS:=(zO (zW 4 ui)
 (zO (zW 5 (fLC (zV (zA 2)) 1 [3] (zF 0) (fT (fOp vB (zA 0) (zA 1))) (zh (zA 0))))
 (zO (fWh zc zj 1000000)
 (yQ (zA 4)))))
noncomputable def zg:List PV->Option PV:=fnV 7 wC
noncomputable def yY:FS:=(yj (fOr (fT (fOp vB (fOp xU (zA 5) (zA 0)) (xJ (zB (fC (.int 0)) (zB (fOp wN (zA 0) (fC (.int 1))) zE))))) (fT (fOp vB (fOp ye (zA 5) (zA 0)) (xJ (zB (fC (.int 0)) (zB (fOp wN (zA 1) (fC (.int 1))) zE)))))) (zY 4 (zh (zA 5))) fNx)
noncomputable def xF:FS:=(zO (zW 3 (fLC (xQ (zB (fOp zi (zA 0) (zA 1)) zE)) 1 [2] (zF 0) (fT (fOp xr (zA 0) (zA 1))) (zh (zA 0))))
 (zO (zW 4 (xL zE))
 (zO (yP (zV (zA 3)) (zF 5) yY)
 (yQ (zI zg (zB (zA 0) (zB (zA 1) (zB (zA 4) (zB (zA 3) zE)))))))))
noncomputable def zr:List PV->Option PV:=fnV 6 xF
noncomputable def wB:FS:=(zO (zbo (vg 2 (yE (zF 2) (yE (zF 3) uT))) (fLC (zV (zI yN (zB (zA 0) (zB (zA 1) (zB (fC (.int 2)) (zB (fC (.int 6)) zE)))))) 1 [] (zF 0) uK (fOp zx (fC (.int 1)) (zA 0))))
 (zO (zW 4 (zI yN (zB (zA 0) (zB (fOp zx (zA 1) (fC (.int 1))) (zB (fOp zi (zA 2) (zA 3)) (zB (fOp zx (fC (.int 2)) (fOp zi (fC (.int 2)) (fOp xU (zI za (zB (zA 0) (zB (fC (.int 0)) zE))) (fC (.int 2))))) zE))))))
 (zO (yj (fT (fOp vEq (fOp xU (zI za (zB (zA 0) (zB (fC (.int 0)) zE))) (fC (.int 8))) (fC (.int 3)))) (zW 4 (fOp zi (xL (zB (fC (.int 1)) zE)) (fOp zi (zA 2) (zA 3)))) fNx)
 (zO (zW 5 (fLC (xQ (zB (fOp zi (zA 2) (zA 3)) zE)) 1 [4] (zF 0) (fT (fOp vGt (fOp vIx (zA 1) (zA 0)) (fC (.int 0)))) (zh (zA 0))))
 (zO (yj (fT (fOp vEq (zA 5) (xL zE))) (zW 5 (xL (zB (fOp wN (fOp zi (zA 2) (zA 3)) (fC (.int 1))) zE))) fNx)
 (zO (zW 6 (zI zg (zB (zA 2) (zB (zA 3) (zB (fSl (zA 5) qz (zdC (fC (.int 1)))) (zB (zA 5) zE))))))
 (zO (zW 7 (zI zr (zB (zA 2) (zB (zA 3) (zB (zA 6) zE)))))
 (yQ (xJ (zB (zh (zA 2)) (zB (zh (zA 3)) (zB (zI vN (zB (fLC (xQ (zB (fOp zi (zA 2) (zA 3)) zE)) 1 [7] (zF 0) (fT (fOp xr (zA 0) (zA 1))) (zh (zA 0))) zE)) zE))))))))))))
noncomputable def yK:List PV->Option PV:=fnV 8 wB
structure Scr (ns:List Int):Prop where
 len:ns.length≤63
 bits:∀ m ∈ ns,Builtin.Int.intBits m≤1048576
noncomputable abbrev scr(ns:List Int):PV:=.fls (ns.map PV.int)
theorem zac{ns:List Int}(S:Scr ns){k:Int}(k0:0≤k)(k1:k≤1000):∃ n,za [scr ns,.int k]=some (.int n):=by
 have kk:0≤k * k/\k * k≤1000000:=⟨Int.mul_nonneg k0 k0,by have:=Int.mul_le_mul k1 k1 k0 (by omega:(0:Int)≤1000);omega⟩
 have b0:Builtin.Int.intBits (k * k * 7919+104729 * k+11)≤64:=intBits_le_64 (by omega) (by omega)
 unfold za fnV wc scr
 by_cases h1:k<(ns.length:Int)
 ·simp [h1,zaf,yg k0 h1]
  have hj:k.toNat<ns.length:=by omega
  simp [List.getElem?_eq_getElem hj]
 ·simp [h1,wH (i:=k) (j:=k) ⟨by omega,by omega⟩,wH (i:=k * k) (j:=7919) ⟨by omega,by omega⟩,zgF (i:=104729) (j:=k) ⟨by omega,by omega⟩]
  by_cases h2:(0:Int)<(ns.length:Int)
  ·have hm:0≤k % (ns.length:Int)/\k % (ns.length:Int)<ns.length:=⟨JU _ (by omega),JN _ h2⟩
   have hj:(k % (ns.length:Int)).toNat<ns.length:=by omega
   have bn:=S.bits _ (JP hj)
   have bk:Builtin.Int.intBits (k+3)≤64:=intBits_le_64 (by omega) (by omega)
   have bm:=PySem.intBits_mul_le bn bk
   have bs:=PySem.intBits_add_le b0 bm
   have h2':0<ns.length:=by omega
   simp [h2',yD h2,zaf,yg hm.1 hm.2,List.getElem?_eq_getElem hj,jm (IntMulOk.of_right bk),jm (PySem.IntMulOk.of_le bs bs (by omega)),yD (show (0:Int)<2147483629 by decide)]
  ·have h2':¬ 0<ns.length:=by omega
   simp [h2',jm (IntMulOk.of_left b0),yD (show (0:Int)<2147483629 by decide)]
theorem zfW{ns:List Int}(S:Scr ns){k n b:Int}(k0:0≤k)(k1:k≤1000)(n0:0≤n)(n1:n≤1000)(b1:1≤b)(b2:b≤1000):
  ∃ ds:List Int,yN [scr ns,.int k,.int n,.int b]=some (.lst (ds.map PV.int))/\ds.length=n.toNat/\∀ d ∈ ds,0≤d/\d<b:=by
 obtain ⟨c,hc⟩:=zac S k0 k1
 obtain ⟨c0,hc0⟩:=zac S (show (0:Int)≤0 by decide) (by decide)
 unfold yN fnV vZ
 have loop:=zjw (b:=zF 6) (g:=yT)
  (ps:=v0 0 n.toNat) (env:=[some (scr ns),some (.int k),some (.int n),some (.int b),some (.int c),some (.lst []),none,none,none])
  (fun pre e=>∃ (c:Int) (ds:List Int) (x6 x7 x8:Option PV),e=[some (scr ns),some (.int k),some (.int n),some (.int b),some (.int c),some (.lst (ds.map PV.int)),x6,x7,x8]/\ds.length=pre.length/\∀ d ∈ ds,0≤d/\d<b)
  ⟨c,[],none,none,none,rfl,rfl,by simp⟩ ?_
 ·obtain ⟨e,h1,c',ds,x6,x7,x8,rfl,h2,h3⟩:=loop
  refine ⟨ds,?_,?_,h3⟩
  ·have hn:n<4611686018427387904/\-4611686018427387904≤n:=by omega
   simp [hc,xQ,hn,h1]
  ·rw [h2,ja]
 ·rintro pre p post e hp ⟨c,ds,x6,x7,x8,rfl,h2,h3⟩
  have hl:(v0 0 n.toNat).length=pre.length+(post.length+1):=by rw [hp];simp
  rw [ja] at hl
  have hj:∃ j:Int,p=.int j/\0≤j/\j≤1000:=by
   have:p ∈ v0 0 n.toNat:=by rw [hp];simp
   rw [zfY] at this
   obtain ⟨j,hj,rfl⟩:=Jp.mp this
   obtain ⟨i,hi,rfl⟩:=Jp.mp hj
   exact ⟨i,rfl,by omega,by have:=Jw.mp hi;omega⟩
  obtain ⟨j,rfl,j0,j1⟩:=hj
  have hlen:ds.length<100000:=by omega
  have jj:0≤j * j/\j * j≤1000000:=⟨Int.mul_nonneg j0 j0,by have:=Int.mul_le_mul j1 j1 j0 (by omega:(0:Int)≤1000);omega⟩
  refine ⟨_,?_,rfl,?_⟩
  ·exact if c0 % 2=0 then [some (scr ns),some (.int k),some (.int n),some (.int b),some (.int (c / b)),some (.lst ((ds++[c % b]).map PV.int)),some (.int j),x7,x8] else
    let o:=(c % 2147483647 * (2 * j+69621)+j * j * 48271+7) % 2147483629
    let w:=o * o % 2147483587 * 16807 % 2147483647
    [some (scr ns),some (.int k),some (.int n),some (.int b),some (.int c),some (.lst ((ds++[w / 7 % b]).map PV.int)),some (.int j),some (.int o),some (.int w)]
  ·by_cases h0:c0 % 2=0
   ·refine ⟨.inl ?_,c / b,ds++[c % b],some (.int j),x7,x8,by simp [h0],by simp [h2],fun d hd=>?_⟩
    ·simp [yT,hc0,yD (show (0:Int)<2 by decide),h0,yD (show 0<b by omega),zY,wy (show 0<b/\b<1073741824 by omega),hlen]
    ·rcases List.mem_append.mp hd with hd | hd
     ·exact h3 d hd
     ·rw [Jh.mp hd];exact ⟨JU _ (by omega),JN _ (by omega)⟩
   ·have c1:0≤c % 2147483647/\c % 2147483647<2147483647:=⟨JU _ (by decide),JN _ (by decide)⟩
    refine ⟨.inl ?_,c,ds++[_],some (.int j),_,_,by simp only [h0,if_false];rfl,by simp [h2],fun d hd=>?_⟩
    ·have o1:∀ z:Int,0≤z % 2147483629/\z % 2147483629<2147483629:=fun z=>⟨JU _ (by decide),JN _ (by decide)⟩
     have o2:∀ z:Int,0≤z % 2147483587/\z % 2147483587<2147483587:=fun z=>⟨JU _ (by decide),JN _ (by decide)⟩
     have q1:=o1 (c % 2147483647 * (2 * j+69621)+j * j * 48271+7)
     generalize hz:(c % 2147483647 * (2 * j+69621)+j * j * 48271+7) % 2147483629=z at q1 ⊢
     have q2:=o2 (z * z)
     generalize hy:z * z % 2147483587=y at q2 ⊢
     simp [yT,hc0,yD (show (0:Int)<2 by decide),h0,zY,hlen,yD (show (0:Int)<2147483647 by decide),yD (show (0:Int)<2147483629 by decide),yD (show (0:Int)<2147483587 by decide),
      wH (i:=c % 2147483647) (j:=2 * j+69621) ⟨by omega,by omega⟩,wH (i:=2) (j:=j) ⟨by omega,by omega⟩,wH (i:=j) (j:=j) ⟨by omega,by omega⟩,wH (i:=j * j) (j:=48271) ⟨by omega,by omega⟩,hz,
      wH (i:=z) (j:=z) ⟨by omega,by omega⟩,hy,wH (i:=y) (j:=16807) ⟨by omega,by omega⟩,wy (show (0:Int)<7/\(7:Int)<1073741824 by decide),yD (show 0<b by omega)]
    ·rcases List.mem_append.mp hd with hd | hd
     ·exact h3 d hd
     ·rw [Jh.mp hd];exact ⟨JU _ (by omega),JN _ (by omega)⟩
noncomputable def zae(w h p:Int)(xs ys:List Int):List Int:=(xs.filter fun o=>decide (0≤o) && decide (o / w=p / w))++ys.filter fun o=>decide (0≤o) && decide (o<w * h)
theorem zcG{w h p:Int}(w1:1≤w)(w6:w≤6)(hp:Place w h p):zae w h p [p - 1,p+1] [p - w,p+w]=yS w h p:=by
 unfold zae yS
 have a1:(decide (0≤p - 1) && decide ((p - 1) / w=p / w))=decide (0<p % w):=by
  rw [← Bool.decide_and];apply decide_eq_decide.mpr;unfold CB.Place at hp;rcases six w1 w6 with rfl | rfl | rfl | rfl | rfl | rfl<;>omega
 have a2:(decide (0≤p+1) && decide ((p+1) / w=p / w))=decide (p % w<w - 1):=by
  rw [← Bool.decide_and];apply decide_eq_decide.mpr;unfold CB.Place at hp;rcases six w1 w6 with rfl | rfl | rfl | rfl | rfl | rfl<;>omega
 have a3:(decide (0≤p - w) && decide (p - w<w * h))=decide (0<p / w):=by
  rw [← Bool.decide_and];apply decide_eq_decide.mpr;unfold CB.Place at hp;rcases six w1 w6 with rfl | rfl | rfl | rfl | rfl | rfl<;>omega
 have a4:(decide (0≤p+w) && decide (p+w<w * h))=decide (p / w<h - 1):=by
  rw [← Bool.decide_and];apply decide_eq_decide.mpr;unfold CB.Place at hp;rcases six w1 w6 with rfl | rfl | rfl | rfl | rfl | rfl<;>omega
 simp only [List.filter_cons,List.filter_nil,a1,a2,a3,a4,decide_eq_true_eq]
 split<;>split<;>split<;>split<;>rfl
theorem zcl{w h p:Int}(w1:1≤w)(w6:w≤6)(hp:CB.Place w h p):yB [.int w,.int h,.int p]=some (.lst ((yS w h p).map PV.int)):=by
 rw [← zcG w1 w6 hp]
 have hm:=wH (i:=w) (j:=h) ⟨by omega,by omega⟩
 have hd:=fun x=>wy (i:=x) (show 0<w/\w<1073741824 by omega)
 obtain ⟨x1,l1⟩:=xH (t:=zbp (fT (fOp vGe (zA 4) (fC (.int 0)))) (fT (fOp vEq (fOp ye (zA 4) (zA 0)) (fOp ye (zA 2) (zA 0))))) 3 4
  (fun acc x=>[some (.int w),some (.int h),some (.int p),some (.lst (acc.map PV.int)),x]) (fun o=>decide (0≤o) && decide (o / w=p / w)) (fun _ _ _=>rfl) (fun _ _ _=>rfl) (fun _ _=>rfl) (fun _ _=>rfl) [p - 1,p+1] [] none
  (fun n _ acc=>by by_cases c:0≤n<;>simp [hd,c]) (by simp)
 obtain ⟨x2,l2⟩:=xH (t:=fT (yk vLe vLt (fC (.int 0)) (zA 4) (fOp zi (zA 0) (zA 1)))) 3 4
  (fun acc x=>[some (.int w),some (.int h),some (.int p),some (.lst (acc.map PV.int)),x]) (fun o=>decide (0≤o) && decide (o<w * h)) (fun _ _ _=>rfl) (fun _ _ _=>rfl) (fun _ _=>rfl) (fun _ _=>rfl) [p - w,p+w] ([]++[p - 1,p+1].filter fun o=>decide (0≤o) && decide (o / w=p / w)) x1
  (fun n _ acc=>by by_cases c:0≤n<;>simp [hm,c]) (by have:=List.length_filter_le (fun o=>decide (0≤o) && decide (o / w=p / w)) [p - 1,p+1];simp only [List.nil_append,List.length_cons,List.length_nil] at this ⊢;omega)
 simp only [List.map_cons,List.map_nil,List.nil_append] at l1 l2
 simp [yB,fnV,xc,yn,ym,l1,l2,zae]
theorem zbl{w h:Int}{S Pl:List Int}(w1:1≤w)(w6:w≤6)(pl:∀ p ∈ Pl,CB.Place w h p)(sz:S.length≤100)(pz:Pl.length≤100):
  ∃ L:List Int,zg [.int w,.int h,.lst (S.map PV.int),.lst (Pl.map PV.int)]=some (u8 L)/\L.Nodup/\∀ p,p ∈ L ↔ Reach (Adj w) (· ∈ Pl) (· ∈ S) p:=by
 have hinit:zo (zF 0) (fT (fOp vB (zA 0) (zA 1))) (zh (zA 0)) (S.map PV.int) [none,some (.lst (Pl.map PV.int))]=some ((S.filter fun n=>decide (n ∈ Pl)).map PV.int):=
  yw (fun n=>decide (n ∈ Pl)) PV.int S fun n _=>⟨_,rfl,by simp,fun _=>by simp⟩
 have fz:(S.filter fun n=>decide (n ∈ Pl)).length≤100:=JV (KR _ _) sz
 let mk:List Int->List Int->Option PV->En:=fun L ws x=>[some (.int w),some (.int h),some (.lst (S.map PV.int)),some (.lst (Pl.map PV.int)),some (u8 L),some (.lst (ws.map PV.int)),x]
 have loop:=zfm (t:=zc) (g:=zj) (fun e=>∃ L ws x,e=mk L ws x/\Dfs (Adj w) (· ∈ Pl) (· ∈ S) L ws/\ws.length≤100+4 * L.length)
  (fun e=>match e with | [_,_,_,_,some (.dct ks _),some (.lst ws),_]=>5 * (Pl.length - ks.length)+ws.length | _=>0) ?_ 1000000 (mk [] (S.filter fun n=>decide (n ∈ Pl)) none)
  ⟨[],_,none,rfl,Dfs.init fun q=>by simp [List.mem_filter],by simpa using fz⟩ (by simp [mk];omega)
 ·obtain ⟨e,h1,⟨L,ws,x,rfl,df,lz⟩,h2⟩:=loop
  have hw:ws=[]:=by
   cases ws with
   | nil=>rfl
   | cons a r=>simp [zc,mk] at h2
  subst hw
  refine ⟨L,?_,df.nd,df.done⟩
  have h1':fWh zc zj 1000000 [some (.int w),some (.int h),some (.lst (S.map PV.int)),some (.lst (Pl.map PV.int)),some (.dct [] []),some (.lst ((S.filter fun n=>decide (n ∈ Pl)).map PV.int)),none]=some (.nx (mk L [] x)):=h1
  have hS:S.length≤100000:=by omega
  simp only [zg,fnV,wC,zjy,zcI,zhO,zkc,uW,zah,kN,List.length_cons,List.length_nil,List.map_cons,List.map_nil]
  simp [cE,hS,hinit,h1',mk]
 ·rintro e ⟨L,ws,x,rfl,df,lz⟩
  have Lz:L.length≤Pl.length:=zS _ _ df.nd fun p hp=>(df.sound p hp).inS
  by_cases hw:ws=[]
  ·subst hw;exact .inl (by simp [zc,mk])
  ·obtain ⟨ws',p,rfl⟩:∃ ws' p,ws=ws'++[p]:=⟨ws.dropLast,ws.getLast hw,(List.dropLast_concat_getLast _).symm⟩
   have hp:p ∈ Pl:=(df.soundW p (by simp)).inS
   refine .inr ⟨by simp [zc,mk],?_⟩
   simp only [List.length_append,List.length_singleton] at lz
   by_cases hL:p ∈ L
   ·refine ⟨mk L ws' (some (.int p)),.inl ?_,⟨L,ws',_,rfl,df.old hL,by omega⟩,by simp [mk]⟩
    simp [zj,mk,zeJ,hL]
   ·have hb:=zcl w1 w6 (pl p hp)
    have hc:zo (zF 0) (fT (fOp vB (zA 0) (zA 1))) (zh (zA 0)) ((yS w h p).map PV.int) [none,some (.lst (Pl.map PV.int))]=some (((yS w h p).filter fun n=>decide (n ∈ Pl)).map PV.int):=
     yw (fun n=>decide (n ∈ Pl)) PV.int _ fun n _=>⟨_,rfl,by simp,fun _=>by simp⟩
    have hbl:=kc w h p
    have hfl:=KR (fun n=>decide (n ∈ Pl)) (yS w h p)
    have hnew:=df.new (nbs:=(yS w h p).filter fun n=>decide (n ∈ Pl)) hL fun q=>by
     rw [Ka,zcg w1 w6 (pl p hp),decide_eq_true_eq]
     exact ⟨fun z=>⟨z.1.2,z.2⟩,fun z=>⟨⟨pl q z.2,z.1⟩,z.2⟩⟩
    have hlL:=zS _ _ hnew.nd fun q hq=>(hnew.sound q hq).inS
    simp only [List.length_append,List.length_singleton] at hlL
    refine ⟨mk (L++[p]) (ws'++(yS w h p).filter fun n=>decide (n ∈ Pl)) (some (.int p)),.inl ?_,⟨_,_,_,rfl,hnew,by simp only [List.length_append,List.length_singleton];omega⟩,by simp [mk];omega⟩
    have hs:=ziM hL (show L.length<100000 by omega)
    have hbl':(yS w h p).length≤100000:=by omega
    have hx:ws'.length+((yS w h p).filter fun n=>decide (n ∈ Pl)).length≤100000:=by omega
    simp [zj,mk,zeJ,hL,wg,hs,yR,cE,hb,hbl',hc,hx]
theorem zmx{w h:Int}(w1:1≤w)(w6:w≤6)(h1:1≤h)(h6:h≤6):1≤w * h/\w * h≤36:=by
 rcases six w1 w6 with rfl | rfl | rfl | rfl | rfl | rfl<;>omega
theorem vT(w h:Int):v0 0 (w * h).toNat=(zK w h).map PV.int:=by rw [zfY];rfl
theorem jc(w h:Int):(zK w h).length=(w * h).toNat:=by simp [zK]
theorem zbY{w h:Int}{x:PV}{m:Int->Bool}(w1:1≤w)(w6:w≤6)(h1:1≤h)(h6:h≤6)(hx:∀ p,vIn (.int p) x=some (m p)):
  ∃ L:List Int,zr [.int w,.int h,x]=some (u8 L)/\L.Nodup/\∀ p,p ∈ L ↔ Reach (Adj w) (fun q=>CB.Place w h q/\m q=false) (Rim w h) p:=by
 have wh:=zmx w1 w6 h1 h6
 have hm:=wH (i:=w) (j:=h) ⟨by omega,by omega⟩
 have hd:=fun x=>wy (i:=x) (show 0<w/\w<1073741824 by omega)
 have hmod:=fun x=>yD (i:=x) (show 0<w by omega)
 have hpl:=jc w h
 have c1:zo (zF 0) (fT (fOp xr (zA 0) (zA 1))) (zh (zA 0)) ((zK w h).map PV.int) [none,some x]=some (((zK w h).filter fun n=>!m n).map PV.int):=
  yw (fun n=>!m n) PV.int _ fun n _=>⟨_,rfl,by simp [hx],fun _=>by simp⟩
 have hbl:=KR (fun n=>!m n) (zK w h)
 obtain ⟨x1,l1⟩:=xH (t:=fOr (fT (fOp vB (fOp xU (zA 5) (zA 0)) (xJ (zB (fC (.int 0)) (zB (fOp wN (zA 0) (fC (.int 1))) zE))))) (fT (fOp vB (fOp ye (zA 5) (zA 0)) (xJ (zB (fC (.int 0)) (zB (fOp wN (zA 1) (fC (.int 1))) zE)))))) 4 5
  (fun acc y=>[some (.int w),some (.int h),some x,some (.lst (((zK w h).filter fun n=>!m n).map PV.int)),some (.lst (acc.map PV.int)),y]) (fun n=>decide (n % w=0∨n % w=w - 1) || decide (n / w=0∨n / w=h - 1)) (fun _ _ _=>rfl) (fun _ _ _=>rfl) (fun _ _=>rfl) (fun _ _=>rfl) ((zK w h).filter fun n=>!m n) [] none
  (fun n _ acc=>by by_cases c:n % w=0∨n % w=w - 1<;>simp [hd,hmod,c]) (by simp only [List.length_nil];omega)
 have mem:∀ q,q ∈ (zK w h).filter (fun n=>!m n) ↔ CB.Place w h q/\m q=false:=fun q=>by rw [List.mem_filter,mem_places];simp
 obtain ⟨L,f1,f2,f3⟩:=zbl (w:=w) (h:=h) (S:=((zK w h).filter fun n=>!m n).filter fun n=>decide (n % w=0∨n % w=w - 1) || decide (n / w=0∨n / w=h - 1)) (Pl:=(zK w h).filter fun n=>!m n) w1 w6
  (fun p hp=>((mem p).mp hp).1) (by have:=KR (fun n=>decide (n % w=0∨n % w=w - 1) || decide (n / w=0∨n / w=h - 1)) ((zK w h).filter fun n=>!m n);omega) (by omega)
 refine ⟨L,?_,f2,fun p=>?_⟩
 ·have hb:w * h<4611686018427387904/\-4611686018427387904≤w * h:=by omega
  have hpl':(zK w h).length≤100000:=by omega
  simp only [List.map_nil,List.nil_append] at l1
  generalize (((zK w h).filter fun n=>!m n).filter fun n=>decide (n % w=0∨n % w=w - 1) || decide (n / w=0∨n / w=h - 1))=E at l1 f1
  generalize ((zK w h).filter fun n=>!m n)=bare at l1 f1 c1
  simp [zr,fnV,xF,yY,xQ,hm,hb,vT,hpl',cE,c1,l1,f1]
 ·rw [f3 p]
  have rim:∀ q,q ∈ (((zK w h).filter fun n=>!m n).filter fun n=>decide (n % w=0∨n % w=w - 1) || decide (n / w=0∨n / w=h - 1)) ↔ (CB.Place w h q/\m q=false)/\Rim w h q:=fun q=>by
   rw [Ka,mem]
   unfold Rim
   simp only [Bool.or_eq_true,decide_eq_true_eq]
   exact ⟨fun z=>⟨z.1,by omega⟩,fun z=>⟨z.1,by omega⟩⟩
  exact ⟨fun r=>r.mono (fun q a s=>.start ((rim q).mp a).2 ((mem q).mp s)) fun q r=>(mem q).mp r.inS,fun r=>r.mono (fun q a s=>.start ((rim q).mpr ⟨s,a⟩) ((mem q).mpr s)) fun q r=>(mem q).mpr r.inS⟩
theorem zhk{ns:List Int}(S:Scr ns){k:Int}(k0:0≤k)(k1:k≤900):∃ w h F,yK [scr ns,.int k]=some (flV w h F)/\IsFloor w h F:=by
 obtain ⟨ds,r1,r2,r3⟩:=zfW S k0 (show k≤1000 by omega) (show (0:Int)≤2 by decide) (by decide) (show (1:Int)≤6 by decide) (by decide)
 obtain ⟨d1,d2,rfl⟩:∃ d1 d2,ds=[d1,d2]:=by
  match ds,r2 with
  | [a,b],_=>exact ⟨a,b,rfl⟩
 obtain ⟨a1,a2⟩:=r3 d1 (by simp)
 obtain ⟨b1,b2⟩:=r3 d2 (by simp)
 obtain ⟨c0,hc0⟩:=zac S (show (0:Int)≤0 by decide) (by decide)
 generalize hw:1+d1=w
 generalize hh:1+d2=h
 have w1:1≤w:=by omega
 have w6:w≤6:=by omega
 have h1:1≤h:=by omega
 have h6:h≤6:=by omega
 have wh:=zmx w1 w6 h1 h6
 have hm:=wH (i:=w) (j:=h) ⟨by omega,by omega⟩
 have hc2:0≤c0 % 2/\c0 % 2<2:=⟨JU _ (by decide),JN _ (by decide)⟩
 obtain ⟨es,e1,e2,e3⟩:=zfW S (show 0≤k+1 by omega) (show k+1≤1000 by omega) (show 0≤w * h by omega) (by omega) (show 1≤2+2 * (c0 % 2) by omega) (by omega)
 -- the digits,all 1 at times
 obtain ⟨ds,hds,dl⟩:∃ ds:List Int,(if c0 % 8=3 then List.replicate (w * h).toNat 1 else es)=ds/\ds.length=(w * h).toNat:=by
  refine ⟨_,rfl,?_⟩
  split
  ·simp
  ·exact e2
 have hpl:=jc w h
 have c1:∀ x,zo (zF 0) (fT (fOp vGt (fOp vIx (zA 1) (zA 0)) (fC (.int 0)))) (zh (zA 0)) ((zK w h).map PV.int) [x,some (.lst (ds.map PV.int))]=some (((zK w h).filter fun n=>decide (0<ds.getD n.toNat 0)).map PV.int):=fun x=>
  yw (fun n=>decide (0<ds.getD n.toNat 0)) PV.int _ fun n hn=>by
   have hp:=mem_places.mp hn
   unfold CB.Place at hp
   have hj:n.toNat<ds.length:=by omega
   have hg:atI (ds.map PV.int) n=some (.int (ds.getD n.toNat 0)):=by
    rw [zaf,yg hp.1 (by omega),Jd hj]
    simp [List.getD,List.getElem?_eq_getElem hj]
   exact ⟨_,rfl,by simp [hg],fun _=>by simp⟩
 -- the drawn zK,one at least
 obtain ⟨so,hso,sn,spl⟩:∃ so:List Int,(if ((zK w h).filter fun n=>decide (0<ds.getD n.toNat 0))=[] then [w * h - 1] else (zK w h).filter fun n=>decide (0<ds.getD n.toNat 0))=so/\so≠[]/\(∀ p ∈ so,CB.Place w h p)/\so.length≤36:=by
  refine ⟨_,rfl,?_⟩
  split
  ·exact ⟨by simp,fun p hp=>by rw [List.mem_singleton.mp hp];exact ⟨by omega,by omega⟩,by simp⟩
  ·rename_i hn
   exact ⟨hn,fun p hp=>mem_places.mp (Ka.mp hp).1,JV (KR _ _) (by omega)⟩
 obtain ⟨x0,sr,rfl⟩:∃ x0 sr,so=x0::sr:=by
  cases so with
  | nil=>exact absurd rfl sn
  | cons a r=>exact ⟨a,r,rfl⟩
 obtain ⟨L7,f1,f2,f3⟩:=zbl (w:=w) (h:=h) (S:=[x0]) (Pl:=x0::sr) w1 w6 spl.1 (by simp) (by omega)
 have mem7:∀ p,p ∈ L7 ↔ Reach (Adj w) (· ∈ x0::sr) (·=x0) p:=fun p=>by rw [f3 p];exact ⟨fun r=>r.mono (fun q z s=>.start (Jh.mp z) s) fun q r=>r.inS,fun r=>r.mono (fun q z s=>.start (Jh.mpr z) s) fun q r=>r.inS⟩
 obtain ⟨L8,g1,g2,g3⟩:=zbY (x:=u8 L7) (m:=fun p=>decide (p ∈ L7)) w1 w6 h1 h6 (fun p=>zlS)
 have c2:∀ x,zo (zF 0) (fT (fOp xr (zA 0) (zA 1))) (zh (zA 0)) ((zK w h).map PV.int) [x,some (u8 L8)]=some (((zK w h).filter fun n=>!decide (n ∈ L8)).map PV.int):=fun x=>
  yw (fun n=>!decide (n ∈ L8)) PV.int _ fun n _=>⟨_,rfl,by simp,fun _=>by simp⟩
 refine ⟨w,h,(zK w h).filter fun n=>!decide (n ∈ L8),?_,?_⟩
 ·have hb:w * h<4611686018427387904/\-4611686018427387904≤w * h:=by omega
  have hpl':(zK w h).length≤100000:=by omega
  have hr0:zo (zF 0) uK (fOp zx (fC (.int 1)) (zA 0)) ([d1,d2].map PV.int) [none]=some [.int w,.int h]:=by simp [zo,hw,hh]
  have hmul2:=wH (i:=2) (j:=c0 % 2) ⟨by omega,by omega⟩
  have hrep:zi (.lst [.int 1]) (.int (w * h))=some (.lst ((List.replicate (w * h).toNat (1:Int)).map PV.int)):=by
   rw [← zmX]
   simp only [zi]
   rw [if_pos ⟨rfl,by omega,by omega,by simp only [List.length_cons,List.length_nil];omega⟩]
  have hsl:vSl (.lst ((x0::sr).map PV.int)) none (some 1)=some (.lst ([x0].map PV.int)):=by
   simp only [vSl,zcv,if_true,zob];rfl
  unfold yK fnV wB
  rw [zG (e:=[some (scr ns),some (.int k),some (.int w),some (.int h),none,none,none,none]) (by
   simp only [List.map_cons,List.map_nil] at hr0 r1
   simp [r1,cE,hr0,vg,yE,uT])]
  rw [zG (e:=[some (scr ns),some (.int k),some (.int w),some (.int h),some (.lst (es.map PV.int)),none,none,none]) (by simp [hc0,yD (show (0:Int)<2 by decide),hmul2,hm,e1])]
  rw [zG (e:=[some (scr ns),some (.int k),some (.int w),some (.int h),some (.lst (ds.map PV.int)),none,none,none]) (by
   rw [← hds]
   by_cases h8:c0 % 8=3
   ·simp [hc0,yD (show (0:Int)<8 by decide),h8,hm,hrep]
   ·simp [hc0,yD (show (0:Int)<8 by decide),h8])]
  rw [zG (e:=[some (scr ns),some (.int k),some (.int w),some (.int h),some (.lst (ds.map PV.int)),some (.lst (((zK w h).filter fun n=>decide (0<ds.getD n.toNat 0)).map PV.int)),none,none]) (by
   simp [xQ,hm,hb,vT,hpl',cE,c1])]
  rw [zG (e:=[some (scr ns),some (.int k),some (.int w),some (.int h),some (.lst (ds.map PV.int)),some (.lst ((x0::sr).map PV.int)),none,none]) (by
   rw [← hso]
   by_cases h9:((zK w h).filter fun n=>decide (0<ds.getD n.toNat 0))=[]
   ·rw [if_pos h9,h9];simp [hm,vEq,eqP,zy,toPys,PyData.eqv,PyData.eqvAll,wk,xY,okPys,PyData.canLay0,PyData.canLayAll0,PyData.depth,PyData.depthAll]
   ·rw [if_neg h9]
    generalize ((zK w h).filter fun n=>decide (0<ds.getD n.toNat 0))=so at h9
    simp [zlZ,h9])]
  rw [zG (e:=[some (scr ns),some (.int k),some (.int w),some (.int h),some (.lst (ds.map PV.int)),some (.lst ((x0::sr).map PV.int)),some (u8 L7),none]) (by
   simp only [List.map_cons,List.map_nil] at f1 hsl ⊢
   simp [fSl,zdC,hsl,f1])]
  rw [zG (e:=[some (scr ns),some (.int k),some (.int w),some (.int h),some (.lst (ds.map PV.int)),some (.lst ((x0::sr).map PV.int)),some (u8 L7),some (u8 L8)]) (by simp [g1])]
  simp [xQ,hm,hb,vT,hpl',cE,c2]
 ·refine zlY (L:=(· ∈ L7)) (O:=(· ∈ L8)) (a:=x0) w1 w6 h1 h6 (fun p hp=>spl.1 p ((mem7 p).mp hp).inS) ((mem7 x0).mpr (.start rfl Jc)) (fun p hp=>?_) (fun p=>?_)
  ·exact ((mem7 p).mp hp).mono (fun q e s=>.start e ((mem7 q).mpr (.start e s))) fun q r=>(mem7 q).mpr r
  ·rw [g3 p]
   exact ⟨fun r=>r.mono (fun q z s=>.start z ⟨s.1,by simpa using s.2⟩) fun q r=>⟨r.inS.1,by simpa using r.inS.2⟩,fun r=>r.mono (fun q z s=>.start z ⟨s.1,by simpa using s.2⟩) fun q r=>⟨r.inS.1,by simpa using r.inS.2⟩⟩
theorem six{w:Int}(h1:1≤w)(h6:w≤6):w=1∨w=2∨w=3∨w=4∨w=5∨w=6:=by omega
noncomputable def wA:FS:=(zO (zW 2 (fOp vIx (zA 0) (fC (.int 0))))
 (zO (zW 3 (fOp zx (zA 1) (fOp ye (zA 1) (zA 2))))
 (zO (zW 4 (fOp zx (fOp zx (zA 3) (zA 2)) (fC (.int 1))))
 (yQ (xJ (zB (zh (zA 3)) (zB (fOp zx (zA 3) (fC (.int 1))) (zB (zh (zA 4)) (zB (fOp zx (zA 4) (fC (.int 1))) zE)))))))))
noncomputable def zu:List PV->Option PV:=fnV 5 wA
noncomputable def wa:FS:=(zO (zW 2 (zI zu (zB (zA 0) (zB (zA 1) zE))))
 (yQ (xJ (zB (xJ (zB (fC (.str "across")) (zB (zh (fOp vIx (zA 2) (fC (.int 0)))) zE))) (zB (xJ (zB (fC (.str "across")) (zB (zh (fOp vIx (zA 2) (fC (.int 2)))) zE))) zE)))))
noncomputable def zq:List PV->Option PV:=fnV 3 wa
noncomputable def qw:FS:=(zO (zW 2 (zI zu (zB (zA 0) (zB (zA 1) zE))))
 (yQ (xJ (zB (xJ (zB (fC (.str "up")) (zB (zh (fOp vIx (zA 2) (fC (.int 0)))) zE))) (zB (xJ (zB (fC (.str "up")) (zB (zh (fOp vIx (zA 2) (fC (.int 1)))) zE))) zE)))))
noncomputable def yx:List PV->Option PV:=fnV 3 qw
noncomputable def w9:FS:=(zO (yR 1 (zI zq (zB (zA 0) (zB (zA 2) zE))))
 (yR 1 (zI yx (zB (zA 0) (zB (zA 2) zE)))))
noncomputable def qx:FS:=(zO (zW 1 (xL zE))
 (zO (yP (zV (fOp vIx (zA 0) (fC (.int 2)))) (zF 2) w9)
 (yQ (yv (zB (zA 1) zE)))))
noncomputable def wL:List PV->Option PV:=fnV 3 qx
noncomputable def cAt(w p:Int):List Int:=[p+p / w,p+p / w+1,p+p / w+w+1,p+p / w+w+1+1]
theorem zkn{f:FE}{env:En}{a:PV}{l:List PV}(h:f env=some (.tup (a::l))):fOp vIx f (fC (.int 0)) env=some a:=by
 rw [yh,h,zmq];exact zka
theorem zox{f:FE}{env:En}{a b:PV}{l:List PV}(h:f env=some (.tup (a::b::l))):fOp vIx f (fC (.int 1)) env=some b:=by
 rw [yh,h,zmq];exact zoe
theorem zmA{f:FE}{env:En}{a b c:PV}{l:List PV}(h:f env=some (.tup (a::b::c::l))):fOp vIx f (fC (.int 2)) env=some c:=by
 rw [yh,h,zmq];exact zod
theorem zeo{f:FE}{env:En}{i:Nat}{p:PV}(h:f env=some p):zW i f env=some (.nx (env.set i (some p))):=by rw [zcI,h];rfl
theorem lcv{E E':En}{src:FA}{n:Nat}{js:List Nat}{qs R:List PV}{b:PV->En->Option En}{t:FT}{f:FE}(hX:src E=some qs)(hce:cE n js E=E')(hl:qs.length≤100000)(hc:zo b t f qs E'=some R):fLC src n js b t f E=some (.lst R):=by
 rw [zkc,hX,Je,if_pos hl,hce,hc];rfl
theorem znX{f:FE}{env:En}{p:PV}(h:f env=some p)(hd:zQ p=true):zh f env=some p:=by
 rw [zhP,h,Je,if_pos hd]
theorem uO{w h p:Int}{F:List Int}(w1:1≤w)(w6:w≤6):zu [flV w h F,.int p]=some (.tup ((cAt w p).map PV.int)):=by
 have hd:=wy (i:=p) (show 0<w/\w<1073741824 by omega)
 let mk:Option PV->Option PV->Option PV->En:=fun x y z=>[some (flV w h F),some (.int p),x,y,z]
 refine wf (e:=mk (some (.int w)) (some (.int (p+p / w))) (some (.int (p+p / w+w+1)))) (mk none none none) rfl ?_
 unfold wA
 rw [zG (e:=mk (some (.int w)) none none) (zeo (zkn rfl))]
 rw [zG (e:=mk (some (.int w)) (some (.int (p+p / w))) none) (zeo (by
  show ((ye (.int p) (.int w)).bind fun y=>zx (.int p) y)=_
  rw [hd];rfl))]
 rw [zG (e:=mk (some (.int w)) (some (.int (p+p / w))) (some (.int (p+p / w+w+1)))) rfl]
 rfl
noncomputable def crn(w x y:Int):Int:=y * (w+1)+x
theorem wn{w x y:Int}(h0:0≤x)(h1:x≤w):crn w x y / (w+1)=y/\crn w x y % (w+1)=x:=(Int.ediv_emod_unique (by omega)).mpr ⟨by unfold crn;rw [Int.mul_comm];omega,h0,by omega⟩
theorem uD(w p:Int):p+p / w=crn w (p % w) (p / w):=by
 unfold crn
 have:=JI p w
 rw [Qx] at this
 rw [Int.mul_add,Qp]
 omega
theorem zmj{w h x y:Int}(x0:0≤x)(x1:x≤w)(y0:0≤y)(y1:y≤h):0≤crn w x y/\crn w x y<(w+1) * (h+1):=by
 unfold crn
 have h1:0≤y * (w+1):=Int.mul_nonneg y0 (by omega)
 have h2:(y+1) * (w+1)≤(h+1) * (w+1):=Int.mul_le_mul_of_nonneg_right (by omega) (by omega)
 rw [Int.add_mul y,Int.one_mul] at h2
 have h3:(h+1) * (w+1)=(w+1) * (h+1):=Qx _ _
 omega
noncomputable def isF(w h:Int)(F:List Int)(z:Int × Int):Bool:=(decide (0≤z.1) && decide (z.1<w)) && ((decide (0≤z.2) && decide (z.2<h)) && decide (z.2 * w+z.1 ∈ F))
theorem isF_iff{w h:Int}{F:List Int}{z:Int × Int}:isF w h F z=true ↔ 0≤z.1/\z.1<w/\0≤z.2/\z.2<h/\z.2 * w+z.1 ∈ F:=by
 unfold isF
 simp only [Bool.and_eq_true,decide_eq_true_eq]
 constructor
 ·rintro ⟨⟨a,b⟩,⟨c,d⟩,e⟩;exact ⟨a,b,c,d,e⟩
 ·rintro ⟨a,b,c,d,e⟩;exact ⟨⟨a,b⟩,⟨c,d⟩,e⟩
theorem zfi{i:Nat}{f:FE}{env:En}{qs:List PV}{q:PV}(hl:zA i env=some (.lst qs))(hf:f env=some q)(hz:qs.length<100000):zY i f env=some (.nx (env.set i (some (.lst (qs++[q]))))):=by
 unfold zY
 rw [hl,hf,Je,Je]
 dsimp only
 rw [if_pos hz]
noncomputable def zfa(w h:Int):List Int:=(List.range ((w+1) * (h+1)).toNat).map fun (i:Nat)=>(i:Int)
theorem mem_crnR{w h c:Int}:c ∈ zfa w h ↔ 0≤c/\c<(w+1) * (h+1):=by
 unfold zfa
 rw [Jp]
 constructor
 ·rintro ⟨i,hi,rfl⟩
  have:=Jw.mp hi
  omega
 ·rintro ⟨h0,h1⟩
  exact ⟨c.toNat,Jw.mpr (by omega),by omega⟩
theorem zeZ(w h:Int):(zfa w h).Pairwise (·<·):=by
 unfold zfa
 rw [JW]
 exact List.pairwise_lt_range.imp fun h=>by omega
noncomputable abbrev acS:Str:=Str.ofString "across"
noncomputable abbrev upS:Str:=Str.ofString "up"
noncomputable def wdS(u:Bool):Str:=if u then upS else acS
noncomputable def abS(w:Int)(u:Bool)(c:Int):List (Int × Int):=if u then [(c % (w+1),c / (w+1)),(c % (w+1) - 1,c / (w+1))] else [(c % (w+1),c / (w+1)),(c % (w+1),c / (w+1) - 1)]
noncomputable def sdV(u:Bool)(c:Int):PV:=.tup [.str (wdS u),.int c]
noncomputable def lsW(w h:Int)(F:List Int)(u:Bool):List Int:=(zfa w h).filter fun c=>(abS w u c).any (isF w h F)
theorem zjA{x y:Str}(hx:PyData.canLay0 (.str x)=true)(hy:PyData.canLay0 (.str y)=true):vEq (.str x) (.str y)=some (.bl (decide (x=y))):=by
 have h1:wk (.str x)=true:=(qk hx).ok (by decide)
 have h2:wk (.str y)=true:=(qk hy).ok (by decide)
 have h3:eqP (.str x) (.str y)=decide (x=y):=by
  simp only [eqP,zy,PyData.eqv]
  rw [Bool.eq_iff_iff];simp
 unfold vEq
 rw [h1,h2,h3];rfl
theorem zbE(u:Bool):PyData.canLay0 (.str (wdS u))=true:=by cases u<;>decide +kernel
theorem zat:¬ acS=upS:=by decide +kernel
noncomputable def lsF(w h:Int)(F:List Int):List PV:=(lsW w h F false).map (sdV false)++(lsW w h F true).map (sdV true)
noncomputable def sK(u:Bool)(c:Int):List Key:=[.inr (wdS u),.inl c]
noncomputable def sAt(w p:Int):List (List Key):=[sK false (p+p / w),sK false (p+p / w+w+1),sK true (p+p / w),sK true (p+p / w+1)]
theorem qM{w h p:Int}{F:List Int}(w1:1≤w)(w6:w≤6):zq [flV w h F,.int p]=some (.tup [sdV false (p+p / w),sdV false (p+p / w+w+1)]):=by
 refine wf (e:=[some (flV w h F),some (.int p),some (.tup ((cAt w p).map PV.int))]) [some (flV w h F),some (.int p),none] rfl ?_
 unfold wa
 rw [zG (e:=[some (flV w h F),some (.int p),some (.tup ((cAt w p).map PV.int))]) (y4 (as:=[flV w h F,.int p]) rfl (uO w1 w6))]
 rfl
theorem zjN{w h p:Int}{F:List Int}(w1:1≤w)(w6:w≤6):yx [flV w h F,.int p]=some (.tup [sdV true (p+p / w),sdV true (p+p / w+1)]):=by
 refine wf (e:=[some (flV w h F),some (.int p),some (.tup ((cAt w p).map PV.int))]) [some (flV w h F),some (.int p),none] rfl ?_
 unfold qw
 rw [zG (e:=[some (flV w h F),some (.int p),some (.tup ((cAt w p).map PV.int))]) (y4 (as:=[flV w h F,.int p]) rfl (uO w1 w6))]
 rfl
noncomputable def sL(w:Int)(F:List Int):List (List Key):=F.flatMap (sAt w)
theorem zbQ(w:Int):∀ F:List Int,(sL w F).length=4 * F.length
 | []=>rfl
 | p::F=>by
  have ih:=zbQ w F
  unfold sL at ih ⊢
  rw [List.flatMap_cons,Jk,ih,JH]
  show 4+_=_
  omega
theorem mem_sL{w:Int}{F:List Int}{k:List Key}:k ∈ sL w F ↔ ∃ p ∈ F,k ∈ sAt w p:=List.mem_flatMap
theorem qX{w p:Int}{k:List Key}(h:k ∈ sAt w p):k≠[]/\shp k=[false,true]:=by
 unfold sAt at h
 simp only [List.mem_cons,List.not_mem_nil,or_false] at h
 rcases h with rfl | rfl | rfl | rfl<;>exact ⟨List.cons_ne_nil _ _,rfl⟩
theorem zmT{w:Int}{F:List Int}:okM (sL w F)=true:=by
 unfold okM
 refine QC.mpr fun k hk=>?_
 obtain ⟨p,_,h⟩:=mem_sL.mp hk
 obtain ⟨h1,h2⟩:=qX h
 have hh:shp ((sL w F).headD [])=[false,true]:=by
  cases hs:sL w F with
  | nil=>rw [hs] at hk;cases hk
  | cons a l=>
   obtain ⟨q,_,h'⟩:=mem_sL.mp (show a ∈ sL w F by rw [hs];exact Jc)
   exact (qX h').2
 rw [h2,hh]
 cases k with
 | nil=>exact absurd rfl h1
 | cons a l=>rfl
theorem zhw(ks:List (List Key)):isDatas (ks.map tPV)=true:=by
 refine zn _ (fun k=>?_) ks
 unfold tPV
 rw [kF]
 refine zn _ (fun x=>?_) k
 cases x<;>rfl
theorem ext_of{i:Nat}{f:FE}{env:En}{ks js:List (List Key)}(hi:zA i env=some (.lst (ks.map tPV)))(hf:f env=some (.tup (js.map tPV)))(hl:ks.length+js.length≤1000):yR i f env=some (.nx (env.set i (some (.lst ((ks++js).map tPV))))):=by
 unfold yR
 rw [hi,Je,hf,Je]
 dsimp only
 rw [zfR,Je,if_pos ⟨zhw _,by rw [Jt,Jt];omega⟩,← KA]
theorem zfO{w h:Int}{F:List Int}(fl:IsFloor w h F)(h2:2≤(wm (sL w F)).length):wL [flV w h F]=some (.lst ((vG (wm (sL w F))).map tPV)):=by
 have w1:=fl.w1;have w6:=fl.w6
 have fz:=yO fl
 let mk:List (List Key)->Option PV->En:=fun L x=>[some (flV w h F),some (.lst (L.map tPV)),x]
 obtain ⟨e,l1,x,rfl⟩:=yq (b:=zF 2) (g:=w9) (xs:=F) (hh:=PV.int) (env:=mk [] none) (fun pre e=>∃ x,e=mk (sL w pre) x) ⟨none,rfl⟩ (by
  rintro pre p post e hF ⟨x,rfl⟩
  have hpl:pre.length≤36:=by have:=congrArg List.length hF;rw [Jk] at this;omega
  refine ⟨mk (sL w pre) (some (.int p)),mk (sL w (pre++[p])) (some (.int p)),rfl,.inl ?_,_,rfl⟩
  have e1:sL w (pre++[p])=(sL w pre++[sK false (p+p / w),sK false (p+p / w+w+1)])++[sK true (p+p / w),sK true (p+p / w+1)]:=by
   unfold sL;rw [List.flatMap_append,List.flatMap_singleton,List.append_assoc];rfl
  rw [e1]
  have hz:=zbQ w pre
  generalize sL w pre=L at hz
  unfold w9
  rw [zG (e:=mk (L++[sK false (p+p / w),sK false (p+p / w+w+1)]) (some (.int p))) (ext_of (js:=[sK false (p+p / w),sK false (p+p / w+w+1)]) rfl (xR (as:=[flV w h F,.int p]) rfl (qM w1 w6)) (by show L.length+2≤_;omega))]
  rw [ext_of (env:=mk (L++[sK false (p+p / w),sK false (p+p / w+w+1)]) (some (.int p))) (js:=[sK true (p+p / w),sK true (p+p / w+1)]) rfl (xR (as:=[flV w h F,.int p]) rfl (zjN w1 w6)) (by rw [Jk];show L.length+2+2≤_;omega)]
  rfl)
 refine wf (e:=mk (sL w F) x) [some (flV w h F),none,none] rfl ?_
 unfold qx
 have v2:fOp vIx (zA 0) (fC (.int 2)) (mk [] none)=some (.tup (F.map PV.int)):=zmA rfl
 rw [zG (e:=mk [] none) rfl]
 rw [zG (e:=mk (sL w F) x) (by rw [xS,uW,v2];exact l1)]
 rw [kN]
 have:yv (zB (zA 1) zE) (mk (sL w F) x)=some (.lst ((vG (wm (sL w F))).map tPV)):=by
  unfold yv
  show ((zbK ((sL w F).map tPV)).bind _)=_
  rw [zay,Je,if_pos ⟨zmT,h2,by rw [zbQ];omega⟩]
 rw [this];rfl
theorem zjX{w h p:Int}{F:List Int}(fl:IsFloor w h F)(hp:p ∈ F):0≤p % w/\p % w<w/\0≤p / w/\p / w<h/\p / w * w+p % w=p:=by
 have w1:=fl.w1
 have hP:=fl.inn p hp
 have r:=zer w1 hP
 exact ⟨JU _ (by omega),JN _ (by omega),r.1,r.2,by have:=JI p w;rw [Qx] at this;exact this⟩
theorem isF_at{w h x y:Int}{F:List Int}:isF w h F (x,y)=true ↔ 0≤x/\x<w/\0≤y/\y<h/\y * w+x ∈ F:=isF_iff
theorem zfl{w x y:Int}(h0:0≤x)(h1:x<w):(y * w+x) % w=x/\(y * w+x) / w=y:=by
 have:=(Qe (a:=y * w+x) (b:=w) (r:=x) (q:=y) (by omega)).mpr ⟨by rw [Qx];omega,h0,h1⟩
 exact ⟨this.2,this.1⟩
theorem jL{w h x y:Int}(x0:0≤x)(x1:x≤w)(y0:0≤y)(y1:y≤h):crn w x y ∈ zfa w h:=mem_crnR.mpr (zmj x0 x1 y0 y1)
theorem v8{w h c:Int}{F:List Int}(fl:IsFloor w h F)(u:Bool):c ∈ lsW w h F u ↔ sK u c ∈ sL w F:=by
 have w1:=fl.w1
 rw [mem_sL]
 unfold lsW
 rw [Ka,Qk]
 constructor
 ·rintro ⟨hc,z,hz,hf⟩
  obtain ⟨a1,a2,a3,a4,a5⟩:=isF_iff.mp hf
  have c0:=(mem_crnR.mp hc).1
  have hxy:=zfl (y:=z.2) a1 a2
  have ce:c=crn w (c % (w+1)) (c / (w+1)):=by unfold crn;have:=Int.mul_ediv_add_emod c (w+1);rw [Int.mul_comm] at this;omega
  refine ⟨z.2 * w+z.1,a5,?_⟩
  have low:=uD w (z.2 * w+z.1)
  rw [hxy.1,hxy.2] at low
  unfold sAt
  rw [hxy.2,low]
  cases u with
  | true=>
   have hz:z=(c % (w+1),c / (w+1))∨z=(c % (w+1) - 1,c / (w+1)):=by simpa [abS] using hz
   rcases hz with rfl | rfl
   ·rw [← ce];simp
   ·have:crn w (c % (w+1) - 1) (c / (w+1))+1=c:=by
     conv=>rhs;rw [ce]
     unfold crn;omega
    simp only [this];simp
  | false=>
   have hz:z=(c % (w+1),c / (w+1))∨z=(c % (w+1),c / (w+1) - 1):=by simpa [abS] using hz
   rcases hz with rfl | rfl
   ·rw [← ce];simp
   ·have:crn w (c % (w+1)) (c / (w+1) - 1)+w+1=c:=by
     conv=>rhs;rw [ce]
     unfold crn;rw [Int.sub_mul];omega
    simp only [this];simp
 ·rintro ⟨p,hp,hk⟩
  obtain ⟨x0,x1,y0,y1,pe⟩:=zjX fl hp
  have hin:isF w h F (p % w,p / w)=true:=isF_at.mpr ⟨x0,x1,y0,y1,by rw [pe];exact hp⟩
  have c0:p+p / w=crn w (p % w) (p / w):=uD w p
  have c1:p+p / w+1=crn w (p % w+1) (p / w):=by rw [c0];unfold crn;omega
  have c2:p+p / w+w+1=crn w (p % w) (p / w+1):=by rw [c0];unfold crn;rw [Int.add_mul];omega
  have inj:∀ {u v:Bool} {a b:Int},sK u a=sK v b->a=b:=fun h=>by
   unfold sK at h
   simp only [List.cons.injEq,Sum.inl.injEq,and_true] at h
   exact h.2
  have wne:∀ {a b:Int},sK true a≠sK false b:=fun h=>by
   unfold sK at h
   simp only [List.cons.injEq,Sum.inr.injEq,and_true] at h
   exact zat h.1.symm
  unfold sAt at hk
  simp only [List.mem_cons,List.not_mem_nil,or_false] at hk
  cases u with
  | true=>
   rcases hk with hk | hk | hk | hk
   ·exact absurd hk wne
   ·exact absurd hk wne
   ·rw [inj hk,c0]
    refine ⟨jL x0 (by omega) y0 (by omega),(p % w,p / w),?_,hin⟩
    have:=wn (w:=w) (y:=p / w) x0 (by omega)
    unfold abS;rw [this.1,this.2];simp
   ·rw [inj hk,c1]
    refine ⟨jL (by omega) (by omega) y0 (by omega),(p % w,p / w),?_,hin⟩
    have:=wn (w:=w) (x:=p % w+1) (y:=p / w) (by omega) (by omega)
    unfold abS;rw [this.1,this.2];simp
  | false=>
   rcases hk with hk | hk | hk | hk
   ·rw [inj hk,c0]
    refine ⟨jL x0 (by omega) y0 (by omega),(p % w,p / w),?_,hin⟩
    have:=wn (w:=w) (y:=p / w) x0 (by omega)
    unfold abS;rw [this.1,this.2];simp
   ·rw [inj hk,c2]
    refine ⟨jL x0 (by omega) (by omega) (by omega),(p % w,p / w),?_,hin⟩
    have:=wn (w:=w) (x:=p % w) (y:=p / w+1) x0 (by omega)
    unfold abS;rw [this.1,this.2];simp
   ·exact absurd hk.symm wne
   ·exact absurd hk.symm wne
noncomputable def lsK(w h:Int)(F:List Int):List (List Key):=(lsW w h F false).map (sK false)++(lsW w h F true).map (sK true)
theorem znC(w h:Int)(F:List Int):(lsK w h F).map tPV=lsF w h F:=by
 unfold lsK lsF
 rw [KA,KL,KL];rfl
theorem uB(w h:Int)(F:List Int)(u:Bool):(lsW w h F u).Pairwise (·<·):=(zeZ w h).sublist List.filter_sublist
theorem zdF(u:Bool){c d:Int}:enc (sK u d)<enc (sK u c) ↔ d<c:=by
 show ke (.inr (wdS u))++[d]<ke (.inr (wdS u))++[c] ↔ _
 rw [zbU,KB]
 simp
theorem zjC{c d:Int}:¬ enc (sK true d)<enc (sK false c):=by
 show ¬ (upS.cps.toList.map Int.ofNat++[-1])++[d]<(acS.cps.toList.map Int.ofNat++[-1])++[c]
 rw [jS _ _ _ _ (zcz fun e=>zat e.symm)]
 decide +kernel
theorem zci(w h:Int)(F:List Int):(lsK w h F).Pairwise fun x y=>¬ enc y<enc x:=by
 refine Jz.mpr ⟨JW.mpr ((uB w h F false).imp fun h z=>?_),JW.mpr ((uB w h F true).imp fun h z=>?_),fun x hx y hy=>?_⟩
 ·have:=(zdF false).mp z;omega
 ·have:=(zdF true).mp z;omega
 ·obtain ⟨a,_,rfl⟩:=Jp.mp hx
  obtain ⟨b,_,rfl⟩:=Jp.mp hy
  exact zjC
theorem yi{u v:Bool}{a b:Int}(h:sK u a=sK v b):u=v/\a=b:=by
 unfold sK at h
 simp only [List.cons.injEq,Sum.inr.injEq,Sum.inl.injEq,and_true] at h
 refine ⟨?_,h.2⟩
 cases u<;>cases v<;>first | rfl | exact absurd h.1 zat | exact absurd h.1.symm zat
theorem zeC(w h:Int)(F:List Int):(lsK w h F).Nodup:=by
 rw [KO]
 refine Jz.mpr ⟨JW.mpr ((uB w h F false).imp fun h e=>?_),JW.mpr ((uB w h F true).imp fun h e=>?_),fun x hx y hy e=>?_⟩
 ·have:=(yi e).2;omega
 ·have:=(yi e).2;omega
 ·obtain ⟨a,_,rfl⟩:=Jp.mp hx
  obtain ⟨b,_,rfl⟩:=Jp.mp hy
  exact nomatch (yi e).1
theorem zjk{w h:Int}{F:List Int}(fl:IsFloor w h F){k:List Key}:k ∈ lsK w h F ↔ k ∈ sL w F:=by
 unfold lsK
 rw [JK,Jp,Jp]
 constructor
 ·rintro (⟨c,hc,rfl⟩ | ⟨c,hc,rfl⟩)
  ·exact (v8 fl false).mp hc
  ·exact (v8 fl true).mp hc
 ·intro hk
  obtain ⟨p,hp,h⟩:=mem_sL.mp hk
  have:∃ u c,k=sK u c:=by
   unfold sAt at h
   simp only [List.mem_cons,List.not_mem_nil,or_false] at h
   rcases h with rfl | rfl | rfl | rfl<;>exact ⟨_,_,rfl⟩
  obtain ⟨u,c,rfl⟩:=this
  have hc:=(v8 fl u).mpr hk
  cases u with
  | true=>exact .inr ⟨c,hc,rfl⟩
  | false=>exact .inl ⟨c,hc,rfl⟩
theorem zgL{w h:Int}{F:List Int}(fl:IsFloor w h F):(lsK w h F).Perm (wm (sL w F)):=
 (List.perm_ext_iff_of_nodup (zeC w h F) (zcu _)).mpr fun k=>by rw [zjk fl,dedM_mem]
theorem zfP{w h:Int}{F:List Int}(fl:IsFloor w h F):vG (wm (sL w F))=lsK w h F:=
 zaF (b:=[false,true]) (fun k hk=>by
  obtain ⟨p,_,h⟩:=mem_sL.mp (dedM_mem.mp hk)
  exact (qX h).2) (zgL fl) (zci w h F)
theorem zeb{w h:Int}{F:List Int}(fl:IsFloor w h F):2≤(wm (sL w F)).length:=by
 obtain ⟨p,hp⟩:=List.exists_mem_of_ne_nil F fl.ne
 have m1:sK false (p+p / w) ∈ wm (sL w F):=dedM_mem.mpr (mem_sL.mpr ⟨p,hp,by unfold sAt;simp⟩)
 have m2:sK true (p+p / w) ∈ wm (sL w F):=dedM_mem.mpr (mem_sL.mpr ⟨p,hp,by unfold sAt;simp⟩)
 have ne:sK false (p+p / w)≠sK true (p+p / w):=fun e=>nomatch (yi e).1
 cases hd:wm (sL w F) with
 | nil=>rw [hd] at m1;cases m1
 | cons a l=>
  cases l with
  | nil=>
   rw [hd] at m1 m2
   exact absurd ((Jh.mp m1).trans (Jh.mp m2).symm) ne
  | cons b l=>show 2≤l.length+1+1;omega
theorem zem{w h:Int}{F:List Int}(fl:IsFloor w h F):wL [flV w h F]=some (.lst (lsF w h F)):=by
 rw [zfO fl (zeb fl),zfP fl,znC]
theorem if1{t:FT}{g:FS}{e:En}(h:t e=some false):yj t g fNx e=some (.nx e):=by rw [vh,h];rfl
theorem if2{t u:FT}{g:FS}{e:En}(h:t e=some false)(h2:u e=some false):yj (fOr t u) g fNx e=some (.nx e):=if1 (by rw [zkb,h,Je,if_neg Jj,h2])
theorem if3{t u v:FT}{g:FS}{e:En}(h:t e=some false)(h2:u e=some false)(h3:v e=some false):yj (fOr t (fOr u v)) g fNx e=some (.nx e):=if2 h (by rw [zkb,h2,Je,if_neg Jj,h3])
noncomputable def sF(w:Int)(F:List Int):List Int:=F.map fun p=>p+p / w
theorem wV{w c:Int}{F:List Int}:c ∈ sF w F ↔ ∃ p ∈ F,c=p+p / w:=by
 unfold sF
 rw [Jp]
 exact ⟨fun ⟨p,h,e⟩=>⟨p,h,e.symm⟩,fun ⟨p,h,e⟩=>⟨p,h,e.symm⟩⟩
section
variable {w h:Int} {F:List Int}
theorem znz(fl:IsFloor w h F){c:Int}:c ∈ lsW w h F true ↔ c ∈ sF w F∨c - 1 ∈ sF w F:=by
 rw [v8 fl true,mem_sL,wV,wV]
 constructor
 ·rintro ⟨p,hp,hk⟩
  unfold sAt at hk
  simp only [List.mem_cons,List.not_mem_nil,or_false] at hk
  rcases hk with hk | hk | hk | hk
  ·exact nomatch (yi hk).1
  ·exact nomatch (yi hk).1
  ·exact .inl ⟨p,hp,(yi hk).2⟩
  ·exact .inr ⟨p,hp,by have:=(yi hk).2;omega⟩
 ·rintro (⟨p,hp,e⟩ | ⟨p,hp,e⟩)
  ·exact ⟨p,hp,by rw [e];unfold sAt;simp⟩
  ·exact ⟨p,hp,by rw [show c=p+p / w+1 by omega];unfold sAt;simp⟩
theorem znA(fl:IsFloor w h F){c:Int}:c ∈ lsW w h F false ↔ c ∈ sF w F∨c - (w+1) ∈ sF w F:=by
 rw [v8 fl false,mem_sL,wV,wV]
 constructor
 ·rintro ⟨p,hp,hk⟩
  unfold sAt at hk
  simp only [List.mem_cons,List.not_mem_nil,or_false] at hk
  rcases hk with hk | hk | hk | hk
  ·exact .inl ⟨p,hp,(yi hk).2⟩
  ·exact .inr ⟨p,hp,by have:=(yi hk).2;omega⟩
  ·exact nomatch (yi hk).1
  ·exact nomatch (yi hk).1
 ·rintro (⟨p,hp,e⟩ | ⟨p,hp,e⟩)
  ·exact ⟨p,hp,by rw [e];unfold sAt;simp⟩
  ·exact ⟨p,hp,by rw [show c=p+p / w+w+1 by omega];unfold sAt;simp⟩
end
noncomputable abbrev low(w p:Int):Int:=p+p / w
theorem zcj{w p q:Int}(w1:1≤w)(h:p≤q):low w p+(q - p)≤low w q:=by
 have:p / w≤q / w:=Int.ediv_le_ediv (by omega) h
 unfold low;omega
theorem uC{w p q:Int}(w1:1≤w)(h:low w p=low w q):p=q:=by
 rcases Int.lt_trichotomy p q with z | z | z
 ·have:=zcj w1 (Int.le_of_lt z);omega
 ·exact z
 ·have:=zcj w1 (Int.le_of_lt z);omega
theorem zgM{w p q:Int}(w1:1≤w)(h:low w q=low w p+1):q=p+1/\p / w=q / w:=by
 have h1:p≤q:=by
  rcases Int.lt_or_le q p with z | z
  ·have:=zcj w1 (Int.le_of_lt z);omega
  ·exact z
 have h2:p / w≤q / w:=Int.ediv_le_ediv (by omega) h1
 have h3:q≠p:=fun e=>by rw [e] at h;omega
 unfold low at h
 omega
theorem zlI{w p q:Int}(w1:1≤w)(h:low w q=low w p+w+1):q=p+w:=by
 refine uC w1 ?_
 have:(p+w) / w=p / w+1:=(zkJ w1 p).1
 unfold low at h ⊢
 omega
noncomputable def atF(w:Int)(u:Bool)(c p:Int):Bool:=if u then decide (c=low w p∨c=low w p+1) else decide (c=low w p∨c=low w p+w+1)
section
variable {w h:Int} {F:List Int} {rs cs:List (Int × Nat)}
theorem qU(fl:IsFloor w h F)(u:Bool){c:Int}:c ∈ lsW w h F u ↔ ∃ p ∈ F,atF w u c p=true:=by
 cases u with
 | true=>
  rw [znz fl,wV,wV]
  constructor
  ·rintro (⟨p,hp,e⟩ | ⟨p,hp,e⟩)
   ·exact ⟨p,hp,decide_eq_true (.inl e)⟩
   ·exact ⟨p,hp,decide_eq_true (.inr (by unfold low;omega))⟩
  ·rintro ⟨p,hp,e⟩
   rcases of_decide_eq_true e with e | e
   ·exact .inl ⟨p,hp,e⟩
   ·exact .inr ⟨p,hp,by unfold low at e;omega⟩
 | false=>
  rw [znA fl,wV,wV]
  constructor
  ·rintro (⟨p,hp,e⟩ | ⟨p,hp,e⟩)
   ·exact ⟨p,hp,decide_eq_true (.inl e)⟩
   ·exact ⟨p,hp,decide_eq_true (.inr (by unfold low;omega))⟩
  ·rintro ⟨p,hp,e⟩
   rcases of_decide_eq_true e with e | e
   ·exact .inl ⟨p,hp,e⟩
   ·exact .inr ⟨p,hp,by unfold low at e;omega⟩
noncomputable def kQ(ls:List (List Int))(u:Bool)(p:Int):Nat:=if u then (rc ls p).1 else (rc ls p).2
theorem zbO(S:Strips w h F rs cs){u:Bool}{c p q:Int}(hp:p ∈ F)(hq:q ∈ F)(h1:atF w u c p=true)(h2:atF w u c q=true):kQ (zD w rs cs) u p=kQ (zD w rs cs) u q:=by
 have w1:=S.fl.w1
 have row:∀ {p q:Int},p ∈ F->q ∈ F->low w q=low w p+1->(rc (zD w rs cs) p).1=(rc (zD w rs cs) q).1:=fun {p q} hp hq e=>by
  obtain ⟨rfl,e2⟩:=zgM w1 e
  exact S.row_next hp hq e2
 have col:∀ {p q:Int},p ∈ F->q ∈ F->low w q=low w p+w+1->(rc (zD w rs cs) p).2=(rc (zD w rs cs) q).2:=fun {p q} hp hq e=>by
  have:=zlI w1 e
  subst this
  exact S.col_next hp hq
 cases u with
 | true=>
  show (rc (zD w rs cs) p).1=(rc (zD w rs cs) q).1
  rcases of_decide_eq_true h1 with e | e<;>rcases of_decide_eq_true h2 with e' | e'
  ·rw [uC w1 (e.symm.trans e')]
  ·exact (row hq hp (e.symm.trans e')).symm
  ·exact row hp hq (e'.symm.trans e)
  ·rw [uC w1 (show low w p=low w q by omega)]
 | false=>
  show (rc (zD w rs cs) p).2=(rc (zD w rs cs) q).2
  rcases of_decide_eq_true h1 with e | e<;>rcases of_decide_eq_true h2 with e' | e'
  ·rw [uC w1 (e.symm.trans e')]
  ·exact (col hq hp (e.symm.trans e')).symm
  ·exact col hp hq (e'.symm.trans e)
  ·rw [uC w1 (show low w p=low w q by omega)]
noncomputable def alg(w:Int)(F:List Int)(u:Bool)(c:Int):List Int:=F.filter (atF w u c)
noncomputable def blg(w:Int)(F:List Int)(ls:List (List Int))(z:Bool × Int):Nat:=kQ ls z.1 ((alg w F z.1 z.2).headD 0)
theorem zbA(fl:IsFloor w h F){u:Bool}{c:Int}(hc:c ∈ lsW w h F u):∃ p r,alg w F u c=p::r/\p ∈ F/\atF w u c p=true:=by
 obtain ⟨p,hp,e⟩:=(qU fl u).mp hc
 have hm:p ∈ alg w F u c:=Ka.mpr ⟨hp,e⟩
 cases hA:alg w F u c with
 | nil=>rw [hA] at hm;cases hm
 | cons a r=>
  have:a ∈ alg w F u c:=by rw [hA];exact Jc
  exact ⟨a,r,rfl,(Ka.mp this).1,(Ka.mp this).2⟩
theorem zcF(S:Strips w h F rs cs){u:Bool}{c p:Int}(hp:p ∈ F)(e:atF w u c p=true):blg w F (zD w rs cs) (u,c)=kQ (zD w rs cs) u p:=by
 obtain ⟨q,r,h1,h2,h3⟩:=zbA S.fl (u:=u) (c:=c) ((qU S.fl u).mpr ⟨p,hp,e⟩)
 unfold blg
 rw [h1]
 exact zbO S h2 hp h3 e
theorem zkO(S:Strips w h F rs cs){p:Int}(hp:p ∈ F){k:Nat}(hk:k<rs.length):(rc (zD w rs cs) p).1=k ↔ p ∈ zP 1 rs[k].1 rs[k].2:=by
 obtain ⟨r,c,h1,h2,h3,h4,h5⟩:=S.pairX hp
 simp only [rc,h1]
 rw [h4 k _ (Jd hk)]
 exact eq_comm
theorem zkP(S:Strips w h F rs cs){p:Int}(hp:p ∈ F){k:Nat}(hk:k<cs.length):(rc (zD w rs cs) p).2=rs.length+k ↔ p ∈ zP w cs[k].1 cs[k].2:=by
 obtain ⟨r,c,h1,h2,h3,h4,h5⟩:=S.pairX hp
 simp only [rc,h1]
 rw [h5 k _ (Jd hk)]
 omega
noncomputable def zhK(w h:Int)(F:List Int):List (Bool × Int):=(lsW w h F false).map (fun c=>(false,c))++(lsW w h F true).map fun c=>(true,c)
theorem zmn(w h:Int)(F:List Int):(zhK w h F).map (fun z=>sdV z.1 z.2)=lsF w h F:=by
 unfold zhK lsF
 rw [KA,KL,KL];rfl
theorem zgK{z:Bool × Int}(hz:z ∈ zhK w h F):z.2 ∈ lsW w h F z.1:=by
 rcases List.mem_append.mp hz with hz | hz
 ·obtain ⟨c,hc,rfl⟩:=Jp.mp hz;exact hc
 ·obtain ⟨c,hc,rfl⟩:=Jp.mp hz;exact hc
theorem zaB(w:Int)(rs cs:List (Int × Nat)){k:Nat}(hk:k<rs.length):(zD w rs cs).getD k []=zP 1 rs[k].1 rs[k].2:=by
 unfold zD
 rw [List.getD_eq_getElem?_getD,List.getElem?_append_left (by simpa using hk)]
 simp [hk]
theorem zaC(w:Int)(rs cs:List (Int × Nat)){k:Nat}(hk:k<cs.length):(zD w rs cs).getD (rs.length+k) []=zP w cs[k].1 cs[k].2:=by
 unfold zD
 rw [List.getD_eq_getElem?_getD,List.getElem?_append_right (by simp)]
 simp [hk]
theorem zeB(S:Strips w h F rs cs){k:Nat}(hk:k<rs.length+cs.length){f:Int}(hf:f ∈ (zD w rs cs).getD k []):f ∈ F/\(k=(rc (zD w rs cs) f).1∨k=(rc (zD w rs cs) f).2):=by
 have hk':k<(zD w rs cs).length:=by rw [jT];exact hk
 have e:(zD w rs cs).getD k []=(zD w rs cs)[k]:=by rw [JD,Jd hk'];rfl
 have hF:f ∈ F:=(S.sub (JP hk')).2 f (by rw [← e];exact hf)
 refine ⟨hF,?_⟩
 have hi:=(S.rc_of hF).1
 have hm:k ∈ idx (zD w rs cs) f:=Ka.mpr ⟨Jw.mpr hk',decide_eq_true (by rw [JD] at hf;exact hf)⟩
 rw [hi] at hm
 simpa using hm
end
noncomputable def vW:FS:=(zO (yj (fT (fOp vEq (fOp vIx (zA 1) (fC (.int 0))) (fC (.str "across")))) (zO (zW 2 (fLC (zV (fOp vIx (zA 0) (fC (.int 2)))) 1 [1,0] (zF 0) (fT (fOp kj (zA 1) (zI zq (zB (zA 2) (zB (zA 0) zE))))) (zh (zA 0))))
 (yQ (fOp vIx (zI zm (zB (zA 0) (zB (fOp vIx (zA 2) (fC (.int 0))) zE))) (fC (.int 1))))) fNx)
 (zO (zW 2 (fLC (zV (fOp vIx (zA 0) (fC (.int 2)))) 1 [1,0] (zF 0) (fT (fOp kj (zA 1) (zI yx (zB (zA 2) (zB (zA 0) zE))))) (zh (zA 0))))
 (yQ (fOp vIx (zI zm (zB (zA 0) (zB (fOp vIx (zA 2) (fC (.int 0))) zE))) (fC (.int 0))))))
noncomputable def xM:List PV->Option PV:=fnV 3 vW
noncomputable abbrev zoO:Str:=Str.ofString "row"
noncomputable abbrev zpj:Str:=Str.ofString "column"
noncomputable def wdT(b:Bool):Str:=if b then zoO else zpj
theorem zhX:∀ a b:Bool,decide (wdT a=wdT b)=(a == b):=by decide +kernel
section
variable {w h:Int} {F:List Int} {rs cs:List (Int × Nat)} {L0:List Int} {G:Int->PV}
theorem u6(S:Strips w h F rs cs)(C:Cross w h F (zD w rs cs) L0 G){f:Int}(hf:f ∈ F):zm [flV w h F,.int f]=some (.tup [.int ((rc (zD w rs cs) f).1:Nat),.int ((rc (zD w rs cs) f).2:Nat)]):=by
 refine wf (e:=[some (flV w h F),some (.int f)]) [some (flV w h F),some (.int f)] rfl ?_
 unfold vY
 rw [kN,yh,xR (as:=[flV w h F]) rfl C.val]
 simp [C.ix hf (S.rc_of hf).1]
theorem zgD(u:Bool)(c:Int):okB 1 (sdV u c):=zdk fun q hq=>by
 simp only [List.mem_cons,List.not_mem_nil,or_false] at hq
 rcases hq with rfl | rfl
 ·exact qk (zbE u)
 ·exact zdl c
theorem zmb(u:Bool)(a b:Int):eqP (sdV u a) (sdV u b)=decide (a=b):=by
 simp only [sdV,eqP,zy,toPys,PyData.eqv,PyData.eqvAll]
 rw [Bool.eq_iff_iff];simp
theorem zlU(u:Bool)(c:Int)(Q:List Int):inD (sdV u c) (Q.map (sdV u))=some (decide (c ∈ Q)):=by
 obtain ⟨h1,h2,h3⟩:=zgD u c
 obtain ⟨g1,g2,g3⟩:=zlF (ps:=Q.map (sdV u)) (d:=1) fun q hq=>by
  obtain ⟨a,_,rfl⟩:=Jp.mp hq;exact zgD u a
 have hk:zju (sdV u c) (Q.map (sdV u))=true:=by unfold zju;rw [h1,h2,g1,g2,decide_eq_true (Nat.le_trans h3 (by decide))];rfl
 unfold inD
 rw [if_pos hk]
 congr 1
 clear hk g1 g2 g3
 induction Q with
 | nil=>rfl
 | cons a q ih=>
  have h1:PyData.eqv (zy (sdV u a)) (zy (sdV u c))=decide (a=c):=zmb u a c
  rw [Jo,toPys,Kl,h1,ih,Bool.eq_iff_iff,Bool.or_eq_true,decide_eq_true_eq,decide_eq_true_eq,decide_eq_true_eq,List.mem_cons]
  exact ⟨fun z=>z.imp Eq.symm id,fun z=>z.imp Eq.symm id⟩
theorem zjZ(u:Bool):vEq (.str (wdS u)) (.str acS)=some (.bl !u):=by
 rw [zjA (x:=wdS u) (y:=acS) (zbE u) (zbE false)]
 cases u with
 | true=>rw [decide_eq_false (show ¬ wdS true=acS from fun e=>zat e.symm)];rfl
 | false=>rw [decide_eq_true (show wdS false=acS from rfl)];rfl
theorem zbN(S:Strips w h F rs cs)(C:Cross w h F (zD w rs cs) L0 G){u:Bool}{c:Int}(hc:c ∈ lsW w h F u):xM [flV w h F,sdV u c]=some (.int (blg w F (zD w rs cs) (u,c):Nat)):=by
 have w1:=S.fl.w1;have w6:=S.fl.w6
 have fz:=yO S.fl
 obtain ⟨p,r,hA,hp,hat⟩:=zbA S.fl hc
 rw [zcF S hp hat]
 have hcr:=u6 S C hp
 let mk:Option PV->En:=fun x=>[some (flV w h F),some (sdV u c),x]
 let e1:=mk (some (.lst ((p::r).map PV.int)))
 have tst:fT (fOp vEq (fOp vIx (zA 1) (fC (.int 0))) (fC (.str (Str.ofString "across")))) (mk none)=some !u:=by
  rw [zbz,yh,zkn (a:=.str (wdS u)) (l:=[.int c]) rfl,Je]
  show (vEq (.str (wdS u)) (.str acS)).bind zk=_
  rw [zjZ];rfl
 have hcomp:∀ (Φ:List PV->Option PV) (a b:Int->Int),(∀ q,Φ [flV w h F,.int q]=some (.tup [sdV u (a q),sdV u (b q)]))->(∀ q,atF w u c q=decide (c=a q∨c=b q))->
   fLC (zV (fOp vIx (zA 0) (fC (.int 2)))) 1 [1,0] (zF 0) (fT (fOp kj (zA 1) (zI Φ (zB (zA 2) (zB (zA 0) zE))))) (zh (zA 0)) (mk none)=some (.lst ((p::r).map PV.int)):=fun Φ a b hΦ hab=>by
  rw [← hA]
  refine lcv (qs:=F.map PV.int) (E':=[none,some (sdV u c),some (flV w h F)]) (by rw [uW,zmA (a:=.int w) (b:=.int h) (c:=.tup (F.map PV.int)) (l:=[]) rfl];rfl) rfl (by rw [Jt];omega) ?_
  refine yw (atF w u c) PV.int F fun q _=>⟨[some (.int q),some (sdV u c),some (flV w h F)],rfl,?_,fun _=>rfl⟩
  rw [zbz,yh,xR (as:=[flV w h F,.int q]) rfl (hΦ q)]
  show ((inD (sdV u c) ([a q,b q].map (sdV u))).map PV.bl).bind zk=_
  rw [zlU,hab q]
  simp
 have hx:zI zm (zB (zA 0) (zB (fOp vIx (zA 2) (fC (.int 0))) zE)) e1=some (.tup [.int ((rc (zD w rs cs) p).1:Nat),.int ((rc (zD w rs cs) p).2:Nat)]):=by
  refine xR (as:=[flV w h F,.int p]) ?_ hcr
  have h0:fOp vIx (zA 2) (fC (.int 0)) e1=some (.int p):=by
   show vIx (.lst ((p::r).map PV.int)) (.int 0)=_
   rw [Jo];exact zka
  rw [yU,yU,h0];rfl
 refine wf (e:=e1) (mk none) rfl ?_
 unfold vW
 cases u with
 | false=>
  refine zjx ?_
  rw [vh,tst,Je,Bool.not_false,if_pos rfl]
  rw [zG (e:=e1) (zeo (hcomp zq (low w) (fun q=>low w q+w+1) (fun q=>qM w1 w6) fun q=>rfl))]
  rw [kN,zox hx];rfl
 | true=>
  rw [zG (e:=mk none) (by rw [vh,tst];rfl)]
  rw [zG (e:=e1) (zeo (hcomp yx (low w) (fun q=>low w q+1) (fun q=>zjN w1 w6) fun q=>rfl))]
  rw [kN,zkn hx];rfl
noncomputable abbrev zcP(w:Int)(rs cs:List (Int × Nat)):PV:=.lst ((vC w rs cs).map zT)
noncomputable abbrev stA(w:Int)(rs cs:List (Int × Nat))(k:Nat):PV:=zT (wdT (decide (k<rs.length)),(zD w rs cs).getD k [])
theorem ziz{k:Nat}(hk:k<rs.length+cs.length):vIx (zcP w rs cs) (.int (k:Nat))=some (stA w rs cs k):=by
 have hl:(vC w rs cs).length=rs.length+cs.length:=by simp [vC]
 rw [zlQ,_root_.F.atI_nat (by rw [Jt,hl];exact hk),QE]
 congr 2
 by_cases hr:k<rs.length
 ·rw [decide_eq_true hr,zaB w rs cs hr]
  unfold vC
  rw [List.getElem_append_left (by simpa using hr),List.getElem_map];rfl
 ·obtain ⟨m,rfl⟩:∃ m,k=rs.length+m:=⟨k - rs.length,by omega⟩
  have hm:m<cs.length:=by omega
  rw [decide_eq_false hr,zaC w rs cs hm]
  unfold vC
  rw [List.getElem_append_right (by simp),List.getElem_map]
  simp [wdT]
theorem zeh(S:Strips w h F rs cs){k:Nat}(hk:k<rs.length+cs.length):((zD w rs cs).getD k []).length≤36:=by
 have hk':k<(zD w rs cs).length:=by rw [jT];exact hk
 rw [JD,Jd hk']
 obtain ⟨h1,h2⟩:=S.sub (JP hk')
 have:=zS _ F h1 h2
 have:=yO S.fl
 show (zD w rs cs)[k].length≤36
 omega
theorem ziI(n:Nat):v0 0 n=(List.range n).map fun (k:Nat)=>PV.int (k:Nat):=by rw [zfY,KL];rfl
end
noncomputable def yH:FS:=(zbn 1 (zB (zA 4) (zB (zA 6) zE)) (zA 3))
noncomputable def yG:FS:=(zO (zbo (vg 2 (yE (zF 4) (yE (zF 5) uT))) (fOp vIx (zA 2) (zA 3)))
 (yP (zV (zA 5)) (zF 6) yH))
noncomputable def xG:FS:=(zO (zW 1 q9)
 (zO (zW 2 (zI zf (zB (zA 0) zE)))
 (zO (yP (xQ (zB (zI wJ (zB (zA 2) zE)) zE)) (zF 3) yG)
 (yQ (zA 1)))))
noncomputable def yM:List PV->Option PV:=fnV 7 xG
noncomputable def uS:FS:=(zO (zW 7 (zI zm (zB (zA 1) (zB (zA 6) zE))))
 (yj (fOr (zho (zhm (zI vk (zB (zA 7) (zB (fC (.ty "tuple")) zE))))) (fT (fOp vNe (zA 7) (xJ (zB (kA (zA 5) (zB (fC (.str "row")) (zB (zA 6) zE))) (zB (kA (zA 5) (zB (fC (.str "column")) (zB (zA 6) zE))) zE)))))) (yQ (fC (.bl false))) fNx))
noncomputable def uR:FS:=(yj (zbp (fT (yk vLe vLt (fC (.int 0)) (zA 14) (zA 3))) (fT (fOp vB (fOp zx (fOp zi (zA 14) (zA 2)) (zA 11)) (zA 4)))) (zY 13 (zh (kA (zA 5) (zB (fC (.str "column")) (zB (fOp zx (fOp zi (zA 14) (zA 2)) (zA 11)) zE))))) fNx)
noncomputable def uQ:FS:=(yj (zbp (fT (yk vLe vLt (fC (.int 0)) (zA 15) (zA 2))) (fT (fOp vB (fOp zx (fOp zi (zA 12) (zA 2)) (zA 15)) (zA 4)))) (zY 13 (zh (kA (zA 5) (zB (fC (.str "row")) (zB (fOp zx (fOp zi (zA 12) (zA 2)) (zA 15)) zE))))) fNx)
noncomputable def vA:FS:=(zO (zbo (vg 2 (yE (zF 9) (yE (zF 10) uT))) (zA 8))
 (zO (zW 11 (fOp xU (zA 10) (fOp zx (zA 2) (fC (.int 1)))))
 (zO (zW 12 (fOp ye (zA 10) (fOp zx (zA 2) (fC (.int 1)))))
 (zO (zW 13 (xL zE))
 (zO (yj (fT (fOp vEq (zA 9) (fC (.str "across")))) (yP (zV (xL (zB (fOp wN (zA 12) (fC (.int 1))) (zB (zA 12) zE)))) (zF 14) uR) (yP (zV (xL (zB (fOp wN (zA 11) (fC (.int 1))) (zB (zA 11) zE)))) (zF 15) uQ))
 (zO (zW 7 (zI xM (zB (zA 1) (zB (zA 8) zE))))
 (yj (fOr (zhm (zI vk (zB (zA 7) (zB (fC (.ty "bool")) zE)))) (fOr (fT (fOp vEq (zI wJ (zB (zA 13) zE)) (fC (.int 0)))) (fT (fOp vNe (zA 13) (fOp zi (xL (zB (zA 7) zE)) (zI wJ (zB (zA 13) zE))))))) (yQ (fC (.bl false))) fNx)))))))
noncomputable def zhg:FS:=(zO (zW 1 (zI yK (zB (zA 0) (zB (fC (.int 1)) zE))))
 (zO (zbo (vg 3 (yE (zF 2) (yE (zF 3) (yE (zF 4) uT)))) (zA 1))
 (zO (zW 5 (zI yM (zB (zA 1) zE)))
 (zO (yP (zV (zA 4)) (zF 6) uS)
 (zO (yP (zV (zI wL (zB (zA 1) zE))) (zF 8) vA)
 (yQ (fC (.bl true))))))))
noncomputable def jM:List PV->Option PV:=fnV 16 zhg
noncomputable def kT(z:Bool × Int):List Key:=[.inr (wdT z.1),.inl z.2]
theorem zgU{a b:Bool × Int}(h:kT a=kT b):a=b:=by
 unfold kT at h
 injection h with h1 h2
 injection h2 with h2 _
 have e1:wdT a.1=wdT b.1:=Sum.inr.inj h1
 have e:=zhX a.1 b.1
 rw [decide_eq_true e1] at e
 exact Prod.ext (eq_of_beq e.symm) (Sum.inl.inj h2)
noncomputable def nV(ls:List (List Int))(z:Bool × Int):PV:=.int (kQ ls z.1 z.2:Nat)
noncomputable abbrev tD(ls:List (List Int))(L:List (Bool × Int)):PV:=.dcT (L.map kT) (L.map (nV ls))
theorem zhe{ls:List (List Int)}{z:Bool × Int}:∀ {L:List (Bool × Int)},z ∈ L->kG (L.map kT) (L.map (nV ls)) (kT z)=some (nV ls z)
 | a::L,h=>by
  unfold kG
  rw [Jo,Jo,JM,KH]
  by_cases e:a=z
  ·subst e;simp
  ·rw [show decide ((kT a,nV ls a).1=kT z)=false from decide_eq_false fun q=>e (zgU q)]
   rcases List.mem_cons.mp h with h | h
   ·exact absurd h.symm e
   ·exact zhe h
theorem zkV{ls:List (List Int)}{z:Bool × Int}{L:List (Bool × Int)}(h:z ∉ L):yJ (L.map kT) (L.map (nV ls)) (kT z) (nV ls z)=((L++[z]).map kT,(L++[z]).map (nV ls)):=by
 have:zeI (L.map kT) (kT z)=false:=by
  unfold zeI
  rw [List.any_eq_false]
  intro x hx
  obtain ⟨a,ha,rfl⟩:=Jp.mp hx
  exact fun q=>h (zgU (of_decide_eq_true q) ▸ ha)
 unfold yJ
 rw [this,if_neg Jj,KA,KA];rfl
theorem zhx(ls:List (List Int))(L:List (Bool × Int)):isDatas (L.map (nV ls))=true:=zn _ (fun _=>rfl) L
theorem qq{ls:List (List Int)}{L:List (Bool × Int)}{fa:FE}{fs:FA}{E:En}{u:Bool}{f:Int}(h5:fa E=some (tD ls L))(hs:fs E=some [.str (wdT u),.int f])(hz:(u,f) ∈ L):kA fa fs E=some (nV ls (u,f)):=by
 unfold kA
 rw [h5,Je,hs,Je]
 exact zhe hz
section
variable {w h:Int} {F:List Int} {rs cs:List (Int × Nat)} {L0:List Int} {G:Int->PV} {ns:List Int}
theorem kq(S:Strips w h F rs cs){a:Nat}(ha:a<rs.length+cs.length){u:Bool}{f:Int}:(u=decide (a<rs.length)/\f ∈ (zD w rs cs).getD a []) ↔ f ∈ F/\kQ (zD w rs cs) u f=a:=by
 constructor
 ·rintro ⟨rfl,hf⟩
  obtain ⟨hF,e⟩:=zeB S ha hf
  obtain ⟨_,h1,h2,h3⟩:=S.rc_of hF
  refine ⟨hF,?_⟩
  unfold kQ
  by_cases hr:a<rs.length
  ·rw [decide_eq_true hr,if_pos rfl];omega
  ·rw [decide_eq_false hr,if_neg Jj];omega
 ·rintro ⟨hF,e⟩
  obtain ⟨_,h1,h2,h3⟩:=S.rc_of hF
  cases u with
  | true=>
   have e:(rc (zD w rs cs) f).1=a:=e
   have hr:a<rs.length:=by omega
   refine ⟨(decide_eq_true hr).symm,?_⟩
   rw [zaB w rs cs hr]
   exact (zkO S hF hr).mp e
  | false=>
   have e:(rc (zD w rs cs) f).2=a:=e
   have hr:¬ a<rs.length:=by omega
   obtain ⟨m,rfl⟩:∃ m,a=rs.length+m:=⟨a - rs.length,by omega⟩
   have hm:m<cs.length:=by omega
   refine ⟨(decide_eq_false hr).symm,?_⟩
   rw [zaC w rs cs hm]
   exact (zkP S hF hm).mp e
noncomputable def nE(w h:Int)(F:List Int)(rs cs:List (Int × Nat))(L:List (Bool × Int))(a b c d:Option PV):En:=[some (flV w h F),some (tD (zD w rs cs) L),some (zcP w rs cs),a,b,c,d]
theorem zcb(S:Strips w h F rs cs)(hst:zf [flV w h F]=some (zcP w rs cs)):∃ L,yM [flV w h F]=some (tD (zD w rs cs) L)/\∀ (u:Bool) (f:Int),f ∈ F->(u,f) ∈ L:=by
 have hlen:=S.lens
 have zl:(vC w rs cs).length=rs.length+cs.length:=by simp [vC]
 obtain ⟨e,l1,L,a,b,c,d,rfl,_,mm⟩:=yq (b:=zF 3) (g:=yG) (xs:=List.range (rs.length+cs.length)) (hh:=fun (k:Nat)=>PV.int (k:Nat)) (env:=nE w h F rs cs [] none none none none)
  (fun pre e=>∃ L a b c d,e=nE w h F rs cs L a b c d/\L.length≤36 * pre.length/\∀ u f,(u,f) ∈ L ↔ f ∈ F/\kQ (zD w rs cs) u f ∈ pre)
  ⟨[],none,none,none,none,rfl,Jm _,fun u f=>⟨fun z=>(nomatch z),fun z=>(nomatch z.2)⟩⟩ (by
   rintro pre k post e hp ⟨L,a,b,c,d,rfl,hL,mm⟩
   have hk:k<rs.length+cs.length:=Jw.mp (by rw [hp];exact Jn _ Jc)
   have hkp:k ∉ pre:=by
    have:=List.nodup_range (n:=rs.length+cs.length)
    rw [hp,JJ] at this
    exact fun z=>this.2.2 k z k Jc rfl
   have hpl:pre.length≤rs.length+cs.length:=by have:=congrArg List.length hp;rw [KG,Jk] at this;omega
   have hsl:=zeh S hk
   have nds:((zD w rs cs).getD k []).Nodup:=by
    have hk':k<(zD w rs cs).length:=by rw [jT];exact hk
    rw [JD,Jd hk']
    exact (S.sub (JP hk')).1
   let E:List (Bool × Int)->Option PV->En:=fun L d=>nE w h F rs cs L (some (.int (k:Nat))) (some (.str (wdT (decide (k<rs.length))))) (some (.tup (((zD w rs cs).getD k []).map PV.int))) d
   obtain ⟨e,l2,L',d',rfl,hL',mm'⟩:=yq (b:=zF 6) (g:=yH) (xs:=(zD w rs cs).getD k []) (hh:=PV.int) (env:=E L d)
    (fun q e=>∃ L' d,e=E L' d/\L'.length≤L.length+q.length/\∀ u f,(u,f) ∈ L' ↔ (u,f) ∈ L∨(u=decide (k<rs.length)/\f ∈ q))
    ⟨L,d,rfl,Jm _,fun u f=>⟨.inl,fun z=>z.elim id fun z=>nomatch z.2⟩⟩ (by
     rintro q f post' e hq ⟨L',d,rfl,hL',mm'⟩
     have hfm:f ∈ (zD w rs cs).getD k []:=by rw [hq];exact Jn _ Jc
     have hql:q.length≤36:=by have:=congrArg List.length hq;rw [Jk] at this;omega
     obtain ⟨hF,hs⟩:=(kq S hk (u:=decide (k<rs.length))).mp ⟨rfl,hfm⟩
     have hz:(decide (k<rs.length),f) ∉ L':=fun z=>by
      rcases (mm' _ _).mp z with z | z
      ·have:=((mm _ _).mp z).2
       rw [hs] at this;exact hkp this
      ·rw [hq,JJ] at nds
       exact nds.2.2 f z.2 f Jc rfl
     refine ⟨E L' (some (.int f)),E (L'++[(decide (k<rs.length),f)]) (some (.int f)),rfl,.inl ?_,_,_,rfl,by rw [Jk,Jk,Km,Km];omega,fun u g=>?_⟩
     ·unfold yH zbn
      have v3:zA 3 (E L' (some (.int f)))=some (nV (zD w rs cs) (decide (k<rs.length),f)):=by
       show some (PV.int (k:Nat))=some (PV.int (kQ (zD w rs cs) (decide (k<rs.length)) f:Nat))
       rw [hs]
      rw [v3,Je]
      show (if (isDatas (L'.map (nV (zD w rs cs))) && true && decide ((L'.map kT).length<100000))=true then _ else _)=_
      rw [zhx,Jt,decide_eq_true (by omega),if_pos (by rfl)]
      show some (Out.nx ((E L' (some (.int f))).set 1 (some (.dcT (yJ (L'.map kT) (L'.map (nV (zD w rs cs))) (kT (decide (k<rs.length),f)) (nV (zD w rs cs) (decide (k<rs.length),f))).1 (yJ (L'.map kT) (L'.map (nV (zD w rs cs))) (kT (decide (k<rs.length),f)) (nV (zD w rs cs) (decide (k<rs.length),f))).2))))=_
      rw [zkV hz];rfl
     ·rw [JK,mm',JK,Jh,Jh,Prod.mk.injEq]
      constructor
      ·rintro ((z | z) | z)
       ·exact .inl z
       ·exact .inr ⟨z.1,.inl z.2⟩
       ·exact .inr ⟨z.1,.inr z.2⟩
      ·rintro (z | ⟨z,y | y⟩)
       ·exact .inl (.inl z)
       ·exact .inl (.inr ⟨z,y⟩)
       ·exact .inr ⟨z,y⟩)
   refine ⟨nE w h F rs cs L (some (.int (k:Nat))) b c d,E L' d',rfl,.inl ?_,_,_,_,_,_,rfl,by rw [Jk,Km];omega,fun u f=>?_⟩
   ·unfold yG
    have i1:fOp vIx (zA 2) (zA 3) (nE w h F rs cs L (some (.int (k:Nat))) b c d)=some (stA w rs cs k):=ziz hk
    rw [zG (e:=E L d) (by rw [zmp,i1];rfl),xS]
    exact l2
   ·rw [mm',mm,kq S hk,JK,Jh]
    exact ⟨fun z=>z.elim (fun z=>⟨z.1,.inl z.2⟩) fun z=>⟨z.1,.inr z.2⟩,fun z=>z.2.elim (fun y=>.inl ⟨z.1,y⟩) fun y=>.inr ⟨z.1,y⟩⟩)
 refine ⟨L,?_,fun u f hf=>(mm u f).mpr ⟨hf,Jw.mpr ?_⟩⟩
 ·refine wf (e:=nE w h F rs cs L a b c d) [some (flV w h F),none,none,none,none,none,none] rfl ?_
  unfold xG
  rw [zG (e:=[some (flV w h F),some (tD (zD w rs cs) []),none,none,none,none,none]) rfl]
  rw [zG (e:=nE w h F rs cs [] none none none none) (y4 (as:=[flV w h F]) rfl hst)]
  have vl:zI wJ (zB (zA 2) zE) (nE w h F rs cs [] none none none none)=some (.int ((rs.length+cs.length:Nat):Int)):=xR (as:=[zcP w rs cs]) rfl (by rw [zdr,Jt,zl])
  rw [zG (e:=nE w h F rs cs L a b c d) (by
   rw [xS,ziJ (j:=((rs.length+cs.length:Nat):Int)) (by rw [yU,vl];rfl) (by omega) (by omega),Int.toNat_natCast,ziI]
   exact l1)]
  rfl
 ·obtain ⟨_,h1,h2,h3⟩:=S.rc_of hf
  unfold kQ
  split<;>omega
end
section
variable {w h:Int} {F:List Int} {rs cs:List (Int × Nat)} {L0:List Int} {G:Int->PV} {ns:List Int} {L:List (Bool × Int)}
noncomputable def lE(ns:List Int)(w h:Int)(F:List Int)(ls:List (List Int))(L:List (Bool × Int))(x6 x7 x8 x9 x10 x11 x12 x13 x14 x15:Option PV):En:=[some (scr ns),some (flV w h F),some (.int w),some (.int h),some (.tup (F.map PV.int)),some (tD ls L),x6,x7,x8,x9,x10,x11,x12,x13,x14,x15]
theorem zbm(S:Strips w h F rs cs)(C:Cross w h F (zD w rs cs) L0 G)(hL:∀ (u:Bool) (f:Int),f ∈ F->(u,f) ∈ L):∃ x y,wK (zF 6) uS (F.map PV.int) (lE ns w h F (zD w rs cs) L none none none none none none none none none none)=some (.nx (lE ns w h F (zD w rs cs) L x y none none none none none none none none)):=by
 obtain ⟨e,l1,x,y,rfl⟩:=yq (b:=zF 6) (g:=uS) (xs:=F) (hh:=PV.int) (env:=lE ns w h F (zD w rs cs) L none none none none none none none none none none) (fun _ e=>∃ x y,e=lE ns w h F (zD w rs cs) L x y none none none none none none none none) ⟨_,_,rfl⟩ (by
  rintro pre f post e hF ⟨x,y,rfl⟩
  have hf:f ∈ F:=by rw [hF];exact Jn _ Jc
  let E:Option PV->En:=fun y=>lE ns w h F (zD w rs cs) L (some (.int f)) y none none none none none none none none
  let t:PV:=.tup [.int ((rc (zD w rs cs) f).1:Nat),.int ((rc (zD w rs cs) f).2:Nat)]
  refine ⟨E y,E (some t),rfl,.inl ?_,_,_,rfl⟩
  unfold uS
  rw [zG (e:=E (some t)) (y4 (as:=[flV w h F,.int f]) rfl (u6 S C hf))]
  have i1:kA (zA 5) (zB (fC (.str (Str.ofString "row"))) (zB (zA 6) zE)) (E (some t))=some (nV (zD w rs cs) (true,f)):=qq (u:=true) rfl rfl (hL true f hf)
  have i2:kA (zA 5) (zB (fC (.str (Str.ofString "column"))) (zB (zA 6) zE)) (E (some t))=some (nV (zD w rs cs) (false,f)):=qq (u:=false) rfl rfl (hL false f hf)
  refine if2 rfl ?_
  rw [zbz,yh,zhM,yU,i1,Je,yU,i2]
  show (vNe t t).bind zk=_
  rw [zjh (d:=1) (zdk fun q hq=>by
   simp only [List.mem_cons,List.not_mem_nil,or_false] at hq
   rcases hq with rfl | rfl<;>exact zdl _) (by decide)];rfl)
 exact ⟨x,y,l1⟩
theorem ky{b:PV->En->Option En}{g:FS}{T:Int->Bool}{W:Int->PV}{mk:List PV->Option PV->En}(hb:∀ X o y,b (.int y) (mk X o)=some (mk X (some (.int y))))
  (hg:∀ X y,X.length≤2->g (mk X (some (.int y)))=some (.nx (mk (X++if T y then [W y] else []) (some (.int y)))))(a c:Int){o:Option PV}:
  ∃ o',wK b g [.int a,.int c] (mk [] o)=some (.nx (mk (([a,c].filter T).map W) o')):=by
 obtain ⟨e,l1,o',rfl,_⟩:=yq (b:=b) (g:=g) (xs:=[a,c]) (hh:=PV.int) (env:=mk [] o) (fun pre e=>∃ o,e=mk ((pre.filter T).map W) o/\pre.length≤2) ⟨o,rfl,by simp⟩ (by
  rintro pre y post e hp ⟨o,rfl,hl⟩
  have hpl:pre.length+post.length=1:=by have:=congrArg List.length hp;simp at this;omega
  refine ⟨_,_,hb _ _ _,.inl (hg _ y (by rw [List.length_map];exact Nat.le_trans (List.length_filter_le _ _) hl)),some (.int y),?_,by rw [List.length_append];simp;omega⟩
  rw [QO,KA]
  cases hT:T y<;>simp [hT])
 exact ⟨o',l1⟩
noncomputable def kS(w h:Int)(F:List Int)(x y:Int):Bool:=(decide (0≤y) && decide (y<h)) && decide (y * w+x ∈ F)
noncomputable def kU(w:Int)(F:List Int)(r x:Int):Bool:=(decide (0≤x) && decide (x<w)) && decide (r * w+x ∈ F)
theorem zbu{fa fb fc:FE}{E:En}{a b c:Int}(h1:fa E=some (.int a))(h2:fb E=some (.int b))(h3:fc E=some (.int c)):fT (yk vLe vLt fa fb fc) E=some (decide (a≤b) && decide (b<c)):=by
 rw [zbz,zhQ,h1,Je,h2,Je]
 show ((some (decide (a≤b))).bind fun z=>if z=true then (fc E).bind fun w=>vLt (.int b) w else some (.bl false)).bind zk=_
 rw [Je]
 cases decide (a≤b) with
 | true=>rw [if_pos rfl,h3];rfl
 | false=>rfl
theorem zgZ{t:FT}{f:FE}{E:En}{i:Nat}{X:List PV}{b:Bool}{q:PV}(ht:t E=some b)(hf:b=true->f E=some q)(hi:zA i E=some (.lst X))(hE:E.set i (some (.lst X))=E)(hX:X.length<100000):yj t (zY i f) fNx E=some (.nx (E.set i (some (.lst (X++if b then [q] else []))))):=by
 rw [vh,ht,Je]
 cases b with
 | true=>rw [if_pos rfl,zfi hi (hf rfl) hX];rfl
 | false=>rw [if_neg Jj,if_neg Jj,JR,hE];rfl
noncomputable def zbX(w h:Int)(F:List Int)(ls:List (List Int))(z:Bool × Int):List PV:=
 if z.1 then ([z.2 % (w+1) - 1,z.2 % (w+1)].filter (kU w F (z.2 / (w+1)))).map (fun x=>nV ls (true,z.2 / (w+1) * w+x))
 else ([z.2 / (w+1) - 1,z.2 / (w+1)].filter (kS w h F (z.2 % (w+1)))).map (fun y=>nV ls (false,y * w+z.2 % (w+1)))
theorem ziZ(S:Strips w h F rs cs){u:Bool}{c:Int}(hc:c ∈ lsW w h F u):zbX w h F (zD w rs cs) (u,c)≠[]/\∀ q ∈ zbX w h F (zD w rs cs) (u,c),q=.int (blg w F (zD w rs cs) (u,c):Nat):=by
 have w1:=S.fl.w1
 obtain ⟨p,hp,hat⟩:=(qU S.fl u).mp hc
 obtain ⟨x0,x1,y0,y1,e⟩:=zjX S.fl hp
 have lp:=uD w p
 cases u with
 | false=>
  -- across
  have hcx:c % (w+1)=p % w/\(c / (w+1)=p / w∨c / (w+1)=p / w+1):=by
   rcases of_decide_eq_true hat with z | z
   ·have:=wn (w:=w) (y:=p / w) x0 (by omega)
    rw [z,show low w p=crn w (p % w) (p / w) from lp]
    exact ⟨this.2,.inl this.1⟩
   ·have:=wn (w:=w) (y:=p / w+1) x0 (by omega)
    have e2:low w p+w+1=crn w (p % w) (p / w+1):=by
     have:=lp
     unfold low
     unfold crn at this ⊢
     rw [Int.add_mul (p / w)];omega
    rw [z,e2]
    exact ⟨this.2,.inr this.1⟩
  have cc:c=crn w (c % (w+1)) (c / (w+1)):=by
   have:=JI c (w+1)
   rw [Qx] at this
   unfold crn;omega
  have val:∀ y,kS w h F (c % (w+1)) y=true->(y=c / (w+1) - 1∨y=c / (w+1))->nV (zD w rs cs) (false,y * w+c % (w+1))=.int (blg w F (zD w rs cs) (false,c):Nat):=fun y hy hyy=>by
   unfold kS at hy
   rw [JG,decide_eq_true_eq] at hy
   have hm:=hy.2
   obtain ⟨m1,m2⟩:=zfl (w:=w) (x:=c % (w+1)) (y:=y) (by omega) (by omega)
   have hl:low w (y * w+c % (w+1))=crn w (c % (w+1)) y:=by
    have:=uD w (y * w+c % (w+1))
    rw [m1,m2] at this
    unfold low
    rw [m2];exact this
   have hat':atF w false c (y * w+c % (w+1))=true:=by
    refine decide_eq_true ?_
    rw [hl]
    unfold crn at cc ⊢
    rcases hyy with z | z
    ·right
     have e3:(c / (w+1) - 1) * (w+1)=c / (w+1) * (w+1) - (w+1):=by rw [Int.sub_mul];omega
     rw [z,e3];omega
    ·left;rw [z];omega
   rw [zcF S hm hat'];rfl
  show ([c / (w+1) - 1,c / (w+1)].filter (kS w h F (c % (w+1)))).map _≠[]/\_
  constructor
  ·intro hn
   have hn:=QG.mp hn
   rw [List.filter_eq_nil_iff] at hn
   have:kS w h F (c % (w+1)) (p / w)=true:=by
    unfold kS
    rw [hcx.1,e,decide_eq_true y0,decide_eq_true y1,decide_eq_true hp];rfl
   refine hn (p / w) ?_ this
   rcases hcx.2 with z | z<;>rw [z]<;>simp
  ·intro q hq
   obtain ⟨y,hy,rfl⟩:=Jp.mp hq
   obtain ⟨h1,h2⟩:=Ka.mp hy
   simp only [List.mem_cons,List.not_mem_nil,or_false] at h1
   exact val y h2 h1
 | true=>
  have hcx:c / (w+1)=p / w/\(c % (w+1)=p % w∨c % (w+1)=p % w+1):=by
   rcases of_decide_eq_true hat with z | z
   ·have:=wn (w:=w) (y:=p / w) x0 (by omega)
    rw [z,show low w p=crn w (p % w) (p / w) from lp]
    exact ⟨this.1,.inl this.2⟩
   ·have:=wn (w:=w) (x:=p % w+1) (y:=p / w) (by omega) (by omega)
    have e2:low w p+1=crn w (p % w+1) (p / w):=by
     have:=lp
     unfold low
     unfold crn at this ⊢
     omega
    rw [z,e2]
    exact ⟨this.1,.inr this.2⟩
  have cc:c=crn w (c % (w+1)) (c / (w+1)):=by
   have:=JI c (w+1)
   rw [Qx] at this
   unfold crn;omega
  have val:∀ x,kU w F (c / (w+1)) x=true->(x=c % (w+1) - 1∨x=c % (w+1))->nV (zD w rs cs) (true,c / (w+1) * w+x)=.int (blg w F (zD w rs cs) (true,c):Nat):=fun x hx hxx=>by
   unfold kU at hx
   rw [JG,JG,decide_eq_true_eq,decide_eq_true_eq,decide_eq_true_eq] at hx
   have hm:=hx.2
   obtain ⟨m1,m2⟩:=zfl (w:=w) (x:=x) (y:=c / (w+1)) hx.1.1 hx.1.2
   have hl:low w (c / (w+1) * w+x)=crn w x (c / (w+1)):=by
    have:=uD w (c / (w+1) * w+x)
    rw [m1,m2] at this
    unfold low
    rw [m2];exact this
   have hat':atF w true c (c / (w+1) * w+x)=true:=by
    refine decide_eq_true ?_
    rw [hl]
    unfold crn at cc ⊢
    omega
   rw [zcF S hm hat'];rfl
  show ([c % (w+1) - 1,c % (w+1)].filter (kU w F (c / (w+1)))).map _≠[]/\_
  constructor
  ·intro hn
   have hn:=QG.mp hn
   rw [List.filter_eq_nil_iff] at hn
   have:kU w F (c / (w+1)) (p % w)=true:=by
    unfold kU
    rw [hcx.1,e,decide_eq_true x0,decide_eq_true x1,decide_eq_true hp];rfl
   refine hn (p % w) ?_ this
   rcases hcx.2 with z | z<;>rw [z]<;>simp
  ·intro q hq
   obtain ⟨y,hy,rfl⟩:=Jp.mp hq
   obtain ⟨h1,h2⟩:=Ka.mp hy
   simp only [List.mem_cons,List.not_mem_nil,or_false] at h1
   exact val y h2 h1
theorem zgw(ls:List (List Int))(z:Bool × Int):(zbX w h F ls z).length≤2:=by
 unfold zbX
 split<;>(rw [List.length_map];exact Nat.le_trans (List.length_filter_le _ _) (by simp))
theorem zgv(S:Strips w h F rs cs){u:Bool}{c:Int}(hc:c ∈ lsW w h F u):∃ n:Nat,1≤n/\n≤2/\zbX w h F (zD w rs cs) (u,c)=(List.replicate n (blg w F (zD w rs cs) (u,c):Int)).map PV.int:=by
 obtain ⟨h1,h2⟩:=ziZ S hc
 have h3:=zgw (w:=w) (h:=h) (F:=F) (zD w rs cs) (u,c)
 refine ⟨(zbX w h F (zD w rs cs) (u,c)).length,List.length_pos_iff.mpr h1,h3,?_⟩
 rw [List.map_replicate]
 exact List.eq_replicate_iff.mpr ⟨rfl,h2⟩
theorem zaO(B:Int):∀ n:Nat,(List.replicate n [PV.int B]).flatten=(List.replicate n B).map PV.int
 | 0=>rfl
 | n+1=>by rw [Kd,Kw,zaO B n];rfl
theorem zen(S:Strips w h F rs cs)(C:Cross w h F (zD w rs cs) L0 G)(hL:∀ (u:Bool) (f:Int),f ∈ F->(u,f) ∈ L){u:Bool}{c:Int}(hc:c ∈ lsW w h F u){x6 x7 x9 x10 x11 x12 x13 x14 x15:Option PV}:
  ∃ y7 y9 y10 y11 y12 y13 y14 y15,vA (lE ns w h F (zD w rs cs) L x6 x7 (some (sdV u c)) x9 x10 x11 x12 x13 x14 x15)=some (.nx (lE ns w h F (zD w rs cs) L x6 y7 (some (sdV u c)) y9 y10 y11 y12 y13 y14 y15)):=by
 have w1:=S.fl.w1;have w6:=S.fl.w6
 let E:Option PV->Option PV->Option PV->Option PV->Option PV->Option PV->Option PV->Option PV->En:=fun a b c' d e f g i=>lE ns w h F (zD w rs cs) L x6 a (some (sdV u c)) b c' d e f g i
 have key:∃ o14 o15,yj (fT (fOp vEq (zA 9) (fC (.str (Str.ofString "across"))))) (yP (zV (xL (zB (fOp wN (zA 12) (fC (.int 1))) (zB (zA 12) zE)))) (zF 14) uR) (yP (zV (xL (zB (fOp wN (zA 11) (fC (.int 1))) (zB (zA 11) zE)))) (zF 15) uQ)
   (E x7 (some (.str (wdS u))) (some (.int c)) (some (.int (c % (w+1)))) (some (.int (c / (w+1)))) (some (.lst [])) x14 x15)=some (.nx (E x7 (some (.str (wdS u))) (some (.int c)) (some (.int (c % (w+1)))) (some (.int (c / (w+1)))) (some (.lst (zbX w h F (zD w rs cs) (u,c)))) o14 o15)):=by
  rw [vh]
  have tst:fT (fOp vEq (zA 9) (fC (.str (Str.ofString "across")))) (E x7 (some (.str (wdS u))) (some (.int c)) (some (.int (c % (w+1)))) (some (.int (c / (w+1)))) (some (.lst [])) x14 x15)=some !u:=by
   show (vEq (.str (wdS u)) (.str acS)).bind zk=_
   rw [zjZ];rfl
  rw [tst,Je]
  cases u with
  | false=>
   rw [Bool.not_false,if_pos rfl]
   obtain ⟨o,l⟩:=ky (b:=zF 14) (g:=uR) (T:=kS w h F (c % (w+1))) (W:=fun y=>nV (zD w rs cs) (false,y * w+c % (w+1)))
    (mk:=fun X o=>lE ns w h F (zD w rs cs) L x6 x7 (some (sdV false c)) (some (.str (wdS false))) (some (.int c)) (some (.int (c % (w+1)))) (some (.int (c / (w+1)))) (some (.lst X)) o x15) (fun _ _ _=>rfl) (fun X y hX=>by
     have hm:∀ E:En,zA 14 E=some (.int y)->zA 2 E=some (.int w)->zA 11 E=some (.int (c % (w+1)))->fOp zx (fOp zi (zA 14) (zA 2)) (zA 11) E=some (.int (y * w+c % (w+1))):=fun E a b d=>by
      rw [yh,yh,a,b,d]
      show (zi (.int y) (.int w)).bind _=_
      rw [zgF ⟨by omega,by omega⟩];rfl
     unfold uR
     refine zgZ (b:=kS w h F (c % (w+1)) y) ?_ (fun hT=>?_) rfl rfl (by omega)
     ·rw [zhS,zbu (a:=0) (b:=y) (c:=h) rfl rfl rfl,Je]
      unfold kS
      cases decide (0≤y) && decide (y<h) with
      | true=>
       rw [if_pos rfl,zbz,yh,hm _ rfl rfl rfl,Je]
       show ((vIn (.int (y * w+c % (w+1))) (.tup (F.map PV.int))).map PV.bl).bind zk=_
       rw [zcq];rfl
      | false=>rfl
     ·refine znX (qq (u:=false) rfl ?_ (hL false _ ?_)) rfl
      ·rw [yU,yU,hm _ rfl rfl rfl];rfl
      ·unfold kS at hT
       rw [JG,decide_eq_true_eq] at hT
       exact hT.2) (c / (w+1) - 1) (c / (w+1)) (o:=x14)
   exact ⟨o,x15,l⟩
  | true=>
   rw [Bool.not_true,if_neg Jj]
   obtain ⟨o,l⟩:=ky (b:=zF 15) (g:=uQ) (T:=kU w F (c / (w+1))) (W:=fun x=>nV (zD w rs cs) (true,c / (w+1) * w+x))
    (mk:=fun X o=>lE ns w h F (zD w rs cs) L x6 x7 (some (sdV true c)) (some (.str (wdS true))) (some (.int c)) (some (.int (c % (w+1)))) (some (.int (c / (w+1)))) (some (.lst X)) x14 o) (fun _ _ _=>rfl) (fun X y hX=>by
     have hm:∀ E:En,zA 15 E=some (.int y)->zA 2 E=some (.int w)->zA 12 E=some (.int (c / (w+1)))->fOp zx (fOp zi (zA 12) (zA 2)) (zA 15) E=some (.int (c / (w+1) * w+y)):=fun E a b d=>by
      rw [yh,yh,d,b,a]
      show (zi (.int (c / (w+1))) (.int w)).bind _=_
      rw [zgF ⟨by omega,by omega⟩];rfl
     unfold uQ
     refine zgZ (b:=kU w F (c / (w+1)) y) ?_ (fun hT=>?_) rfl rfl (by omega)
     ·rw [zhS,zbu (a:=0) (b:=y) (c:=w) rfl rfl rfl,Je]
      unfold kU
      cases decide (0≤y) && decide (y<w) with
      | true=>
       rw [if_pos rfl,zbz,yh,hm _ rfl rfl rfl,Je]
       show ((vIn (.int (c / (w+1) * w+y)) (.tup (F.map PV.int))).map PV.bl).bind zk=_
       rw [zcq];rfl
      | false=>rfl
     ·refine znX (qq (u:=true) rfl ?_ (hL true _ ?_)) rfl
      ·rw [yU,yU,hm _ rfl rfl rfl];rfl
      ·unfold kU at hT
       rw [JG,decide_eq_true_eq] at hT
       exact hT.2) (c % (w+1) - 1) (c % (w+1)) (o:=x15)
   exact ⟨x14,o,l⟩
 obtain ⟨o14,o15,key⟩:=key
 obtain ⟨n,n1,n2,hr⟩:=zgv S hc
 rw [hr] at key
 generalize hB:blg w F (zD w rs cs) (u,c)=B at hr key
 let E9:Option PV->En:=fun t=>E t (some (.str (wdS u))) (some (.int c)) (some (.int (c % (w+1)))) (some (.int (c / (w+1)))) (some (.lst ((List.replicate n (B:Int)).map PV.int))) o14 o15
 refine ⟨some (.int (B:Nat)),some (.str (wdS u)),some (.int c),some (.int (c % (w+1))),some (.int (c / (w+1))),some (.lst ((List.replicate n (B:Int)).map PV.int)),o14,o15,?_⟩
 ·show vA _=some (.nx (E9 (some (.int (B:Nat)))))
  unfold vA
  rw [zG (e:=E x7 (some (.str (wdS u))) (some (.int c)) x11 x12 x13 x14 x15) rfl]
  rw [zG (e:=E x7 (some (.str (wdS u))) (some (.int c)) (some (.int (c % (w+1)))) x12 x13 x14 x15) (zeo (by
   show xU (.int c) (.int (w+1))=_
   exact yD (by omega)))]
  rw [zG (e:=E x7 (some (.str (wdS u))) (some (.int c)) (some (.int (c % (w+1)))) (some (.int (c / (w+1)))) x13 x14 x15) (zeo (by
   show ye (.int c) (.int (w+1))=_
   exact wy (by omega)))]
  rw [zG (e:=E x7 (some (.str (wdS u))) (some (.int c)) (some (.int (c % (w+1)))) (some (.int (c / (w+1)))) (some (.lst [])) x14 x15) rfl]
  rw [zG (e:=E9 x7) key]
  rw [zG (e:=E9 (some (.int (B:Nat)))) (y4 (as:=[flV w h F,sdV u c]) rfl (by rw [zbN S C hc,hB]))]
  have vl:zI wJ (zB (zA 13) zE) (E9 (some (.int (B:Nat))))=some (.int (n:Nat)):=xR (as:=[.lst ((List.replicate n (B:Int)).map PV.int)]) rfl (by rw [zdr,Jt,List.length_replicate])
  refine if3 rfl ?_ ?_
  ·rw [zbz,yh,vl,Je]
   show (vEq (.int (n:Nat)) (.int 0)).bind zk=_
   rw [znU,decide_eq_false (by omega)];rfl
  ·have v13:zA 13 (E9 (some (.int (B:Nat))))=some (.lst ((List.replicate n (B:Int)).map PV.int)):=rfl
   have v7:xL (zB (zA 7) zE) (E9 (some (.int (B:Nat))))=some (.lst [.int (B:Nat)]):=rfl
   have hm:zi (.lst [.int (B:Nat)]) (.int (n:Nat))=some (.lst ((List.replicate n (B:Int)).map PV.int)):=by
    unfold zi
    dsimp only
    rw [if_pos ⟨rfl,by omega,by omega,by rw [Int.toNat_natCast,Km];omega⟩,Int.toNat_natCast,zaO]
   rw [zbz,yh,v13,Je,yh,v7,Je,vl,Je,hm,Je,zlG,decide_eq_true rfl];rfl
end
theorem zgP(ns:List Int)(hl:ns.length≤63)(hb:∀ m ∈ ns,Builtin.Int.intBits m≤1048576):jM [.fls (ns.map PV.int)]=some (.bl true):=by
 have SC:Scr ns:=⟨hl,hb⟩
 obtain ⟨w,h,F,hfl,fl⟩:=zhk SC (k:=1) (by decide) (by decide)
 obtain ⟨rs,cs,L0,G,S,hst,C⟩:=zeY fl
 have hsd:=zem fl
 obtain ⟨L,hnum,hL⟩:=zcb S hst
 obtain ⟨x6,x7,p1⟩:=zbm (ns:=ns) S C hL
 obtain ⟨e,p2,y6,y7,y8,y9,y10,y11,y12,y13,y14,y15,rfl⟩:=yq (b:=zF 8) (g:=vA) (xs:=zhK w h F) (hh:=fun z=>sdV z.1 z.2) (env:=lE ns w h F (zD w rs cs) L x6 x7 none none none none none none none none) (fun _ e=>∃ y6 y7 y8 y9 y10 y11 y12 y13 y14 y15,e=lE ns w h F (zD w rs cs) L y6 y7 y8 y9 y10 y11 y12 y13 y14 y15) ⟨_,_,_,_,_,_,_,_,_,_,rfl⟩ (by
  rintro pre z post e hp ⟨y6,y7,y8,y9,y10,y11,y12,y13,y14,y15,rfl⟩
  have hz:z ∈ zhK w h F:=by rw [hp];exact Jn _ Jc
  obtain ⟨z7,z9,z10,z11,z12,z13,z14,z15,st⟩:=zen (ns:=ns) S C hL (zgK hz) (x6:=y6) (x7:=y7) (x9:=y9) (x10:=y10) (x11:=y11) (x12:=y12) (x13:=y13) (x14:=y14) (x15:=y15)
  exact ⟨lE ns w h F (zD w rs cs) L y6 y7 (some (sdV z.1 z.2)) y9 y10 y11 y12 y13 y14 y15,_,rfl,.inl st,_,_,_,_,_,_,_,_,_,_,rfl⟩)
 rw [zmn] at p2
 let E0:Option PV->Option PV->Option PV->Option PV->Option PV->En:=fun a b c d e=>[some (scr ns),a,b,c,d,e,none,none,none,none,none,none,none,none,none,none]
 refine wf (e:=lE ns w h F (zD w rs cs) L y6 y7 y8 y9 y10 y11 y12 y13 y14 y15) (E0 none none none none none) rfl ?_
 unfold zhg
 rw [zG (e:=E0 (some (flV w h F)) none none none none) (y4 (as:=[scr ns,.int 1]) rfl hfl)]
 rw [zG (e:=E0 (some (flV w h F)) (some (.int w)) (some (.int h)) (some (.tup (F.map PV.int))) none) rfl]
 rw [zG (e:=lE ns w h F (zD w rs cs) L none none none none none none none none none none) (y4 (as:=[flV w h F]) rfl hnum)]
 rw [zG (e:=lE ns w h F (zD w rs cs) L x6 x7 none none none none none none none none) (by rw [xS];exact p1)]
 rw [zG (e:=lE ns w h F (zD w rs cs) L y6 y7 y8 y9 y10 y11 y12 y13 y14 y15) (by rw [xS,uW,xR (as:=[flV w h F]) rfl hsd];exact p2)]
 rfl
end Cb
namespace Cb
open PySem L2 F PyProof.Rows
noncomputable def top(i:Nat):Stmt:=PySem.Challenge.pw_crossbrace_k07_crossings_and_sides_of_st.main.body.getD i (.Pass ⟨0,0,0,0⟩)
structure Blt (mg:Str->Option Value):Prop where
 bool_:mg "bool"=none
 enumerate_:mg "enumerate"=none
 isinstance_:mg "isinstance"=none
 len_:mg "len"=none
 range_:mg "range"=none
 set_:mg "set"=none
 sorted_:mg "sorted"=none
 tuple_:mg "tuple"=none
 zip_:mg "zip"=none
variable {P:Program} {w:World} {K:PySem.W.Frag} {mg:Str->Option Value} {base:Heap} {f:Addr} {fd:FuncData}
set_option hygiene false
local macro_rules
|`(tactic|rw[7101,$x:term,$y:term])=>`(tactic|((with_reducible show VE _ _ _ _ _ $x);refine' $y))
|`(tactic|rw[7102,$x:term,$y:term])=>`(tactic|((with_reducible show VS _ _ _ _ $x);refine' $y))
|`(tactic|rw[7103,$x:term,$y:term])=>`(tactic|((with_reducible show $x);refine' $y))
|`(tactic|rw[7104,$x:term,$y:term,$z:term,$w:term])=>`(tactic|((with_reducible show VE _ _ _ _ _ (zI $x _));refine' zfB $y $z (by rfl) (by assumption) $w _))
|`(tactic|rw[7105,$x:term,$y:term,$z:term,$w:term])=>`(tactic|((with_reducible show VE _ _ _ _ _ (zI $x _));refine' zdZ $y $z (by rfl) (by assumption) $w _))
|`(tactic|rw[7106,$x:term,$y:term,$z:term])=>`(tactic|((with_reducible show $x);refine' ⟨_,$y,$z⟩))
local macro_rules
|`([7006])=>`((by first|exact Or.inl rfl|exact Or.inr rfl))
|`([7007])=>`((by first|exact boot_int|exact boot_str|exact boot_bool|exact boot_list|exact boot_tuple|exact boot_dict))
|`([7001])=>`(⟨rfl,rfl,rfl,by decide +kernel,rfl,by decide +kernel,by decide +kernel⟩)
|`([7000,$a])=>`((by have nd:=($a).nd;have hu:=znK hr;have hu64:=hr.units;cases B;repeat' first|((with_reducible show VE _ _ _ _ _ _);first|rw[7101,(zh _),VE.data _ (.mv [])]|rw[7101,(zh _),VE.data _ _]|rw[7101,(zA _),vx _ (pv _)]|rw[7101,(zA _),zmH _ (pv _)]|rw[7101,(zA _),zmD _ rfl (pv _)]|rw[7101,(fC _),zkz]|rw[7101,(fC _),zks]|rw[7101,(fC _),zmI]|rw[7101,(fC _),zkv]|rw[7101,(fC _),zea (c:=.mv []) (fun _ _=>.mkI _) (ziV rfl (by assumption))]|rw[7101,(fC _),zea (c:=.mv []) (fun _ _=>.mkTy _) (zlo rfl (by assumption) [7007])]|rw[7101,(fC _),zmG rfl (by assumption)]|rw[7101,(fOp vIx _ _),zmF hu _ _ (fun _ _=>rfl)]|rw[7103,VE _ _ _ _ (.BinOp _ _ _ _) _,zkt _ _ _]|rw[7103,VE _ _ _ _ (.Compare _ [_] [_] _) _,ziv _ _ _]|rw[7103,VE _ _ _ _ (.Compare _ [_,_] _ _) _,zdY _ _ _ _ _]|rw[7101,(xJ _),zkr _]|rw[7101,(xL _),zkw _]|rw[7101,(fIf _ _ _),zjJ (c:=.bo) _ (VE.bo _) (VE.bo _)]|rw[7101,(fIf _ _ _),zjJ _ _ _]|rw[7101,(fLC _ _ _ _ _ _),zkx _ _ _ _ _]|rw[7104,wJ,zmi,zmk,PySem.boot_len]|rw[7104,vk,zeX,zfb,boot_isinstance]|rw[7105,vN,zhC,kf,boot_tuple]|rw[7101,(zI _ zE),zfC (by assumption) (hr.mono (by decide)) (by rfl)]|rw[7101,(zI _ _),ziw (by assumption) (hr.mono (by decide)) (by rfl) _]|rw[7103,VE _ _ _ _ (.BoolOp _ [_] _) _,zku _]|rw[7101,ui,zfz zgp]|rw[7101,q9,zdX zgo]|rw[7101,(kA _ _),zky hu _ _]|rw[7101,(zhp _ _ _),zit hu _ _ _ ⟨rfl,rfl,rfl,rfl⟩]|rw[7101,(fSl _ _ _),zfy _ _ _]|rw[7101,(yv _),zaw rfl hu64 (by rfl) (by assumption) (by rfl) (by assumption) _]|rw[7103,VE _ _ _ .sh _ _,VE.sh _])|rw[7103,VA _ _ _ _ [] _,zbG (c:=.bo)]|rw[7103,VA _ _ _ _ [] _,zbG (c:=.mv [])]|rw[7103,VA _ _ _ _ [] _,zbG]|rw[7103,VA _ _ _ _ (_::_) _,zmK _ _]|rw[7103,VA _ _ _ _ (_::_) _,zmJ _ _]|rw[7103,VA _ _ _ _ (_::_) _,zkB _ _ _]|rw[7103,VA _ _ _ _ (_::_) _,zjL (L1:=[]) (L2:=[]) _ _]|((with_reducible show VS _ _ _ _ _);first|rw[7103,VS _ _ _ (.Return (some _) _) (yQ _),zij _ _]|rw[7103,VS _ _ _ (.Return none _) _,zik]|rw[7103,VS _ _ _ (.If _ _ _ _) _,zmz _ _ _]|rw[7102,(fWh _ _ _),zfu _ PassesOwn.never _ _]|rw[7102,(yP _ _ _),zkk PassesOwn.never rfl _ _ _]|rw[7103,VS _ _ _ (.Pass _) _,zim]|rw[7103,VS _ _ _ (.Break _) _,zfv]|rw[7103,VS _ _ _ (.Continue _) _,zau]|rw[7102,fNx,zkl]|rw[7102,(zW _ (fLC _ _ _ _ _ _)),uY rfl (zkY (zgg nd _ _ _ _ _))]|rw[7102,(zW _ (fLC _ _ _ _ _ _)),uZ (by decide) (zgg nd _ _ _ _ _)]|rw[7102,(zW _ (fLC _ _ _ _ _ _)),uY rfl (psI _ nd _)]|rw[7102,(zW _ (fLC _ _ _ _ _ _)),uZ (by decide) (psI _ nd _)]|rw[7102,(zW _ _),uY rfl (psI _ nd _)]|rw[7102,(zW _ _),uZ (by decide) (psI _ nd _)]|rw[7102,(zbo _ _),zkm _ _]|rw[7102,(zY _ _),zdW _ (by decide) (qc (zgu PySem.F.plainAttrs_list PySem.F.slot_list_append PySem.F.type_list_append uc (pv _) (ww _ pa_nil)))]|rw[7102,(yR _ _),zbF _ (by decide) (qc (zgu PySem.F.plainAttrs_list PySem.F.slot_list_extend PySem.F.type_list_extend zcf (pv _) (ww _ pa_nil)))]|rw[7102,(wg _ _ _),zii _ (by decide) (zgh _ (zlf (pv _) _ zfQ)) (zdf hu (pv _) _ _ rfl)]|rw[7102,(zbn _ _ _),zil _ (by decide) _ (fun h=>zdf hu (pv _) h _ rfl)]|rw[7102,(zeJ _ _),zkj _ _ (by decide) (by decide) (psI _ nd (zlp PySem.F.plainAttrs_list PySem.F.slot_list_pop PySem.F.type_list_pop zlH (pv _)))]|rw[7102,(zeL _ _ (uA _)),zav _ (by decide) (qc (zgu PySem.F.plainAttrs_list PySem.F.slot_list_append PySem.F.type_list_append uc (zjT zgV (pv _) _ (fun _ _=>rfl)) (ww _ pa_nil)))])|rw[7103,VSs _ _ _ _ _,zih]|rw[7103,VSs _ _ _ _ _,zig _]|rw[7103,VSs _ _ _ _ _,zft _ _]|rw[7103,VT _ _ _ (.Compare _ [_] [_] _) _,zif _ _ _]|rw[7103,VT _ _ _ (.Compare _ [_,_] _ _) _,zdV _ _ _ _ _]|rw[7103,VT _ _ _ _ (zho _),zkg _]|rw[7103,VT _ _ _ _ (zbp _ _),VW.vt _]|rw[7103,VT _ _ _ _ (fOr _ _),VW.vt _]|rw[7103,VT _ _ _ _ (zhm _),zfr _ (fun _=>rfl)]|rw[7106,OpT _ _ vLt,znt,znm]|rw[7106,OpT _ _ vLe,znu,znn]|rw[7106,OpT _ _ vGt,znv,znp]|rw[7106,OpT _ _ vGe,znw,znq]|rw[7106,OpT _ _ vEq,zlD hu64,znr]|rw[7106,OpT _ _ vNe,zlA hu64,znl]|rw[7106,OpT _ _ vB,zns hu,zno]|rw[7106,OpT _ _ xr,zgz hu,zgx]|rw[7106,OpT _ _ kj,zlC hu64,zlu]|rw[7106,OpB _ _ zx,zlx,zlv]|rw[7106,OpB _ _ wN,zly,zlq]|rw[7106,OpB _ _ zi,zlw,zlr]|rw[7106,OpB _ _ ye,zjb,zja]|rw[7106,OpB _ _ xU,zlB,zls]|rw[7103,VW _ _ _ (.BoolOp .And [_] _) _,zic _]|rw[7103,VW _ _ _ (.BoolOp .Or [_] _) _,zke _]|rw[7103,VW _ _ _ (.BoolOp .And _ _) _,zkf _ _]|rw[7103,VW _ _ _ (.BoolOp .Or _ _) _,zmy _ _]|rw[7103,VIt _ _ _ _ _ _ (xQ _),ziq _ (by rfl) (by assumption) _]|rw[7103,VIt _ _ _ _ _ _ (uh _),zfw _ (by rfl) (by assumption) _]|rw[7103,VIt _ _ _ _ _ _ (zhl _),zko _ (by rfl) (by assumption) _]|rw[7103,VIt _ _ _ _ _ _ (zV _),zkp _ _]|rw[7103,VG _ _ _ _ _ (zF _),vgI _ (by assumption)]|rw[7103,VG _ _ _ _ _ (vg _ _),zkq _ (by rfl) _]|rw[7103,VGs _ _ _ _ [] _,zir]|rw[7103,VGs _ _ _ _ _ _,zfx _ _]|rw[7103,VTs _ _ _ [] _,zie]|rw[7103,VTs _ _ _ [_] _,zid _]|rw[7103,VTi _ _ _ _ _ _,zdU _ _ _]|rw[7103,VO _ _ _ none _,zio]|rw[7103,VO _ _ _ _ _,zin _]|((with_reducible show PE _ _ (tV _ _ _ _ _));show VE _ _ _ _ _ _)|((with_reducible show PE _ _ (tVm _ _ _ _ _));show VEm _ _ _ _ _ _)|((with_reducible show PE _ _ (tVi _ _ _ _ _));show VEi _ _ _ _ _ _)|decide|intro _ _ _ _))
set_option hygiene true
noncomputable abbrev wT:Stmt:=top 16
theorem vy:FnScope ["_law_script","_law_k","_law_number"] ["_law_script","_law_k"] (zH wT):=[7001]
theorem qj(F:Fun K "_law_cell" "_law_cell" wT f fd)(B:Blt mg):FnOk P w K mg base CX0 1 f fd ["_law_script","_law_k"] (spV K 2 za):=
 xf [] rfl rfl (by decide) F vy fun _ _ _ _ _ _ hr=>by
  delta wc
  exact [7000,vy]
noncomputable abbrev vS:Stmt:=top 17
theorem uu:FnScope ["_law_script","_law_k","_law_count","_law_base","_law_cell_here","_law_found","_law_j","_law_one","_law_two"] ["_law_script","_law_k","_law_count","_law_base"] (zH vS):=[7001]
theorem zaW(F:Fun K "_law_row" "_law_row" vS f fd)(B:Blt mg)(c__law_cell:(Fn P w K mg base "_law_cell" 1 ["_law_script","_law_k"] (spV K 2 za))):FnOk P w K mg base CX0 2 f fd ["_law_script","_law_k","_law_count","_law_base"] (spV K 4 yN):=
 xf [5] rfl rfl (by decide) F uu fun _ _ _ _ _ _ hr=>by
  delta vZ yT
  exact [7000,uu]
noncomputable abbrev xX:Stmt:=top 18
theorem wQ:FnScope ["_law_wide","_law_high","_law_place","_law_found","_law_other"] ["_law_wide","_law_high","_law_place"] (zH xX):=[7001]
theorem jh(F:Fun K "_law_beside" "_law_beside" xX f fd)(B:Blt mg):FnOk P w K mg base CX0 1 f fd ["_law_wide","_law_high","_law_place"] (spV K 3 yB):=
 xf [3] rfl rfl (by decide) F wQ fun _ _ _ _ _ _ hr=>by
  delta xc yn ym
  exact [7000,wQ]
noncomputable abbrev xx:Stmt:=top 19
theorem vK:FnScope ["_law_wide","_law_high","_law_starts","_law_some","_law_seen","_law_row_here","_law_place"] ["_law_wide","_law_high","_law_starts","_law_some"] (zH xx):=[7001]
theorem ka(F:Fun K "_law_flood" "_law_flood" xx f fd)(B:Blt mg)(c__law_beside:(Fn P w K mg base "_law_beside" 1 ["_law_wide","_law_high","_law_place"] (spV K 3 yB))):FnOk P w K mg base CX0 2 f fd ["_law_wide","_law_high","_law_starts","_law_some"] (spV K 4 zg):=
 xf [4,5] rfl rfl (by decide) F vK fun _ _ _ _ _ _ hr=>by
  delta wC zj zc
  have n0:(["_law_place","_law_some"]:List Str).Nodup:=by decide +kernel
  have n1:(["_law_other","_law_some"]:List Str).Nodup:=by decide +kernel
  exact [7000,vK]
noncomputable abbrev xB:Stmt:=top 20
theorem wF:FnScope ["_law_wide","_law_high","_law_some","_law_bare","_law_edge","_law_place"] ["_law_wide","_law_high","_law_some"] (zH xB):=[7001]
theorem u9(F:Fun K "_law_outside" "_law_outside" xB f fd)(B:Blt mg)(c__law_flood:(Fn P w K mg base "_law_flood" 2 ["_law_wide","_law_high","_law_starts","_law_some"] (spV K 4 zg))):FnOk P w K mg base CX0 3 f fd ["_law_wide","_law_high","_law_some"] (spV K 3 zr):=
 xf [4] rfl rfl (by decide) F wF fun _ _ _ _ _ _ hr=>by
  delta xF yY
  have n0:(["_law_place","_law_some"]:List Str).Nodup:=by decide +kernel
  exact [7000,wF]
noncomputable abbrev xw:Stmt:=top 21
theorem vJ:FnScope ["_law_script","_law_k","_law_wide","_law_high","_law_digits","_law_some","_law_left","_law_out"] ["_law_script","_law_k"] (zH xw):=[7001]
theorem kZ(F:Fun K "_law_floor" "_law_floor" xw f fd)(B:Blt mg)(c__law_row:(Fn P w K mg base "_law_row" 2 ["_law_script","_law_k","_law_count","_law_base"] (spV K 4 yN)))(c__law_flood:(Fn P w K mg base "_law_flood" 2 ["_law_wide","_law_high","_law_starts","_law_some"] (spV K 4 zg)))(c__law_outside:(Fn P w K mg base "_law_outside" 3 ["_law_wide","_law_high","_law_some"] (spV K 3 zr)))(c__law_cell:(Fn P w K mg base "_law_cell" 1 ["_law_script","_law_k"] (spV K 2 za))):FnOk P w K mg base CX0 4 f fd ["_law_script","_law_k"] (spV K 2 yK):=
 xf [] rfl rfl (by decide) F vJ fun _ _ _ _ _ _ hr=>by
  delta wB
  have n0:(["_law_number"]:List Str).Nodup:=by decide +kernel
  have n1:(["_law_place","_law_digits"]:List Str).Nodup:=by decide +kernel
  have n2:(["_law_place","_law_out"]:List Str).Nodup:=by decide +kernel
  exact [7000,vJ]
noncomputable abbrev zbP:Stmt:=top 8
theorem zda:FnScope ["fields","aheads","found","run_at","field","ahead"] ["fields","aheads"] (zH zbP):=[7001]
theorem zjd(F:Fun K "runs" "runs" zbP f fd)(B:Blt mg):FnOk P w K mg base CX0 1 f fd ["fields","aheads"] (spV K 2 xo):=
 xf [2,3] rfl rfl (by decide) F zda fun _ _ _ _ _ _ hr=>by
  delta zcr wp
  have n0:(["run"]:List Str).Nodup:=by decide +kernel
  exact [7000,zda]
noncomputable abbrev xu:Stmt:=top 6
theorem vH:FnScope ["floor","field"] ["floor","field"] (zH xu):=[7001]
theorem kX(F:Fun K "field_left" "field_left" xu f fd)(B:Blt mg):FnOk P w K mg base CX0 1 f fd ["floor","field"] (spV K 2 zt):=
 xf [] rfl rfl (by decide) F vH fun _ _ _ _ _ _ hr=>by
  delta yp
  exact [7000,vH]
noncomputable abbrev vQ:Stmt:=top 9
theorem ur:FnScope ["floor"] ["floor"] (zH vQ):=[7001]
theorem zaU(F:Fun K "row_runs" "row_runs" vQ f fd)(B:Blt mg)(c_runs:(Fn P w K mg base "runs" 1 ["fields","aheads"] (spV K 2 xo)))(c_field_left:(Fn P w K mg base "field_left" 1 ["floor","field"] (spV K 2 zt))):FnOk P w K mg base CX0 2 f fd ["floor"] (spV K 1 yd):=
 xf [] rfl rfl (by decide) F ur fun _ _ _ _ _ _ hr=>by
  delta vX
  have n0:(["field","floor"]:List Str).Nodup:=by decide +kernel
  exact [7000,ur]
noncomputable abbrev xV:Stmt:=top 7
theorem wO:FnScope ["floor","field"] ["floor","field"] (zH xV):=[7001]
theorem jf(F:Fun K "field_below" "field_below" xV f fd)(B:Blt mg):FnOk P w K mg base CX0 1 f fd ["floor","field"] (spV K 2 z8):=
 xf [] rfl rfl (by decide) F wO fun _ _ _ _ _ _ hr=>by
  delta xZ
  exact [7000,wO]
noncomputable abbrev xW:Stmt:=top 10
theorem wP:FnScope ["floor"] ["floor"] (zH xW):=[7001]
theorem jg(F:Fun K "column_runs" "column_runs" xW f fd)(B:Blt mg)(c_runs:(Fn P w K mg base "runs" 1 ["fields","aheads"] (spV K 2 xo)))(c_field_below:(Fn P w K mg base "field_below" 1 ["floor","field"] (spV K 2 z8))):FnOk P w K mg base CX0 2 f fd ["floor"] (spV K 1 yA):=
 xf [] rfl rfl (by decide) F wP fun _ _ _ _ _ _ hr=>by
  delta xb
  have n0:(["field","floor"]:List Str).Nodup:=by decide +kernel
  exact [7000,wP]
noncomputable abbrev jY:Stmt:=top 11
theorem ku:FnScope ["floor","rows","columns"] ["floor"] (zH jY):=[7001]
theorem zex(F:Fun K "strips" "strips" jY f fd)(B:Blt mg)(c_row_runs:(Fn P w K mg base "row_runs" 2 ["floor"] (spV K 1 yd)))(c_column_runs:(Fn P w K mg base "column_runs" 2 ["floor"] (spV K 1 yA))):FnOk P w K mg base CX0 3 f fd ["floor"] (spV K 1 zf):=
 xf [] rfl rfl (by decide) F ku fun _ _ _ _ _ _ hr=>by
  delta j7
  have n0:(["run"]:List Str).Nodup:=by decide +kernel
  exact [7000,ku]
noncomputable abbrev xC:Stmt:=top 22
theorem wG:FnScope ["_law_floor_here","_law_found","_law_told","_law_number","_law_word","_law_fields","_law_field"] ["_law_floor_here"] (zH xC):=[7001]
theorem jA(F:Fun K "_law_numbers" "_law_numbers" xC f fd)(B:Blt mg)(c_strips:(Fn P w K mg base "strips" 3 ["floor"] (spV K 1 zf))):FnOk P w K mg base CX0 4 f fd ["_law_floor_here"] (spV K 1 yM):=
 xf [1] rfl rfl (by decide) F wG fun _ _ _ _ _ _ hr=>by
  delta xG yH yG
  exact [7000,wG]
noncomputable abbrev xv:Stmt:=top 1
theorem vI:FnScope ["floor","field","wide","lower","upper"] ["floor","field"] (zH xv):=[7001]
theorem kY(F:Fun K "corners_at" "corners_at" xv f fd)(B:Blt mg):FnOk P w K mg base CX0 1 f fd ["floor","field"] (spV K 2 zu):=
 xf [] rfl rfl (by decide) F vI fun _ _ _ _ _ _ hr=>by
  delta wA
  exact [7000,vI]
noncomputable abbrev wS:Stmt:=top 2
theorem vw:FnScope ["floor","field","about"] ["floor","field"] (zH wS):=[7001]
theorem qi(F:Fun K "across_at" "across_at" wS f fd)(B:Blt mg)(c_corners_at:(Fn P w K mg base "corners_at" 1 ["floor","field"] (spV K 2 zu))):FnOk P w K mg base CX0 2 f fd ["floor","field"] (spV K 2 zq):=
 xf [] rfl rfl (by decide) F vw fun _ _ _ _ _ _ hr=>by
  delta wa
  exact [7000,vw]
noncomputable abbrev qV:Stmt:=top 3
theorem zaI:FnScope ["floor","field","about"] ["floor","field"] (zH qV):=[7001]
theorem zgA(F:Fun K "up_at" "up_at" qV f fd)(B:Blt mg)(c_corners_at:(Fn P w K mg base "corners_at" 1 ["floor","field"] (spV K 2 zu))):FnOk P w K mg base CX0 2 f fd ["floor","field"] (spV K 2 yx):=
 xf [] rfl rfl (by decide) F zaI fun _ _ _ _ _ _ hr=>by
  delta qw
  exact [7000,zaI]
noncomputable abbrev qW:Stmt:=top 4
theorem zaJ:FnScope ["floor","found","field"] ["floor"] (zH qW):=[7001]
theorem zgB(F:Fun K "sides" "sides" qW f fd)(B:Blt mg)(c_across_at:(Fn P w K mg base "across_at" 2 ["floor","field"] (spV K 2 zq)))(c_up_at:(Fn P w K mg base "up_at" 2 ["floor","field"] (spV K 2 yx))):FnOk P w K mg base CX0 3 f fd ["floor"] (spV K 1 wL):=
 xf [1] rfl rfl (by decide) F zaJ fun _ _ _ _ _ _ hr=>by
  delta qx w9
  exact [7000,zaJ]
noncomputable abbrev wR:Stmt:=top 12
theorem vv:FnScope ["floor","found","number","strip","field"] ["floor"] (zH wR):=[7001]
theorem qh(F:Fun K "crossings" "crossings" wR f fd)(B:Blt mg)(c_strips:(Fn P w K mg base "strips" 3 ["floor"] (spV K 1 zf))):FnOk P w K mg base CX0 4 f fd ["floor"] (spV K 1 zp):=
 xf [1] rfl rfl (by decide) F vv fun _ _ _ _ _ _ hr=>by
  delta wZ yc ya
  exact [7000,vv]
noncomputable abbrev vR:Stmt:=top 13
theorem ut:FnScope ["floor","field"] ["floor","field"] (zH vR):=[7001]
theorem zaV(F:Fun K "crossing" "crossing" vR f fd)(B:Blt mg)(c_crossings:(Fn P w K mg base "crossings" 4 ["floor"] (spV K 1 zp))):FnOk P w K mg base CX0 5 f fd ["floor","field"] (spV K 2 zm):=
 xf [] rfl rfl (by decide) F ut fun _ _ _ _ _ _ hr=>by
  delta vY
  exact [7000,ut]
noncomputable abbrev vP:Stmt:=top 14
theorem uq:FnScope ["floor","side","along"] ["floor","side"] (zH vP):=[7001]
theorem zaT(F:Fun K "strip_of" "strip_of" vP f fd)(B:Blt mg)(c_crossing:(Fn P w K mg base "crossing" 5 ["floor","field"] (spV K 2 zm)))(c_up_at:(Fn P w K mg base "up_at" 2 ["floor","field"] (spV K 2 yx)))(c_across_at:(Fn P w K mg base "across_at" 2 ["floor","field"] (spV K 2 zq))):FnOk P w K mg base CX0 6 f fd ["floor","side"] (spV K 2 xM):=
 xf [] rfl rfl (by decide) F uq fun _ _ _ _ _ _ hr=>by
  delta vW
  have n0:(["field","side","floor"]:List Str).Nodup:=by decide +kernel
  exact [7000,uq]
noncomputable abbrev jZ:Stmt:=top 23
theorem zfT:FnScope ["_law_script","_law_floor_here","_law_wide","_law_high","_law_fields","_law_known","_law_field","_law_told","_law_side","_law_word","_law_start","_law_column","_law_row_here","_law_owed","_law_y","_law_x"] ["_law_script"] (zH jZ):=[7001]
theorem zlE(F:Fun K "law" "law" jZ f fd)(B:Blt mg)(c__law_floor:(Fn P w K mg base "_law_floor" 4 ["_law_script","_law_k"] (spV K 2 yK)))(c__law_numbers:(Fn P w K mg base "_law_numbers" 4 ["_law_floor_here"] (spV K 1 yM)))(c_sides:(Fn P w K mg base "sides" 3 ["floor"] (spV K 1 wL)))(c_crossing:(Fn P w K mg base "crossing" 5 ["floor","field"] (spV K 2 zm)))(c_strip_of:(Fn P w K mg base "strip_of" 6 ["floor","side"] (spV K 2 xM))):FnOk P w K mg base CX0 7 f fd ["_law_script"] (spV K 1 jM):=
 xf [13] rfl rfl (by decide) F zfT fun _ _ _ _ _ _ hr=>by
  delta zhg uS uR uQ vA
  exact [7000,zfT]
open PySem.W
theorem zck{us:List Value}(h:us.length=1):∃ a,us=[a]:=List.length_eq_one_iff.mp h
theorem ju{us:List Value}(h:us.length=2):∃ a0 a1,us=[a0,a1]:=by
 cases us with
 | nil=>cases h
 | cons a0 r=>obtain ⟨a1,rfl⟩:=zck (us:=r) (Nat.succ.inj h);exact ⟨a0,a1,rfl⟩
theorem zlJ{us:List Value}(h:us.length=3):∃ a0 a1 a2,us=[a0,a1,a2]:=by
 cases us with
 | nil=>cases h
 | cons a0 r=>obtain ⟨a1,a2,rfl⟩:=ju (us:=r) (Nat.succ.inj h);exact ⟨a0,a1,a2,rfl⟩
theorem znG{us:List Value}(h:us.length=4):∃ a0 a1 a2 a3,us=[a0,a1,a2,a3]:=by
 cases us with
 | nil=>cases h
 | cons a0 r=>obtain ⟨a1,a2,a3,rfl⟩:=zlJ (us:=r) (Nat.succ.inj h);exact ⟨a0,a1,a2,a3,rfl⟩
theorem all_mk{l:PySem.W.OpenLaw}{w:World}{K:PySem.W.Frag}{h:Heap}{mg:Str->Option Value}{fa:Addr}(X:K.In h)(G:h.Ns mainGlobals mg)(hfa:mg "law"=some (.ref fa))
  (d0:Df K "_law_cell" wT)
  (d1:Df K "_law_row" vS)
  (d2:Df K "_law_beside" xX)
  (d3:Df K "_law_flood" xx)
  (d4:Df K "_law_outside" xB)
  (d5:Df K "_law_floor" xw)
  (d6:Df K "runs" zbP)
  (d7:Df K "field_left" xu)
  (d8:Df K "row_runs" vQ)
  (d9:Df K "field_below" xV)
  (d10:Df K "column_runs" xW)
  (d11:Df K "strips" jY)
  (d12:Df K "_law_numbers" xC)
  (d13:Df K "corners_at" xv)
  (d14:Df K "across_at" wS)
  (d15:Df K "up_at" qV)
  (d16:Df K "sides" qW)
  (d17:Df K "crossings" wR)
  (d18:Df K "crossing" vR)
  (d19:Df K "strip_of" vP)
  (d20:Df K "law" jZ)
  (z_bool:nsIn K mainGlobals "bool"=some none)
  (z_enumerate:nsIn K mainGlobals "enumerate"=some none)
  (z_isinstance:nsIn K mainGlobals "isinstance"=some none)
  (z_len:nsIn K mainGlobals "len"=some none)
  (z_range:nsIn K mainGlobals "range"=some none)
  (z_set:nsIn K mainGlobals "set"=some none)
  (z_sorted:nsIn K mainGlobals "sorted"=some none)
  (z_tuple:nsIn K mainGlobals "tuple"=some none)
  (z_zip:nsIn K mainGlobals "zip"=some none)
  : ∃ fd:FuncData,(∀ (s:Shared) (v:Value),BindsTo s fd ⟨[v],[]⟩ [("_law_script",v)])/\∀ base:Heap,K.In base->base.Ns mainGlobals mg->FnOk l.prog w K mg base CX0 7 fa fd ["_law_script"] (spV K 1 jM):=by
 obtain @⟨f,oc,od,kV,dc,pm,an,cd,ct,sl,a,lk,c,k⟩:=d20
 cases hfa.symm.trans (mg_of X G a)
 have B:Blt mg:=⟨mg_none_of X G z_bool,mg_none_of X G z_enumerate,mg_none_of X G z_isinstance,mg_none_of X G z_len,mg_none_of X G z_range,mg_none_of X G z_set,mg_none_of X G z_sorted,mg_none_of X G z_tuple,mg_none_of X G z_zip⟩
 refine ⟨fnOf "law" "law" (wE jZ) (yr jZ) (zH jZ) .none kV dc pm an cd ct,fun s v=>.of_eq rfl,fun base _ _=>?_⟩
 have c__law_cell:Fn l.prog w K mg base _ _ _ _:=d0.fn X G (fun _ _ F=>qj F B) fun _ _ _ _ _ _ us hl=>by obtain ⟨_,_,rfl⟩:=ju hl;rfl
 have c__law_row:Fn l.prog w K mg base _ _ _ _:=d1.fn X G (fun _ _ F=>zaW F B c__law_cell) fun _ _ _ _ _ _ us hl=>by obtain ⟨_,_,_,_,rfl⟩:=znG hl;rfl
 have c__law_beside:Fn l.prog w K mg base _ _ _ _:=d2.fn X G (fun _ _ F=>jh F B) fun _ _ _ _ _ _ us hl=>by obtain ⟨_,_,_,rfl⟩:=zlJ hl;rfl
 have c__law_flood:Fn l.prog w K mg base _ _ _ _:=d3.fn X G (fun _ _ F=>ka F B c__law_beside) fun _ _ _ _ _ _ us hl=>by obtain ⟨_,_,_,_,rfl⟩:=znG hl;rfl
 have c__law_outside:Fn l.prog w K mg base _ _ _ _:=d4.fn X G (fun _ _ F=>u9 F B c__law_flood) fun _ _ _ _ _ _ us hl=>by obtain ⟨_,_,_,rfl⟩:=zlJ hl;rfl
 have c__law_floor:Fn l.prog w K mg base _ _ _ _:=d5.fn X G (fun _ _ F=>kZ F B c__law_row c__law_flood c__law_outside c__law_cell) fun _ _ _ _ _ _ us hl=>by obtain ⟨_,_,rfl⟩:=ju hl;rfl
 have c_runs:Fn l.prog w K mg base _ _ _ _:=d6.fn X G (fun _ _ F=>zjd F B) fun _ _ _ _ _ _ us hl=>by obtain ⟨_,_,rfl⟩:=ju hl;rfl
 have c_field_left:Fn l.prog w K mg base _ _ _ _:=d7.fn X G (fun _ _ F=>kX F B) fun _ _ _ _ _ _ us hl=>by obtain ⟨_,_,rfl⟩:=ju hl;rfl
 have c_row_runs:Fn l.prog w K mg base _ _ _ _:=d8.fn X G (fun _ _ F=>zaU F B c_runs c_field_left) fun _ _ _ _ _ _ us hl=>by obtain ⟨_,rfl⟩:=zck hl;rfl
 have c_field_below:Fn l.prog w K mg base _ _ _ _:=d9.fn X G (fun _ _ F=>jf F B) fun _ _ _ _ _ _ us hl=>by obtain ⟨_,_,rfl⟩:=ju hl;rfl
 have c_column_runs:Fn l.prog w K mg base _ _ _ _:=d10.fn X G (fun _ _ F=>jg F B c_runs c_field_below) fun _ _ _ _ _ _ us hl=>by obtain ⟨_,rfl⟩:=zck hl;rfl
 have c_strips:Fn l.prog w K mg base _ _ _ _:=d11.fn X G (fun _ _ F=>zex F B c_row_runs c_column_runs) fun _ _ _ _ _ _ us hl=>by obtain ⟨_,rfl⟩:=zck hl;rfl
 have c__law_numbers:Fn l.prog w K mg base _ _ _ _:=d12.fn X G (fun _ _ F=>jA F B c_strips) fun _ _ _ _ _ _ us hl=>by obtain ⟨_,rfl⟩:=zck hl;rfl
 have c_corners_at:Fn l.prog w K mg base _ _ _ _:=d13.fn X G (fun _ _ F=>kY F B) fun _ _ _ _ _ _ us hl=>by obtain ⟨_,_,rfl⟩:=ju hl;rfl
 have c_across_at:Fn l.prog w K mg base _ _ _ _:=d14.fn X G (fun _ _ F=>qi F B c_corners_at) fun _ _ _ _ _ _ us hl=>by obtain ⟨_,_,rfl⟩:=ju hl;rfl
 have c_up_at:Fn l.prog w K mg base _ _ _ _:=d15.fn X G (fun _ _ F=>zgA F B c_corners_at) fun _ _ _ _ _ _ us hl=>by obtain ⟨_,_,rfl⟩:=ju hl;rfl
 have c_sides:Fn l.prog w K mg base _ _ _ _:=d16.fn X G (fun _ _ F=>zgB F B c_across_at c_up_at) fun _ _ _ _ _ _ us hl=>by obtain ⟨_,rfl⟩:=zck hl;rfl
 have c_crossings:Fn l.prog w K mg base _ _ _ _:=d17.fn X G (fun _ _ F=>qh F B c_strips) fun _ _ _ _ _ _ us hl=>by obtain ⟨_,rfl⟩:=zck hl;rfl
 have c_crossing:Fn l.prog w K mg base _ _ _ _:=d18.fn X G (fun _ _ F=>zaV F B c_crossings) fun _ _ _ _ _ _ us hl=>by obtain ⟨_,_,rfl⟩:=ju hl;rfl
 have c_strip_of:Fn l.prog w K mg base _ _ _ _:=d19.fn X G (fun _ _ F=>zaT F B c_crossing c_up_at c_across_at) fun _ _ _ _ _ _ us hl=>by obtain ⟨_,_,rfl⟩:=ju hl;rfl
 exact zlE (zhh (st:=jZ) lk c k) B c__law_floor c__law_numbers c_sides c_crossing c_strip_of
theorem walk{l:PySem.W.OpenLaw}{q:Program}{loose:List Str}{XP:(Str->Option Value)->Heap->Prop}{YP:World->Heap->Prop}{d:DefRec}{K:Params->PySem.W.Frag}(hn:l.most=some 63)(hdf:d.params.defaults=[])
  (hY:∀ (w:World) (h:Heap),YP w h->(K w.params).In h)
  (F:∀ (w:World) (mg:Str->Option Value) (fa:Addr) (h:Heap),(K w.params).In h->h.Ns mainGlobals mg->mg d.name=some (.ref fa)->
   ∃ fd:FuncData,(∀ (s:Shared) (u:Value),BindsTo s fd ⟨[u],[]⟩ [("_law_script",u)])/\∀ base:Heap,(K w.params).In base->base.Ns mainGlobals mg->FnOk l.prog w (K w.params) mg base CX0 7 fa fd ["_law_script"] (spV (K w.params) 1 jM)):
  PySem.W.WalkO q loose XP YP l.row.toRowW d [] (fun f vs=>PySem.call f vs):=
 L2.walk_ofB (n:=63) (k:=7) (x:="_law_script") (CX:=fun _=>CX0) (sp:=fun w=>spV (K w.params) 1 jM) hn (by decide) hdf ⟨rfl,by decide,by decide⟩ hY F (fun _ _ a ns hl hb ho hS=>zlK ho hS (zgP ns hl hb)) fun _ _ _ _ _ z=>z
end Cb
namespace PySem.W.Fast
def tw9271591699675018986:=0
def tw14781633293585470840:=0
def tw7771276270399882183:=0
def tw5500382998567909231:=0
def tw15858899657501224305:=0
def tw18016822526007983925:=0
def tw16569300878279552979:=0
def tw15040334709679717139:=0
def tw15904025112471826627:=0
def tw12797994718735548028:=0
def tw1825641144853012173:=0
def tw1483115297319962426:=0
def tw3569736168076155409:=0
def tw12499437908191378231:=0
def tw16290158402050138711:=0
def tw9693271792425115771:=0
def tw8672610457748946190:=0
def tw1210832151636246971:=0
def tw14626929436413484802:=0
def tw17769716029247446265:=0
def tw1677367924821726298:=0
def tw10968236685251591773:=0
def tw795515518403443017:=0
def tw18004039551653411062:=0
def tw14147656736838439508:=0
def tw467629498284413555:=0
def tw13523618548208189923:=0
def tw2080085760258796089:=0
def tw1218674986724220901:=0
def tw12290427185177368465:=0
def tw18399772128369878634:=0
def tw12461593002672449064:=0
def tw2399826784346024135:=0
def tw16201166983688837154:=0
def tw13580556377072450339:=0
def tw1642551703312373404:=0
def tw10591058308334027271:=0
def tw5210354800054800902:=0
def tw6399229087796955352:=0
def tw12467014132439852374:=0
def tw9059528926279847607:=0
def tw3400849022865548665:=0
def tw8526055687584056499:=0
def tw859566972874357586:=0
def tw4358365467547427199:=0
def tw15606141525681044936:=0
def tw190603919195479587:=0
def tw4735014577682660300:=0
def tw8027199512994628698:=0
def tw14711603781056803205:=0
def tw18369693249689111481:=0
def tw1799607146636976060:=0
def tw10685082971572611447:=0
def tw1728297194296816692:=0
def tw17205622365779536884:=0
def tw16073963171743348036:=0
def tw16790345780127019999:=0
def tw8920512694223918526:=0
def tw13677277842369111263:=0
def tw15459314770608149862:=0
def tw9401071653077866201:=0
def tw5516936549425649636:=0
def tw6858578053483345314:=0
def tw8492179632558237370:=0
def tw6252801870052093805:=0
def tw11765723847702982871:=0
def tw9659390261581849886:=0
def tw4578645829594528105:=0
def tw1294172035444899067:=0
def tw2533097733259791398:=0
def tw9153101585032096306:=0
def tw18201672571404083268:=0
def tw5401954604785442919:=0
def tw17078135804230703780:=0
def tw5730352936181182667:=0
def tw8125176705138192594:=0
def tw7185924490982562669:=0
def tw2934288333103716866:=0
def tw2188522087821994876:=0
def tw15010566186575819600:=0
end PySem.W.Fast
open PySem PySem.W PyProof.Rows
set_option maxRecDepth 100000 in
set_option maxHeartbeats 0 in
theorem PySem.Challenge.cw_crossbrace_k07_crossings_and_sides_of_st_holds : PySem.Challenge.rw_crossbrace_k07_crossings_and_sides_of_st.Holds := by
 w_on;o_law;k_head;(case hw=>w_witness2)
 k_fill
 refine Cb.walk (l:=PySem.Challenge.rw_crossbrace_k07_crossings_and_sides_of_st) rfl rfl (fun w h Y=>PySem.W.kIn_of Y) ?F
 case F=>
  intro w mg fa h KX G hmg
  refine' Cb.all_mk KX G hmg ?_ ?_ ?_ ?_ ?_ ?_ ?_ ?_ ?_ ?_ ?_ ?_ ?_ ?_ ?_ ?_ ?_ ?_ ?_ ?_ ?_ ?_ ?_ ?_ ?_ ?_ ?_ ?_ ?_ ?_
  any_goals first | k_is | exact .mk (by k_is) (by k_is) (by k_is) (by k_is)
