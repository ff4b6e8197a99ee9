import PyProof.Rows.All
import Wide.All
import OpenK.AllK
import Wide.FinOn
import Lean
import PyProof.EqAt
import PyProof.EqKinds
import PyProof.TupleCall
import KE.KDictList
import PyProof.P3Eq
import PyProof.NeData
import PyProof.P3In
import PyProof.FactsAll.NoneType
import PyProof.Draws
import PyProof.Rows.SetFrom
import PyProof.SetRoads
import PyProof.DictUpdate
import KE.KDictSum
import KE.KRevIter
import KE.KRevSl
import KE.KEqDict
import KE.KSortTup
import PyProof.Rows.SortRuns
import PyProof.Rows.SortKey
import PySem.Challenge.RW_crossbrace_k05_whole_counts_of_a_floor
set_option compiler.extract_closed false
set_option Elab.async false
set_option linter.all false
set_option maxRecDepth 100000
set_option maxHeartbeats 4000000
abbrev Ja:=@Option.bind_eq_some_iff
abbrev Jb:=@Option.bind_some
abbrev Jc:=@PySem.Heap.get?_push_of_some
abbrev Jd:=@Array.length_toList
abbrev Je:=@List.length_map
abbrev Jf:=@List.mem_cons_self
abbrev Jg:=@List.mem_cons_of_mem
abbrev Jh:=@List.length_append
abbrev Ji:=@List.mem_singleton
abbrev Jj:=@Nat.le_refl
abbrev Jk:=@Bool.false_ne_true
abbrev Jl:=@List.mem_append_right
abbrev Jm:=@List.map_cons
abbrev Jn:=@PySem.Heap.lt_size
abbrev Jo:=@List.mem_map
abbrev Jp:=@Array.getElem?_toList
abbrev Jq:=@PySem.Heap.get?_push_size
abbrev Jr:=@List.getElem?_eq_getElem
abbrev Js:=@Option.some.inj
abbrev Jt:=@List.mem_append_left
abbrev Ju:=@Nat.ne_of_lt
abbrev Jv:=@List.size_toArray
abbrev Jw:=@Array.getElem?_eq_some_iff
abbrev Jx:=@Classical.byContradiction
abbrev Jy:=@List.append_assoc
abbrev Jz:=@List.pairwise_append
abbrev JA:=@List.mem_range
abbrev JB:=@List.getElem?_eq_some_iff
abbrev JC:=@Array.getD_eq_getD_getElem?
abbrev JD:=@List.mem_filter
abbrev JE:=@Nat.lt_of_lt_of_le
abbrev JF:=@List.length_cons
abbrev JG:=@List.nodup_iff_pairwise_ne
abbrev JH:=@List.getD_eq_getElem?_getD
abbrev JI:=@PyProof.Rows.KeyOrd.kle_trans
abbrev JJ:=@List.pairwise_map
abbrev JK:=@Int.emod_lt_of_pos
abbrev JL:=@List.pairwise_iff_getElem
abbrev JM:=@List.pairwise_cons
abbrev JN:=@Int.mul_ediv_add_emod
abbrev JO:=@Nat.le_trans
abbrev JP:=@Array.toList_append
abbrev JQ:=@Int.emod_nonneg
abbrev JR:=@Bool.and_eq_true
abbrev JS:=@List.append_nil
abbrev JT:=@PySem.Heap.get?_update_self
abbrev JU:=@Array.size_push
abbrev JV:=@List.getElem_of_mem
abbrev JW:=@List.length_take
abbrev JX:=@List.getElem?_map
abbrev JY:=@Nat.lt_succ_of_lt
abbrev JZ:=@Nat.le_of_lt_succ
abbrev Ka:=@PyProof.Rows.KeyOrd.kle_of_klt
abbrev Kb:=@Nat.zero_le
abbrev Kc:=@Option.map_eq_some_iff
abbrev Kd:=@List.mem_append
abbrev Ke:=@List.mem_iff_getElem?
abbrev Kf:=@List.take_append_drop
abbrev Kg:=@List.length_filter_le
abbrev Kh:=@List.nodup_cons
abbrev Ki:=@List.mem_of_getElem?
abbrev Kj:=@Nat.succ_pos
abbrev Kk:=@Nat.not_lt_zero
abbrev Kl:=@PySem.Around.under_plainId
abbrev Km:=@PyProof.Rows.KeyOrd.kle_refl
abbrev Kn:=@List.getElem_mem
abbrev Ko:=@List.replicate_succ
abbrev Kq:=@Array.toList_push
abbrev Kr:=@List.map_map
abbrev Ks:=@List.map_append
abbrev Kt:=@PySem.Obj.data_mapFields
abbrev Ku:=@List.filter_cons
abbrev Kv:=@List.any_eq_true
abbrev Kw:=@Array.getElem_toList
abbrev Ky:=@List.append_eq_nil_iff
abbrev Kz:=@PySem.Heap.SameBut.update
abbrev KA:=@List.cons_lt_cons_iff
abbrev KB:=@Nat.exists_eq_succ_of_ne_zero
abbrev KC:=@List.any_cons
abbrev KD:=@PyProof.Rows.F.plain_set_update_loop
abbrev KF:=@List.flatten_cons
abbrev KG:=@PySem.Heap.get?_update_other
abbrev KH:=@Nat.lt_of_succ_lt_succ
abbrev KI:=@Nat.lt_irrefl
abbrev KJ:=@Nat.lt_succ_self
abbrev KL:=@List.length_drop
abbrev KM:=@PySem.Heap.size_push
abbrev KN:=@PySem.Obj.isFreed_of_fields
abbrev KO:=@Array.getElem?_eq_getElem
abbrev KP:=@PyProof.Rows.slot_tuple_getitem
abbrev KQ:=@Int.ediv_emod_unique
abbrev KR:=@Nat.zero_add
abbrev KS:=@Nat.mod_lt
abbrev KU:=@List.cons.injEq
abbrev KW:=@List.reverse_cons
abbrev KY:=@List.ext_getElem?
abbrev KZ:=@List.length_range
abbrev Qa:=@List.mem_cons
abbrev Qb:=@List.length_eq_zero_iff
abbrev Qc:=@PySem.SetTable.insertAt_perm
abbrev Qd:=@Nat.ne_of_gt
abbrev Qe:=@PyProof.Rows.callWith_type1
abbrev Qf:=@List.zip_cons_cons
abbrev Qg:=@List.length_singleton
abbrev Qh:=@List.getElem?_eq_none
abbrev Qi:=@List.nodup_append
abbrev Qj:=@List.drop_eq_getElem_cons
abbrev Qk:=@List.getElem?_append_left
abbrev Ql:=@List.mem_of_mem_drop
abbrev Qm:=@Array.toList_reverse
abbrev Qn:=@List.length_erase_of_mem
abbrev Qo:=@Int.mul_comm
abbrev Qp:=@PySem.mem_of_lookup
abbrev Qq:=@List.filter_sublist
abbrev Qr:=@List.map_congr_left
abbrev Qs:=@PyProof.Rows.F.entry_set_update_loop
abbrev Qt:=@Ne.symm
abbrev Qu:=@List.mem_filterMap
abbrev Qw:=@PyProof.Rows.callWith_builtin1
abbrev Qx:=@List.foldl_cons
abbrev Qy:=@Nat.lt_of_le_of_lt
abbrev Qz:=@Int.mul_one
abbrev QA:=@List.length_pos_of_mem
abbrev QB:=@List.not_lt
abbrev QC:=@List.getElem?_set
abbrev QD:=@Array.size_append
abbrev QE:=@List.Perm.append_left
abbrev QF:=@Nat.le_of_not_lt
abbrev QG:=@Bool.and_eq_true_iff
abbrev QH:=@List.mem_of_mem_take
abbrev QI:=@List.all_eq_true
abbrev QJ:=@List.getElem?_append_right
abbrev QK:=@Array.toList_setIfInBounds
abbrev QL:=@List.perm_ext_iff_of_nodup
abbrev QM:=@Int.add_mul
abbrev QN:=@List.mem_of_find?_eq_some
abbrev QO:=@Option.isNone_iff_eq_none
abbrev QP:=@List.filter_append
abbrev QQ:=@List.getElem?_take
abbrev QR:=@Nat.succ.inj
abbrev QS:=@Int.mul_nonneg
namespace L2
open PySem PySem.Spec PyProof.Rows
noncomputable abbrev Key:=Sum Int Str
noncomputable def vW:Key->Value->Bool
 | .inl k,v=>Value.isInt k v
 | .inr x,v=>Value.isStrOf x v
noncomputable def znu(w:World):Key->Int
 | .inl k=>hashInt k
 | .inr x=>hashStr w x
theorem zH:∀ {k:Key} {v:Value},vW k v=true->(∃ i t,k=Sum.inl i/\v=Value.int i t)∨(∃ x t,k=Sum.inr x/\v=Value.str x t)
 | .inl i,v,h=>by
  obtain ⟨t,e⟩:=Value.isInt_shape (k:=i) (v:=v) h
  exact .inl ⟨i,t,rfl,e⟩
 | .inr x,v,h=>by
  obtain ⟨t,e⟩:=Value.isStrOf_shape (x:=x) (v:=v) h
  exact .inr ⟨x,t,rfl,e⟩
theorem zeM(i:Int)(t:Tok):vW (.inl i) (.int i t)=true:=by simp [vW,Value.isInt]
theorem zeL(x:Str)(t:Tok):vW (.inr x) (.str x t)=true:=by simp [vW,Value.isStrOf]
theorem zlw(a b:Int):decide ((Sum.inl a:Key)=Sum.inl b)=(a == b):=by
 by_cases e:a=b
 ·subst e;simp
 ·have h:¬ (Sum.inl a:Key)=Sum.inl b:=fun q=>e (Sum.inl.inj q)
  rw [decide_eq_false h]
  exact (beq_eq_false_iff_ne.mpr e).symm
theorem zlt(a b:Str):decide ((Sum.inr a:Key)=Sum.inr b)=decide (a=b):=by
 by_cases e:a=b
 ·subst e;simp
 ·have h:¬ (Sum.inr a:Key)=Sum.inr b:=fun q=>e (Sum.inr.inj q)
  rw [decide_eq_false h,decide_eq_false e]
theorem zlv(a:Int)(b:Str):decide ((Sum.inl a:Key)=Sum.inr b)=false:=decide_eq_false (fun q=>nomatch q)
theorem zlu(a:Str)(b:Int):decide ((Sum.inr a:Key)=Sum.inl b)=false:=decide_eq_false (fun q=>nomatch q)
noncomputable def zC(prog:Program)(w:World):PySem.KeyKind prog w Key where
 is:=vW
 hash:=znu w
 inj:=fun v a b ha hb=>by
  rcases zH ha with ⟨i,t,rfl,rfl⟩ | ⟨x,t,rfl,rfl⟩
  ·rcases zH hb with ⟨j,u,rfl,e⟩ | ⟨y,u,rfl,e⟩
   ·injection e with e1 _;rw [e1]
   ·exact nomatch e
  ·rcases zH hb with ⟨j,u,rfl,e⟩ | ⟨y,u,rfl,e⟩
   ·exact nomatch e
   ·injection e with e1 _;rw [e1]
 byValue:=fun k v h=>by
  rcases zH h with ⟨i,t,rfl,rfl⟩ | ⟨x,t,rfl,rfl⟩<;>rfl
 pyHash:=fun hv h=>by
  rcases zH hv with ⟨i,t,rfl,rfl⟩ | ⟨x,t,rfl,rfl⟩
  ·exact wpAny_pyHash_int h
  ·exact wpAny_pyHash_str h
 eqBool:=fun hu hv h=>by
  rcases zH hu with ⟨i,t,rfl,rfl⟩ | ⟨x,t,rfl,rfl⟩
  ·rcases zH hv with ⟨j,u,rfl,rfl⟩ | ⟨y,u,rfl,rfl⟩
   ·rw [zlw] at h;exact wpAny_eqBool_int h
   ·rw [zlv] at h;exact SeqAt.EqAt.int_str i t y u _ _ _ _ h
  ·rcases zH hv with ⟨j,u,rfl,rfl⟩ | ⟨y,u,rfl,rfl⟩
   ·rw [zlu] at h;exact SeqAt.EqAt.str_int x t j u _ _ _ _ h
   ·rw [zlt] at h;exact wpAny_eqBool_str h
 «strs»:=fun k x t v h=>by
  rcases zH h with ⟨i,u,rfl,e⟩ | ⟨y,u,rfl,e⟩
  ·exact nomatch e
  ·injection e with e1 _
   subst e1
   cases v<;>rfl
theorem zcB(prog:Program)(w:World)(k:Key)(v:Value):(zC prog w).is k v=vW k v:=rfl
theorem zbn(prog:Program)(w:World)(i:Int)(t:Tok):(zC prog w).is (.inl i) (.int i t)=true:=zeM i t
theorem zbm(prog:Program)(w:World)(x:Str)(t:Tok):(zC prog w).is (.inr x) (.str x t)=true:=zeL x t
inductive V where
 | non | bl (b:Bool) | int (i:Int) | str (x:Str) | byt (b:Array UInt8) | flt (b:UInt64) | ref (a:Addr) | ty (n:String)
 deriving DecidableEq
noncomputable def RelV:V->Value->Prop
 | .non,u=>u=Value.none
 | .bl b,u=>u=Value.bool b
 | .int i,u=>∃ t,u=Value.int i t
 | .str x,u=>∃ t,u=Value.str x t
 | .byt b,u=>∃ t,u=Value.bytes b t
 | .flt b,u=>∃ t,u=Value.float b t
 | .ref a,u=>u=Value.ref a
 | .ty n,u=>u=Value.type n
noncomputable abbrev Vals:List V->List Value->Prop:=Paired RelV
theorem Vals.length{xs:List V}{us:List Value}(r:Vals xs us):xs.length=us.length:=Paired.length r
theorem Vals.get:∀ {xs:List V} {us:List Value} {i:Nat} {x:V},Vals xs us->xs[i]?=some x->∃ u,us[i]?=some u/\RelV x u
 | _,_,_,_,.nil,e=>by simp at e
 | _,_,0,_,.cons r _,e=>by simp at e;subst e;exact ⟨_,rfl,r⟩
 | _,_,i+1,x,.cons _ t,e=>by
  obtain ⟨u,h1,h2⟩:=Vals.get (i:=i) (x:=x) t (by simpa using e)
  exact ⟨u,by simpa using h1,h2⟩
theorem Vals.set{x:V}{u:Value}(r:RelV x u):∀ {xs:List V} {us:List Value} (i:Nat),Vals xs us->Vals (xs.set i x) (us.set i u)
 | _,_,_,.nil=>.nil
 | _,_,0,.cons _ t=>.cons r t
 | _,_,i+1,.cons q t=>.cons q (Vals.set r i t)
theorem Vals.append:∀ {xs ys:List V} {us ws:List Value},Vals xs us->Vals ys ws->Vals (xs++ys) (us++ws)
 | _,_,_,_,.nil,s=>s
 | _,_,_,_,.cons r t,s=>.cons r (Vals.append t s)
theorem Vals.take:∀ {xs:List V} {us:List Value} (n:Nat),Vals xs us->Vals (xs.take n) (us.take n)
 | _,_,0,_=>.nil
 | _,_,_+1,.nil=>.nil
 | _,_,n+1,.cons r t=>.cons r (Vals.take n t)
theorem Vals.drop:∀ {xs:List V} {us:List Value} (n:Nat),Vals xs us->Vals (xs.drop n) (us.drop n)
 | _,_,0,r=>r
 | _,_,_+1,.nil=>.nil
 | _,_,n+1,.cons _ t=>Vals.drop n t
noncomputable def RelO:Option V->Option Value->Prop
 | some v,some u=>RelV v u
 | none,none=>True
 | _,_=>False
noncomputable def KV{κ:Type}:List (κ × V)->List (κ × Value)->Prop:=Paired fun (p:κ × V) (q:κ × Value)=>p.1=q.1/\RelV p.2 q.2
noncomputable def kV:Key->V
 | .inl i=>.int i
 | .inr x=>.str x
inductive HO where
 | lst (xs:List V)
 | tup (xs:List V)
 | dK (kvs:List (Key × V)) | dT (kvs:List (List Key × V))
 | set (S:Int->Bool) (n:Nat)
 | ins (C dx:Addr) (fs:List (Str × V))
 | own (x:Addr)
 | xd (fs:List (Str × V))
 | met (f x:Addr)
 | rng (lo hi:Int)
 | frz (o:Obj) (u:HO)
 | tbl (ps:Array Value)
 | ext (φ:Heap->Prop)
noncomputable abbrev Hp:=Addr->Option HO
noncomputable def upd(H:Hp)(a:Addr)(o:HO):Hp:=fun b=>if b=a then some o else H b
theorem zT:upd H a o a=some o:=by unfold upd;rw [if_pos rfl]
theorem zW{H:Hp}(h:b≠a):upd H a o b=H b:=by unfold upd;rw [if_neg h]
theorem znj{H:Hp}(h:H a=some o)(h':H b=some u)(d:o≠u):a≠b:=by
 intro e;subst e;rw [h] at h';exact d (Js h')
theorem yW{H:Hp}(h:H a=some o)(h':H b=none):a≠b:=by
 intro e;subst e;rw [h] at h';cases h'
section
variable (P:Program) (w:World)
noncomputable def ObjOk(H:Hp)(h:Heap)(a:Addr):HO->Prop
 | .lst xs=>xs.length≤sizeLine/\∃ (its:List Value) (n:Nat),Vals xs its/\h.get? a=some { cls:=.type "list",data:=.seq its.toArray n }
 | .tup xs=>xs.length≤sizeLine/\∃ its:List Value,Vals xs its/\IsTup h a its.toArray
 | .dK kvs=>kvs.length≤sizeLine/\(a == sysModules)=false/\∃ vs,KV kvs vs/\h.DictOf (zC P w) a vs
 | .dT kvs=>kvs.length≤sizeLine/\(a == sysModules)=false/\∃ xs:List (List Key × Addr × Value),
   Paired (fun (p:List Key × V) (q:List Key × Addr × Value)=>p.1=q.1/\H q.2.1=some (.tup (p.1.map kV))/\RelV p.2 q.2.2) kvs xs/\
   ∃ o es ep,h.get? a=some o/\o.ExactDict/\o.data=.dict es ep/\es.toList=xs.map (entryOfKey (tupleKind (zC P w)))/\(xs.map (·.1)).Nodup
 | .set S n=>h.SetOf (intKind P w) a S n
 | .ins C dx fs=>H dx=some (.own a)/\fs.length≤1000/\dx≠a/\h.get? a=some (PySem.W.instObj C dx)/\
   ∃ mA,h.Ns1 dx mA/\(∀ f,RelO (fs.lookup f) (mA f))/\PySem.Within mA (fs.map (·.1))
 | .own _=>∃ o,h.get? a=some o
 | .xd fs=>∃ mA,h.Ns1 a mA/\∀ f,RelO (fs.lookup f) (mA f)
 | .rng lo hi=>∃ t u v,h.get? a=some { cls:=.type "range",data:=.fields #[.int lo t,.int hi u,.int 1 v] }
 | .frz o u=>h.get? a=some o/\ObjOk H h a u
 | .tbl ps=>h.get? a=some { cls:=.none,data:=.fields ps }
 | .met f x=>h.get? a=some (PySem.W.methodObj (.ref f) (.ref x))
 | .ext φ=>φ h/\(∃ o,h.get? a=some o)/\∀ h1 h2:Heap,φ h1->(∀ o,h1.get? a=some o->h2.get? a=some o)->φ h2
noncomputable def HOk(H:Hp)(h:Heap):Prop:=∀ a o,H a=some o->ObjOk P w H h a o
end
section
variable {P:Program} {w:World} {H H':Hp} {h h':Heap} {a:Addr} {o:HO}
theorem ObjOk.lt(x:ObjOk P w H h a o):a<h.objs.size:=by
 cases o with
 | lst xs=>obtain ⟨_,_,_,_,e⟩:=x;exact Jn e
 | tup xs=>obtain ⟨_,_,_,p⟩:=x;exact p.lt
 | dK kvs=>obtain ⟨_,_,_,_,o,_,_,e,_⟩:=x;exact Jn e
 | dT kvs=>obtain ⟨_,_,_,_,o,_,_,e,_⟩:=x;exact Jn e
 | set S n=>obtain ⟨o,_,_,_,e,_⟩:=x;exact Jn e
 | ins C dx fs=>obtain ⟨_,_,_,e,_⟩:=x;exact Jn e
 | own y=>obtain ⟨_,e⟩:=x;exact Jn e
 | xd fs=>obtain ⟨_,⟨_,_,_,e,_⟩,_⟩:=x;exact Jn e
 | rng lo hi=>obtain ⟨_,_,_,e⟩:=x;exact Jn e
 | frz ob u=>obtain ⟨e,_⟩:=x;exact Jn e
 | tbl ps=>exact Jn (show h.get? a=some _ from x)
 | met f y=>exact Jn (show h.get? a=some _ from x)
 | ext φ=>obtain ⟨_,⟨_,e⟩,_⟩:=x;exact Jn e
theorem Paired.mapP{α β:Type}{F G:α->β->Prop}:∀ {l₁:List α} {l₂:List β},Paired F l₁ l₂->(∀ a b,F a b->G a b)->Paired G l₁ l₂
 | _,_,.nil,_=>.nil
 | _,_,.cons r t,f=>.cons (f _ _ r) (Paired.mapP t f)
theorem ObjOk.stay(x:ObjOk P w H h a o)(k:∀ b u,(b=a∨H b=some (.own a))->h.get? b=some u->h'.get? b=some u)
  (ho:∀ b,H b=some (.own a)->H' b=some (.own a))(ht:∀ b xs,H b=some (.tup xs)->H' b=some (.tup xs)):ObjOk P w H' h' a o:=by
 induction o with
 | lst xs=>obtain ⟨z,its,n,r,e⟩:=x;exact ⟨z,its,n,r,k _ _ (.inl rfl) e⟩
 | tup xs=>obtain ⟨z,its,r,ob,e,c⟩:=x;exact ⟨z,its,r,ob,k _ _ (.inl rfl) e,c⟩
 | dK kvs=>obtain ⟨z,y,vs,r,ob,es,ep,e,c⟩:=x;exact ⟨z,y,vs,r,ob,es,ep,k _ _ (.inl rfl) e,c⟩
 | dT kvs=>
  obtain ⟨z,y,xs,r,ob,es,ep,e,c⟩:=x
  exact ⟨z,y,xs,Paired.mapP r fun p q z=>⟨z.1,ht _ _ z.2.1,z.2.2⟩,ob,es,ep,k _ _ (.inl rfl) e,c⟩
 | set S n=>obtain ⟨ob,es,ep,t,e,c⟩:=x;exact ⟨ob,es,ep,t,k _ _ (.inl rfl) e,c⟩
 | ins C dx fs=>
  obtain ⟨d,z,ne,e,mA,⟨od,es,ep,e2,c⟩,r⟩:=x
  exact ⟨ho _ d,z,ne,k _ _ (.inl rfl) e,mA,⟨od,es,ep,k _ _ (.inr d) e2,c⟩,r⟩
 | own y=>obtain ⟨ob,e⟩:=x;exact ⟨ob,k _ _ (.inl rfl) e⟩
 | xd fs=>obtain ⟨mA,⟨od,es,ep,e,c⟩,r⟩:=x;exact ⟨mA,⟨od,es,ep,k _ _ (.inl rfl) e,c⟩,r⟩
 | rng lo hi=>obtain ⟨t,u,v,e⟩:=x;exact ⟨t,u,v,k _ _ (.inl rfl) e⟩
 | frz ob u ih=>obtain ⟨e,q⟩:=x;exact ⟨k _ _ (.inl rfl) e,ih q⟩
 | tbl ps=>
  have e:h.get? a=some { cls:=.none,data:=.fields ps }:=x
  show h'.get? a=some { cls:=.none,data:=.fields ps }
  exact k a _ (.inl rfl) e
 | met f y=>
  have e:h.get? a=some (PySem.W.methodObj (.ref f) (.ref y)):=x
  show h'.get? a=some (PySem.W.methodObj (.ref f) (.ref y))
  exact k a _ (.inl rfl) e
 | ext φ=>obtain ⟨p,⟨o,e⟩,st⟩:=x;exact ⟨st _ _ p fun o q=>k _ _ (.inl rfl) q,⟨o,k _ _ (.inl rfl) e⟩,st⟩
theorem HOk.lt(x:HOk P w H h)(e:H a=some o):a<h.objs.size:=(x a o e).lt
theorem HOk.fresh(x:HOk P w H h)(e:h.objs.size≤a):H a=none:=by
 cases q:H a with
 | none=>rfl
 | some u=>exact absurd (JE (x.lt q) e) (KI _)
theorem HOk.kept(x:HOk P w H h)(k:∀ b u,h.get? b=some u->h'.get? b=some u):HOk P w H h':=fun a o e=>
 (x a o e).stay (fun b u _ q=>k b u q) (fun _ q=>q) fun _ _ q=>q
theorem HOk.laid(x:HOk P w H h)(k:∀ b u,h.get? b=some u->h'.get? b=some u)(hp:h.objs.size≤a)(new:ObjOk P w (upd H a o) h' a o):HOk P w (upd H a o) h':=fun b u e=>by
 have hn:=x.fresh hp
 by_cases hb:b=a
 ·subst hb;rw [zT] at e;cases e;exact new
 ·rw [zW hb] at e
  exact (x b u e).stay (fun c v _ q=>k c v q) (fun c q=>by rw [zW (yW q hn)];exact q) fun c xs q=>by rw [zW (yW q hn)];exact q
end
noncomputable def Rd(H:Hp)(a:Addr)(u:HO):Prop:=H a=some u∨∃ o,H a=some (.frz o u)
theorem Rd.of{H:Hp}(h:H a=some u):Rd H a u:=.inl h
theorem Rd.ok(r:Rd H a u)(x:HOk P w H h):ObjOk P w H h a u:=by
 rcases r with r | ⟨o,r⟩
 ·exact x a u r
 ·obtain ⟨_,q⟩:=x a _ r
  exact q
noncomputable def Mut:Option HO->Prop
 | some (.lst _)=>True
 | some (.dK _)=>True
 | some (.dT _)=>True
 | some (.set _ _)=>True
 | some (.ins _ _ _)=>True
 | some (.ext _)=>True
 | _=>False
section
variable {P:Program} {w:World} {H:Hp} {h h':Heap} {x e:Addr} {o':HO}
theorem HOk.write(ok:HOk P w H h)(mu:Mut (H x))(he:e=x∨H e=some (.own x))(k:∀ b u,b≠e->h.get? b=some u->h'.get? b=some u)(heo:∃ u,h'.get? e=some u)
  (new:ObjOk P w (upd H x o') h' x o'):HOk P w (upd H x o') h':=fun b u q=>by
 have nown:∀ c y,H c=some (.own y)->c≠x:=fun c y r z=>by subst z;rw [r] at mu;exact mu
 have ntup:∀ c xs,H c=some (.tup xs)->c≠x:=fun c xs r z=>by subst z;rw [r] at mu;exact mu
 by_cases hb:b=x
 ·subst hb;rw [zT] at q;cases q;exact new
 ·rw [zW hb] at q
  by_cases hbe:b=e
  ·have q':H b=some (.own x):=by
    rcases he with z | z
    ·exact absurd (hbe.trans z) hb
    ·rw [hbe];exact z
   rw [q] at q';cases q'
   obtain ⟨v,hv⟩:=heo
   exact ⟨v,by rw [hbe];exact hv⟩
  ·refine (ok b u q).stay (fun c v hc r=>k c v ?_ r) (fun c r=>by rw [zW (nown c b r)];exact r) fun c xs r=>by rw [zW (ntup c xs r)];exact r
   rcases hc with rfl | hc
   ·exact hbe
   ·rintro rfl
    rcases he with z | z
    ·exact nown c b hc z
    ·rw [hc] at z;cases z;exact hb rfl
end
structure Un (fs ex:List Addr) (H H':Hp) (h h':Heap):Prop where
 keep:∀ b o,h.get? b=some o->H b=none->b ∉ fs->b ∉ ex->h'.get? b=some o
 slot:∀ b o,h.get? b=some o->H b=none->b ∈ fs->b ∉ ex->∃ sl,h'.get? b=some { o with slots:=sl }
 free:∀ b o,h.get? b=some o->H b=none->b ∉ ex->H' b=none
 there:∀ b o,h.get? b=some o->b ∉ ex->∃ o',h'.get? b=some o'
 tups:∀ b xs,H b=some (.tup xs)->H' b=some (.tup xs)
 frzs:∀ b o u,H b=some (.frz o u)->H' b=some (.frz o u)
 tbls:∀ b ps,H b=some (.tbl ps)->∃ more,H' b=some (.tbl (ps++more))
section
variable {fs fs' ex ex':List Addr} {H H1 H2:Hp} {h h1 h2 h':Heap} {a x e:Addr} {o:HO}
theorem Un.any(u:Un fs ex H H1 h h1){ob:Obj}(q:h.get? b=some ob)(n:H b=none)(hx:b ∉ ex):∃ sl,h1.get? b=some { ob with slots:=sl }:=by
 by_cases hb:b ∈ fs
 ·exact u.slot b ob q n hb hx
 ·exact ⟨ob.slots,u.keep b ob q n hb hx⟩
theorem Un.trans(a:Un fs ex H H1 h h1)(b:Un fs ex H1 H2 h1 h2):Un fs ex H H2 h h2 where
 keep:=fun c ob q n hc hx=>b.keep c ob (a.keep c ob q n hc hx) (a.free c ob q n hx) hc hx
 slot:=fun c ob q n hc hx=>by
  obtain ⟨sl,e1⟩:=a.slot c ob q n hc hx
  obtain ⟨sl',e2⟩:=b.slot c _ e1 (a.free c ob q n hx) hc hx
  exact ⟨sl',e2⟩
 free:=fun c ob q n hx=>by
  obtain ⟨o',e1⟩:=a.there c ob q hx
  exact b.free c o' e1 (a.free c ob q n hx) hx
 there:=fun c ob q hx=>by
  obtain ⟨o',e1⟩:=a.there c ob q hx
  exact b.there c o' e1 hx
 tups:=fun c xs q=>b.tups c xs (a.tups c xs q)
 frzs:=fun c ob xs q=>b.frzs c ob xs (a.frzs c ob xs q)
 tbls:=fun c ps q=>by
  obtain ⟨m1,e1⟩:=a.tbls c ps q
  obtain ⟨m2,e2⟩:=b.tbls c _ e1
  exact ⟨m1++m2,by rw [e2,Array.append_assoc]⟩
theorem Un.kept(k:∀ b u,h.get? b=some u->h'.get? b=some u):Un fs ex H H h h':=
 ⟨fun b ob q _ _ _=>k b ob q,fun b ob q _ _ _=>⟨ob.slots,k b ob q⟩,fun _ _ _ n _=>n,fun b ob q _=>⟨ob,k b ob q⟩,fun _ _ q=>q,fun _ _ _ q=>q,fun _ ps q=>⟨#[],by rw [q];simp⟩⟩
theorem Un.refl:Un fs ex H H h h:=Un.kept fun _ _ q=>q
theorem Un.laid(k:∀ b u,h.get? b=some u->h'.get? b=some u)(hp:h.objs.size≤a)(hn:H a=none):Un fs ex H (upd H a o) h h' where
 keep:=fun b u q _ _ _=>k b u q
 slot:=fun b u q _ _ _=>⟨u.slots,k b u q⟩
 free:=fun b u q n _=>by rw [zW (Ju (JE (Jn q) hp))];exact n
 there:=fun b u q _=>⟨u,k b u q⟩
 tups:=fun b xs q=>by rw [zW (yW q hn)];exact q
 frzs:=fun b u xs q=>by rw [zW (yW q hn)];exact q
 tbls:=fun b ps q=>⟨#[],by rw [zW (yW q hn),q];simp⟩
theorem Un.write(mu:Mut (H x))(he:e=x∨H e=some (.own x))(k:∀ b u,b≠e->h.get? b=some u->h'.get? b=some u)(heo:∃ u,h'.get? e=some u):Un fs ex H (upd H x o) h h':=by
 have hx:∀ b,H b=none->b≠x:=fun b n z=>by subst z;rw [n] at mu;exact mu
 have hb:∀ b,H b=none->b≠e:=fun b n z=>by
  subst z
  rcases he with r | r
  ·exact hx b n r
  ·rw [n] at r;cases r
 have hm:∀ b u,H b=some u->¬ Mut (some u)->b≠x:=fun b u q nm z=>by subst z;rw [q] at mu;exact nm mu
 refine ⟨fun b u q n _ _=>k b u (hb b n) q,fun b u q n _ _=>⟨u.slots,k b u (hb b n) q⟩,fun b u q n _=>by rw [zW (hx b n)];exact n,fun b u q _=>?_,
  fun b xs q=>by rw [zW (hm b _ q fun z=>z)];exact q,fun b u xs q=>by rw [zW (hm b _ q fun z=>z)];exact q,fun b ps q=>⟨#[],by rw [zW (hm b _ q fun z=>z),q];simp⟩⟩
 by_cases hbe:b=e
 ·subst hbe;exact heo
 ·exact ⟨u,k b u hbe q⟩
theorem Un.mono(u:Un fs ex H H1 h h1)(hs:∀ b ∈ fs,b ∈ fs')(hx:∀ b ∈ ex,b ∈ ex'):Un fs' ex' H H1 h h1:=
 ⟨fun b ob q n hb he=>u.keep b ob q n (fun z=>hb (hs b z)) fun z=>he (hx b z),fun _ _ q n _ he=>u.any q n fun z=>he (hx _ z),fun b ob q n he=>u.free b ob q n fun z=>he (hx b z),fun b ob q he=>u.there b ob q fun z=>he (hx b z),u.tups,u.frzs,u.tbls⟩
end
noncomputable def trk(h:Heap)(H:Hp):List Addr:=(List.range h.objs.size).filter fun a=>(H a).isSome
noncomputable def qv(h:Heap)(H:Hp):Heap:=PySem.W.hideAll h (trk h H)
theorem zeP(h:Heap)(H:Hp):(qv h H).objs.size=h.objs.size:=PySem.W.hideAll_size _ _
theorem zgZ{h:Heap}{H:Hp}(e:h.get? b=some o)(n:H b=none):(qv h H).get? b=some o:=
 PySem.W.hideAll_get _ e fun hm=>by
  have q:(H b).isSome=true:=(JD.mp hm).2
  rw [n] at q;simp at q
theorem ziO{h:Heap}{H:Hp}(e:(qv h H).get? b=some o):h.get? b=some o/\H b=none:=by
 have e':h.get? b=some o:=PySem.W.of_hideAll (trk h H) e
 refine ⟨e',?_⟩
 cases q:H b with
 | none=>rfl
 | some x=>
  have hm:b ∈ trk h H:=List.mem_filter.mpr ⟨List.mem_range.mpr (Heap.lt_size e'),by simp [q]⟩
  have z:(qv h H).get? b=none:=PySem.W.hideAll_none (trk h H) hm
  rw [z] at e;cases e
noncomputable def zjw(g h:Heap)(L:Addr):List (Addr × Obj):=(List.range h.objs.size).filterMap fun a=>if a=L∨(g.get? a).isSome=true then none else (h.get? a).map fun o=>(a,o)
noncomputable def zg(g h:Heap)(L d:Addr):List (Addr × Obj):=(zjw g h L).filter fun p=>decide (p.1≠d)
structure Mod (K:PySem.W.Frag) (mg:Str->Option Value) (base:Heap):Prop where
 kin:K.In base
 glob:base.Ns mainGlobals mg
 blt:∃ mb,base.Ns builtinsNs mb/\∀ x:Str,x≠"__name__"->mb x=bootBuiltins x
 nolimit:base.NoLimit
structure Cx where
 prog:Program
 w:World
 K:PySem.W.Frag
 mg:Str->Option Value
 base:Heap
 A:Around
 N:List Str
 s₀:Shared
 H₀:Hp
 env:Env
 outer:List Env
 stack:List Env
 ex:List Addr
 fn:Str->Bool
 calm:Bool
 pn:List (Addr × Obj)
 xe:Value->Shared->Prop
noncomputable def frs(l:List Env):List Addr:=l.filterMap (·.frame)
noncomputable abbrev Cx.fs(X:Cx):List Addr:=frs X.outer
noncomputable def Vis(sc:Scope)(x:Str):Prop:=sc.names.lookup x=some .local∨sc.names.lookup x=some .cell∨sc.names.lookup x=some .free
noncomputable def Loc(sc:Scope)(x:Str):Prop:=sc.names.lookup x=some .local∨sc.names.lookup x=some .cell
noncomputable def zpa(env:Env)(h:Heap)(m:Str->Option Value)(x:Str)(u:Value):Prop:=
 (env.kindOf x=some .local/\m x=some u)∨((env.kindOf x=some .cell∨env.kindOf x=some .free)/\∃ c,env.cells.lookup x=some c/\h.IsCell c (some u))
structure Cx.Ok (X:Cx):Prop where
 mod:Mod X.K X.mg X.base
 kind:X.env.scope.kind=.function
 glob:X.env.globals=mainGlobals
 blt:X.env.builtins=builtinsNs
 above:X.s₀.heap.objs.size≤X.env.locals
 inj:∀ x y c,X.env.cells.lookup x=some c->X.env.cells.lookup y=some c->x=y
 has:∀ x,(X.env.kindOf x=some .cell∨X.env.kindOf x=some .free)->∃ c,X.env.cells.lookup x=some c
 cab:∀ x c,X.fn x=true->X.env.cells.lookup x=some c->X.s₀.heap.objs.size≤c
 hd:X.calm=true->X.A.handled=none
 frames:X.A.frames=some X.stack
 stk:X.stack=X.outer∨(X.stack=X.env::X.outer/\X.env.frame=some X.env.locals)
 exf:∀ b ∈ X.ex,b≠X.env.locals/\∀ x c,X.env.cells.lookup x=some c->c≠b
 bs:∀ b o,X.base.get? b=some o->X.s₀.heap.get? b=some o/\X.H₀ b=none
 bsz:X.base.objs.size≤X.s₀.heap.objs.size
 noex:∀ b o,X.base.get? b=some o->b ∉ X.ex
 exfs:∀ b ∈ X.ex,b ∉ X.fs
 funs:X.s₀.heap.FunFrames X.base X.outer
 frf:∀ b ∈ X.fs,X.H₀ b=none
structure Inv (X:Cx) (pins:List (Addr × Obj)) (σ:List (Option V)) (H:Hp) (s:Shared):Prop where
 ok:X.Ok
 os:s.os=X.s₀.os
 bare:AllBare s.gens
 base:Un X.fs X.ex X.H₀ H X.s₀.heap s.heap
 loc:∃ m,s.heap.Ns X.env.locals m/\∀ (i:Nat) (x:Str) (v:V),X.N[i]?=some x->σ[i]?=some (some v)->Vis X.env.scope x->∃ u,RelV v u/\zpa X.env s.heap m x u
 cell:∀ x c,X.env.cells.lookup x=some c->∃ v,s.heap.IsCell c v
 free:H X.env.locals=none
 freeC:∀ x c,X.env.cells.lookup x=some c->H c=none
 pin:∀ p ∈ X.pn++pins,s.heap.get? p.1=some p.2/\H p.1=none/\p.1≠X.env.locals/\p.1 ∉ X.fs/\∀ v,p.2.data≠.cell v
 hok:HOk X.prog X.w H s.heap
 len:σ.length=X.N.length
section
variable {X:Cx} {pins:List (Addr × Obj)} {σ:List (Option V)} {H H':Hp} {s:Shared} {h':Heap}
theorem Cx.Ok.nofr(ok:X.Ok)(e:X.base.get? b=some o):b ∉ X.fs:=fun hb=>by
 have:=(ok.funs.mem hb).1
 rw [e] at this;cases this
theorem Inv.bs(I:Inv X pins σ H s):∀ b o,X.base.get? b=some o->s.heap.get? b=some o/\H b=none:=fun b o e=>
 ⟨I.base.keep b o (I.ok.bs b o e).1 (I.ok.bs b o e).2 (I.ok.nofr e) (I.ok.noex b o e),I.base.free b o (I.ok.bs b o e).1 (I.ok.bs b o e).2 (I.ok.noex b o e)⟩
theorem Inv.bk(I:Inv X pins σ H s):∀ b o,X.base.get? b=some o->s.heap.get? b=some o:=fun b o e=>(I.bs b o e).1
theorem Inv.mod(I:Inv X pins σ H s):Mod X.K X.mg X.base:=I.ok.mod
theorem Inv.kIn(I:Inv X pins σ H s):X.K.In s.heap:=I.ok.mod.kin.keeps I.bk
theorem Inv.nolimit(I:Inv X pins σ H s):s.heap.NoLimit:=I.ok.mod.nolimit.keeps I.bk
theorem Inv.fr(I:Inv X pins σ H s):∃ m,Fr X.base X.env.locals s.heap m:=
 let ⟨m,hn,_⟩:=I.loc
 ⟨m,hn,I.bk,JO I.ok.bsz I.ok.above⟩
theorem Inv.lt(I:Inv X pins σ H s):X.env.locals<s.heap.objs.size:=let ⟨_,hn,_⟩:=I.loc;hn.lt
theorem Inv.sz(I:Inv X pins σ H s):X.s₀.heap.objs.size≤s.heap.objs.size:=JO I.ok.above (Nat.le_of_lt I.lt)
theorem Inv.nofs(I:Inv X pins σ H s)(h:s.heap.objs.size≤a):a ∉ X.fs:=fun hb=>by
 obtain ⟨_,o,ho,_⟩:=I.ok.funs.mem hb
 exact absurd (JE (Jn ho) (JO I.sz h)) (KI _)
theorem Inv.cne(I:Inv X pins σ H s):∀ x c,X.env.cells.lookup x=some c->c≠X.env.locals:=fun x c e z=>by
 obtain ⟨v,o,ho,hd⟩:=I.cell x c e
 obtain ⟨m,⟨o',es,ep,ho',hd',_⟩,_⟩:=I.loc
 rw [z,ho'] at ho;cases ho;rw [hd'] at hd;cases hd
theorem Inv.funs(I:Inv X pins σ H s):s.heap.FunFrames X.base X.outer:=by
 have all:∀ (l:List Env),(∀ b ∈ frs l,b ∈ X.fs)->X.s₀.heap.FunFrames X.base l->s.heap.FunFrames X.base l:=by
  intro l
  induction l with
  | nil=>intro _ _;trivial
  | cons env r ih=>
   intro hs hl
   obtain ⟨hk,⟨L,o,hf,hn,ho,hd⟩,hr⟩:=hl
   have hL:L ∈ X.fs:=hs L (by unfold frs;rw [List.filterMap_cons,hf];exact List.mem_cons_self)
   obtain ⟨sl,e⟩:=I.base.slot L o ho (I.ok.frf L hL) hL fun z=>I.ok.exfs L z hL
   exact ⟨hk,⟨L,_,hf,hn,e,hd⟩,ih (fun b hb=>hs b (by unfold frs;rw [List.filterMap_cons,hf];exact List.mem_cons_of_mem _ hb)) hr⟩
 exact all X.outer (fun _ hb=>hb) I.ok.funs
theorem Inv.stack(I:Inv X pins σ H s):s.heap.FunFrames X.base X.stack:=by
 rcases I.ok.stk with e | ⟨e,hf⟩
 ·rw [e];exact I.funs
 ·rw [e]
  obtain ⟨m,hn,_⟩:=I.loc
  refine .cons (by rw [I.ok.kind];decide) hf hn ?_ I.funs
  exact Heap.get?_none_of_le (JO I.ok.bsz I.ok.above)
theorem Inv.stkSub(I:Inv X pins σ H s):∀ b ∈ frs X.stack,b ∈ X.env.locals::X.fs:=fun b hb=>by
 rcases I.ok.stk with e | ⟨e,hf⟩
 ·rw [e] at hb;exact Jg _ hb
 ·rw [e] at hb
  unfold frs at hb
  rw [List.filterMap_cons,hf] at hb
  exact hb
theorem Inv.stkFree(I:Inv X pins σ H s):∀ b ∈ frs X.stack,H b=none:=fun b hb=>by
 rcases List.mem_cons.mp (I.stkSub b hb) with e | hb
 ·rw [e];exact I.free
 ·obtain ⟨_,o,ho,_⟩:=I.ok.funs.mem hb
  exact I.base.free b o ho (I.ok.frf b hb) fun z=>I.ok.exfs b z hb
theorem Inv.step{g':Array GenState}{t':Nat}{d':Drawn}{ch:List Addr}(I:Inv X pins σ H s)
  (hch:∀ b ∈ ch,(b ∈ X.ex∨X.s₀.heap.objs.size≤b)/\b≠X.env.locals/\(∀ x c,X.env.cells.lookup x=some c->c≠b)/\∀ p ∈ X.pn++pins,p.1≠b)
  (keep:∀ b o,b≠X.env.locals->b ∉ X.fs->b ∉ ch->s.heap.get? b=some o->H b=none->h'.get? b=some o)
  (slot:∀ b o,b≠X.env.locals->b ∈ X.fs->b ∉ ch->s.heap.get? b=some o->H b=none->∃ sl,h'.get? b=some { o with slots:=sl })(free:∀ b o,b ∉ ch->s.heap.get? b=some o->H b=none->H' b=none)
  (there:∀ b o,b ∉ ch->s.heap.get? b=some o->∃ o',h'.get? b=some o')
  (tups:∀ b xs,H b=some (.tup xs)->H' b=some (.tup xs))(frzs:∀ b o u,H b=some (.frz o u)->H' b=some (.frz o u))(tbls:∀ b ps,H b=some (.tbl ps)->∃ more,H' b=some (.tbl (ps++more)))
  (ns:∀ m,s.heap.Ns X.env.locals m->h'.Ns X.env.locals m)(hok:HOk X.prog X.w H' h')(hg:AllBare g'):
  Inv X pins σ H' { s with heap:=h',gens:=g',drawn:=d',toks:=t' }:=by
 have neL:∀ b o,X.s₀.heap.get? b=some o->b≠X.env.locals:=fun b o e=>Ju (JE (Jn e) I.ok.above)
 have neC:∀ b o,X.s₀.heap.get? b=some o->b ∉ X.ex->b ∉ ch:=fun b o e hx hb=>by
  rcases (hch b hb).1 with z | z
  ·exact hx z
  ·exact absurd (JE (Jn e) z) (KI _)
 have cellK:∀ x c,X.env.cells.lookup x=some c->∀ v,s.heap.IsCell c v->h'.IsCell c v:=fun x c e v ⟨o,ho,hd⟩=>by
  have nch:c ∉ ch:=fun z=>(hch c z).2.2.1 x c e rfl
  by_cases hc:c ∈ X.fs
  ·obtain ⟨sl,q⟩:=slot c o (I.cne x c e) hc nch ho (I.freeC x c e)
   exact ⟨_,q,hd⟩
  ·exact ⟨o,keep c o (I.cne x c e) hc nch ho (I.freeC x c e),hd⟩
 refine ⟨I.ok,I.os,hg,⟨fun b o e n hb hx=>?_,fun b o e n hb hx=>?_,fun b o e n hx=>?_,fun b o e hx=>?_,fun b xs e=>tups b xs (I.base.tups b xs e),fun b o xs e=>frzs b o xs (I.base.frzs b o xs e),fun b ps e=>?_⟩,?_,fun x c e=>?_,?_,fun x c e=>?_,fun p hp=>?_,hok,I.len⟩
 ·exact keep b o (neL b o e) hb (neC b o e hx) (I.base.keep b o e n hb hx) (I.base.free b o e n hx)
 ·obtain ⟨sl,e1⟩:=I.base.slot b o e n hb hx
  obtain ⟨sl',e2⟩:=slot b _ (neL b o e) hb (neC b o e hx) e1 (I.base.free b o e n hx)
  exact ⟨sl',e2⟩
 ·obtain ⟨o',e1⟩:=I.base.there b o e hx
  exact free b o' (neC b o e hx) e1 (I.base.free b o e n hx)
 ·obtain ⟨o',e1⟩:=I.base.there b o e hx
  exact there b o' (neC b o e hx) e1
 ·obtain ⟨m1,e1⟩:=I.base.tbls b ps e
  obtain ⟨m2,e2⟩:=tbls b _ e1
  exact ⟨m1++m2,by rw [e2,Array.append_assoc]⟩
 ·obtain ⟨m,hn,hl⟩:=I.loc
  refine ⟨m,ns m hn,fun i x v e1 e2 e3=>?_⟩
  obtain ⟨u,r,l⟩:=hl i x v e1 e2 e3
  refine ⟨u,r,?_⟩
  rcases l with l | ⟨k,c,e,z⟩
  ·exact .inl l
  ·exact .inr ⟨k,c,e,cellK x c e _ z⟩
 ·obtain ⟨v,z⟩:=I.cell x c e
  exact ⟨v,cellK x c e v z⟩
 ·obtain ⟨m,⟨o,_,_,ho,_⟩,_⟩:=I.loc
  exact free _ o (fun z=>(hch _ z).2.1 rfl) ho I.free
 ·obtain ⟨v,o,ho,hd⟩:=I.cell x c e
  exact free c o (fun z=>(hch c z).2.2.1 x c e rfl) ho (I.freeC x c e)
 ·obtain ⟨e,n,ne,nf,d⟩:=I.pin p hp
  have nch:p.1 ∉ ch:=fun z=>(hch p.1 z).2.2.2 p hp rfl
  exact ⟨keep p.1 p.2 ne nf nch e n,free p.1 p.2 nch e n,ne,nf,d⟩
theorem Inv.un(I:Inv X pins σ H s)(u:Un X.fs [] H H' s.heap h')(hok:HOk X.prog X.w H' h'):Inv X pins σ H' { s with heap:=h',toks:=t' }:=by
 obtain ⟨m,⟨o,es,ep,ho,r⟩,_⟩:=id I.loc
 obtain ⟨sl,hL⟩:=u.any ho I.free (by simp)
 exact I.step (g':=s.gens) (d':=s.drawn) (ch:=[]) (fun _ z=>nomatch z) (fun b o _ hb _ e n=>u.keep b o e n hb (by simp)) (fun b o _ hb _ e n=>u.slot b o e n hb (by simp)) (fun b o _ e n=>u.free b o e n (by simp)) (fun b o _ e=>u.there b o e (by simp)) u.tups u.frzs u.tbls (fun m' hm=>by
  obtain ⟨o',es',ep',ho',r'⟩:=hm
  rw [ho] at ho';cases ho'
  exact ⟨_,es',ep',hL,r'⟩) hok I.bare
theorem Inv.call(I:Inv X pins σ H s)(u:Un (frs X.stack) ch H H' s.heap h')(hok:HOk X.prog X.w H' h')(hg:AllBare g')
  (hch:∀ b ∈ ch,(b ∈ X.ex∨X.s₀.heap.objs.size≤b)/\b≠X.env.locals/\(∀ x c,X.env.cells.lookup x=some c->c≠b)/\∀ p ∈ X.pn++pins,p.1≠b):
  Inv X pins σ H' { s with heap:=h',gens:=g',drawn:=d',toks:=t' }:=by
 obtain ⟨m,⟨o,es,ep,ho,r⟩,_⟩:=id I.loc
 obtain ⟨sl,hL⟩:=u.any ho I.free fun z=>(hch _ z).2.1 rfl
 exact I.step (ch:=ch) hch (fun b o hL hb hc e n=>u.keep b o e n (fun z=>(Qa.mp (I.stkSub b z)).elim hL hb) hc) (fun b o _ _ hc e n=>u.any e n hc) (fun b o hc e n=>u.free b o e n hc) (fun b o hc e=>u.there b o e hc) u.tups u.frzs u.tbls (fun m' hm=>by
  obtain ⟨o',es',ep',ho',r'⟩:=hm
  rw [ho] at ho';cases ho'
  exact ⟨_,es',ep',hL,r'⟩) hok hg
theorem Inv.turned(I:Inv X pins σ H s)(k:∀ b o,b≠it->s.heap.get? b=some o->h'.get? b=some o)(hn:H it=none)(hL:it≠X.env.locals)
  (h1:it ∈ X.ex∨X.s₀.heap.objs.size≤it)(h2:∀ x c,X.env.cells.lookup x=some c->c≠it)(h3:∀ p ∈ X.pn++pins,p.1≠it):Inv X pins σ H { s with heap:=h',toks:=t' }:=by
 have nit:∀ b u,H b=some u->b≠it:=fun b u e z=>by rw [z,hn] at e;cases e
 refine I.step (g':=s.gens) (d':=s.drawn) (ch:=[it]) (fun b hb=>?_) (fun b o _ _ hc e _=>k b o (fun z=>hc (by simp [z])) e) (fun b o _ _ hc e _=>⟨o.slots,k b o (fun z=>hc (by simp [z])) e⟩) (fun _ _ _ _ n=>n)
  (fun b o hc e=>⟨o,k b o (fun z=>hc (by simp [z])) e⟩) (fun _ _ e=>e) (fun _ _ _ e=>e) (fun b ps e=>⟨#[],by rw [e];simp⟩) (fun m hm=>?_) (fun b u e=>?_) I.bare
 ·have e:b=it:=by simpa using hb
  subst e
  exact ⟨h1,hL,h2,h3⟩
 ·obtain ⟨o,es,ep,ho,r⟩:=hm
  exact ⟨o,es,ep,k _ o (Qt hL) ho,r⟩
 ·refine (I.hok b u e).stay (fun c v hc q=>k c v ?_ q) (fun _ q=>q) fun _ _ q=>q
  rcases hc with z | z
  ·rw [z];exact nit b u e
  ·exact nit c _ z
theorem Inv.tok(I:Inv X pins σ H s)(t:Nat):Inv X pins σ H { s with toks:=t }:=I.un (h':=s.heap) (t':=t) Un.refl I.hok
theorem Inv.kept(I:Inv X pins σ H s)(k:∀ b u,s.heap.get? b=some u->h'.get? b=some u):Inv X pins σ H { s with heap:=h',toks:=t' }:=I.un (Un.kept k) (I.hok.kept k)
theorem Inv.laid(I:Inv X pins σ H s)(k:∀ b u,s.heap.get? b=some u->h'.get? b=some u)(hp:s.heap.objs.size≤a)(new:ObjOk X.prog X.w (upd H a o) h' a o):
  Inv X pins σ (upd H a o) { s with heap:=h',toks:=t' }:=I.un (Un.laid k hp (I.hok.fresh hp)) (I.hok.laid k hp new)
theorem Inv.write(I:Inv X pins σ H s)(mu:Mut (H x))(he:e=x∨H e=some (.own x))(k:∀ b u,b≠e->s.heap.get? b=some u->h'.get? b=some u)(heo:∃ u,h'.get? e=some u)
  (new:ObjOk X.prog X.w (upd H x o) h' x o):Inv X pins σ (upd H x o) { s with heap:=h',toks:=t' }:=I.un (Un.write mu he k heo) (I.hok.write mu he k heo new)
theorem Inv.pins_of(I:Inv X pins σ H s)(h:∀ p ∈ pins',s.heap.get? p.1=some p.2/\H p.1=none/\p.1≠X.env.locals/\p.1 ∉ X.fs/\∀ v,p.2.data≠.cell v):Inv X pins' σ H s:=
 ⟨I.ok,I.os,I.bare,I.base,I.loc,I.cell,I.free,I.freeC,fun p hp=>(Kd.mp hp).elim (fun z=>I.pin p (Jt _ z)) (h p),I.hok,I.len⟩
theorem zbj{N:List Str}(hN:N.Nodup){i j:Nat}{x:Str}(a:N[i]?=some x)(b:N[j]?=some x):i=j:=by
 obtain ⟨h1,e1⟩:=JB.mp a
 obtain ⟨h2,e2⟩:=JB.mp b
 exact (List.getElem_inj hN).mp (e1.trans e2.symm)
theorem zes{M:Model}{A:Around}{E:Value->Shared->Prop}{i:Nat}{x:Str}{v:V}{u:Value}{Q:Unit->Shared->Prop}(I:Inv X pins σ H s)(hN:X.N.Nodup)(hi:X.N[i]?=some x)(hx:Loc X.env.scope x)(r:RelV v u)
  (h:∀ s',Inv X pins (σ.set i (some v)) H s'->(∃ a,Heap.SameBut a s.heap s'.heap/\(a=X.env.locals∨X.env.cells.lookup x=some a))->Q () s')(hf:X.fn x=true∨X.env.scope.names.lookup x=some .local:=by first | exact .inl rfl | exact .inr rfl | assumption):wpAny M A (storeName X.env x u) Q E s:=by
 obtain ⟨m,hn,hl⟩:=id I.loc
 have hcls:(X.env.scope.kind == .class || (X.env.scope.kind == .module && X.env.locals != X.env.globals))=false:=by rw [I.ok.kind];rfl
 have hiσ:i<σ.length:=by rw [I.len];exact (JB.mp hi).1
 have cne:=I.cne
 have tracked:∀ {a:Addr} {h':Heap},(∃ o,s.heap.get? a=some o/\H a=none)->Heap.SameBut a s.heap h'->HOk X.prog X.w H h':=fun {a h'} ha hs b ob e=>by
  obtain ⟨_,_,hfree⟩:=ha
  refine (I.hok b ob e).stay (fun c w' hc q=>(hs.2 c ?_).trans q) (fun _ q=>q) fun _ _ q=>q
  rintro rfl
  rcases hc with rfl | hc
  ·rw [hfree] at e;cases e
  ·rw [hfree] at hc;cases hc
 rcases hx with hk | hk
 ·refine wpAny_storeName_local hk hn (fun h' hn' hs=>?_) hcls
  obtain ⟨oL,_,_,hoL,_⟩:=id hn
  refine h _ ⟨I.ok,I.os,I.bare,⟨fun b o e n hb hx=>?_,fun b o e n hb hx=>?_,I.base.free,fun b o e hx=>?_,I.base.tups,I.base.frzs,I.base.tbls⟩,⟨_,hn',fun j y v' e1 e2 e3=>?_⟩,fun y c e=>?_,I.free,I.freeC,fun p hp=>?_,tracked ⟨oL,hoL,I.free⟩ hs,by simpa using I.len⟩ ⟨_,hs,.inl rfl⟩
  ·exact (hs.2 b (Ju (JE (Jn e) I.ok.above))).trans (I.base.keep b o e n hb hx)
  ·obtain ⟨sl,e1⟩:=I.base.slot b o e n hb hx
   exact ⟨sl,(hs.2 b (Ju (JE (Jn e) I.ok.above))).trans e1⟩
  ·obtain ⟨o',e1⟩:=I.base.there b o e hx
   exact ⟨o',(hs.2 b (Ju (JE (Jn e) I.ok.above))).trans e1⟩
  ·by_cases hj:j=i
   ·subst hj
    rw [hi] at e1;cases e1
    rw [List.getElem?_set_self hiσ] at e2
    cases e2
    exact ⟨u,r,.inl ⟨hk,by simp⟩⟩
   ·rw [List.getElem?_set_ne (Qt hj)] at e2
    obtain ⟨u',r',q⟩:=hl j y v' e1 e2 e3
    refine ⟨u',r',?_⟩
    rcases q with ⟨k,e⟩ | ⟨k,c,e,z⟩
    ·refine .inl ⟨k,?_⟩
     have:y≠x:=fun e=>hj (zbj hN e1 (e ▸ hi))
     simp [this,e]
    ·exact .inr ⟨k,c,e,z.sameBut hs (cne y c e)⟩
  ·obtain ⟨w',z⟩:=I.cell y c e
   exact ⟨w',z.sameBut hs (cne y c e)⟩
  ·obtain ⟨e,n,ne,nf,d⟩:=I.pin p hp
   exact ⟨(hs.2 p.1 ne).trans e,n,ne,nf,d⟩
 ·have hfn:X.fn x=true:=by
   rcases hf with z | z
   ·exact z
   ·rw [z] at hk;cases hk
  obtain ⟨c,hc⟩:=I.ok.has x (.inl hk)
  obtain ⟨w',z⟩:=I.cell x c hc
  refine wpAny_storeName_cell I.ok.kind hk hc z (fun h' hc' hs=>?_)
  obtain ⟨oc,hoc,hocd⟩:=id z
  refine h { s with heap:=h' } ⟨I.ok,I.os,I.bare,⟨fun b o e n hb hx=>?_,fun b o e n hb hx=>?_,I.base.free,fun b o e hx=>?_,I.base.tups,I.base.frzs,I.base.tbls⟩,⟨m,hn.sameBut hs (Ne.symm (cne x c hc)),fun j y v' e1 e2 e3=>?_⟩,fun y c' e=>?_,I.free,I.freeC,fun p hp=>?_,tracked ⟨oc,hoc,I.freeC x c hc⟩ hs,by simpa using I.len⟩ ⟨c,hs,.inr hc⟩
  ·exact (hs.2 b (Ju (JE (Jn e) (I.ok.cab x c hfn hc)))).trans (I.base.keep b o e n hb hx)
  ·obtain ⟨sl,e1⟩:=I.base.slot b o e n hb hx
   exact ⟨sl,(hs.2 b (Ju (JE (Jn e) (I.ok.cab x c hfn hc)))).trans e1⟩
  ·obtain ⟨o',e1⟩:=I.base.there b o e hx
   exact ⟨o',(hs.2 b (Ju (JE (Jn e) (I.ok.cab x c hfn hc)))).trans e1⟩
  ·by_cases hj:j=i
   ·subst hj
    rw [hi] at e1;cases e1
    rw [List.getElem?_set_self hiσ] at e2
    cases e2
    exact ⟨u,r,.inr ⟨.inl hk,c,hc,hc'⟩⟩
   ·rw [List.getElem?_set_ne (Qt hj)] at e2
    obtain ⟨u',r',q⟩:=hl j y v' e1 e2 e3
    refine ⟨u',r',?_⟩
    rcases q with q | ⟨k,c',e,z'⟩
    ·exact .inl q
    ·refine .inr ⟨k,c',e,z'.sameBut hs ?_⟩
     rintro rfl
     exact hj (zbj hN e1 (I.ok.inj _ _ _ e hc ▸ hi))
  ·by_cases hcc:c'=c
   ·subst hcc;exact ⟨_,hc'⟩
   ·obtain ⟨w2,z2⟩:=I.cell y c' e
    exact ⟨w2,z2.sameBut hs hcc⟩
  ·obtain ⟨e,n,ne,nf,d⟩:=I.pin p hp
   refine ⟨(hs.2 p.1 ?_).trans e,n,ne,nf,d⟩
   intro q
   rw [q,hoc] at e
   have q':oc=p.2:=Js e
   exact d w' (by rw [← q'];exact hocd)
theorem zaK{Q:Unit->Shared->Prop}(I:Inv X pins σ H s)(hN:X.N.Nodup)(hi:X.N[i]?=some x)(hx:Loc X.env.scope x)(r:RelV v u)
  (h:∀ s',Inv X pins (σ.set i (some v)) H s'->Q () s')(hf:X.fn x=true∨X.env.scope.names.lookup x=some .local:=by first | exact .inl rfl | exact .inr rfl | assumption):wpAny M A (storeName X.env x u) Q E s:=
 zes I hN hi hx r (fun s' I' _=>h s' I') hf
theorem Inv.call'{s':Shared}(I:Inv X pins σ H s)(ho:s'.os=s.os)(u:Un (frs X.stack) ch H H' s.heap s'.heap)(hok:HOk X.prog X.w H' s'.heap)(hg:AllBare s'.gens)
  (hch:∀ b ∈ ch,(b ∈ X.ex∨X.s₀.heap.objs.size≤b)/\b≠X.env.locals/\(∀ x c,X.env.cells.lookup x=some c->c≠b)/\∀ p ∈ X.pn++pins,p.1≠b):Inv X pins σ H' s':=by
 obtain ⟨h',g',d',t',o'⟩:=s'
 have e:o'=s.os:=ho
 subst e
 exact I.call (g':=g') (t':=t') (d':=d') u hok hg hch
end
noncomputable abbrev XK:=Value->Option Addr->Hp->Prop
noncomputable abbrev St:=List (Option V)
noncomputable abbrev VK:=V->Hp->Prop
noncomputable abbrev TE:=St->Hp->VK->Prop
noncomputable abbrev TT:=St->Hp->(Bool->Hp->Prop)->Prop
noncomputable abbrev TA:=St->Hp->(List V->Hp->Prop)->Prop
structure Ends where
 nx:St->Hp->Prop
 rt:VK
 bk:St->Hp->Prop:=fun _ _=>False
 ct:St->Hp->Prop:=fun _ _=>False
noncomputable abbrev TS:=Ends->St->Hp->Prop
noncomputable def EP(X:Cx)(pins:List (Addr × Obj))(σ:St)(Q:VK)(u:Value)(s':Shared):Prop:=∃ v H',Inv X pins σ H' s'/\RelV v u/\Q v H'
noncomputable def TP(X:Cx)(pins:List (Addr × Obj))(σ:St)(Q:Bool->Hp->Prop)(b:Bool)(s':Shared):Prop:=∃ H',Inv X pins σ H' s'/\Q b H'
noncomputable def AP(X:Cx)(pins:List (Addr × Obj))(σ:St)(Q:List V->Hp->Prop)(us:List Value)(s':Shared):Prop:=∃ vs H',Inv X pins σ H' s'/\Vals vs us/\Q vs H'
noncomputable def SP(X:Cx)(pins:List (Addr × Obj))(D:Ends)(f:Flow)(s':Shared):Prop:=
 match f with
 | .next=>∃ σ' H',Inv X pins σ' H' s'/\D.nx σ' H'
 | .brk=>∃ σ' H',Inv X pins σ' H' s'/\D.bk σ' H'
 | .cont=>∃ σ' H',Inv X pins σ' H' s'/\D.ct σ' H'
 | .ret u=>∃ v σ' H',Inv X pins σ' H' s'/\RelV v u/\D.rt v H'
noncomputable def PE(X:Cx)(e:Expr)(t:TE):Prop:=
 ∀ (pins:List (Addr × Obj)) (s:Shared) (σ:St) (H:Hp) (Q:VK),Inv X pins σ H s->t σ H Q->wpAny (model X.prog X.w) X.A (eval e X.env) (EP X pins σ Q) X.xe s
noncomputable def PT(X:Cx)(e:Expr)(t:TT):Prop:=
 ∀ (pins:List (Addr × Obj)) (s:Shared) (σ:St) (H:Hp) (Q:Bool->Hp->Prop),Inv X pins σ H s->t σ H Q->wpAny (model X.prog X.w) X.A (isTrue e X.env (eval e X.env)) (TP X pins σ Q) X.xe s
noncomputable def PW(X:Cx)(e:Expr)(t:TT):Prop:=
 ∀ (whole:Sem Value) (pins:List (Addr × Obj)) (s:Shared) (σ:St) (H:Hp) (Q:Bool->Hp->Prop),Inv X pins σ H s->t σ H Q->wpAny (model X.prog X.w) X.A (isTrue e X.env whole) (TP X pins σ Q) X.xe s
theorem PW.pt(h:PW X e t):PT X e t:=h _
noncomputable def PA(X:Cx)(es:List Expr)(t:TA):Prop:=
 ∀ (pos:Pos) (pins:List (Addr × Obj)) (s:Shared) (σ:St) (H:Hp) (Q:List V->Hp->Prop),Inv X pins σ H s->t σ H Q->wpAny (model X.prog X.w) X.A (spliced (backTo pos (starEach es X.env))) (AP X pins σ Q) X.xe s
noncomputable def PS(X:Cx)(st:Stmt)(t:TS):Prop:=
 ∀ (pins:List (Addr × Obj)) (s:Shared) (σ:St) (H:Hp) (D:Ends),Inv X pins σ H s->t D σ H->wpAny (model X.prog X.w) X.A (exec st X.env) (SP X pins D) X.xe s
noncomputable def PSs(X:Cx)(st:List Stmt)(t:TS):Prop:=
 ∀ (pins:List (Addr × Obj)) (s:Shared) (σ:St) (H:Hp) (D:Ends),Inv X pins σ H s->t D σ H->wpAny (model X.prog X.w) X.A (execs st X.env) (SP X pins D) X.xe s
theorem thn{α:Type}{t:Sem α}{Q Q':α->Shared->Prop}{M:Model}{A:Around}{E:Value->Shared->Prop}{s:Shared}(h:wpAny M A t Q E s)(hQ:∀ a s,Q a s->Q' a s):wpAny M A t Q' E s:=wpAny_mono h hQ fun _ _ x=>x
section
variable {X:Cx}
noncomputable def jM(i:Nat):TE:=fun σ H Q=>∃ v,σ[i]?=some (some v)/\Q v H
noncomputable def tC(v:V):TE:=fun _ H Q=>Q v H
theorem zkS(hN:X.N[i]?=some x)(hv:Vis X.env.scope x)(hd:(x == ("__debug__":Str))=false:=by decide)(hcd:(x == ("__classdict__":Str))=false:=by decide):PE X (.Name x pos) (jM i):=by
 intro pins s σ H Q I h
 obtain ⟨v,e,h⟩:=h
 obtain ⟨m,hn,hl⟩:=I.loc
 obtain ⟨u,r,l⟩:=hl i x v hN e hv
 have fin:EP X pins σ Q u s:=⟨v,H,I,r,h⟩
 rcases l with ⟨hk,hm⟩ | ⟨hk,c,hc,hcell⟩
 ·exact wpAny_Name (wpAny_loadName_local I.ok.kind hk hn hm fin) hd
 ·rcases hk with hk | hk
  ·exact wpAny_Name (wpAny_loadName_cell I.ok.kind hk hc hcell fin) hd
  ·exact wpAny_Name (wpAny_loadName_free I.ok.kind hk hc hcell fin hcd) hd
theorem zkZ{i j pos}:PE X (.Constant (.int i) j pos) (tC (.int i)):=fun _ _ _ H _ I h=>wpAny_Constant_int ⟨.int i,H,I.tok _,⟨_,rfl⟩,h⟩
theorem zmU{b j pos}:PE X (.Constant (.bool b) j pos) (tC (.bl b)):=fun _ _ _ H _ I h=>Constant_bool ⟨.bl b,H,I,rfl,h⟩
theorem zkX{j pos}:PE X (.Constant .none j pos) (tC .non):=fun _ _ _ H _ I h=>Constant_none ⟨.non,H,I,rfl,h⟩
theorem zkU{x j pos}:PE X (.Constant (.str x) j pos) (tC (.str x)):=fun _ _ _ H _ I h=>Calls.Constant_str ⟨.str x,H,I.tok _,⟨_,rfl⟩,h⟩
noncomputable def Gl(X:Cx)(x:Str):Prop:=X.env.kindOf x=some .globalImplicit
theorem qq{Q:Value->Shared->Prop}(I:Inv X pins σ H s)(hg:Gl X x)(hm:X.mg x=some u)(h:Q u s)
  (hd:(x == ("__debug__":Str))=false:=by decide):wpAny (model X.prog X.w) X.A (eval (.Name x pos) X.env) Q E s:=
 Calls.Name_function_global I.ok.kind hg (Calls.loadGlobal_global (by rw [I.ok.glob];exact I.mod.glob.keeps I.bk) hm h) hd
theorem wj{Q:Value->Shared->Prop}(I:Inv X pins σ H s)(hg:Gl X x)(hm:X.mg x=none)(hv:bootBuiltins x=some u)(h:Q u s)
  (hn:x≠"__name__":=by decide)(hd:(x == ("__debug__":Str))=false:=by decide):wpAny (model X.prog X.w) X.A (eval (.Name x pos) X.env) Q E s:=by
 obtain ⟨mb,h1,h2⟩:=I.mod.blt
 exact Calls.Name_function_global I.ok.kind hg (Calls.loadGlobal_builtin (by rw [I.ok.glob];exact I.mod.glob.keeps I.bk) hm (by rw [I.ok.blt];exact h1.keeps I.bk) ((h2 x hn).trans hv) h) hd
theorem zdx(hg:Gl X x)(hm:X.mg x=some u)(r:RelV v u)(hd:(x == ("__debug__":Str))=false:=by decide):PE X (.Name x pos) (tC v):=
 fun _ _ _ H _ I h=>qq I hg hm ⟨v,H,I,r,h⟩ hd
theorem ziI(hg:Gl X x)(hm:X.mg x=none)(hv:bootBuiltins x=some u)(r:RelV v u)(hn:x≠"__name__":=by decide)(hd:(x == ("__debug__":Str))=false:=by decide):PE X (.Name x pos) (tC v):=
 fun _ _ _ H _ I h=>wj I hg hm hv ⟨v,H,I,r,h⟩ hn hd
variable {a b:Expr} {ta tb:TE} {pos:Pos}
variable {tA tB':TT} {zg:List Expr}
noncomputable def zoy(t u:TT):TT:=fun σ H Q=>t σ H fun c H1=>if c=true then u σ H1 Q else Q false H1
noncomputable def tOr(t u:TT):TT:=fun σ H Q=>t σ H fun c H1=>if c=true then Q true H1 else u σ H1 Q
noncomputable def zou(t:TT):TT:=fun σ H Q=>t σ H fun c H1=>Q (!c) H1
theorem ziu(ha:PT X a tA):PW X (.BoolOp .And [a] pos) tA:=by
 intro wh pins s σ H Q I h
 refine isTrue_and (thn (ha pins s σ H Q I h) fun c s1 e=>?_)
 cases c with
 | true=>exact isTrue_and_nil e
 | false=>exact e
theorem zkH(ha:PT X a tA):PW X (.BoolOp .Or [a] pos) tA:=by
 intro wh pins s σ H Q I h
 refine isTrue_or (thn (ha pins s σ H Q I h) fun c s1 e=>?_)
 cases c with
 | false=>exact isTrue_or_nil e
 | true=>exact e
theorem zkI(ha:PT X a tA)(hb:PW X (.BoolOp .And (b::zg) pos) tB'):PW X (.BoolOp .And (a::b::zg) pos) (zoy tA tB'):=by
 intro wh pins s σ H Q I h
 refine isTrue_and (thn (ha pins s σ H _ I h) fun c s1 hq_=>?_)
 obtain ⟨H1,I1,q1⟩:=hq_
 cases c with
 | true=>exact hb wh pins s1 σ H1 Q I1 q1
 | false=>exact ⟨H1,I1,q1⟩
theorem zmK(ha:PT X a tA)(hb:PW X (.BoolOp .Or (b::zg) pos) tB'):PW X (.BoolOp .Or (a::b::zg) pos) (tOr tA tB'):=by
 intro wh pins s σ H Q I h
 refine isTrue_or (thn (ha pins s σ H _ I h) fun c s1 hq_=>?_)
 obtain ⟨H1,I1,q1⟩:=hq_
 cases c with
 | true=>exact ⟨H1,I1,q1⟩
 | false=>exact hb wh pins s1 σ H1 Q I1 q1
theorem zkJ(ha:PT X a tA):PT X (.UnaryOp .Not a pos) (zou tA):=by
 intro pins s σ H Q I h
 exact isTrue_not (ha pins s σ H (fun c H1=>Q (!c) H1) I h)
noncomputable def zmy(ta tb:TE):TE:=fun σ H Q=>ta σ H fun x H1=>∃ c,x=.bl c/\if c=true then tb σ H1 Q else Q (.bl false) H1
noncomputable def zos(ta tb:TE):TE:=fun σ H Q=>ta σ H fun x H1=>∃ c,x=.bl c/\if c=true then Q (.bl true) H1 else tb σ H1 Q
noncomputable def zmu(ta:TE):TE:=fun σ H Q=>ta σ H fun x H1=>∃ c,x=.bl c/\Q (.bl (!c)) H1
theorem zkV{op}(h:PE X a t):PE X (.BoolOp op [a] pos) t:=fun pins s σ H Q I hw=>BoolOp_one (h pins s σ H Q I hw)
theorem zld(ha:PE X a ta)(hb:PE X (.BoolOp .And (b::zg) pos) tb):PE X (.BoolOp .And (a::b::zg) pos) (zmy ta tb):=by
 intro pins s σ H Q I h
 refine BoolOp_and (thn (ha pins s σ H _ I h) fun v s1 hq_=>?_)
 obtain ⟨x,H1,I1,r1,q1⟩:=hq_
 obtain ⟨c,rfl,q1⟩:=q1
 cases r1
 refine wpAny_truthy_bool ?_
 cases c with
 | true=>exact hb pins s1 σ H1 Q I1 q1
 | false=>exact ⟨.bl false,H1,I1,rfl,q1⟩
theorem zmP(ha:PE X a ta)(hb:PE X (.BoolOp .Or (b::zg) pos) tb):PE X (.BoolOp .Or (a::b::zg) pos) (zos ta tb):=by
 intro pins s σ H Q I h
 refine BoolOp_or (thn (ha pins s σ H _ I h) fun v s1 hq_=>?_)
 obtain ⟨x,H1,I1,r1,q1⟩:=hq_
 obtain ⟨c,rfl,q1⟩:=q1
 cases r1
 refine wpAny_truthy_bool ?_
 cases c with
 | false=>exact hb pins s1 σ H1 Q I1 q1
 | true=>exact ⟨.bl true,H1,I1,rfl,q1⟩
theorem zkW(ha:PE X a ta):PE X (.UnaryOp .Not a pos) (zmu ta):=by
 intro pins s σ H Q I h
 refine UnaryOp_ (thn (ha pins s σ H _ I h) fun v s1 hq_=>?_)
 obtain ⟨x,H1,I1,r1,q1⟩:=hq_
 obtain ⟨c,rfl,q1⟩:=q1
 cases r1
 exact not_of (wpAny_truthy_bool ⟨.bl (!c),H1,I1,rfl,q1⟩)
end
noncomputable def SqL(K:PySem.W.Frag)(H:Hp)(a:Addr)(xs:List V):Prop:=
 Rd H a (.lst xs)∨
  ∃ (o:Obj) (its:Array Value) (n:Nat),K.lookup a=some o/\o.cls=.type "list"/\o.dict=none/\o.data=.seq its n/\its.size≤sizeLine/\Vals xs its.toList
noncomputable def SqT(K:PySem.W.Frag)(H:Hp)(a:Addr)(xs:List V):Prop:=
 Rd H a (.tup xs)∨
  ∃ (o:Obj) (its:Array Value) (n:Nat),K.lookup a=some o/\o.cls=.type "tuple"/\o.data=.seq its n/\its.size≤sizeLine/\Vals xs its.toList
noncomputable def zoY:Value->Option V
 | .none=>some .non
 | .bool b=>some (.bl b)
 | .int i _=>some (.int i)
 | .str x _=>some (.str x)
 | .bytes b _=>some (.byt b)
 | .float b _=>some (.flt b)
 | .ref a=>some (.ref a)
 | .type n=>some (.ty n)
 | _=>none
theorem RelV.abs(r:RelV x u):zoY u=some x:=by
 cases x with
 | non=>cases r;rfl
 | bl _=>cases r;rfl
 | int _=>obtain ⟨t,rfl⟩:=r;rfl
 | str _=>obtain ⟨t,rfl⟩:=r;rfl
 | byt _=>obtain ⟨t,rfl⟩:=r;rfl
 | flt _=>obtain ⟨t,rfl⟩:=r;rfl
 | ref _=>cases r;rfl
 | ty _=>cases r;rfl
theorem RelV.inj(r:RelV x u)(q:RelV y u):x=y:=Js (r.abs.symm.trans q.abs)
theorem Vals.inj{xs ys:List V}{us:List Value}(h:Vals xs us):Vals ys us->xs=ys:=by
 induction h generalizing ys with
 | nil=>intro h;cases h;rfl
 | cons r t ih=>intro h;cases h with | cons r' t'=>rw [r.inj r',ih t']
section
variable {X:Cx} {pins:List (Addr × Obj)} {σ:St} {H:Hp} {s:Shared} {a:Addr} {xs ys:List V}
theorem SqL.of{K:PySem.W.Frag}(h:H a=some (.lst xs)):SqL K H a xs:=.inl (.inl h)
theorem SqT.of{K:PySem.W.Frag}(h:H a=some (.tup xs)):SqT K H a xs:=.inl (.inl h)
theorem Inv.list(I:Inv X pins σ H s)(h:SqL X.K H a xs):∃ its:List Value,Vals xs its/\PlainL s.heap a its.toArray/\xs.length≤sizeLine:=by
 rcases h with h | ⟨o,its,n,hk,hc,hd,hs,hz,r⟩
 ·obtain ⟨z,its,n,r,e⟩:=h.ok I.hok
  exact ⟨its,r,⟨_,n,e,rfl,rfl,rfl⟩,z⟩
 ·refine ⟨its.toList,r,⟨o,n,I.kIn a o hk,hc,hd,by simpa using hs⟩,?_⟩
  have e:=r.length
  simp only [Array.length_toList] at e
  omega
theorem Inv.tuple(I:Inv X pins σ H s)(h:SqT X.K H a xs):∃ its:List Value,Vals xs its/\IsTup s.heap a its.toArray/\xs.length≤sizeLine:=by
 rcases h with h | ⟨o,its,n,hk,hc,hs,hz,r⟩
 ·obtain ⟨z,its,r,p⟩:=h.ok I.hok
  exact ⟨its,r,p,z⟩
 ·refine ⟨its.toList,r,⟨o,I.kIn a o hk,hc,n,by simpa using hs⟩,?_⟩
  have e:=r.length
  simp only [Array.length_toList] at e
  omega
theorem Inv.list_inj(I:Inv X pins σ H s)(h:SqL X.K H a xs)(h':SqL X.K H a ys):xs=ys:=by
 obtain ⟨its,r,⟨o,n,e,_,_,d⟩,_⟩:=I.list h
 obtain ⟨its',r',⟨o',n',e',_,_,d'⟩,_⟩:=I.list h'
 rw [e] at e';cases e'
 rw [d] at d'
 injection d' with d1 _
 have:its=its':=by simpa using congrArg Array.toList d1
 subst this
 exact r.inj r'
theorem Inv.tuple_inj(I:Inv X pins σ H s)(h:SqT X.K H a xs)(h':SqT X.K H a ys):xs=ys:=by
 obtain ⟨its,r,⟨o,e,_,n,d⟩,_⟩:=I.tuple h
 obtain ⟨its',r',⟨o',e',_,n',d'⟩,_⟩:=I.tuple h'
 rw [e] at e';cases e'
 rw [d] at d'
 injection d' with d1 _
 have:its=its':=by simpa using congrArg Array.toList d1
 subst this
 exact r.inj r'
end
noncomputable abbrev Cx.wish(X:Cx)(E:Value->Shared->Prop):Cx:={ X with xe:=E }
noncomputable abbrev Cx.nox(X:Cx):Cx:=X.wish fun _ _=>False
theorem Cx.Ok.wish{X:Cx}(ok:X.Ok)(E:Value->Shared->Prop):(X.wish E).Ok:=
 ⟨ok.mod,ok.kind,ok.glob,ok.blt,ok.above,ok.inj,ok.has,ok.cab,ok.hd,ok.frames,ok.stk,ok.exf,ok.bs,ok.bsz,ok.noex,ok.exfs,ok.funs,ok.frf⟩
theorem Cx.Ok.unwish{X:Cx}(ok:(X.wish E).Ok):X.Ok:=
 ⟨ok.mod,ok.kind,ok.glob,ok.blt,ok.above,ok.inj,ok.has,ok.cab,ok.hd,ok.frames,ok.stk,ok.exf,ok.bs,ok.bsz,ok.noex,ok.exfs,ok.funs,ok.frf⟩
section
variable {X:Cx} {pins:List (Addr × Obj)} {σ:St} {H:Hp} {s:Shared} {E:Value->Shared->Prop}
theorem Inv.wish(I:Inv X pins σ H s)(E:Value->Shared->Prop):Inv (X.wish E) pins σ H s:=⟨I.ok.wish E,I.os,I.bare,I.base,I.loc,I.cell,I.free,I.freeC,I.pin,I.hok,I.len⟩
theorem Inv.unwish(I:Inv (X.wish E) pins σ H s):Inv X pins σ H s:=⟨I.ok.unwish,I.os,I.bare,I.base,I.loc,I.cell,I.free,I.freeC,I.pin,I.hok,I.len⟩
theorem SP.unwish(h:SP (X.wish E) pins D f s'):SP X pins D f s':=by
 cases f with
 | next=>obtain ⟨σ',H',I,q⟩:=h;exact ⟨σ',H',I.unwish,q⟩
 | brk=>obtain ⟨σ',H',I,q⟩:=h;exact ⟨σ',H',I.unwish,q⟩
 | cont=>obtain ⟨σ',H',I,q⟩:=h;exact ⟨σ',H',I.unwish,q⟩
 | ret u=>obtain ⟨v,σ',H',I,r,q⟩:=h;exact ⟨v,σ',H',I.unwish,r,q⟩
theorem PE.nox(h:PE X.nox e t):PE X e t:=fun pins s σ H Q I hw=>
 wpAny_mono (h pins s σ H Q (I.wish _) hw) (fun _ _ ⟨v,H',I',r,q⟩=>⟨v,H',I'.unwish,r,q⟩) fun _ _ z=>False.elim z
theorem PT.nox(h:PT X.nox e t):PT X e t:=fun pins s σ H Q I hw=>
 wpAny_mono (h pins s σ H Q (I.wish _) hw) (fun _ _ ⟨H',I',q⟩=>⟨H',I'.unwish,q⟩) fun _ _ z=>False.elim z
theorem PSs.nox{st:List Stmt}{t:TS}(h:PSs X.nox st t):PSs X st t:=fun pins s σ H D I hw=>
 wpAny_mono (h pins s σ H D (I.wish _) hw) (fun _ _ q=>q.unwish) fun _ _ z=>False.elim z
end
section
variable {X:Cx} {st:Stmt} {zg:List Stmt} {t u:TS} {e:Expr} {te:TE} {pos:Pos}
noncomputable def zfL:TS:=fun D σ H=>D.nx σ H
noncomputable def zoq(t u:TS):TS:=fun D σ H=>t { D with nx:=u D } σ H
theorem pss_nil:PSs X [] zfL:=fun _ _ σ H _ I h=>wpAny_execs_nil ⟨σ,H,I,h⟩
theorem zaY(h1:PS X st t)(h2:PSs X zg u):PSs X (st::zg) (zoq t u):=by
 intro pins s σ H D I h
 refine wpAny_execs_cons (thn (h1 pins s σ H { D with nx:=u D } I h) fun f s1 q=>?_)
 cases f with
 | next=>
  obtain ⟨σ',H',I',q⟩:=q
  exact h2 pins s1 σ' H' D I' q
 | ret v=>exact q
 | brk=>exact q
 | cont=>exact q
noncomputable def zkz:TS:=fun D σ H=>D.bk σ H
noncomputable def zmw:TS:=fun D σ H=>D.ct σ H
theorem ps_pass:PS X (.Pass pos) zfL:=fun _ _ σ H _ I h=>wpAny_Pass ⟨σ,H,I,h⟩
theorem ps_break:PS X (.Break pos) zkz:=fun _ _ σ H _ I h=>wpAny_Break ⟨σ,H,I,h⟩
theorem ps_continue:PS X (.Continue pos) zmw:=fun _ _ σ H _ I h=>wpAny_Continue ⟨σ,H,I,h⟩
theorem Inv.quiet(I:Inv X pins σ H s):interactive X.env=false:=by simp [interactive,I.ok.kind]
theorem ps_doc{x j pos pos'}:PS X (.Expr (.Constant (.str x) j pos) pos') zfL:=fun _ s σ H _ I h=>wpAny_Expr (Calls.Constant_str (show SP X _ _ .next { s with toks:=s.toks+1 } from ⟨σ,H,I.tok _,h⟩)) I.quiet
noncomputable def zfM(te:TE):TS:=fun D σ H=>te σ H fun _ H1=>D.nx σ H1
theorem zdu(he:PE X e te)(hs:swapsWith e none pos.line X.env=pure false:=by rfl):PS X (.Expr e pos) (zfM te):=by
 intro pins s σ H D I h
 exact wpAny_Expr_any (thn (he pins s σ H _ I h) fun v s1 ⟨x,H1,I1,r1,q1⟩=>⟨σ,H1,I1,q1⟩) I.quiet hs
noncomputable def zor(te:TE):TS:=fun D σ H=>te σ H D.rt
theorem zkM(he:PE X e te):PS X (.Return (some e) pos) (zor te):=by
 intro pins s σ H D I h
 exact wpAny_Return_some (thn (he pins s σ H _ I h) fun v s1 ⟨x,H1,I1,r1,q1⟩=>⟨x,σ,H1,I1,r1,q1⟩)
noncomputable def zms:TS:=fun D _ H=>D.rt .non H
theorem ps_retN:PS X (.Return none pos) zms:=fun _ _ σ H _ I h=>wpAny_Return_none ⟨.non,σ,H,I,rfl,h⟩
noncomputable def zow(c:TT)(t u:TS):TS:=fun D σ H=>c σ H fun b H1=>if b=true then t D σ H1 else u D σ H1
theorem zmM{c:Expr}{a b:List Stmt}{tc:TT}(hc:PT X c tc)(ha:PSs X a t)(hb:PSs X b u):PS X (.If c a b pos) (zow tc t u):=by
 intro pins s σ H D I h
 refine wpAny_If (thn (hc pins s σ H _ I h) fun d s1 hq_=>?_)
 obtain ⟨H1,I1,q1⟩:=hq_
 cases d with
 | true=>exact ha pins s1 σ H1 D I1 q1
 | false=>exact hb pins s1 σ H1 D I1 q1
noncomputable def zky:TS:=fun _ _ _=>False
theorem ps_never:PS X st zky:=fun _ _ _ _ _ _ h=>h.elim
end
noncomputable abbrev TG:=V->St->Hp->(St->Hp->Prop)->Prop
noncomputable abbrev TGs:=List V->St->Hp->(St->Hp->Prop)->Prop
noncomputable def PG(X:Cx)(target:Expr)(t:TG):Prop:=
 ∀ (pins:List (Addr × Obj)) (s:Shared) (σ:St) (H:Hp) (v:V) (u:Value) (Q:St->Hp->Prop),Inv X pins σ H s->RelV v u->t v σ H Q->
  wpAny (model X.prog X.w) X.A (assign target X.env u) (fun _ s'=>∃ σ' H',Inv X pins σ' H' s'/\Q σ' H') X.xe s
noncomputable def PGs(X:Cx)(ts:List Expr)(t:TGs):Prop:=
 ∀ (pins:List (Addr × Obj)) (s:Shared) (σ:St) (H:Hp) (vs:List V) (us:List Value) (Q:St->Hp->Prop),Inv X pins σ H s->Vals vs us->t vs σ H Q->
  wpAny (model X.prog X.w) X.A (assignInOrder ((assignEach ts X.env).map (·.2)) us) (fun _ s'=>∃ σ' H',Inv X pins σ' H' s'/\Q σ' H') X.xe s
noncomputable abbrev zlU:=V->V->V->Hp->(Hp->Prop)->Prop
noncomputable def znU(X:Cx)(t:zlU):Prop:=
 ∀ (pins:List (Addr × Obj)) (s:Shared) (σ:St) (H:Hp) (o i v:V) (ov iv u:Value) (Q:Hp->Prop),Inv X pins σ H s->RelV o ov->RelV i iv->RelV v u->t o i v H Q->
  wpAny (model X.prog X.w) X.A (setItem ov iv u) (fun _ s'=>∃ H',Inv X pins σ H' s'/\Q H') X.xe s
section
variable {X:Cx} {pos:Pos}
noncomputable def wt(i:Nat):TG:=fun v σ H Q=>Q (σ.set i (some v)) H
theorem zdw(hN:X.N.Nodup)(hi:X.N[i]?=some x)(hx:Loc X.env.scope x)(hf:X.fn x=true∨X.env.scope.names.lookup x=some .local:=by first | exact .inl rfl | exact .inr rfl | assumption):PG X (.Name x pos) (wt i):=by
 intro pins s σ H v u Q I r h
 exact wpAny_assign_Name (zaK I hN hi hx r (fun s' I'=>⟨_,H,I',h⟩) hf)
noncomputable def zoJ:TGs:=fun vs σ H Q=>vs=[]/\Q σ H
noncomputable def znB(t:TG)(u:TGs):TGs:=fun vs σ H Q=>∃ v r,vs=v::r/\t v σ H fun σ' H'=>u r σ' H' Q
theorem pgs_nil:PGs X [] zoJ:=by
 intro pins s σ H vs us Q I r h
 obtain ⟨e,h⟩:=h
 subst e
 cases r
 exact assignInOrder_nil ⟨σ,H,I,h⟩
theorem zgq{e:Expr}{es:List Expr}{t:TG}{u:TGs}(h1:PG X e t)(h2:PGs X es u)
  (hs:(assignEach (e::es) X.env).map (·.2)=assign e X.env::(assignEach es X.env).map (·.2):=by rfl):PGs X (e::es) (znB t u):=by
 intro pins s σ H vs us Q I r h
 obtain ⟨v,vr,e1,h⟩:=h
 subst e1
 cases r with
 | cons r rr=>
  rw [hs]
  refine assignInOrder_cons (thn (h1 pins s σ H _ _ _ I r h) fun _ s1 hq_=>?_)
  obtain ⟨σ1,H1,I1,q1⟩:=hq_
  exact h2 pins s1 σ1 H1 _ _ Q I1 rr q1
noncomputable def zoI(K:PySem.W.Frag)(n:Nat)(t:TGs):TG:=fun v σ H Q=>∃ a xs,v=.ref a/\SqT K H a xs/\xs.length=n/\t xs σ H Q
theorem zkP(hc:X.calm=true)(h:PGs X es t)
  (hn:(assignEach es X.env).length=n:=by rfl)(hst:(assignEach es X.env).findIdx? (·.1)=none:=by rfl):PG X (.Tuple es k pos) (zoI X.K n t):=by
 intro pins s σ H v u Q I r hw
 obtain ⟨a,xs,e1,hq,hl,hw⟩:=hw
 subst e1
 cases r
 obtain ⟨its,rv,ht,hz⟩:=I.tuple hq
 refine assign_Tuple_tuple (I.ok.hd hc) ht (by simp [hn,← hl,rv.length]) hst fun h' hx=>?_
 have I1:Inv X pins σ H { s with heap:=h' }:=I.kept (t':=s.toks) fun b o e=>hx b o (Nat.ne_of_lt (Heap.lt_size e)) e
 exact h pins _ σ H xs _ Q I1 (by simpa using rv) hw
noncomputable def znA(to ti:TE)(t:zlU):TG:=fun v σ H Q=>to σ H fun o H1=>ti σ H1 fun i H2=>t o i v H2 fun H3=>Q σ H3
theorem zkQ{o i:Expr}{to ti:TE}{t:zlU}(ho:PE X o to)(hi:PE X i ti)(hs:znU X t)
  (ha:∀ v,assign (.Subscript o i pos) X.env v=(do
   let ov ← holding [v] (eval o X.env)
   let iv ← holding [v,ov] (eval i X.env)
   standAt pos
   holding [v,ov,iv] (setItem ov iv v)
   release [v,ov,iv] []):=by intro _;rfl):PG X (.Subscript o i pos) (znA to ti t):=by
 intro pins s σ H v u Q I r h
 rw [ha]
 refine wpAny_bind (wpAny_holding (thn (ho pins s σ H _ I h) fun ov s1 hq_=>?_))
 obtain ⟨x,H1,I1,r1,q1⟩:=hq_
 refine wpAny_bind (wpAny_holding (thn (hi pins s1 σ H1 _ I1 q1) fun iv s2 hq_=>?_))
 obtain ⟨y,H2,I2,r2,q2⟩:=hq_
 refine wpAny_bind (wpAny_standAt (wpAny_bind (wpAny_holding (thn (hs pins s2 σ H2 x y v ov iv u _ I2 r1 r2 r q2) fun _ s3 hq_=>?_))))
 obtain ⟨H3,I3,q3⟩:=hq_
 exact wpAny_release ⟨σ,H3,I3,q3⟩
noncomputable def uA(te:TE)(g:TG):TS:=fun D σ H=>te σ H fun x H1=>g x σ H1 D.nx
theorem zgo{tg e:Expr}{te:TE}{g:TG}(he:PE X e te)(hg:PG X tg g)(hs:swapsWithSole [tg] e pos.line X.env=pure false:=by rfl)(hw:swappedStores [tg] e X.env=pure none:=by rfl)
  (h1:(assignEach [tg] X.env).map (·.2)=[assign tg X.env]:=by rfl):PS X (.Assign [tg] e pos) (uA te g):=by
 intro pins s σ H D I h
 refine wpAny_Assign_stores (thn (he pins s σ H _ I h) fun v s1 ⟨x,H1,I1,r1,q1⟩=>?_) hs hw
 rw [h1]
 exact thn (hg pins s1 σ H1 x v _ I1 r1 q1) fun _ s2 q=>q
theorem zkL{i:Nat}{x:Str}{e:Expr}{te:TE}{pos':Pos}(hN:X.N.Nodup)(hi:X.N[i]?=some x)(hx:Loc X.env.scope x)(he:PE X e te)(hs:swapsWith e (some (.Name x pos')) pos.line X.env=pure false:=by rfl)(hf:X.fn x=true∨X.env.scope.names.lookup x=some .local:=by first | exact .inl rfl | exact .inr rfl | assumption):
  PS X (.Assign [.Name x pos'] e pos) (uA te (wt i)):=by
 intro pins s σ H D I h
 refine wpAny_Assign_Name (thn (he pins s σ H _ I h) fun v s1 ⟨y,H1,I1,r1,q1⟩=>?_) hs
 exact zaK I1 hN hi hx r1 (fun s2 I2=>⟨_,H1,I2,q1⟩) hf
noncomputable def zkx(c:TT)(tb:TS):TS:=fun D σ H=>∃ W:Nat->St->Hp->Prop,(∃ m,W m σ H)/\∀ m σ H,W m σ H->
 c σ H fun b H1=>if b=true then ∃ N:St->Hp->Prop,(∀ σ' H',N σ' H'->∃ m',m'<m/\W m' σ' H')/\tb { D with nx:=N,ct:=N,bk:=D.nx } σ H1 else D.nx σ H1
theorem zgm{c:Expr}{body:List Stmt}{tc:TT}{tb:TS}(hp:PassesOwn (model X.prog X.w) X.A X.env X.xe)(hc:PT X c tc)(hb:PSs X body tb):PS X (.While c body [] pos) (zkx tc tb):=by
 intro pins s σ H D I h
 obtain ⟨W,⟨m0,w0⟩,turn⟩:=h
 refine wpAny_While (codeAny_whileLoop (fun n s'=>∃ σ' H',Inv X pins σ' H' s'/\W n σ' H') ?_ m0 ⟨σ,H,I,w0⟩)
 rintro n s1 ⟨σ1,H1,I1,w1⟩
 refine wpAny_passesOwn hp (thn (hc pins s1 σ1 H1 _ I1 (turn n σ1 H1 w1)) fun b s2 hq_=>?_)
 obtain ⟨H2,I2,q2⟩:=hq_
 cases b with
 | true=>
  obtain ⟨N,hN,q2⟩:=q2
  rw [if_pos rfl]
  refine wpAny_passesOwn hp (thn (hb pins s2 σ1 H2 _ I2 q2) fun f s3 q3=>?_)
  cases f with
  | next=>
   obtain ⟨σ3,H3,I3,n3⟩:=q3
   obtain ⟨m',hm,w3⟩:=hN σ3 H3 n3
   exact ⟨m',hm,σ3,H3,I3,w3⟩
  | cont=>
   obtain ⟨σ3,H3,I3,n3⟩:=q3
   obtain ⟨m',hm,w3⟩:=hN σ3 H3 n3
   exact ⟨m',hm,σ3,H3,I3,w3⟩
  | brk=>exact q3
  | ret v=>exact q3
 | false=>
  rw [if_neg Jk]
  exact wpAny_execs_nil ⟨σ1,H2,I2,q2⟩
end
structure It where
 go:Nat->Hp->Prop
 yld:Nat->Hp->V->Hp->Prop
 stop:Nat->Hp->Prop
noncomputable def u0(X:Cx)(pins:List (Addr × Obj))(H:Hp)(b:Addr):Prop:=
 H b=none/\b≠X.env.locals/\b ∉ X.fs/\(b ∈ X.ex∨X.s₀.heap.objs.size≤b)/\(∀ x c,X.env.cells.lookup x=some c->c≠b)/\∀ p ∈ X.pn++pins,p.1≠b
theorem Inv.fpOk{H H':Hp}{s:Shared}(I:Inv X pins σ H s)(hb:s.heap.objs.size≤b)(hn:H' b=none):u0 X pins H' b:=by
 refine ⟨hn,Qd (JE I.lt hb),I.nofs hb,.inr (JO I.sz hb),fun x c e z=>?_,fun p hp z=>?_⟩
 ·obtain ⟨v,q⟩:=I.cell x c e
  exact absurd (JE q.lt (by rw [z];exact hb)) (KI _)
 ·exact absurd (JE (Jn (I.pin p hp).1) (by rw [z];exact hb)) (KI _)
structure Turn (P:Program) (w:World) (K:PySem.W.Frag) (tg:Expr) (J:It) (fp:List Addr) (it:Addr) (tn:Nat->Heap->Prop):Prop where
 mem:it ∈ fp
 obj:∀ i h,tn i h->∀ b ∈ fp,∃ o,h.get? b=some o/\∀ v,o.data≠.cell v
 keep:∀ i h h',tn i h->(∀ b ∈ fp,∀ o,h.get? b=some o->h'.get? b=some o)->tn i h'
 item:∀ (X:Cx),X.prog=P->X.w=w->X.K=K->X.calm=true->∀ (i:Nat) (pins:List (Addr × Obj)) (s:Shared) (σ:St) (H:Hp) (E:Value->Shared->Prop),Inv X pins σ H s->(∀ b ∈ fp,u0 X pins H b)->tn i s.heap->J.go i H->
  wpAny (model P w) X.A (pyNext (.ref it)) (fun r s1=>∃ u,r=some u/\
   wpAny (model P w) X.A (letOwnedTupleGo tg (.ref it) u) (fun _ s2=>∃ x H',Inv X pins σ H' s2/\RelV x u/\J.yld i H x H'/\tn (i+1) s2.heap/\∀ b ∈ fp,H' b=none) E s1) E s
 done:∀ (X:Cx),X.prog=P->X.w=w->X.K=K->X.calm=true->∀ (i:Nat) (pins:List (Addr × Obj)) (s:Shared) (σ:St) (H:Hp) (E:Value->Shared->Prop),Inv X pins σ H s->(∀ b ∈ fp,u0 X pins H b)->tn i s.heap->J.stop i H->
  wpAny (model P w) X.A (pyNext (.ref it)) (fun r s1=>r=none/\Inv X pins σ H s1) E s
 self:∀ (A:Around) (i:Nat) (s:Shared) (Q:Value->Shared->Prop) (E:Value->Shared->Prop),tn i s.heap->Q (.ref it) s->wpAny (model P w) A (pyIter (.ref it)) Q E s
noncomputable abbrev TI:=St->Hp->(It->Hp->Prop)->Prop
noncomputable def PIE(X:Cx)(pins:List (Addr × Obj))(σ:St)(tg:Expr)(R:It->Hp->Prop)(itv:Value)(s2:Shared):Prop:=
 ∃ (it:Addr) (fp:List Addr) (tn:Nat->Heap->Prop) (J:It) (H':Hp),itv=.ref it/\Inv X pins σ H' s2/\Turn X.prog X.w X.K tg J fp it tn/\tn 0 s2.heap/\(∀ b ∈ fp,u0 X pins H' b)/\R J H'
noncomputable def PI(X:Cx)(tg iter:Expr)(wi:TI):Prop:=
 ∀ (pins:List (Addr × Obj)) (s:Shared) (σ:St) (H:Hp) (R:It->Hp->Prop),Inv X pins σ H s->wi σ H R->
  wpAny (model X.prog X.w) X.A (eval iter X.env) (fun v s1=>wpAny (model X.prog X.w) X.A (pyIter v) (PIE X pins σ tg R) X.xe s1) X.xe s
theorem zhb{s:Shared}{o:Obj}{Q:Unit->Shared->Prop}(ho:s.heap.get? it=some o)(hc:o.cls=.type n)(hd:o.data=.fields vs)(hn:["enumerate","zip","dict_itemiterator","dict_reverseitemiterator","odict_iterator","itertools.zip_longest","itertools.pairwise"].contains n=false)(hQ:Q () s):wpAny M A (letOwnedTupleGo tg (.ref it) u) Q E s:=by
 unfold letOwnedTupleGo
 cases tg<;>first
  | exact wpAny_pure hQ
  | (cases u<;>first
   | exact wpAny_pure hQ
   | (
    refine wpAny_bind (wpAny_load ho ?_)
    rw [hc,hd]
    show wpAny M A (if (["enumerate","zip","dict_itemiterator","dict_reverseitemiterator","odict_iterator","itertools.zip_longest","itertools.pairwise"].contains n && vs[0]? == some (rawInt _))=true then _ else _) Q E s
    rw [if_neg (by intro h;rw [hn,Bool.false_and] at h;cases h)]
    exact wpAny_pure hQ))
noncomputable def Itl(K:PySem.W.Frag)(a:Addr):It:=
 ⟨fun i H=>∃ xs x,SqL K H a xs/\xs[i]?=some x,fun i H x H'=>H'=H/\∀ xs,SqL K H a xs->xs[i]?=some x,fun i H=>∃ xs,SqL K H a xs/\xs.length≤i⟩
noncomputable def Itt(K:PySem.W.Frag)(a:Addr):It:=
 ⟨fun i H=>∃ xs x,SqT K H a xs/\xs[i]?=some x,fun i H x H'=>H'=H/\∀ xs,SqT K H a xs->xs[i]?=some x,fun i H=>∃ xs,SqT K H a xs/\xs.length≤i⟩
noncomputable def Itr(lo:Int)(n:Nat):It:=⟨fun i _=>i<n,fun i H x H'=>H'=H/\x=.int (lo+i),fun i _=>n≤i⟩
theorem zep{P:Program}{w:World}{K:PySem.W.Frag}{tg:Expr}(a it:Addr):Turn P w K tg (Itl K a) [it] it (fun i h=>h.IsListIter it a i) where
 mem:=by simp
 obj:=fun i h st b hb=>by
  have e:b=it:=by simpa using hb
  subst e
  obtain ⟨o,e,c,d⟩:=st
  exact ⟨o,e,fun v z=>by rw [d] at z;cases z⟩
 keep:=fun i h h' st k=>st.at fun o e=>k it (by simp) o e
 item:=by
  intro X hP hw hK hc i pins s σ H E I hf st hg
  subst hP hw hK
  obtain ⟨xs,x,hq,hx⟩:=hg
  obtain ⟨its,rv,p,hz⟩:=I.list hq
  obtain ⟨u,hu,ru⟩:=rv.get hx
  obtain ⟨f0,f1,f2,f3,f4,f5⟩:=hf it (by simp)
  refine wpAny_pyNext_list_item st p.isList (x:=u) (by simpa using hu) fun h' st' sb=>?_
  have I1:Inv X pins σ H { s with heap:=h' }:=I.turned (t':=s.toks) (fun b o hb e=>(sb.2 b hb).trans e) f0 f1 f3 f4 f5
  obtain ⟨o,e,c,d⟩:=id st'
  exact ⟨u,rfl,zhb (s:={ s with heap:=h' }) e c d (by decide) ⟨x,H,I1,ru,⟨rfl,fun ys hy=>by rw [I.list_inj hy hq];exact hx⟩,st',fun b hb=>(hf b hb).1⟩⟩
 done:=by
  intro X hP hw hK hc i pins s σ H E I hf st hg
  subst hP hw hK
  obtain ⟨xs,hq,hx⟩:=hg
  obtain ⟨its,rv,p,hz⟩:=I.list hq
  obtain ⟨f0,f1,f2,f3,f4,f5⟩:=hf it (by simp)
  have hl:=rv.length
  exact wpAny_pyNext_list_end (I.ok.hd hc) st p.isList (by simp;omega) fun h' eb=>⟨rfl,I.turned (t':=s.toks) (fun b o hb e=>eb b o hb e) f0 f1 f3 f4 f5⟩
 self:=fun _ _ _ _ _ st h=>wpAny_pyIter_listiter st h
theorem zcc{P:Program}{w:World}{K:PySem.W.Frag}{tg:Expr}(a it:Addr):Turn P w K tg (Itt K a) [it] it (fun i h=>h.IsTupleIter it a i) where
 mem:=by simp
 obj:=fun i h st b hb=>by
  have e:b=it:=by simpa using hb
  subst e
  obtain ⟨o,e,c,d⟩:=st
  exact ⟨o,e,fun v z=>by rw [d] at z;cases z⟩
 keep:=fun i h h' st k=>st.at fun o e=>k it (by simp) o e
 item:=by
  intro X hP hw hK hc i pins s σ H E I hf st hg
  subst hP hw hK
  obtain ⟨xs,x,hq,hx⟩:=hg
  obtain ⟨its,rv,p,hz⟩:=I.tuple hq
  obtain ⟨u,hu,ru⟩:=rv.get hx
  obtain ⟨f0,f1,f2,f3,f4,f5⟩:=hf it (by simp)
  refine wpAny_pyNext_tuple_item st (show s.heap.IsTuple a its.toArray from p) (x:=u) (by simpa using hu) fun h' st' sb=>?_
  have I1:Inv X pins σ H { s with heap:=h' }:=I.turned (t':=s.toks) (fun b o hb e=>(sb.2 b hb).trans e) f0 f1 f3 f4 f5
  obtain ⟨o,e,c,d⟩:=id st'
  exact ⟨u,rfl,zhb (s:={ s with heap:=h' }) e c d (by decide) ⟨x,H,I1,ru,⟨rfl,fun ys hy=>by rw [I.tuple_inj hy hq];exact hx⟩,st',fun b hb=>(hf b hb).1⟩⟩
 done:=by
  intro X hP hw hK hc i pins s σ H E I hf st hg
  subst hP hw hK
  obtain ⟨xs,hq,hx⟩:=hg
  obtain ⟨its,rv,p,hz⟩:=I.tuple hq
  obtain ⟨f0,f1,f2,f3,f4,f5⟩:=hf it (by simp)
  have hl:=rv.length
  exact wpAny_pyNext_tuple_end (I.ok.hd hc) st (show s.heap.IsTuple a its.toArray from p) (by simp;omega) fun h' eb=>⟨rfl,I.turned (t':=s.toks) (fun b o hb e=>eb b o hb e) f0 f1 f3 f4 f5⟩
 self:=fun _ _ _ _ _ st h=>wpAny_pyIter_tupleiter st h
theorem zcd{P:Program}{w:World}{K:PySem.W.Frag}{tg:Expr}(it:Addr)(lo:Int)(n:Nat):Turn P w K tg (Itr lo n) [it] it (fun i h=>IsRangeIter h it (lo+(i:Nat) * 1) ((n:Int) - (i:Nat)) 1) where
 mem:=by simp
 obj:=fun i h st b hb=>by
  have e:b=it:=by simpa using hb
  subst e
  exact ⟨_,st,fun v z=>by
   have z':Data.fields _=Data.cell v:=z
   cases z'⟩
 keep:=fun i h h' st k=>k it (by simp) _ st
 item:=by
  intro X hP hw hK hc i pins s σ H E I hf st hg
  subst hP hw hK
  obtain ⟨f0,f1,f2,f3,f4,f5⟩:=hf it (by simp)
  have W:=Walks.range (prog:=X.prog) (w:=X.w) (I.ok.hd hc) it lo 1 n
  refine W.item i s _ _ hg st fun v h' tk hv st' kk=>?_
  obtain ⟨t,rfl⟩:=hv
  have I1:Inv X pins σ H { s with heap:=h',toks:=tk }:=I.turned (fun b o hb e=>kk b o (by simpa using hb) e) f0 f1 f3 f4 f5
  refine ⟨_,rfl,zhb (s:={ s with heap:=h',toks:=tk }) (n:="range_iterator") st' rfl rfl (by decide) ⟨.int (lo+i),H,I1,⟨t,?_⟩,⟨rfl,rfl⟩,st',fun b hb=>(hf b hb).1⟩⟩
  rw [Qz]
 done:=by
  intro X hP hw hK hc i pins s σ H E I hf st hg
  subst hP hw hK
  obtain ⟨f0,f1,f2,f3,f4,f5⟩:=hf it (by simp)
  exact wpAny_pyNext_range_end (I.ok.hd hc) st (by have:n≤i:=hg;omega) fun h' eb=>⟨rfl,I.turned (t':=s.toks) (fun b o hb e=>eb b o hb e) f0 f1 f3 f4 f5⟩
 self:=fun _ _ _ _ _ st h=>wpAny_pyIter_rangeiter st h
section
variable {X:Cx} {tg:Expr}
noncomputable def znx(K:PySem.W.Frag)(tl:TE):TI:=fun σ H R=>tl σ H fun x H1=>∃ a,x=.ref a/\(∃ xs,SqL K H1 a xs)/\R (Itl K a) H1
noncomputable def zoH(K:PySem.W.Frag)(tl:TE):TI:=fun σ H R=>tl σ H fun x H1=>∃ a,x=.ref a/\(∃ xs,SqT K H1 a xs)/\R (Itt K a) H1
theorem ziD{l:Expr}{tl:TE}(hl:PE X l tl):PI X tg l (znx X.K tl):=by
 intro pins s σ H R I h
 refine thn (hl pins s σ H _ I h) fun v s1 ⟨x,H1,I1,r1,q1⟩=>?_
 obtain ⟨a,e,⟨xs,hq⟩,q⟩:=q1
 subst e
 cases r1
 obtain ⟨its,rv,p,hz⟩:=I1.list hq
 refine wpAny_pyIter_list p.isList ?_
 refine ⟨s1.heap.objs.size,[s1.heap.objs.size],_,_,H1,rfl,I1.kept (t':=s1.toks) fun b o e=>Jc _ e,zep a _,⟨_,Jq _ rfl,rfl,rfl⟩,fun b hb=>?_,q⟩
 have e:b=s1.heap.objs.size:=by simpa using hb
 subst e
 exact I1.fpOk (Jj _) (I1.hok.fresh (Jj _))
theorem zkO{l:Expr}{tl:TE}(hl:PE X l tl):PI X tg l (zoH X.K tl):=by
 intro pins s σ H R I h
 refine thn (hl pins s σ H _ I h) fun v s1 ⟨x,H1,I1,r1,q1⟩=>?_
 obtain ⟨a,e,⟨xs,hq⟩,q⟩:=q1
 subst e
 cases r1
 obtain ⟨its,rv,p,hz⟩:=I1.tuple hq
 refine wpAny_pyIter_tuple (show s1.heap.IsTuple a its.toArray from p) ?_
 refine ⟨s1.heap.objs.size,[s1.heap.objs.size],_,_,H1,rfl,I1.kept (t':=s1.toks) fun b o e=>Jc _ e,zcc a _,⟨_,Jq _ rfl,rfl,rfl⟩,fun b hb=>?_,q⟩
 have e:b=s1.heap.objs.size:=by simpa using hb
 subst e
 exact I1.fpOk (Jj _) (I1.hok.fresh (Jj _))
theorem zge{pins:List (Addr × Obj)}{σ:St}{H:Hp}{s:Shared}{R:It->Hp->Prop}{E:Value->Shared->Prop}{lo hi:Int}{t u v:Tok}{tk:Nat}(I:Inv X pins σ H s)(h1 : -(2 ^ 62)≤lo)(h2:lo<2 ^ 62)(h3 : -(2 ^ 62)≤hi)(h4:hi<2 ^ 62)
  (q:R (Itr lo (hi - lo).toNat) H):wpAny (model X.prog X.w) X.A (pyIter (.ref s.heap.objs.size)) (PIE X pins σ tg R) E { s with heap:=s.heap.push { cls:=.type "range",data:=.fields #[.int lo t,.int hi u,.int 1 v] },toks:=tk }:=by
 refine wpAny_pyIter_range (IsRange.new ..) (small_one h1 h2 h3 h4) ?_
 have I1:Inv X pins σ H { s with heap:=s.heap.push { cls:=.type "range",data:=.fields #[.int lo t,.int hi u,.int 1 v] },toks:=tk }:=I.kept fun b o e=>Heap.get?_push_of_some _ e
 refine ⟨(s.heap.push { cls:=.type "range",data:=.fields #[.int lo t,.int hi u,.int 1 v] }).objs.size,[(s.heap.push { cls:=.type "range",data:=.fields #[.int lo t,.int hi u,.int 1 v] }).objs.size],_,_,H,rfl,
  I1.kept (t':=tk) fun b o e=>Jc _ e,zcd _ lo (hi - lo).toNat,?_,fun b hb=>?_,q⟩
 ·have e1:lo+((0:Nat):Int) * 1=lo:=by simp
  have e2:(((hi - lo).toNat:Nat):Int) - ((0:Nat):Int)=Builtin.Range.rangeSize lo hi 1:=by rw [rangeSize_one];split<;>omega
  show IsRangeIter _ _ (lo+((0:Nat):Int) * 1) ((((hi - lo).toNat:Nat):Int) - ((0:Nat):Int)) 1
  rw [e1,e2]
  exact Jq _ rfl
 ·have e:b=(s.heap.push { cls:=.type "range",data:=.fields #[.int lo t,.int hi u,.int 1 v] }).objs.size:=by simpa using hb
  subst e
  exact I1.fpOk (Jj _) (I1.hok.fresh (Jj _))
noncomputable def znw(ta:TA):TI:=fun σ H R=>ta σ H fun vs H1=>∃ j:Int,vs=[.int j]/\-(2 ^ 62)≤j/\j<2 ^ 62/\R (Itr 0 j.toNat) H1
theorem zeA{a:Expr}{ta:TA}{p pos:Pos}(hg:Gl X "range")(hm:X.mg "range"=none)(ha:PA X [a] ta)(hs:starEach [a] X.env=[(false,eval a X.env)]:=by rfl):PI X tg (.Call (.Name "range" p) [a] [] pos) (znw ta):=by
 intro pins s σ H R I h
 refine Call_ (wj I hg hm boot_range (Qe (thn (ha pos pins s σ H _ I h) fun us s1 ⟨vs,H1,I1,r1,q1⟩=>?_) hs rfl))
 obtain ⟨j,e,q1,q2,q⟩:=q1
 subst e
 cases r1 with
 | cons r rr=>
  cases rr
  obtain ⟨t,rfl⟩:=r
  exact call_range_1 (zge I1 (by omega) (by omega) q1 q2 (by simpa using q))
noncomputable def zox(wi:TI)(g:TG)(tb:TS):TS:=fun D σ H=>wi σ H fun J H1=>∃ W:Nat->Nat->St->Hp->Prop,(∃ m,W 0 m σ H1)/\∀ i m σ H,W i m σ H->
 (J.stop i H/\D.nx σ H)∨(J.go i H/\∃ N:St->Hp->Prop,(∀ σ' H',N σ' H'->∃ m',m'<m/\W (i+1) m' σ' H')/\∀ x H',J.yld i H x H'->g x σ H' fun σ2 H2=>tb { D with nx:=N,ct:=N,bk:=D.nx } σ2 H2)
noncomputable def jt(fp:List Addr)(h:Heap):List (Addr × Obj):=fp.filterMap fun b=>(h.get? b).map fun o=>(b,o)
theorem wF{h:Heap}(hb:b ∈ fp)(e:h.get? b=some o):(b,o) ∈ jt fp h:=Qu.mpr ⟨b,hb,by rw [e];rfl⟩
theorem zeE{h:Heap}{p:Addr × Obj}(hp:p ∈ jt fp h):p.1 ∈ fp/\h.get? p.1=some p.2:=by
 obtain ⟨b,hb,e⟩:=Qu.mp hp
 cases q:h.get? b with
 | none=>rw [q] at e;cases e
 | some o=>
  rw [q] at e
  have e':(b,o)=p:=Js e
  subst e'
  exact ⟨hb,q⟩
theorem Inv.pinned{s:Shared}(I:Inv X pins σ H s)(hf:∀ b ∈ fp,u0 X pins H b)(ho:∀ b ∈ fp,∃ o,s.heap.get? b=some o/\∀ v,o.data≠.cell v):Inv X (pins++jt fp s.heap) σ H s:=
 I.pins_of fun p hp=>(Kd.mp hp).elim (fun z=>I.pin p (Jl _ z)) fun z=>by
  obtain ⟨hb,e⟩:=zeE z
  obtain ⟨f0,f1,f2,_⟩:=hf p.1 hb
  obtain ⟨o,e',d⟩:=ho p.1 hb
  rw [e] at e';cases e'
  exact ⟨e,f0,f1,f2,d⟩
theorem Inv.unpinned(I:Inv X (pins++pl) σ H s):Inv X pins σ H s:=I.pins_of fun p hp=>I.pin p (Jl _ (Jt _ hp))
theorem zkN{iter:Expr}{body:List Stmt}{wi:TI}{g:TG}{tb:TS}{pos:Pos}(hp:PassesOwn (model X.prog X.w) X.A X.env X.xe)(hc:X.calm=true)(hi:PI X tg iter wi)(hg:PG X tg g)(hb:PSs X body tb)
  (hs:∀ x,foldedSetIterable iter X.env x=pure x:=by intro _;rfl):PS X (.For tg iter body [] pos) (zox wi g tb):=by
 intro pins s σ H D I h
 refine wpAny_For (thn (hi pins s σ H _ I h) fun v s1 h1=>thn h1 fun itv s2 h2=>?_) hs
 obtain ⟨it,fp,tn,J,H2,e,I2,T,st2,f2,W,⟨m0,w0⟩,turn⟩:=h2
 subst e
 -- what stays true of the iterator's objects through the loop
 have stat:∀ {H':Hp},(∀ b ∈ fp,H' b=none)->∀ b ∈ fp,u0 X pins H' b:=fun hn b hb=>⟨hn b hb,(f2 b hb).2⟩
 refine codeAny_forLoop_any (fun n s'=>∃ i σ' H',Inv X pins σ' H' s'/\tn i s'.heap/\(∀ b ∈ fp,H' b=none)/\W i n σ' H') ?_ m0 ⟨0,σ,H2,I2,st2,fun b hb=>(f2 b hb).1,w0⟩
 rintro n s3 ⟨i,σ3,H3,I3,st3,fr3,w3⟩
 rcases turn i n σ3 H3 w3 with ⟨stop,qn⟩ | ⟨go,N,hN,step⟩
 ·refine wpAny_passesOwn hp (thn (T.done X rfl rfl rfl hc i pins s3 σ3 H3 X.xe I3 (stat fr3) st3 stop) fun r s4 ⟨hr,I4⟩=>?_)
  subst hr
  exact wpAny_execs_nil ⟨σ3,H3,I4,qn⟩
 ·refine wpAny_passesOwn hp (thn (T.item X rfl rfl rfl hc i pins s3 σ3 H3 X.xe I3 (stat fr3) st3 go) fun r s4 ⟨u,hr,h4⟩=>?_)
  subst hr
  refine wpAny_passesOwn hp (thn h4 fun _ s5 hq_=>?_)
  obtain ⟨x,H5,I5,r5,y5,st5,fr5⟩:=hq_
  have I5':=I5.pinned (stat fr5) (T.obj _ _ st5)
  refine wpAny_passesOwn hp (thn (hg _ s5 σ3 H5 x u _ I5' r5 (step x H5 y5)) fun _ s6 hq_=>?_)
  obtain ⟨σ6,H6,I6,q6⟩:=hq_
  refine wpAny_passesOwn hp (thn (hb _ s6 σ6 H6 _ I6 q6) fun f s7 q7=>?_)
  have again:∀ {σ7:St} {H7:Hp},Inv X (pins++jt fp s5.heap) σ7 H7 s7->N σ7 H7->∃ m,m<n/\∃ i σ' H',Inv X pins σ' H' s7/\tn i s7.heap/\(∀ b ∈ fp,H' b=none)/\W i m σ' H':=fun {σ7 H7} I7 n7=>by
   obtain ⟨m',hm,w7⟩:=hN σ7 H7 n7
   refine ⟨m',hm,i+1,σ7,H7,I7.unpinned,T.keep _ _ _ st5 fun b hb o e=>(I7.pin (b,o) (Jl _ (Jl _ (wF hb e)))).1,fun b hb=>?_,w7⟩
   obtain ⟨o,e,d⟩:=T.obj _ _ st5 b hb
   exact (I7.pin (b,o) (Jl _ (Jl _ (wF hb e)))).2.1
  cases f with
  | next=>obtain ⟨σ7,H7,I7,n7⟩:=q7;exact again I7 n7
  | cont=>obtain ⟨σ7,H7,I7,n7⟩:=q7;exact again I7 n7
  | brk=>obtain ⟨σ7,H7,I7,q7⟩:=q7;exact ⟨σ7,H7,I7.unpinned,q7⟩
  | ret v=>obtain ⟨x7,σ7,H7,I7,r7,q7⟩:=q7;exact ⟨x7,σ7,H7,I7.unpinned,r7,q7⟩
end
noncomputable abbrev R2:=V->V->Hp->VK->Prop
noncomputable def OpR(X:Cx)(f:Value->Value->Sem Value)(r:R2):Prop:=
 ∀ (pins:List (Addr × Obj)) (s:Shared) (σ:St) (H:Hp) (x y:V) (v u:Value) (Q:VK),Inv X pins σ H s->RelV x v->RelV y u->r x y H Q->
  wpAny (model X.prog X.w) X.A (f v u) (EP X pins σ Q) X.xe s
noncomputable def UnR(X:Cx)(f:Value->Sem Value)(r:V->Hp->VK->Prop):Prop:=
 ∀ (pins:List (Addr × Obj)) (s:Shared) (σ:St) (H:Hp) (x:V) (v:Value) (Q:VK),Inv X pins σ H s->RelV x v->r x H Q->
  wpAny (model X.prog X.w) X.A (f v) (EP X pins σ Q) X.xe s
noncomputable def CallR(X:Cx)(f:Value)(r:List V->Hp->VK->Prop):Prop:=
 ∀ (pins:List (Addr × Obj)) (s:Shared) (σ:St) (H:Hp) (xs:List V) (us:List Value) (Q:VK),Inv X pins σ H s->Vals xs us->r xs H Q->
  wpAny (model X.prog X.w) X.A (call f us) (EP X pins σ Q) X.xe s
noncomputable def zoZ(X:Cx)(r:V->Hp->(Bool->Hp->Prop)->Prop):Prop:=
 ∀ (pins:List (Addr × Obj)) (s:Shared) (σ:St) (H:Hp) (x:V) (v:Value) (Q:Bool->Hp->Prop),Inv X pins σ H s->RelV x v->r x H Q->
  wpAny (model X.prog X.w) X.A (truthy v) (TP X pins σ Q) X.xe s
noncomputable def tOp(r:R2)(ta tb:TE):TE:=fun σ H Q=>ta σ H fun x H1=>tb σ H1 fun y H2=>r x y H2 Q
noncomputable def tUn(r:V->Hp->VK->Prop)(ta:TE):TE:=fun σ H Q=>ta σ H fun x H1=>r x H1 Q
noncomputable def rI(C:Int->Int->Prop)(g:Int->Int->V):R2:=fun x y H Q=>∃ i j,x=.int i/\y=.int j/\C i j/\Q (g i j) H
noncomputable def rI0(g:Int->Int->V):R2:=fun x y H Q=>∃ i j,x=.int i/\y=.int j/\Q (g i j) H
noncomputable def rU(g:Int->V):V->Hp->VK->Prop:=fun x H Q=>∃ i,x=.int i/\Q (g i) H
section
variable {X:Cx} {a b c:Expr} {ta tb tc:TE} {pos:Pos}
theorem zlK(ha:PE X a ta)(hb:PE X b tb){pins:List (Addr × Obj)}{s:Shared}{σ:St}{H:Hp}{R:V->V->Hp->Prop}(I:Inv X pins σ H s)
  (h:ta σ H fun x H1=>tb σ H1 fun y H2=>R x y H2){Q:Value->Shared->Prop}{f:Value->Value->Sem Value}
  (hf:∀ v u s2 x y H2,Inv X pins σ H2 s2->RelV x v->RelV y u->R x y H2->wpAny (model X.prog X.w) X.A (f v u) Q X.xe s2):
  wpAny (model X.prog X.w) X.A (eval a X.env) (fun v s₁=>wpAny (model X.prog X.w) X.A (eval b X.env) (fun u s₂=>wpAny (model X.prog X.w) X.A (f v u) Q X.xe s₂) X.xe s₁) X.xe s:=by
 refine thn (ha pins s σ H _ I h) fun v s1 ⟨x,H1,I1,r1,q1⟩=>?_
 refine thn (hb pins s1 σ H1 _ I1 q1) fun u s2 ⟨y,H2,I2,r2,q2⟩=>?_
 exact hf v u s2 x y H2 I2 r1 r2 q2
theorem zmQ(ho:OpR X (binaryOp op) r)(ha:PE X a ta)(hb:PE X b tb):PE X (.BinOp a op b pos) (tOp r ta tb):=by
 intro pins s σ H Q I h
 exact wpAny_BinOp (zlK ha hb I h fun v u s2 x y H2 I2 rx ry q=>ho pins s2 σ H2 x y v u Q I2 rx ry q)
theorem zmO{op:UnaryOp}{r:V->Hp->VK->Prop}(ho:UnR X (unaryOp op) r)(ha:PE X a ta):PE X (.UnaryOp op a pos) (tUn r ta):=by
 intro pins s σ H Q I h
 exact UnaryOp_ (thn (ha pins s σ H _ I h) fun v s1 ⟨x,H1,I1,r1,q1⟩=>ho pins s1 σ H1 x v Q I1 r1 q1)
theorem opI{f:Value->Value->Sem Value}{C:Int->Int->Prop}{g:Int->Int->Int}
  (rule:∀ (i j:Int) (t u:Tok) (s:Shared) (Q:Value->Shared->Prop) (E:Value->Shared->Prop),C i j->Q (.int (g i j) s.toks) { s with toks:=s.toks+1 }->wpAny (model X.prog X.w) X.A (f (.int i t) (.int j u)) Q E s):
  OpR X f (rI C fun i j=>.int (g i j)):=by
 intro pins s σ H x y v u Q I rx ry h
 obtain ⟨i,j,rfl,rfl,hc,q⟩:=h
 obtain ⟨t,rfl⟩:=rx
 obtain ⟨t',rfl⟩:=ry
 exact rule i j t t' s _ _ hc ⟨.int (g i j),H,I.tok _,⟨_,rfl⟩,q⟩
theorem znh{f:Value->Value->Sem Value}{g:Int->Int->Int}
  (rule:∀ (i j:Int) (t u:Tok) (s:Shared) (Q:Value->Shared->Prop) (E:Value->Shared->Prop),Q (.int (g i j) s.toks) { s with toks:=s.toks+1 }->wpAny (model X.prog X.w) X.A (f (.int i t) (.int j u)) Q E s):
  OpR X f (rI0 fun i j=>.int (g i j)):=by
 intro pins s σ H x y v u Q I rx ry h
 obtain ⟨i,j,rfl,rfl,q⟩:=h
 obtain ⟨t,rfl⟩:=rx
 obtain ⟨t',rfl⟩:=ry
 exact rule i j t t' s _ _ ⟨.int (g i j),H,I.tok _,⟨_,rfl⟩,q⟩
theorem ziM{f:Value->Value->Sem Value}{g:Int->Int->Bool}
  (rule:∀ (i j:Int) (t u:Tok) (s:Shared) (Q:Value->Shared->Prop) (E:Value->Shared->Prop),Q (.bool (g i j)) s->wpAny (model X.prog X.w) X.A (f (.int i t) (.int j u)) Q E s):
  OpR X f (rI0 fun i j=>.bl (g i j)):=by
 intro pins s σ H x y v u Q I rx ry h
 obtain ⟨i,j,rfl,rfl,q⟩:=h
 obtain ⟨t,rfl⟩:=rx
 obtain ⟨t',rfl⟩:=ry
 exact rule i j t t' s _ _ ⟨.bl (g i j),H,I,rfl,q⟩
noncomputable def znW(i j:Int):Prop:=0<j/\j<1073741824
noncomputable def CMul(i j:Int):Prop:=(-(2 ^ 64)<i/\i<2 ^ 64)∨(-(2 ^ 64)<j/\j<2 ^ 64)
theorem CMul.ok(h:CMul i j):IntMulOk i j:=by
 rcases h with ⟨h1,h2⟩ | ⟨h1,h2⟩
 ·exact .of_left (intBits_le_64 h1 h2)
 ·exact .of_right (intBits_le_64 h1 h2)
theorem op_add:OpR X (binaryOp .Add) (rI0 fun i j=>.int (i+j)):=znh fun _ _ _ _ _ _ _ q=>add_int q
theorem zlk:OpR X (binaryOp .Sub) (rI0 fun i j=>.int (i - j)):=znh fun _ _ _ _ _ _ _ q=>sub_int q
theorem ziL:OpR X (binaryOp .FloorDiv) (rI znW fun i j=>.int (i / j)):=opI fun i j _ _ _ _ _ hc q=>by
 have h1:(0:Int)<j:=hc.1
 have h2:j<1073741824:=hc.2
 exact floordiv_int (by omega) (by rw [Int.fdiv_eq_ediv_of_nonneg i (by omega)];exact q) (.inl (PyProof.noPylong_small (by omega)))
theorem zln:OpR X (binaryOp .Mod) (rI (fun _ j=>0<j) fun i j=>.int (i % j)):=opI fun i j _ _ _ _ _ hc q=>by
 have h1:(0:Int)<j:=hc
 exact mod_int' (by omega) (by rw [Int.fmod_eq_emod_of_nonneg i (by omega)];exact q)
theorem unI{f:Value->Sem Value}{g:Int->Int}
  (rule:∀ (i:Int) (t:Tok) (s:Shared) (Q:Value->Shared->Prop) (E:Value->Shared->Prop),Q (.int (g i) s.toks) { s with toks:=s.toks+1 }->wpAny (model X.prog X.w) X.A (f (.int i t)) Q E s):
  UnR X f (rU fun i=>.int (g i)):=by
 intro pins s σ H x v Q I rx h
 obtain ⟨i,rfl,q⟩:=h
 obtain ⟨t,rfl⟩:=rx
 exact rule i t s _ _ ⟨.int (g i),H,I.tok _,⟨_,rfl⟩,q⟩
theorem zks:UnR X (unaryOp .USub) (rU fun i=>.int (-i)):=unI fun _ _ _ _ _ q=>neg_int q
theorem znd:OpR X (compareOp .Lt) (rI0 fun i j=>.bl (decide (i<j))):=ziM fun _ _ _ _ _ _ _ q=>lt_int q
theorem zne:OpR X (compareOp .LtE) (rI0 fun i j=>.bl (decide (i≤j))):=ziM fun _ _ _ _ _ _ _ q=>le_int q
theorem znf:OpR X (compareOp .Gt) (rI0 fun i j=>.bl (decide (j<i))):=ziM fun _ _ _ _ _ _ _ q=>gt_int q
theorem zng:OpR X (compareOp .GtE) (rI0 fun i j=>.bl (decide (j≤i))):=ziM fun _ _ _ _ _ _ _ q=>ge_int q
theorem OpR.or{r r':R2}(h:OpR X f r)(h':OpR X f r'):OpR X f (fun x y H Q=>r x y H Q∨r' x y H Q):=by
 intro pins s σ H x y v u Q I rx ry q
 rcases q with q | q
 ·exact h pins s σ H x y v u Q I rx ry q
 ·exact h' pins s σ H x y v u Q I rx ry q
theorem zcx(b:Expr)(h:op≠.In:=by decide)(h2:op≠.NotIn:=by decide):behindInMarks op b=false:=by
 have e1:(op == CmpOp.In)=false:=by cases op<;>first | rfl | exact absurd rfl h
 have e2:(op == CmpOp.NotIn)=false:=by cases op<;>first | rfl | exact absurd rfl h2
 cases b<;>simp [behindInMarks,e1,e2]
theorem ziG(ho:OpR X (compareOp op) r)(ha:PE X a ta)(hb:PE X b tb)(hm:behindInMarks op b=false):PE X (.Compare a [op] [b] pos) (tOp r ta tb):=by
 intro pins s σ H Q I h
 exact wpAny_Compare1 (zlK ha hb I h fun v u s2 x y H2 I2 rx ry q=>ho pins s2 σ H2 x y v u Q I2 rx ry q) hm
noncomputable def zfI(t:TE):TT:=fun σ H Q=>t σ H fun x H'=>∃ k,x=.bl k/\Q k H'
theorem zdt{op:CmpOp}{r:R2}(ho:OpR X (compareOp op) r)(ha:PE X a ta)(hb:PE X b tb)(hm:behindInMarks op b=false):PT X (.Compare a [op] [b] pos) (zfI (tOp r ta tb)):=by
 intro pins s σ H Q I h
 refine wpAny_isTrue_Compare1 (thn (ha pins s σ H _ I h) fun v s1 ⟨x,H1,I1,r1,q1⟩=>thn (hb pins s1 σ H1 _ I1 q1) fun u s2 ⟨y,H2,I2,r2,q2⟩=>
  thn (ho pins s2 σ H2 x y v u _ I2 r1 r2 q2) fun c s3 ⟨z,H3,I3,r3,k,e,q3⟩=>?_) hm
 subst e
 cases r3
 exact wpAny_truthy_bool ⟨H3,I3,q3⟩
noncomputable def zch(r r':R2)(ta tb tc:TE):TE:=fun σ H Q=>ta σ H fun x H1=>tb σ H1 fun y H2=>r x y H2 fun z H3=>∃ k,z=.bl k/\
 (if k=true then tc σ H3 fun w' H4=>r' y w' H4 Q else Q (.bl false) H3)
theorem zgt{op op':CmpOp}{r r':R2}(ho:OpR X (compareOp op) r)(ho':OpR X (compareOp op') r')(ha:PE X a ta)(hb:PE X b tb)(hc:PE X c tc)
  (hm:lastMarks [op,op'] [b,c]=false:=by with_unfolding_all rfl):PE X (.Compare a [op,op'] [b,c] pos) (zch r r' ta tb tc):=by
 intro pins s σ H Q I h
 refine Compare_chain (thn (ha pins s σ H _ I h) fun v s1 ⟨x,H1,I1,r1,q1⟩=>chain_link (thn (hb pins s1 σ H1 _ I1 q1) fun u s2 ⟨y,H2,I2,r2,q2⟩=>
  thn (ho pins s2 σ H2 x y v u _ I2 r1 r2 q2) fun d s3 ⟨z,H3,I3,r3,k,e,q3⟩=>?_)) hm
 subst e
 cases r3
 refine wpAny_truthy_bool ?_
 cases k with
 | false=>exact ite_ff ⟨.bl false,H3,I3,rfl,q3⟩
 | true=>exact ite_tt (chain_last (thn (hc pins s3 σ H3 _ I3 q3) fun w' s4 ⟨z',H4,I4,r4,q4⟩=>ho' pins s4 σ H4 y z' u w' Q I4 r2 r4 q4))
theorem zgl{op op':CmpOp}{r r':R2}(ho:OpR X (compareOp op) r)(ho':OpR X (compareOp op') r')(ha:PE X a ta)(hb:PE X b tb)(hc:PE X c tc)
  (hm:lastMarks [op,op'] [b,c]=false:=by with_unfolding_all rfl):PT X (.Compare a [op,op'] [b,c] pos) (zfI (zch r r' ta tb tc)):=by
 intro pins s σ H Q I h
 refine isTrue_chain (thn (ha pins s σ H _ I h) fun v s1 ⟨x,H1,I1,r1,q1⟩=>test_link (thn (hb pins s1 σ H1 _ I1 q1) fun u s2 ⟨y,H2,I2,r2,q2⟩=>
  thn (ho pins s2 σ H2 x y v u _ I2 r1 r2 q2) fun d s3 ⟨z,H3,I3,r3,k,e,q3⟩=>?_)) hm
 subst e
 cases r3
 refine wpAny_truthy_bool ?_
 cases k with
 | false=>
  obtain ⟨k',e',q'⟩:=q3
  cases e'
  exact ite_ff ⟨H3,I3,q'⟩
 | true=>
  refine ite_tt (test_last (thn (hc pins s3 σ H3 _ I3 q3) fun w' s4 ⟨z',H4,I4,r4,q4⟩=>thn (ho' pins s4 σ H4 y z' u w' _ I4 r2 r4 q4) fun d' s5 ⟨z2,H5,I5,r5,k2,e2,q5⟩=>?_))
  subst e2
  cases r5
  exact wpAny_truthy_bool ⟨H5,I5,q5⟩
noncomputable def znT(K:PySem.W.Frag)(x:V)(H:Hp)(k:Bool):Prop:=
 match x with
 | .non=>k=false
 | .bl b=>k=b
 | .int i=>k=(i != 0)
 | .str y=>y.length≤sizeLine/\k=((y.length:Int) != 0)
 | .byt y=>y.size≤sizeLine/\k=((y.size:Int) != 0)
 | .ref p=>(∃ xs,SqL K H p xs/\k=!xs.isEmpty)∨(∃ xs,SqT K H p xs/\k=!xs.isEmpty)∨∃ kvs,H p=some (.dK kvs)/\k=!kvs.isEmpty
 | _=>False
theorem zcI{κ:Type}{kvs:List (κ × V)}{vs:List (κ × Value)}(r:KV kvs vs):(!vs.isEmpty)=!kvs.isEmpty:=by
 cases r<;>rfl
theorem kE{xs:List V}{its:List Value}(r:Vals xs its):(!its.toArray.isEmpty)=!xs.isEmpty:=by
 cases r<;>simp
theorem vj:(sizeLine:Nat)<2 ^ 63:=by rw [sizeLine_eq];decide
theorem zkt:zoZ X (fun x H Q=>∃ k,znT X.K x H k/\Q k H):=by
 intro pins s σ H x v Q I rx h
 obtain ⟨k,e,q⟩:=h
 have hl:=vj
 have hs:sizeLine=16777216:=sizeLine_eq
 cases x with
 | non=>
  cases rx
  have e':k=false:=e
  subst e'
  exact truthy_none ⟨H,I,q⟩
 | bl b=>
  cases rx
  have e':k=b:=e
  subst e'
  exact wpAny_truthy_bool ⟨H,I,q⟩
 | int i=>
  obtain ⟨t,rfl⟩:=rx
  have e':k=(i != 0):=e
  subst e'
  exact PySem.P.truthy_int ⟨H,I,q⟩
 | str y=>
  obtain ⟨t,rfl⟩:=rx
  obtain ⟨hy,e'⟩:y.length≤sizeLine/\k=((y.length:Int) != 0):=e
  subst e'
  exact PySem.P.truthy_str (by omega) ⟨H,I.tok _,q⟩
 | byt y=>
  obtain ⟨t,rfl⟩:=rx
  obtain ⟨hy,e'⟩:y.size≤sizeLine/\k=((y.size:Int) != 0):=e
  subst e'
  exact PySem.W.truthy_bytes (by omega) ⟨H,I.tok _,q⟩
 | ref p=>
  cases rx
  have e':(∃ xs,SqL X.K H p xs/\k=!xs.isEmpty)∨(∃ xs,SqT X.K H p xs/\k=!xs.isEmpty)∨∃ kvs,H p=some (.dK kvs)/\k=!kvs.isEmpty:=e
  rcases e' with ⟨xs,hx,e'⟩ | ⟨xs,hx,e'⟩ | ⟨kvs,hx,e'⟩
  ·subst e'
   obtain ⟨its,r,pl,hz⟩:=I.list hx
   have hlen:=r.length
   exact wpAny_truthy_list pl.isList (by simp only [List.size_toArray];omega) ⟨H,I.tok _,by rw [kE r];exact q⟩
  ·subst e'
   obtain ⟨its,r,pl,hz⟩:=I.tuple hx
   have hlen:=r.length
   exact truthy_tuple pl (by simp only [List.size_toArray];omega) ⟨H,I.tok _,by rw [kE r];exact q⟩
  ·subst e'
   obtain ⟨hz,hS,vs,r,m⟩:kvs.length≤sizeLine/\(p == sysModules)=false/\∃ vs,KV kvs vs/\s.heap.DictOf (zC X.prog X.w) p vs:=I.hok p _ hx
   have hlen:kvs.length=vs.length:=Paired.length r
   exact wpAny_truthy_dict hS m (by omega) ⟨H,I.tok _,by rw [zcI r];exact q⟩
 | _=>exact (show False from e).elim
theorem zgj(ha:PE X a ta)(he:∀ whole,isTrue a X.env whole=(do let v ← whole;standAt a.pos;holding [v] (truthy v))):
  PT X a (fun σ H Q=>ta σ H fun x H'=>∃ k,znT X.K x H' k/\Q k H'):=by
 intro pins s σ H Q I h
 exact isTrue_plain (thn (ha pins s σ H _ I h) fun v s1 ⟨x,H1,I1,r1,q1⟩=>zkt pins s1 σ H1 x v Q I1 r1 q1) (he _)
theorem zcs:OpR X (binaryOp .Add) (fun x y H Q=>∃ i j,x=.str i/\y=.str j/\i.length+j.length≤sizeLine/\Q (.str (i++j)) H):=by
 intro pins s σ H x y v u Q I rx ry h
 obtain ⟨i,j,rfl,rfl,hz,q⟩:=h
 obtain ⟨t,rfl⟩:=rx
 obtain ⟨t',rfl⟩:=ry
 exact add_str (fun t' tk=>⟨.str (i++j),H,I.tok _,⟨_,rfl⟩,q⟩) hz
theorem kj(r:Vals [x] us):∃ u,us=[u]/\RelV x u:=by
 cases r with
 | cons r1 r2=>cases r2;exact ⟨_,rfl,r1⟩
theorem zjB(r:Vals [x,y] us):∃ u w',us=[u,w']/\RelV x u/\RelV y w':=by
 cases r with
 | cons r1 r2=>
  cases r2 with
  | cons r3 r4=>cases r4;exact ⟨_,_,rfl,r1,r3⟩
end
structure ObjM (h:Heap) (x dx C:Addr) (mA:Str->Option Value):Prop where
 obj:h.get? x=some (PySem.W.instObj C dx)
 ns:h.Ns1 dx mA
 ne:dx≠x
theorem RelO.some_of(r:RelO (some v) o):∃ u,o=some u/\RelV v u:=by
 cases o with
 | none=>exact (show False from r).elim
 | some u=>exact ⟨u,rfl,r⟩
structure Cls (K:PySem.W.Frag) (C:Addr):Prop where
 pg:PySem.W.plainGet K C Str.empty=true
 hd:PySem.W.hasDictIn K C=true
 po:PySem.W.plainOver K C=true
 sa:PySem.W.findIn K (.ref C) "__setattr__"=some (some (.builtin "object.__setattr__"))
theorem Cls.get{K:PySem.W.Frag}{C:Addr}(c:Cls K C)(f:Str):PySem.W.plainGet K C f=true:=c.pg
structure Con (K:PySem.W.Frag) (C:Addr) (f:Str) (v:V) (u:Value):Prop where
 at_:PySem.W.findIn K (.ref C) f=some (some u)
 rel:RelV v u
 get:PySem.W.specialIn K u "__get__"=some none
 cp:PySem.W.copiedNames.contains f=false
structure Meth (K:PySem.W.Frag) (C:Addr) (m:Str) (f:Addr):Prop where
 at_:PySem.W.findIn K (.ref C) m=some (some (.ref f))
 fn:PySem.W.isFn K (.ref f)=true
 kp:PySem.W.keepIn K (.ref f)=true
section
variable {X:Cx} {pins:List (Addr × Obj)} {σ:St} {H:Hp} {s:Shared} {a C dx:Addr} {fs:List (Str × V)} {f:Str} {v:V} {A:Around} {E:Value->Shared->Prop}
theorem Inv.made (I : Inv X pins σ H s) : Inv X pins σ (upd (upd H s.heap.objs.size (.own (s.heap.objs.size + 1))) (s.heap.objs.size + 1) (.ins C s.heap.objs.size []))
    { s with heap := (s.heap.push PySem.W.emptyDict).push (PySem.W.instObj C s.heap.objs.size) } := by
  have e1 : (s.heap.push PySem.W.emptyDict).get? s.heap.objs.size = some PySem.W.emptyDict := Jq s.heap rfl
  have e2 : ((s.heap.push PySem.W.emptyDict).push (PySem.W.instObj C s.heap.objs.size)).get? (s.heap.objs.size + 1) = some (PySem.W.instObj C s.heap.objs.size) := by
    have := Jq (s.heap.push PySem.W.emptyDict) (o := PySem.W.instObj C s.heap.objs.size) rfl
    rwa [KM] at this
  have e3 : (s.heap.push PySem.W.emptyDict).Ns s.heap.objs.size (fun _ => none) := ⟨PySem.W.emptyDict, #[], _, e1, rfl, (fun e he => absurd he (by simp)), fun _ => rfl⟩
  have I1 := I.laid (a := s.heap.objs.size) (o := .own (s.heap.objs.size + 1)) (h' := s.heap.push PySem.W.emptyDict) (t' := s.toks) (fun b u q => Jc _ q) (Jj _) ⟨_, e1⟩
  refine I1.laid (a := s.heap.objs.size + 1) (o := .ins C s.heap.objs.size []) (t' := s.toks) (fun b u q => Jc _ q) (Nat.le_of_eq (KM _ _)) ?_
  have ne : s.heap.objs.size ≠ s.heap.objs.size + 1 := Ju (KJ _)
  refine ⟨by rw [zW ne, zT], Kb _, ne, e2, fun _ => none, (Heap.Ns1.of_empty e3).at fun o q => Jc _ q, fun _ => True.intro, fun y hy => absurd rfl hy⟩
end
section
variable {X:Cx} {pins:List (Addr × Obj)} {σ:St} {H:Hp} {s:Shared} {A:Around} {E:Value->Shared->Prop} {Q:Value->Shared->Prop} {c:Value} {b:Bool}
inductive TyOf (K:PySem.W.Frag) (H:Hp):V->Value->Prop where
 | non:TyOf K H .non (.type "NoneType")
 | bl (x:Bool):TyOf K H (.bl x) (.type "bool")
 | int (i:Int):TyOf K H (.int i) (.type "int")
 | str (x:Str):TyOf K H (.str x) (.type "str")
 | flt (x:UInt64):TyOf K H (.flt x) (.type "float")
 | lst {a:Addr} {xs:List V} (e:H a=some (.lst xs)):TyOf K H (.ref a) (.type "list")
 | frz {a:Addr} {o:Obj} {xs:List V} (e:H a=some (.frz o (.lst xs))):TyOf K H (.ref a) (.type "list")
 | tup {a:Addr} {xs:List V} (e:H a=some (.tup xs)):TyOf K H (.ref a) (.type "tuple")
 | dK {a:Addr} {kvs:List (Key × V)} (e:H a=some (.dK kvs)):TyOf K H (.ref a) (.type "dict")
 | dT {a:Addr} {kvs:List (List Key × V)} (e:H a=some (.dT kvs)):TyOf K H (.ref a) (.type "dict")
 | ins {a C dx:Addr} {fs:List (Str × V)} (e:H a=some (.ins C dx fs)) (cl:Cls K C) (ha:PySem.W.findIn K (.ref C) "__class__"=some (some (.builtin "object.__class__")))
   (hn:PySem.W.specialIn K (.builtin "object.__class__") "__get__"=some (some (.builtin "getset_descriptor.__get__"))) (htk:PySem.W.takesIn K (.builtin "object.__class__")=some true)
   (hm:PySem.W.mroIn K C (.type "object")=some true):TyOf K H (.ref a) (.ref C)
end
structure Room (k:Nat) (A:Around):Prop where
 hd:A.handled=none
 dp:A.depth+3 * k+5<recursionLimit
 un:A.units+16 * k+200<cLine
theorem Room.mono(r:Room k A)(h:j≤k):Room j A:=⟨r.hd,by have:=r.dp;omega,by have:=r.un;omega⟩
theorem Room.deeper{A:Around}(r:Room (k+1) A)(env:Env):Room k (A.deeper env):=
 ⟨r.hd,by have:=r.dp;show A.depth+1+3 * k+5<_;omega,by have:=r.un;show A.units+3+16 * k+200<_;omega⟩
theorem Room.in1{A:Around}(r:Room (k+1) A):Room k A.in1:=
 ⟨r.hd,by have:=r.dp;show A.depth+3 * k+5<_;omega,by have:=r.un;show A.units+1+16 * k+200<_;omega⟩
theorem Room.depth{A:Around}(r:Room k A):A.depth<recursionLimit:=by have:=r.dp;omega
theorem Room.units{A:Around}(r:Room k A):A.units+64<cLine:=by have:=r.un;omega
noncomputable def zfK:TA:=fun _ H Q=>Q [] H
noncomputable def zfO(ta:TE)(tr:TA):TA:=fun σ H Q=>ta σ H fun x H1=>tr σ H1 fun xs H2=>Q (x::xs) H2
section
variable {X:Cx} {e:Expr} {es:List Expr} {te:TE} {t:TA} {pos:Pos}
theorem pa_nil:PA X [] zfK:=fun _ _ _ _ H Q I h=>Calls.spliced_nil ⟨[],H,I,.nil,h⟩
theorem uL(ha:PE X e te)(hr:PA X es t)(hs:starEach (e::es) X.env=(false,eval e X.env)::starEach es X.env:=by rfl):PA X (e::es) (zfO te t):=by
 intro pos pins s σ H Q I h
 rw [hs]
 show wpAny _ _ (spliced ((false,eval e X.env)::backTo pos (starEach es X.env))) _ _ s
 refine Calls.spliced_cons (thn (ha pins s σ H _ I h) fun u s1 hq_=>?_)
 obtain ⟨x,H1,I1,r1,q1⟩:=hq_
 exact thn (hr pos pins s1 σ H1 _ I1 q1) fun us s2 ⟨xs,H2,I2,r2,q2⟩=>⟨x::xs,H2,I2,.cons r1 r2,q2⟩
noncomputable def zop(t:TA):TE:=fun σ H Q=>t σ H fun xs H1=>xs.length≤sizeLine/\∀ p,H1 p=none->Q (.ref p) (upd H1 p (.tup xs))
noncomputable def zov(t:TA):TE:=fun σ H Q=>t σ H fun xs H1=>xs.length≤sizeLine/\∀ p,H1 p=none->Q (.ref p) (upd H1 p (.lst xs))
theorem zkT{x1}(h:PA X es t):PE X (.Tuple es x1 pos) (zop t):=by
 intro pins s σ H Q I hq
 refine wpAny_Tuple_spliced (thn (h pos pins s σ H _ I hq) fun us s1 ⟨xs,H1,I1,r,z,q⟩=>⟨by rw [← r.length];exact z,?_⟩)
 have hf:H1 s1.heap.objs.size=none:=I1.hok.fresh (Jj _)
 refine ⟨.ref s1.heap.objs.size,upd H1 s1.heap.objs.size (.tup xs),I1.laid (t':=s1.toks) (fun b u e=>Jc _ e) (Jj _) ?_,rfl,q _ hf⟩
 exact ⟨z,us,r,⟨_,Jq _ rfl,rfl,_,rfl⟩⟩
theorem zkY(h:PA X es t):PE X (.List es pos) (zov t):=by
 intro pins s σ H Q I hq
 refine wpAny_List_spliced (thn (h pos pins s σ H _ I hq) fun us s1 ⟨xs,H1,I1,r,z,q⟩=>⟨by rw [← r.length];exact z,?_⟩)
 have hf:H1 s1.heap.objs.size=none:=I1.hok.fresh (Jj _)
 refine ⟨.ref s1.heap.objs.size,upd H1 s1.heap.objs.size (.lst xs),I1.laid (t':=s1.toks) (fun b u e=>Jc _ e) (Jj _) ?_,rfl,q _ hf⟩
 exact ⟨z,us,0,r,Jq _ rfl⟩
end
noncomputable abbrev Sp:=List V->Hp->VK->XK->Prop
noncomputable abbrev CXT:=List Env->Hp->Shared->XK->Value->Shared->Prop
structure Env0 (P:Program) (w:World) (K:PySem.W.Frag) (mg:Str->Option Value) (base:Heap) (A:Around) (outer:List Env) (s:Shared) (H:Hp):Prop where
 frames:A.frames=some outer
 mod:Mod K mg base
 bs:∀ b o,base.get? b=some o->s.heap.get? b=some o/\H b=none
 bsz:base.objs.size≤s.heap.objs.size
 funs:s.heap.FunFrames base outer
 frf:∀ b ∈ frs outer,H b=none
 hok:HOk P w H s.heap
 bare:AllBare s.gens
noncomputable def CE(outer:List Env)(P:Program)(w:World)(H:Hp)(s:Shared)(Q:VK)(u:Value)(s':Shared):Prop:=
 ∃ v H',s'.os=s.os/\AllBare s'.gens/\Un (frs outer) [] H H' s.heap s'.heap/\HOk P w H' s'.heap/\RelV v u/\Q v H'
noncomputable def CR(CX:CXT)(outer:List Env)(P:Program)(w:World)(H:Hp)(s:Shared)(Q:VK)(E:XK)(r:Result)(s':Shared):Prop:=
 match r with
 | .ok (.ret u)=>CE outer P w H s Q u s'
 | .ok _=>False
 | .error e=>CX outer H s E e s'
structure FnOk (P:Program) (w:World) (K:PySem.W.Frag) (mg:Str->Option Value) (base:Heap) (CX:CXT) (k:Nat) (f:Addr) (fd:FuncData) (ps:List Str) (sp:Sp):Prop where
 len:∀ vs H Q E,sp vs H Q E->vs.length=ps.length
 run:∀ (A:Around) (outer:List Env) (s:Shared) (H:Hp) (args:Args) (us:List Value) (vs:List V) (Q:VK) (E:XK),Room k A->Env0 P w K mg base A outer s H->BindsTo s fd args (ps.zip us)->Vals vs us->sp vs H Q E->
  codeAny (model P w) A (.call (.ref f) args) (CR CX outer P w H s Q E) s
theorem FnOk.mono{P:Program}{w:World}{K:PySem.W.Frag}{mg:Str->Option Value}{base:Heap}{CX:CXT}{j k:Nat}{f:Addr}{fd:FuncData}{ps:List Str}{sp:Sp}(F:FnOk P w K mg base CX j f fd ps sp)(h:j≤k):
  FnOk P w K mg base CX k f fd ps sp:=⟨F.len,fun A outer s H args us vs Q E hr=>F.run A outer s H args us vs Q E (hr.mono h)⟩
theorem FnOk.imp{P:Program}{w:World}{K:PySem.W.Frag}{mg:Str->Option Value}{base:Heap}{CX:CXT}{k:Nat}{f:Addr}{fd:FuncData}{ps:List Str}{sp sp':Sp}(F:FnOk P w K mg base CX k f fd ps sp)
  (h:∀ vs H Q E,sp' vs H Q E->sp vs H Q E):FnOk P w K mg base CX k f fd ps sp':=
 ⟨fun vs H Q E q=>F.len vs H Q E (h _ _ _ _ q),fun A outer s H args us vs Q E hr he hb hv hs=>F.run A outer s H args us vs Q E hr he hb hv (h _ _ _ _ hs)⟩
theorem Env0.in1{P:Program}{w:World}{K:PySem.W.Frag}{mg:Str->Option Value}{base:Heap}{A:Around}{outer:List Env}{s:Shared}{H:Hp}(e:Env0 P w K mg base A outer s H):
  Env0 P w K mg base A.in1 outer s H:=⟨e.frames,e.mod,e.bs,e.bsz,e.funs,e.frf,e.hok,e.bare⟩
section
variable {X:Cx} {pins:List (Addr × Obj)} {σ:St} {H:Hp} {s s':Shared}
theorem Inv.env0(I:Inv X pins σ H s):Env0 X.prog X.w X.K X.mg X.base X.A X.stack s H:=
 ⟨I.ok.frames,I.ok.mod,I.bs,JO I.ok.bsz I.sz,I.stack,I.stkFree,I.hok,I.bare⟩
theorem Inv.after(I:Inv X pins σ H s)(h:CE X.stack X.prog X.w H s Q u s'):EP X pins σ Q u s':=by
 obtain ⟨v,H',os,bare,un,hok,r,q⟩:=h
 obtain ⟨hh,g,d,t,os'⟩:=s'
 obtain rfl:os'=s.os:=os
 exact ⟨v,H',I.call (h':=hh) (g':=g) (d':=d) (t':=t) (ch:=[]) un hok bare (fun b z=>absurd z (by simp)),r,q⟩
end
noncomputable def zdn(sp:Sp)(dvs:List V)(E:XK)(t:TA):TE:=fun σ H Q=>t σ H fun vs H1=>sp (vs++dvs) H1 Q E
noncomputable def Binds(K:PySem.W.Frag)(fd:FuncData)(ps:List Str)(ds:List Value):Prop:=
 ∀ (s:Shared) (us:List Value),K.In s.heap->(us++ds).length=ps.length->BindsTo s fd ⟨us,[]⟩ (ps.zip (us++ds))
theorem Binds.all{K:PySem.W.Frag}{fd:FuncData}{ps:List Str}(h:∀ us:List Value,us.length=ps.length->bindArgs fd ⟨us,[]⟩=pure (ps.zip us)):Binds K fd ps []:=fun s us _ hl=>by
 rw [JS] at hl ⊢
 exact .of_eq (h us hl)
noncomputable def zas(CX:CXT)(X:Cx)(E:XK):Prop:=∀ (pins:List (Addr × Obj)) (σ:St) (H:Hp) (s:Shared) (e:Value) (s':Shared),Inv X pins σ H s->CX X.stack H s E e s'->X.xe e s'
section
variable {X:Cx} {CX:CXT} {k:Nat} {f C:Addr} {fd:FuncData} {ps:List Str} {sp:Sp} {dvs:List V} {ds:List Value} {E:XK} {x m:Str} {p pos apos:Pos} {e o:Expr} {es:List Expr} {ta:TE} {t:TA}
theorem zga(F:FnOk X.prog X.w X.K X.mg X.base CX k f fd ps sp)(hr:Room k X.A)(hb:Binds X.K fd ps ds)(hd:Vals dvs ds)(hx:zas CX X E)
  (I:Inv X pins σ H s)(r:Vals vs us)(h:sp (vs++dvs) H Q E):wpAny (model X.prog X.w) X.A (call (.ref f) us) (EP X pins σ Q) X.xe s:=by
 have r2:Vals (vs++dvs) (us++ds):=r.append hd
 have hl:(us++ds).length=ps.length:=by rw [← r2.length];exact F.len _ _ _ _ h
 refine wpAny_call (codeAny_mono (F.run X.A X.stack s H ⟨us,[]⟩ (us++ds) (vs++dvs) Q E hr I.env0 (hb s us I.kIn hl) r2 h) fun r s' hq=>?_)
 cases r with
 | error e=>exact hx pins σ H s e s' I hq
 | ok fl=>
  cases fl with
  | ret u=>exact I.after hq
  | next=>exact False.elim hq
  | brk=>exact False.elim hq
  | cont=>exact False.elim hq
theorem ziH(F:FnOk X.prog X.w X.K X.mg X.base CX k f fd ps sp)(hr:Room k X.A)(hg:Gl X x)(hm:X.mg x=some (.ref f))(hk:PySem.W.keepIn X.K (.ref f)=true)(hb:Binds X.K fd ps ds)(hd:Vals dvs ds)(hx:zas CX X E)
  (ha:PA X (e::es) t)(hdb:(x == ("__debug__":Str))=false:=by decide)(he:starEach (e::es) X.env=(false,eval e X.env)::starEach es X.env:=by rfl)(hpl:(backTo pos (starEach es X.env)).any (·.1)=false:=by rfl):
  PE X (.Call (.Name x p) (e::es) [] pos) (zdn sp dvs E t):=by
 intro pins s σ H Q I h
 refine wpAny_Call_Name_kw (qq I hg hm ?_ hdb)
 refine PySem.W.callWith_K (h₀:=X.base) I.ok.mod.kin hk (thn (ha pos pins s σ H _ I h) fun us s1 ⟨vs,H1,I1,r,q⟩=>⟨I1.kIn,?_⟩) he hpl
 exact zga F hr hb hd hx I1 r q
theorem zgv(F:FnOk X.prog X.w X.K X.mg X.base CX k f fd ps sp)(hr:Room k X.A)(hg:Gl X x)(hm:X.mg x=some (.ref f))(hk:PySem.W.keepIn X.K (.ref f)=true)(hb:Binds X.K fd ps ds)(hd:Vals dvs ds)(hx:zas CX X E)
  (hdb:(x == ("__debug__":Str))=false:=by decide):PE X (.Call (.Name x p) [] [] pos) (zdn sp dvs E zfK):=by
 intro pins s σ H Q I h
 refine wpAny_Call_Name_kw (qq I hg hm ?_ hdb)
 exact PySem.W.callWith_K0 I.kIn hk (zga (us:=[]) F hr hb hd hx I .nil h)
structure Mk (K:PySem.W.Frag) (C f:Addr):Prop where
 makes:PySem.W.makesIn K C=true
 init:PySem.W.findIn K (.ref C) "__init__"=some (some (.ref f))
 fn:PySem.W.isFn K (.ref f)=true
 kp:PySem.W.keepIn K (.ref C)=true
end
section
variable {X:Cx} {CX:CXT} {k:Nat} {f C:Addr} {fd:FuncData} {ps ks:List Str} {sp:Sp} {E:XK} {x m:Str} {p pos apos kpos:Pos} {e o:Expr} {es:List Expr} {kws:List Keyword} {te ta:TE} {t tk:TA} {nm:Option Str}
structure KBinds (K:PySem.W.Frag) (fd:FuncData) (ps ks:List Str) (g:List Value->List Value->List Value) (gV:List V->List V->List V):Prop where
 to:∀ (s:Shared) (us ws:List Value),K.In s.heap->(g us ws).length=ps.length->BindsTo s fd ⟨us,ks.zip ws⟩ (ps.zip (g us ws))
 rel:∀ {vs:List V} {us:List Value} {zs:List V} {ws:List Value},Vals vs us->Vals zs ws->Vals (gV vs zs) (g us ws)
variable {g:List Value->List Value->List Value} {gV:List V->List V->List V}
end
structure FnScope (N P:List Str) (sc:Scope):Prop where
 kind:sc.kind=.function
 co:sc.isCoroutine=false
 gen:sc.isGenerator=false
 nd:N.Nodup
 pre:N.take P.length=P
 par:∀ x ∈ P,sc.names.lookup x=some .local∨sc.names.lookup x=some .cell
 nofree:∀ y ∈ sc.names,y.2≠.free
theorem qK{kindOf:Str->Option NameKind}{x:Str}:∀ {binds:List (Str × Value)} {m:Str->Option Value},(∀ v,(x,v) ∉ binds)->bindL kindOf binds m x=m x
 | [],_,_=>rfl
 | (n,v)::r,m,h=>by
  unfold bindL
  rw [qK fun w hw=>h w (Jg _ hw)]
  split
  ·have:x≠n:=by rintro rfl;exact h v Jf
   simp [this]
  ·rfl
theorem qM{kindOf:Str->Option NameKind}{x:Str}:∀ {binds:List (Str × Value)} {m:Str->Option Value},(∀ v,(x,v) ∉ binds)->bindC kindOf binds m x=m x
 | [],_,_=>rfl
 | (n,v)::r,m,h=>by
  unfold bindC
  rw [qM fun w hw=>h w (Jg _ hw)]
  split
  ·rfl
  ·have:x≠n:=by rintro rfl;exact h v Jf
   simp [this]
theorem qL{kindOf:Str->Option NameKind}{x:Str}{v:Value}:∀ {P:List Str} {vs:List Value} {i:Nat} {m:Str->Option Value},P.Nodup->P[i]?=some x->vs[i]?=some v->kindOf x=some .local->
  bindL kindOf (P.zip vs) m x=some v
 | [],_,_,_,_,h,_,_=>by simp at h
 | _::_,[],_,_,_,_,h,_=>by simp at h
 | p::P,w::vs,0,m,nd,h1,h2,hk=>by
  simp at h1 h2;subst h1;subst h2
  show bindL kindOf ((p,w)::P.zip vs) m p=_
  unfold bindL
  rw [qK fun v hv=>(Kh.mp nd).1 (List.of_mem_zip hv).1,if_pos hk]
  simp
 | p::P,w::vs,i+1,m,nd,h1,h2,hk=>by
  show bindL kindOf ((p,w)::P.zip vs) m x=_
  unfold bindL
  exact qL (i:=i) (List.nodup_cons.mp nd).2 (by simpa using h1) (by simpa using h2) hk
theorem qN{kindOf:Str->Option NameKind}{x:Str}{v:Value}:∀ {P:List Str} {vs:List Value} {i:Nat} {m:Str->Option Value},P.Nodup->P[i]?=some x->vs[i]?=some v->kindOf x≠some .local->
  bindC kindOf (P.zip vs) m x=some v
 | [],_,_,_,_,h,_,_=>by simp at h
 | _::_,[],_,_,_,_,h,_=>by simp at h
 | p::P,w::vs,0,m,nd,h1,h2,hk=>by
  simp at h1 h2;subst h1;subst h2
  show bindC kindOf ((p,w)::P.zip vs) m p=_
  unfold bindC
  rw [qM fun v hv=>(Kh.mp nd).1 (List.of_mem_zip hv).1,if_neg hk]
  simp
 | p::P,w::vs,i+1,m,nd,h1,h2,hk=>by
  show bindC kindOf ((p,w)::P.zip vs) m x=_
  unfold bindC
  exact qN (i:=i) (List.nodup_cons.mp nd).2 (by simpa using h1) (by simpa using h2) hk
noncomputable def start(N:List Str)(vs:List V):St:=vs.map some++List.replicate (N.length - vs.length) none
noncomputable def zcP(CX:CXT)(P:Program)(w:World)(K:PySem.W.Frag)(mg:Str->Option Value)(base:Heap)(N:List Str)(qual:Str)(scope:Scope)(f:Addr)(cd:Value)(A:Around)(outer:List Env)(s:Shared)(H:Hp)(E:XK):Cx where
 prog:=P
 w:=w
 K:=K
 mg:=mg
 base:=base
 A:=A.deeper (envOfC qual scope s.heap.objs.size f cd)
 N:=N
 s₀:=s
 H₀:=H
 env:=envOfC qual scope s.heap.objs.size f cd
 outer:=outer
 stack:=envOfC qual scope s.heap.objs.size f cd::outer
 ex:=[]
 calm:=true
 fn:=fun _=>true
 pn:=[]
 xe:=fun e s'=>wpAny (model P w) (A.deeper (envOfC qual scope s.heap.objs.size f cd)) (leaving (envOfC qual scope s.heap.objs.size f cd) e) (fun _ s''=>CX outer H s E e s'') (fun e' s''=>CX outer H s E e' s'') s'
theorem zbK{sc:Scope}(h:sc.names.lookup x=some .cell):∃ c,(cellsFrom n sc.names []).lookup x=some c:=by
 have q:=PySem.W.cellsFrom_some sc.names n [] (.inl h)
 exact Option.isSome_iff_exists.mp q
theorem zeN{CX:CXT}{P:Program}{w:World}{K:PySem.W.Frag}{mg:Str->Option Value}{base:Heap}{N ps:List Str}{qual:Str}{scope:Scope}{f:Addr}{cd:Value}{A:Around}{outer:List Env}{s s1:Shared}{H:Hp}{E:XK}{us:List Value}{vs:List V}
  (S:FnScope N ps scope)(hd:A.handled=none)(e0:Env0 P w K mg base A outer s H)(hl:vs.length=ps.length)(r:Vals vs us)
  (x:InCallC s s.heap.objs.size (bindL (envOfC qual scope s.heap.objs.size f cd).kindOf (ps.zip us) fun _=>none) (cellsFrom (s.heap.objs.size+1) scope.names []) (bindC (envOfC qual scope s.heap.objs.size f cd).kindOf (ps.zip us) fun _=>none) s1):
  Inv (zcP CX P w K mg base N qual scope f cd A outer s H E) [] (start N vs) H s1:=by
 have hpl:ps.length≤N.length:=by have:=congrArg List.length S.pre;rw [JW] at this;omega
 obtain ⟨h1,tk,rfl,hk⟩:=x.done
 have noA:∀ b:Addr,b ∉ (zcP CX P w K mg base N qual scope f cd A outer s H E).ex:=fun b z=>absurd (show b ∈ ([]:List Addr) from z) (by simp)
 refine ⟨⟨e0.mod,S.kind,rfl,rfl,Jj _,fun y z c h1 h2=>?_,fun y hy=>?_,fun y c _ h=>?_,fun _=>hd,Around.frames_deeper e0.frames,.inr ⟨rfl,rfl⟩,fun b z=>absurd z (noA b),e0.bs,e0.bsz,fun b _ _=>noA b,fun b z=>absurd z (noA b),e0.funs,e0.frf⟩,
  rfl,e0.bare,Un.kept hk,⟨_,x.toInCall.ns,fun i y v h1 h2 h3=>?_⟩,fun y c h=>⟨_,x.cell y c h⟩,e0.hok.fresh (Nat.le_refl _),fun y c h=>?_,fun p hp=>absurd (show p ∈ ([]:List (Addr × Obj)) from hp) (by simp),e0.hok.kept hk,?_⟩
 ·exact name_of_addr x.apart (Qp h1) (Qp h2)
 ·have hy:scope.names.lookup y=some .cell∨scope.names.lookup y=some .free:=hy
  rcases hy with hy | hy
  ·exact zbK hy
  ·exact absurd rfl (S.nofree _ (Qp hy))
 ·exact Nat.le_of_lt (x.above y c (Qp h))
 ·have hi:i<vs.length:=by
   unfold start at h2
   by_cases hi:i<vs.length
   ·exact hi
   ·rw [List.getElem?_append_right (by simpa using hi)] at h2
    rw [List.getElem?_replicate] at h2
    split at h2<;>cases h2
  have ha:vs[i]?=some v:=by
   unfold start at h2
   rw [List.getElem?_append_left (by simpa using hi),List.getElem?_map] at h2
   cases e:vs[i]? with
   | none=>rw [e] at h2;cases h2
   | some a=>rw [e] at h2;cases h2;rfl
  obtain ⟨u,hu,rv⟩:=r.get ha
  have hp:ps[i]?=some y:=by
   rw [← S.pre,List.getElem?_take_of_lt (by omega)];exact h1
  have ndP:ps.Nodup:=by rw [← S.pre];exact S.nd.sublist (List.take_sublist _ _)
  refine ⟨u,rv,?_⟩
  rcases S.par y (List.mem_of_getElem? hp) with k | k
  ·exact .inl ⟨k,qL ndP hp hu k⟩
  ·obtain ⟨c,e⟩:=zbK (n:=s.heap.objs.size+1) k
   refine .inr ⟨.inl k,c,e,?_⟩
   have q:=x.cell y c e
   rw [qN ndP hp hu (by show scope.names.lookup y≠_;rw [k];decide)] at q
   exact q
 ·exact e0.hok.fresh (Nat.le_of_lt (x.above y c (Qp h)))
 ·unfold start
  show _=N.length
  rw [Jh,Je,List.length_replicate]
  omega
theorem znC{CX:CXT}{P:Program}{w:World}{K:PySem.W.Frag}{mg:Str->Option Value}{base:Heap}{k:Nat}{f:Addr}{name qual:Str}{params:Arguments}{body:List Stmt}{scope:Scope}{dV kV doc pm cdv ct oc:Value}{an od:Option Addr}{osl:Array (Option Value)}{N ps:List Str}{sp:Sp}(lk:K.lookup f=some ⟨oc,od,.func (PySem.W.fnOf name qual params body scope dV kV doc pm an cdv ct),osl⟩)(hcd:PySem.W.codeIn K cdv qual=true)(S:FnScope N ps scope)(len:∀ vs H Q E,sp vs H Q E->vs.length=ps.length)(hbody:∀ (A:Around) (outer:List Env) (s:Shared) (H:Hp) (vs:List V) (Q:VK) (E:XK),Room k (A.deeper (envOfC qual scope s.heap.objs.size f cdv))->sp vs H Q E->
 ∃ t,PSs (zcP CX P w K mg base N qual scope f cdv A outer s H E) body t/\t { nx:=fun _ H'=>Q .non H',rt:=Q } (start N vs) H):
 FnOk P w K mg base CX (k+1) f (PySem.W.fnOf name qual params body scope dV kV doc pm an cdv ct) ps sp:=by
 refine ⟨len,fun A outer s H args us vs Q E hr e0 hb r hsp=>?_⟩
 have hl:=len _ _ _ _ hsp
 have KX:K.In s.heap:=e0.mod.kin.keeps fun b o e=>(e0.bs b o e).1
 have lim:s.heap.NoLimit:=e0.mod.nolimit.keeps fun b o e=>(e0.bs b o e).1
 have hkind:∀ y ∈ ps.zip us,scope.names.lookup y.1=some .local∨(scope.names.lookup y.1=some .cell/\((cellsFrom (s.heap.objs.size+1) scope.names []).lookup y.1).isSome=true):=fun ⟨n,v⟩ hy=>by
  rcases S.par n (List.of_mem_zip hy).1 with q | q
  ·exact .inl q
  ·exact .inr ⟨q,PySem.W.cellsFrom_some _ _ _ (.inl q)⟩
 refine codeAny_call_function hr.depth (KX _ _ lk) rfl S.co S.gen rfl (PySem.W.codeRec_of KX hcd) (hb _ _ _ _ ?_)
 refine wpAny_newFunctionEnv_cells S.kind hkind fun env he s1 x=>?_
 subst he
 refine ⟨lim.keeps x.toInCall.keep,codeAny_func ?_⟩
 obtain ⟨t,ht,hq⟩:=hbody A outer s H vs Q E (hr.deeper _) hsp
 have I:Inv (zcP CX P w K mg base N qual scope f cdv A outer s H E) [] (start N vs) H s1:=zeN S hr.hd e0 hl r x
 refine wpAny_mono (ht [] s1 (start N vs) H _ I hq) (fun fl s' hs=>?_) fun e s' hs=>hs
 have fin:∀ {σ':St} {H':Hp} {v:V} {u:Value},Inv (zcP CX P w K mg base N qual scope f cdv A outer s H E) [] σ' H' s'->RelV v u->Q v H'->CE outer P w H s Q u s':=
  fun {σ' H' v u} J rv q=>⟨v,H',J.os,J.bare,J.base,J.hok,rv,q⟩
 cases fl with
 | ret u=>
  obtain ⟨v,σ',H',J,rv,q⟩:=hs
  exact fin J rv q
 | next=>
  obtain ⟨σ',H',J,q⟩:=hs
  exact fin (v:=V.non) (u:=Value.none) J rfl q
 | brk=>
  obtain ⟨_,_,_,q⟩:=hs
  exact False.elim q
 | cont=>
  obtain ⟨_,_,_,q⟩:=hs
  exact False.elim q
section
variable {X:Cx} {x:Str} {p pos:Pos} {e:Expr} {es:List Expr} {t:TA} {id T:String} {r:List V->Hp->VK->Prop}
noncomputable def tCB(r:List V->Hp->VK->Prop)(t:TA):TE:=fun σ H Q=>t σ H fun vs H1=>r vs H1 Q
theorem zgu(hc:CallR X (.builtin id) r)(hg:Gl X x)(hm:X.mg x=none)(hv:bootBuiltins x=some (.builtin id))(ha:PA X (e::es) t)(hn:x≠"__name__":=by decide)(hdb:(x == ("__debug__":Str))=false:=by decide)
  (he:starEach (e::es) X.env=(false,eval e X.env)::starEach es X.env:=by rfl)(hpl:(backTo pos (starEach es X.env)).any (·.1)=false:=by rfl):PE X (.Call (.Name x p) (e::es) [] pos) (tCB r t):=by
 intro pins s σ H Q I h
 refine wpAny_Call_Name_kw (wj I hg hm hv ?_ hn hdb)
 exact Qw (thn (ha pos pins s σ H _ I h) fun us s1 ⟨vs,H1,I1,r1,q1⟩=>hc pins s1 σ H1 vs us Q I1 r1 q1) he hpl
theorem zeB(hc:CallR X (.type T) r)(hg:Gl X x)(hm:X.mg x=none)(hv:bootBuiltins x=some (.type T))(ha:PA X (e::es) t)(hn:x≠"__name__":=by decide)(hdb:(x == ("__debug__":Str))=false:=by decide)
  (he:starEach (e::es) X.env=(false,eval e X.env)::starEach es X.env:=by rfl)(hpl:(backTo pos (starEach es X.env)).any (·.1)=false:=by rfl):PE X (.Call (.Name x p) (e::es) [] pos) (tCB r t):=by
 intro pins s σ H Q I h
 refine wpAny_Call_Name_kw (wj I hg hm hv ?_ hn hdb)
 exact Qe (thn (ha pos pins s σ H _ I h) fun us s1 ⟨vs,H1,I1,r1,q1⟩=>hc pins s1 σ H1 vs us Q I1 r1 q1) he hpl
end
end L2
namespace HT
open PySem PyProof.Rows
section
variable {prog:Program} {w:World} {A:Around} {E:Value->Shared->Prop} {s:Shared}
theorem cat_tup{vs ws:List Value}{Q:Value->Shared->Prop}(ht:IsTup s.heap t vs.toArray)(hb:IsTup s.heap b ws.toArray)(hv:vs≠[])
  (h1:ws=[]->Q (.ref t) s)(h2:ws≠[]->Q (.ref s.heap.objs.size) { s with heap:=s.heap.push { cls:=.type "tuple",data:=.seq (vs++ws).toArray } })
  (hsz:vs.length+ws.length≤sizeLine):wpAny (model prog w) A (binaryOp .Add (.ref t) (.ref b)) Q E s:=by
 obtain ⟨⟨cls,dd,data,sl⟩,ho,hc,n,hd⟩:=id ht
 obtain ⟨⟨cls2,dd2,data2,sl2⟩,ho2,hc2,n2,hd2⟩:=id hb
 simp only at hc hd hc2 hd2
 subst hc hd hc2 hd2
 have e:vs.toArray++ws.toArray=(vs++ws).toArray:=by simp
 by_cases hw:ws=[]
 ·exact concat_meets ⟨_,ho,rfl⟩ ⟨_,ho2,rfl⟩ noFill_tuple_add seq_tuple_add PySem.F.slot_tuple_add PySem.F.entry_tuple_add (PySem.F.args_tuple_add_2 _ _)
   (tuple_addW1 t b vs.toArray ws.toArray n n2 dd dd2 sl sl2 (by simpa using hv) (by simp [hw])) ⟨ho,ho2,h1 hw⟩
 ·refine concat_meets ⟨_,ho,rfl⟩ ⟨_,ho2,rfl⟩ noFill_tuple_add seq_tuple_add PySem.F.slot_tuple_add PySem.F.entry_tuple_add (PySem.F.args_tuple_add_2 _ _)
   (tuple_addW2 t b vs.toArray ws.toArray n n2 dd dd2 sl sl2 (by simpa using hv) (by simpa using hw) (by rw [List.size_toArray,List.size_toArray];exact hsz)) ⟨ho,ho2,?_⟩
  rw [e]
  exact h2 hw
noncomputable def sIx(n d:Nat):Option Int->Nat
 | none=>d
 | some v=>if v<0 then (v+(n:Int)).toNat else min v.toNat n
theorem zkD(n d:Nat)(hd:d≤n)(o:Option Int):sIx n d o≤n:=by
 cases o with
 | none=>exact hd
 | some v=>
  show (if v<0 then (v+(n:Int)).toNat else min v.toNat n)≤n
  by_cases hv:v<0
  ·rw [if_pos hv];omega
  ·rw [if_neg hv];exact Nat.min_le_right _ _
theorem zea(v:Int)(n d:Nat):(if v<0 then max (v+(n:Int)) 0 else min v (n:Int))=((sIx n d (some v):Nat):Int):=by
 show (if v<0 then max (v+(n:Int)) 0 else min v (n:Int))=(((if v<0 then (v+(n:Int)).toNat else min v.toNat n):Nat):Int)
 by_cases hv:v<0
 ·simp only [if_pos hv];omega
 ·simp only [if_neg hv];omega
theorem zdc(lo hi:Option Int)(n:Nat):Builtin.Slice.sliceAdjust lo hi 1 (n:Int)=(((sIx n 0 lo:Nat):Int),((sIx n n hi:Nat):Int)):=by
 have h1:¬ ((1:Int)<0):=by omega
 unfold Builtin.Slice.sliceAdjust
 simp only [h1,if_false]
 refine Prod.ext ?_ ?_
 ·cases lo with
  | none=>rfl
  | some v=>exact zea v n 0
 ·cases hi with
  | none=>rfl
  | some v=>exact zea v n n
theorem zco(i j:Nat):Builtin.Slice.slicePlaces (i:Int) (j:Int) 1=j - i:=by
 unfold Builtin.Slice.slicePlaces
 have h1:(1:Int) > 0:=by omega
 simp only [h1,if_true,Int.ediv_one]
 split<;>omega
theorem ji{Q:Option Int->Shared->Prop}(p:IsPart v o)(h:Q o s):wpAny (model prog w) A (Builtin.Slice.slicePartIndex v) Q E s:=by
 cases p with
 | none=>exact slicePart_none h
 | int i t=>exact slicePart_int h
theorem sliceApplied_gen{sl:Addr}{vl vu:Value}{lo hi:Option Int}{n:Nat}{Q:Int × Int × Nat->Shared->Prop}(hs:s.heap.IsSliceOf sl vl vu .none)(pl:IsPart vl lo)(pu:IsPart vu hi)
  (h:Q (((sIx n 0 lo:Nat):Int),1,sIx n n hi - sIx n 0 lo) s):wpAny (model prog w) A (Builtin.Slice.sliceApplied (.ref sl) (pure (n:Int))) Q E s:=by
 obtain ⟨os,hos,hcs,hds⟩:=id hs
 unfold Builtin.Slice.sliceApplied Builtin.Slice.sliceFields
 refine wpAny_bind (wpAny_bind (wpAny_field hos hds (x:=vl) rfl (wpAny_bind (wpAny_field hos hds (x:=vu) rfl (wpAny_bind (wpAny_field hos hds (x:=.none) rfl (wpAny_pure ?_)))))))
 refine wpAny_bind (slicePart_none ?_)
 show wpAny _ _ (if ((1:Int) == 0)=true then _ else _) _ _ s
 rw [if_neg (by decide)]
 refine wpAny_bind (ji pl (wpAny_bind (ji pu (wpAny_bind (wpAny_pure ?_)))))
 show wpAny _ _ (match Builtin.Slice.sliceAdjust lo hi 1 (n:Int) with | (lo,hi)=>pure (lo,(1:Int),Builtin.Slice.slicePlaces lo hi 1)) _ _ s
 rw [zdc lo hi n]
 show wpAny _ _ (pure (((sIx n 0 lo:Nat):Int),(1:Int),Builtin.Slice.slicePlaces ((sIx n 0 lo:Nat):Int) ((sIx n n hi:Nat):Int) 1)) _ _ s
 rw [zco]
 exact wpAny_pure h
theorem zgp(xs:Array Value)(i k:Nat):((List.range k).filterMap fun (m:Nat)=>xs[((i:Int)+(m:Int) * 1).toNat]?).toArray=((xs.toList.drop i).take k).toArray:=by
 have e:(fun (m:Nat)=>xs[((i:Int)+(m:Int) * 1).toNat]?)=fun m=>xs[i+m]?:=by
  funext m
  have:((i:Int)+(m:Int) * 1).toNat=i+m:=by omega
  rw [this]
 rw [e]
 have:=pick_run xs i k
 rw [List.filterMap_map] at this
 have e2:((fun x=>xs[x]?) ∘ fun x=>i+x)=fun m=>xs[i+m]?:=rfl
 rw [e2] at this
 rw [this]
theorem getItem_tuple_cut{t sl:Addr}{items:Array Value}{vl vu:Value}{lo hi:Option Int}{Q:Value->Shared->Prop}(ht:IsTup s.heap t items)(hs:s.heap.IsSliceOf sl vl vu .none)(pl:IsPart vl lo)(pu:IsPart vu hi)
  (hw:¬ (sIx items.size 0 lo=0/\sIx items.size items.size hi=items.size))
  (h:Q (.ref s.heap.objs.size) { s with heap:=s.heap.push { cls:=.type "tuple",data:=.seq ((items.toList.drop (sIx items.size 0 lo)).take (sIx items.size items.size hi - sIx items.size 0 lo)).toArray } })
  (hsz:items.size≤sizeLine):wpAny (model prog w) A (getItem (.ref t) (.ref sl)) Q E s:=by
 have htake:sizeOk (.seq ((items.toList.drop (sIx items.size 0 lo)).take (sIx items.size items.size hi - sIx items.size 0 lo)).toArray):=by
  show ((items.toList.drop (sIx items.size 0 lo)).take (sIx items.size items.size hi - sIx items.size 0 lo)).toArray.size≤sizeLine
  rw [Jv,JW,KL,Jd]
  omega
 have hj:sIx items.size items.size hi≤items.size:=zkD _ _ (Jj _) hi
 obtain ⟨os,hos,hcs,hds⟩:=id hs
 have hTs:s.TypeIs (.ref sl) "slice":=⟨os,hos,hcs⟩
 unfold getItem
 try with_reducible refine wpAny_holding ?_
 first | refine wpAny_bind (wpAny_pure ?_) | skip
 refine wpAny_bind (wpAny_sequenceKey ht.typeIs (by decide) ?_)
 refine wpAny_bind (wpAny_callSpecial?_slot (name:=Str.ofString "__getitem__") ht.typeIs KP
  (wpAny_call_entry KP ht.typeIs entry_tuple_getitem ?_ (args_tuple_getitem _ _)))
 show wpAny _ _ (Builtin.Tuple.tupleItemsOf (.ref t) >>= _) _ _ s
 refine wpAny_bind (tupleItemsOf_ ht ?_)
 refine wpAny_bind (wpAny_typeOf hTs ?_)
 rw [if_pos (by decide)]
 refine wpAny_bind (sliceApplied_gen hs pl pu ?_)
 have hno:¬ ((((sIx items.size 0 lo:Nat):Int) == 0 && (1:Int) == 1 && (sIx items.size items.size hi - sIx items.size 0 lo) == items.size)=true):=by
  intro q
  rw [JR,JR] at q
  have q1:((sIx items.size 0 lo:Nat):Int)=0:=eq_of_beq q.1.1
  have q2:sIx items.size items.size hi - sIx items.size 0 lo=items.size:=eq_of_beq q.2
  exact hw ⟨by omega,by omega⟩
 show wpAny _ _ (if (((sIx items.size 0 lo:Nat):Int) == 0 && (1:Int) == 1 && (sIx items.size items.size hi - sIx items.size 0 lo) == items.size)=true then _ else _) _ _ s
 rw [if_neg hno,zgp]
 first
  | exact wpAny_bind (m:=Builtin.Tuple.tupleExact _) (wpAny_newObj_type (wpAny_pure ⟨_,rfl,wpAny_pure h⟩) htake)
  | exact wpAny_bind (m:=Builtin.Tuple.tupleExact _) (wpAny_newObj_type (wpAny_bind (wpAny_pure (wpAny_pure ⟨_,rfl,wpAny_pure h⟩))) htake)
  | exact wpAny_bind (wpAny_bind (m:=Builtin.Tuple.tupleExact _) (wpAny_newObj_type (wpAny_pure (wpAny_pure ⟨_,rfl,wpAny_pure h⟩)) htake))
  | exact wpAny_bind (wpAny_bind (m:=Builtin.Tuple.tupleExact _) (wpAny_newObj_type (wpAny_pure ⟨_,rfl,wpAny_pure h⟩) htake))
end
end HT
namespace L2
open PySem PySem.Spec PyProof.Rows
noncomputable abbrev TO:=St->Hp->(Option Int->Hp->Prop)->Prop
noncomputable def PO(X:Cx)(e:Option Expr)(t:TO):Prop:=
 ∀ (pins:List (Addr × Obj)) (s:Shared) (σ:St) (H:Hp) (Q:Option Int->Hp->Prop),Inv X pins σ H s->t σ H Q->
  wpAny (model X.prog X.w) X.A (evalPart e X.env) (fun u s'=>∃ o H',Inv X pins σ H' s'/\IsPart u o/\Q o H') X.xe s
noncomputable def zik:TO:=fun _ H Q=>Q none H
noncomputable def zmt(t:TE):TO:=fun σ H Q=>t σ H fun x H1=>∃ i,x=.int i/\Q (some i) H1
theorem zcJ{ns:List Int}:∀ {us:List Value},Vals (ns.map V.int) us->IntsAre us ns:=by
 induction ns with
 | nil=>intro us r;rw [List.map_nil] at r;cases r;exact .nil
 | cons n ns ih=>
  intro us r
  rw [Jm] at r
  cases r with
  | cons r1 r2=>
   obtain ⟨t,e⟩:=r1
   subst e
   exact .cons n t (ih r2)
section
variable {X:Cx} {e:Expr} {te:TE} {lo hi:Option Expr} {tl th:TO} {pos p2:Pos}
theorem ziC:PO X none zik:=by
 intro pins s σ H Q I h
 rw [evalPart_none]
 exact wpAny_pure ⟨none,H,I,.none,h⟩
theorem ziB(h:PE X e te):PO X (some e) (zmt te):=by
 intro pins s σ H Q I hw
 rw [evalPart_some]
 refine thn (h pins s σ H _ I hw) fun u s1 ⟨x,H1,I1,r1,q1⟩=>?_
 obtain ⟨i,rfl,q⟩:=q1
 obtain ⟨t,rfl⟩:=r1
 exact ⟨some i,H1,I1,.int i t,q⟩
noncomputable def SlR(X:Cx)(r:V->Option Int->Option Int->Hp->VK->Prop):Prop:=
 ∀ (pins:List (Addr × Obj)) (s:Shared) (σ:St) (H:Hp) (x:V) (v vl vu:Value) (lo hi:Option Int) (sl:Addr) (Q:VK),Inv X pins σ H s->RelV x v->s.heap.IsSliceOf sl vl vu .none->IsPart vl lo->IsPart vu hi->r x lo hi H Q->
  ∃ T id,typeLookup (.type T) "__getitem__"=pure (some (.builtin id))/\s.TypeIs v T/\wpAny (model X.prog X.w) X.A (getItem v (.ref sl)) (EP X pins σ Q) X.xe s
theorem SlR.or{r r':V->Option Int->Option Int->Hp->VK->Prop}(h:SlR X r)(h':SlR X r'):SlR X (fun x lo hi H Q=>r x lo hi H Q∨r' x lo hi H Q):=by
 intro pins s σ H x v vl vu lo hi sl Q I rx hs pl pu q
 rcases q with q | q
 ·exact h pins s σ H x v vl vu lo hi sl Q I rx hs pl pu q
 ·exact h' pins s σ H x v vl vu lo hi sl Q I rx hs pl pu q
noncomputable def tSl(r:V->Option Int->Option Int->Hp->VK->Prop)(te:TE)(tl th:TO):TE:=fun σ H Q=>te σ H fun x H1=>tl σ H1 fun l H2=>th σ H2 fun u H3=>r x l u H3 Q
theorem zgr{r:V->Option Int->Option Int->Hp->VK->Prop}(hr:SlR X r)(he:PE X e te)(hl:PO X lo tl)(hu:PO X hi th):PE X (.Subscript e (.Slice lo hi none p2) pos) (tSl r te tl th):=by
 intro pins s σ H Q I h
 refine Subscript_ (thn (he pins s σ H _ I h) fun v s1 hq_=>?_)
 obtain ⟨x,H1,I1,r1,q1⟩:=hq_
 refine wpAny_Slice (thn (hl pins s1 σ H1 _ I1 q1) fun vl s2 ⟨l,H2,I2,pl,q2⟩=>thn (hu pins s2 σ H2 _ I2 q2) fun vu s3 ⟨u,H3,I3,pu,q3⟩=>?_)
 rw [evalPart_none]
 refine wpAny_pure ?_
 have I4:Inv X pins σ H3 { s3 with heap:=s3.heap.push { cls:=.type "slice",data:=.fields #[vl,vu,.none] } }:=I3.kept (t':=s3.toks) fun b ob q=>Heap.get?_push_of_some _ q
 obtain ⟨T,id,hT,ht,hg⟩:=hr pins { s3 with heap:=s3.heap.push { cls:=.type "slice",data:=.fields #[vl,vu,.none] } } σ H3 x v vl vu l u s3.heap.objs.size Q I4 r1 (Heap.IsSliceOf.new ..) pl pu q3
 show wpAny (model X.prog X.w) X.A (subscriptTail e (.Slice lo hi none p2) v (.ref s3.heap.objs.size)) (EP X pins σ Q) X.xe { s3 with heap:=s3.heap.push { cls:=.type "slice",data:=.fields #[vl,vu,.none] } }
 exact tail_any (ops:=[.ref s3.heap.objs.size,v]) ht hT hg (by with_unfolding_all rfl)
noncomputable def kN(xs:List V)(lo hi:Option Int):List V:=(xs.drop (HT.sIx xs.length 0 lo)).take (HT.sIx xs.length xs.length hi - HT.sIx xs.length 0 lo)
theorem jJ(xs:List V)(lo hi:Option Int):(kN xs lo hi).length≤xs.length:=by
 unfold kN
 rw [JW,KL]
 exact JO (Nat.min_le_right _ _) (Nat.sub_le _ _)
noncomputable def zoz(K:PySem.W.Frag):V->Option Int->Option Int->Hp->VK->Prop:=fun x lo hi H Q=>∃ a xs,x=.ref a/\SqT K H a xs/\
 ¬ (HT.sIx xs.length 0 lo=0/\HT.sIx xs.length xs.length hi=xs.length)/\∀ p,H p=none->Q (.ref p) (upd H p (.tup (kN xs lo hi)))
theorem zkC:SlR X (zoz X.K):=by
 intro pins s σ H x v vl vu lo hi sl Q I rx hs pl pu h
 obtain ⟨a,xs,rfl,hx,hw,q⟩:=h
 cases rx
 obtain ⟨its,r,ht,hz⟩:=I.tuple hx
 have hlen:its.toArray.size=xs.length:=by rw [Jv];exact r.length.symm
 refine ⟨"tuple",_,PyProof.Rows.slot_tuple_getitem.lookup,ht.typeIs,?_⟩
 refine HT.getItem_tuple_cut ht hs pl pu (by rw [hlen];exact hw) ?_ (by rw [hlen];exact hz)
 rw [hlen]
 refine ⟨.ref s.heap.objs.size,_,I.laid (t':=s.toks) (o:=.tup (kN xs lo hi)) (fun b ob q=>Jc _ q) (Jj _) ?_,rfl,q _ (I.hok.fresh (Jj _))⟩
 exact ⟨JO (jJ xs lo hi) hz,_,(r.drop (HT.sIx xs.length 0 lo)).take (HT.sIx xs.length xs.length hi - HT.sIx xs.length 0 lo),IsTup.new _ _⟩
noncomputable def zgf(K:PySem.W.Frag):R2:=fun x y H Q=>∃ a b xs ys,x=.ref a/\y=.ref b/\SqT K H a xs/\SqT K H b ys/\xs≠[]/\xs.length+ys.length≤sizeLine/\
 (ys=[]->Q (.ref a) H)/\(ys≠[]->∀ p,H p=none->Q (.ref p) (upd H p (.tup (xs++ys))))
theorem Vals.nil_iff(r:Vals xs us):us=[] ↔ xs=[]:=by
 cases r with
 | nil=>simp
 | cons _ _=>simp
theorem op_catT:OpR X (binaryOp .Add) (zgf X.K):=by
 intro pins s σ H x y v u Q I rx ry h
 obtain ⟨a,b,xs,ys,rfl,rfl,ha,hb,hx,hz,q1,q2⟩:=h
 cases rx
 cases ry
 obtain ⟨its,r1,p1,_⟩:=I.tuple ha
 obtain ⟨its2,r2,p2,_⟩:=I.tuple hb
 refine HT.cat_tup p1 p2 (fun z=>hx (r1.nil_iff.mp z)) (fun z=>⟨.ref a,H,I,rfl,q1 (r2.nil_iff.mp z)⟩) (fun z=>?_) (by rw [← r1.length,← r2.length];exact hz)
 refine ⟨.ref s.heap.objs.size,_,I.laid (t':=s.toks) (o:=.tup (xs++ys)) (fun b ob q=>Jc _ q) (Jj _) ?_,rfl,q2 (fun w=>z (r2.nil_iff.mpr w)) _ (I.hok.fresh (Jj _))⟩
 exact ⟨by rw [Jh];exact hz,_,r1.append r2,IsTup.new _ _⟩
end
noncomputable def ixN(n:Nat)(i:Int):Option Nat:=if 0≤i then (if i<n then some i.toNat else none) else if -(n:Int)≤i then some (i+n).toNat else none
noncomputable def atI{α:Type}(xs:List α)(i:Int):Option α:=(ixN xs.length i).bind fun j=>xs[j]?
theorem zdL(h:ixN n i=some j):seqIndex? i n=some j/\j<n/\-(n:Int)≤i/\i<n:=by
 unfold ixN at h
 by_cases h0:0≤i
 ·rw [if_pos h0] at h
  by_cases h1:i<n
  ·rw [if_pos h1] at h
   have e:i.toNat=j:=Js h
   exact ⟨by rw [seqIndex_of h0 h1,e],by omega,by omega,h1⟩
  ·rw [if_neg h1] at h;cases h
 ·rw [if_neg h0] at h
  by_cases h1 : -(n:Int)≤i
  ·rw [if_pos h1] at h
   have e:(i+n).toNat=j:=Js h
   exact ⟨by rw [seqIndex_neg (by omega) h1,e],by omega,h1,by omega⟩
  ·rw [if_neg h1] at h;cases h
theorem zan{α:Type}{xs:List α}{i:Int}{v:α}(h:atI xs i=some v):∃ j,seqIndex? i xs.length=some j/\xs[j]?=some v/\j<xs.length/\-(xs.length:Int)≤i/\i<xs.length:=by
 unfold atI at h
 cases e:ixN xs.length i with
 | none=>rw [e] at h;cases h
 | some j=>
  rw [e] at h
  obtain ⟨h1,h2,h3,h4⟩:=zdL e
  exact ⟨j,h1,h,h2,h3,h4⟩
noncomputable def zef(b:Expr):Prop:=∀ o i,subscripted b false o i=operate [o,i] (getItem o i)
noncomputable def IxR(X:Cx)(r:R2):Prop:=
 ∀ (value slice:Expr) (pins:List (Addr × Obj)) (s:Shared) (σ:St) (H:Hp) (x y:V) (v u:Value) (Q:VK),Inv X pins σ H s->RelV x v->RelV y u->r x y H Q->
  subscripted slice false v u=operate [v,u] (getItem v u)->wpAny (model X.prog X.w) X.A (subscriptTail value slice v u) (EP X pins σ Q) X.xe s
noncomputable def MtR(X:Cx)(id:String)(r:V->List V->Hp->VK->Prop):Prop:=
 ∀ (pins:List (Addr × Obj)) (s:Shared) (σ:St) (H:Hp) (x:V) (xs:List V) (v:Value) (us:List Value) (Q:VK),Inv X pins σ H s->RelV x v->Vals xs us->r x xs H Q->
  wpAny (model X.prog X.w) X.A (call (.builtin id) (v::us)) (EP X pins σ Q) X.xe s
section
variable {X:Cx} {a b:Expr} {ta tb:TE} {pos:Pos}
theorem IxR.or{r r':R2}(h:IxR X r)(h':IxR X r'):IxR X (fun x y H Q=>r x y H Q∨r' x y H Q):=by
 intro value slice pins s σ H x y v u Q I rx ry q hs
 rcases q with q | q
 ·exact h value slice pins s σ H x y v u Q I rx ry q hs
 ·exact h' value slice pins s σ H x y v u Q I rx ry q hs
theorem MtR.or{id:String}{r r':V->List V->Hp->VK->Prop}(h:MtR X id r)(h':MtR X id r'):MtR X id (fun x xs H Q=>r x xs H Q∨r' x xs H Q):=by
 intro pins s σ H x xs v us Q I rx rs q
 rcases q with q | q
 ·exact h pins s σ H x xs v us Q I rx rs q
 ·exact h' pins s σ H x xs v us Q I rx rs q
theorem zmS(hr:IxR X r)(ha:PE X a ta)(hb:PE X b tb)(hs:zef b):PE X (.Subscript a b pos) (tOp r ta tb):=by
 intro pins s σ H Q I h
 exact Subscript_ (zlK ha hb I h fun v u s2 x y H2 I2 rx ry q=>hr a b pins s2 σ H2 x y v u Q I2 rx ry q (hs _ _))
noncomputable def zmJ(K:PySem.W.Frag):R2:=fun x y H Q=>∃ p xs i v,x=.ref p/\y=.int i/\SqL K H p xs/\atI xs i=some v/\Q v H
noncomputable def zmH(K:PySem.W.Frag):R2:=fun x y H Q=>∃ p xs i v,x=.ref p/\y=.int i/\SqT K H p xs/\atI xs i=some v/\Q v H
noncomputable def zmI:R2:=fun x y H Q=>∃ z i c,x=.str z/\y=.int i/\z.length≤sizeLine/\atI z.cps.toList i=some c/\Q (.str ⟨#[c]⟩) H
theorem ix_list:IxR X (zmJ X.K):=by
 intro value slice pins s σ H x y v u Q I rx ry h hs
 obtain ⟨p,xs,i,z,rfl,rfl,hq,he,q⟩:=h
 cases rx
 obtain ⟨t,rfl⟩:=ry
 obtain ⟨its,r,pl,hz⟩:=I.list hq
 obtain ⟨j,h1,h2,h3,h4,h5⟩:=zan he
 obtain ⟨w,ew,rw'⟩:=r.get h2
 have hl:=r.length
 have hn:=vj
 have fin:EP X pins σ Q w s:=⟨z,H,I,rw',q⟩
 by_cases h0:0≤i
 ·have hj:i.toNat=j:=by
   rw [seqIndex_of h0 h5] at h1
   exact Js h1
  exact item_listR pl.isList h0 (by omega) (by rw [hj];simpa using ew) fin hs
 ·have hj:(i+(its.toArray.size:Int)).toNat=j:=by
   rw [seqIndex_neg (by omega) h4] at h1
   rw [Jv,← hl]
   exact Js h1
  exact subscriptTail_builtinR (x:=w) pl.isList.typeIs slot_list_getitem.lookup
   (wpAny_getItem_list_neg (Q:=fun r s'=>r=w/\EP X pins σ Q r s') pl.isList (by omega) (by rw [List.size_toArray]<;>omega) (by omega) (by rw [hj];simpa using ew) ⟨rfl,fin⟩) hs
theorem ix_tup:IxR X (zmH X.K):=by
 intro value slice pins s σ H x y v u Q I rx ry h hs
 obtain ⟨p,xs,i,z,rfl,rfl,hq,he,q⟩:=h
 cases rx
 obtain ⟨t,rfl⟩:=ry
 obtain ⟨its,r,pl,hz⟩:=I.tuple hq
 obtain ⟨j,h1,h2,h3,h4,h5⟩:=zan he
 obtain ⟨w,ew,rw'⟩:=r.get h2
 have hl:=r.length
 have hn:=vj
 have fin:EP X pins σ Q w s:=⟨z,H,I,rw',q⟩
 exact subscriptTail_builtinR (x:=w) pl.typeIs slot_tuple_getitem.lookup
  (getItem_tuple (j:=j) (Q:=fun r s'=>r=w/\EP X pins σ Q r s') pl (by omega) (by omega) (by rw [List.size_toArray,← hl];exact h1) (by simpa using ew) ⟨rfl,fin⟩) hs
theorem zlx:IxR X zmI:=by
 intro value slice pins s σ H x y v u Q I rx ry h hs
 obtain ⟨z,i,c,rfl,rfl,hz,he,q⟩:=h
 obtain ⟨t,rfl⟩:=rx
 obtain ⟨t',rfl⟩:=ry
 obtain ⟨j,h1,h2,h3,h4,h5⟩:=zan he
 have hl:z.cps.toList.length=z.length:=by simp [Str.length]
 rw [hl] at h1 h4 h5
 have hn:=vj
 exact tail_any (typeIs_str s z t) slot_str_getitem.lookup (getItem_str (c:=c) (by
  have e1:decide (i < -(2 ^ 63:Int))=false:=decide_eq_false (by omega)
  have e2:decide (i ≥ 2 ^ 63)=false:=decide_eq_false (by omega)
  rw [e1,e2,Bool.or_false]) (by rw [h1];simpa using h2) ⟨.str ⟨#[c]⟩,H,I.tok _,⟨_,rfl⟩,q⟩) hs
noncomputable def rIx(K:PySem.W.Frag):R2:=fun x y H Q=>zmJ K x y H Q∨zmH K x y H Q∨zmI x y H Q
theorem zly:IxR X (rIx X.K):=ix_list.or (ix_tup.or zlx)
theorem zcC(its:List Value)(n j:Nat)(u:Value):Obj.mapSeq (·.setIfInBounds j u) { cls:=.type "list",data:=.seq its.toArray n }={ cls:=.type "list",data:=.seq (its.set j u).toArray n }:=by
 simp [Obj.mapSeq]
theorem Inv.lst{pins:List (Addr × Obj)}{σ:St}{H:Hp}{s:Shared}{p:Addr}{xs:List V}(I:Inv X pins σ H s)(h:H p=some (.lst xs)):
  ∃ (its:List Value) (n:Nat),Vals xs its/\s.heap.get? p=some { cls:=.type "list",data:=.seq its.toArray n }/\xs.length≤sizeLine:=by
 obtain ⟨z,its,n,r,e⟩:=I.hok p _ h
 exact ⟨its,n,r,e,z⟩
theorem Inv.lstUpd{H:Hp}{s:Shared}{xs ys:List V}{its its':List Value}(I:Inv X pins σ H s)(h:H p=some (.lst xs))
  (ho:s.heap.get? p=some { cls:=.type "list",data:=.seq its.toArray n })(hf:f { cls:=.type "list",data:=.seq its.toArray n }={ cls:=.type "list",data:=.seq its'.toArray n' })(r:Vals ys its')(hz:ys.length≤sizeLine)(t:Nat):
  Inv X pins σ (upd H p (.lst ys)) { s with heap:=s.heap.update p f,toks:=t }:=by
 have e:(s.heap.update p f).get? p=some { cls:=.type "list",data:=.seq its'.toArray n' }:=by
  rw [JT f ho (by rw [hf]<;>rfl),hf]
 refine I.write (x:=p) (e:=p) (by rw [h];trivial) (.inl rfl) (fun b u hb q=>(KG _ _ (Qt hb)).trans q) ⟨_,e⟩ ?_
 exact ⟨hz,its',n',r,e⟩
noncomputable def zjG:V->V->V->Hp->(Hp->Prop)->Prop:=fun o i v H Q=>∃ p xs k j,o=.ref p/\i=.int k/\H p=some (.lst xs)/\ixN xs.length k=some j/\Q (upd H p (.lst (xs.set j v)))
theorem zfW:znU X zjG:=by
 intro pins s σ H o i v ov iv u Q I ro ri rv h
 obtain ⟨p,xs,k,j,rfl,rfl,hp,hj,q⟩:=h
 cases ro
 obtain ⟨t,rfl⟩:=ri
 obtain ⟨its,n,r,ho,hz⟩:=I.lst hp
 obtain ⟨h1,h2,h3,h4⟩:=zdL hj
 have hl:=r.length
 have hn:=vj
 have I':Inv X pins σ (upd H p (.lst (xs.set j v))) { s with heap:=s.heap.update p (Obj.mapSeq (·.setIfInBounds j u)) }:=
  I.lstUpd hp ho (zcC its n j u) (r.set rv j) (by rw [List.length_set];exact hz) s.toks
 by_cases h0:0≤k
 ·have hk:k.toNat=j:=by
   rw [seqIndex_of h0 h4] at h1
   exact Js h1
  exact PySem.W.ki_setAt ho h0 (by omega) (by rw [Jv,← hl];exact h4) (by rw [hk];exact ⟨_,I',q⟩)
 ·have hk:(k+(its.toArray.size:Int)).toNat=j:=by
   rw [seqIndex_neg (by omega) h3] at h1
   rw [Jv,← hl]
   exact Js h1
  exact PySem.W.ki_setBack ho (by omega) (by rw [Jv,← hl];exact h3) (by omega) (by rw [hk];exact ⟨_,I',q⟩)
theorem qX(lo hi:Option Int)(n:Nat):(sliceBounds lo hi none n).1=((HT.sIx n 0 lo:Nat):Int)/\(sliceBounds lo hi none n).2.1=((HT.sIx n n hi:Nat):Int)/\(sliceBounds lo hi none n).2.2=1:=by
 refine ⟨?_,?_,rfl⟩
 ·cases lo with
  | none=>simp [sliceBounds,HT.sIx]
  | some i=>
   simp only [sliceBounds,HT.sIx,Option.getD_none,show (1:Int) > 0 by decide,if_true]
   by_cases h:i<0
   ·simp only [h,if_true]<;>omega
   ·simp only [h,if_false]<;>omega
 ·cases hi with
  | none=>simp [sliceBounds,HT.sIx]
  | some i=>
   simp only [sliceBounds,HT.sIx,Option.getD_none,show (1:Int) > 0 by decide,if_true]
   by_cases h:i<0
   ·simp only [h,if_true]<;>omega
   ·simp only [h,if_false]<;>omega
theorem kU(its:List Value)(lo hi:Option Int):slicePick its.toArray lo hi none=((its.drop (HT.sIx its.length 0 lo)).take (HT.sIx its.length its.length hi - HT.sIx its.length 0 lo)).toArray:=by
 obtain ⟨h1,h2,h3⟩:=qX lo hi its.toArray.size
 unfold slicePick
 rw [h1,h2,h3]
 simp only [sliceRange_one,pick_run,List.size_toArray]<;>rfl
noncomputable def zoA(K:PySem.W.Frag):V->Option Int->Option Int->Hp->VK->Prop:=fun x lo hi H Q=>∃ a xs,x=.ref a/\SqL K H a xs/\∀ p,H p=none->Q (.ref p) (upd H p (.lst (kN xs lo hi)))
theorem sl_list:SlR X (zoA X.K):=by
 intro pins s σ H x v vl vu lo hi sl Q I rx hs pl pu h
 obtain ⟨a,xs,rfl,hx,q⟩:=h
 cases rx
 obtain ⟨its,r,ht,hz⟩:=I.list hx
 have hlen:=r.length
 refine ⟨"list",_,slot_list_getitem.lookup,ht.isList.typeIs,?_⟩
 refine wpAny_getItem_list_slice ht.isList hs pl pu .none (by simp) ?_ (by rw [List.size_toArray]<;>omega)
 rw [kU,← hlen]
 refine ⟨.ref s.heap.objs.size,_,I.laid (t':=s.toks) (o:=.lst (kN xs lo hi)) (fun b ob q=>Jc _ q) (Jj _) ?_,rfl,q _ (I.hok.fresh (Jj _))⟩
 exact ⟨JO (jJ xs lo hi) hz,_,0,(r.drop (HT.sIx xs.length 0 lo)).take (HT.sIx xs.length xs.length hi - HT.sIx xs.length 0 lo),Jq _ rfl⟩
noncomputable def wT:V->Bool
 | .non=>true
 | .bl _=>true
 | .int _=>true
 | .str _=>true
 | _=>false
noncomputable def eqV:V->V->Bool
 | .non,.non=>true
 | .bl a,.bl b=>a == b
 | .bl a,.int b=>(if a then 1 else 0) == b
 | .int a,.bl b=>a == (if b then 1 else 0)
 | .int a,.int b=>a == b
 | .str a,.str b=>a == b
 | _,_=>false
theorem zlE(ry:RelV y u)(rx:RelV x v)(fy:wT y=true)(fx:wT x=true):SeqAt.EqAt A s u v (eqV y x):=by
 cases y with
 | non=>
  cases ry
  cases x with
  | non=>cases rx;exact SeqAt.EqAt.same _
  | bl b=>cases rx;exact SeqAt.EqAt.none_bool b
  | int b=>obtain ⟨t,rfl⟩:=rx;exact SeqAt.EqAt.none_int b t
  | str b=>obtain ⟨t,rfl⟩:=rx;exact SeqAt.EqAt.none_str b t
  | _=>exact absurd (show false=true from fx) Jk
 | bl a=>
  cases ry
  cases x with
  | non=>cases rx;exact SeqAt.EqAt.bool_none a
  | bl b=>cases rx;exact SeqAt.EqAt.bool_bool a b
  | int b=>obtain ⟨t,rfl⟩:=rx;exact SeqAt.EqAt.bool_int a b t
  | str b=>obtain ⟨t,rfl⟩:=rx;exact SeqAt.EqAt.bool_str a b t
  | _=>exact absurd (show false=true from fx) Jk
 | int a=>
  obtain ⟨t',rfl⟩:=ry
  cases x with
  | non=>cases rx;exact SeqAt.EqAt.int_none a t'
  | bl b=>cases rx;exact SeqAt.EqAt.int_bool a t' b
  | int b=>obtain ⟨t,rfl⟩:=rx;exact SeqAt.EqAt.int_int a t' b t
  | str b=>obtain ⟨t,rfl⟩:=rx;exact SeqAt.EqAt.int_str a t' b t
  | _=>exact absurd (show false=true from fx) Jk
 | str a=>
  obtain ⟨t',rfl⟩:=ry
  cases x with
  | non=>cases rx;exact SeqAt.EqAt.str_none a t'
  | bl b=>cases rx;exact SeqAt.EqAt.str_bool a t' b
  | int b=>obtain ⟨t,rfl⟩:=rx;exact SeqAt.EqAt.str_int a t' b t
  | str b=>obtain ⟨t,rfl⟩:=rx;exact SeqAt.EqAt.str_str a t' b t
  | _=>exact absurd (show false=true from fx) Jk
 | _=>exact absurd (show false=true from fy) Jk
noncomputable def eqU(x:V)(u:Value):Bool:=match u with
 | .none=>eqV .non x
 | .bool b=>eqV (.bl b) x
 | .int i _=>eqV (.int i) x
 | .str z _=>eqV (.str z) x
 | _=>false
theorem zhk(r:RelV y u)(f:wT y=true):eqU x u=eqV y x:=by
 cases y with
 | non=>cases r;rfl
 | bl b=>cases r;rfl
 | int i=>obtain ⟨t,rfl⟩:=r;rfl
 | str z=>obtain ⟨t,rfl⟩:=r;rfl
 | _=>exact absurd (show false=true from f) Jk
theorem ua{x:V}:∀ {xs:List V} {us:List Value},Vals xs us->xs.all wT=true->us.any (eqU x)=xs.any fun y=>eqV y x
 | _,_,.nil,_=>rfl
 | y::xs,u::us,.cons r t,f=>by
  rw [List.all_cons,JR] at f
  rw [KC,KC,zhk r f.1,ua t f.2]
theorem wg{A:Around}{s:Shared}{x:V}{v:Value}(rx:RelV x v)(fx:wT x=true):∀ {xs:List V} {us:List Value},Vals xs us->xs.all wT=true->∀ u ∈ us,SeqAt.EqAt A s u v (eqU x u)
 | _,_,.nil,_=>fun u hu=>by cases hu
 | y::xs,u::us,.cons r t,f=>fun u' hu=>by
  rw [List.all_cons,JR] at f
  rcases List.mem_cons.mp hu with rfl | hu
  ·rw [zhk r f.1];exact zlE r rx f.1 fx
  ·exact wg rx fx t f.2 u' hu
noncomputable def inV(x:V)(xs:List V):Bool:=xs.any fun y=>eqV y x
noncomputable def rIn(K:PySem.W.Frag)(neg:Bool):R2:=fun x y H Q=>∃ p xs,y=.ref p/\(SqL K H p xs∨SqT K H p xs)/\wT x=true/\xs.all wT=true/\Q (.bl (if neg then !inV x xs else inV x xs)) H
theorem zeC:OpR X (compareOp .In) (rIn X.K false):=by
 intro pins s σ H x y v u Q I rx ry h
 obtain ⟨p,xs,rfl,hq,fx,fs,q⟩:=h
 cases ry
 rcases hq with hq | hq
 ·obtain ⟨its,r,pl,hz⟩:=I.list hq
  refine SeqAt.in_listAt (eqU x) pl.isList (fun w hw=>wg rx fx r fs w (by simpa using hw)) ⟨.bl _,H,I,rfl,?_⟩
  rw [show its.toArray.any (eqU x)=its.any (eqU x) by simp,ua r fs]
  exact q
 ·obtain ⟨its,r,pl,hz⟩:=I.tuple hq
  refine SeqAt.in_tupleAt (eqU x) pl (fun w hw=>wg rx fx r fs w (by simpa using hw)) ⟨.bl _,H,I,rfl,?_⟩
  rw [show its.toArray.any (eqU x)=its.any (eqU x) by simp,ua r fs]
  exact q
theorem qg:OpR X (compareOp .NotIn) (rIn X.K true):=by
 intro pins s σ H x y v u Q I rx ry h
 obtain ⟨p,xs,rfl,hq,fx,fs,q⟩:=h
 cases ry
 rcases hq with hq | hq
 ·obtain ⟨its,r,pl,hz⟩:=I.list hq
  refine SeqAt.notIn_listAt (eqU x) pl.isList (fun w hw=>wg rx fx r fs w (by simpa using hw)) ⟨.bl _,H,I,rfl,?_⟩
  rw [show its.toArray.any (eqU x)=its.any (eqU x) by simp,ua r fs]
  exact q
 ·obtain ⟨its,r,pl,hz⟩:=I.tuple hq
  refine SeqAt.notIn_tupleAt (eqU x) pl (fun w hw=>wg rx fx r fs w (by simpa using hw)) ⟨.bl _,H,I,rfl,?_⟩
  rw [show its.toArray.any (eqU x)=its.any (eqU x) by simp,ua r fs]
  exact q
theorem call_len_seq:CallR X (.builtin "len") (fun xs H Q=>∃ p ys,xs=[.ref p]/\(SqL X.K H p ys∨SqT X.K H p ys)/\Q (.int ys.length) H):=by
 intro pins s σ H xs us Q I r h
 obtain ⟨p,ys,rfl,hq,q⟩:=h
 obtain ⟨u,rfl,rx⟩:=kj r
 cases rx
 have hn:=vj
 rcases hq with hq | hq
 ·obtain ⟨its,r',pl,hz⟩:=I.list hq
  have hlen:=r'.length
  exact Calls.call_len_list pl.isList (by simp only [List.size_toArray]<;>omega) ⟨.int ys.length,H,I.tok _,⟨s.toks+1,by rw [List.size_toArray,hlen]⟩,q⟩
 ·obtain ⟨its,r',pl,hz⟩:=I.tuple hq
  have hlen:=r'.length
  exact len_tuple pl (by simp only [List.size_toArray]<;>omega) ⟨.int ys.length,H,I.tok _,⟨s.toks+1,by rw [List.size_toArray,hlen]⟩,q⟩
theorem zah:CallR X (.builtin "len") (fun xs H Q=>∃ z,xs=[.str z]/\z.length≤sizeLine/\Q (.int z.length) H):=by
 intro pins s σ H xs us Q I r h
 obtain ⟨z,rfl,hz,q⟩:=h
 obtain ⟨u,rfl,t,rfl⟩:=kj r
 have hn:=vj
 exact len_str (by omega) ⟨.int z.length,H,I.tok _,⟨_,rfl⟩,q⟩
theorem CallR.or{r r':List V->Hp->VK->Prop}(h:CallR X f r)(h':CallR X f r'):CallR X f (fun xs H Q=>r xs H Q∨r' xs H Q):=by
 intro pins s σ H xs us Q I rs q
 rcases q with q | q
 ·exact h pins s σ H xs us Q I rs q
 ·exact h' pins s σ H xs us Q I rs q
theorem call_list_of:CallR X (.type "list") (fun xs H Q=>∃ p ys,xs=[.ref p]/\(SqL X.K H p ys∨SqT X.K H p ys)/\∀ l,H l=none->Q (.ref l) (upd H l (.lst ys))):=by
 intro pins s σ H xs us Q I r h
 obtain ⟨p,ys,rfl,hq,q⟩:=h
 obtain ⟨u,rfl,rx⟩:=kj r
 cases rx
 have fin:∀ (its:List Value),Vals ys its->ys.length≤sizeLine->∀ (h':Heap) (c':Nat),(∀ b o',s.heap.get? b=some o'->h'.get? b=some o')->
   h'.get? s.heap.objs.size=some { cls:=.type "list",dict:=none,data:=.seq its.toArray c',slots:=#[] }->EP X pins σ Q (.ref s.heap.objs.size) { s with heap:=h' }:=fun its r' hz h' c' kp e=>
  ⟨.ref s.heap.objs.size,_,I.laid (t':=s.toks) kp (Jj _) (show ObjOk X.prog X.w _ h' _ (.lst ys) from ⟨hz,its,c',r',e⟩),rfl,q _ (I.hok.fresh (Jj _))⟩
 rcases hq with hq | hq
 ·obtain ⟨its,r',pl,hz⟩:=I.list hq
  have hlen:=r'.length
  obtain ⟨o,ho,hc,n,hd⟩:=pl.isList
  exact call_list_seq p (.inl rfl) ho hc hd (fun h' c' kp e=>fin its r' hz h' c' kp e) (by simp only [List.size_toArray]<;>omega)
 ·obtain ⟨its,r',pl,hz⟩:=I.tuple hq
  have hlen:=r'.length
  obtain ⟨o,ho,hc,n,hd⟩:=pl
  exact call_list_seq p (.inr rfl) ho hc hd (fun h' c' kp e=>fin its r' hz h' c' kp e) (by simp only [List.size_toArray]<;>omega)
theorem kf:CallR X (.type "tuple") (fun xs H Q=>∃ p ys,xs=[.ref p]/\((SqL X.K H p ys/\∀ l,H l=none->Q (.ref l) (upd H l (.tup ys)))∨(SqT X.K H p ys/\Q (.ref p) H))):=by
 intro pins s σ H xs us Q I r h
 obtain ⟨p,ys,rfl,h⟩:=h
 obtain ⟨u,rfl,rx⟩:=kj r
 cases rx
 rcases h with ⟨hq,q⟩ | ⟨hq,q⟩
 ·obtain ⟨its,r',pl,hz⟩:=I.list hq
  have hlen:=r'.length
  refine call_tuple_list pl.isList (fun h' kp=>?_) (by simp only [List.size_toArray]<;>omega)
  have I1:Inv X pins σ H { s with heap:=h' }:=I.kept (t':=s.toks) kp
  have I2:Inv X pins σ (upd H h'.objs.size (.tup ys)) { s with heap:=h'.push { cls:=.type "tuple",data:=.seq its.toArray } }:=
   I1.laid (t':=s.toks) (fun b o e=>Jc _ e) (Jj _) (show ObjOk X.prog X.w _ _ _ (.tup ys) from ⟨hz,its,r',IsTup.new _ _⟩)
  exact ⟨.ref h'.objs.size,_,I2,rfl,q _ (I1.hok.fresh (Jj _))⟩
 ·obtain ⟨its,r',pl,hz⟩:=I.tuple hq
  exact call_tuple_same pl ⟨.ref p,H,I,rfl,q⟩
noncomputable def tyV(K:PySem.W.Frag)(T:String)(x:V)(H:Hp):Prop:=match x with
 | .str _=>T="str"
 | .int _=>T="int"
 | .ref p=>(T="list"/\∃ xs,SqL K H p xs)∨(T="tuple"/\∃ o,K.lookup p=some o/\o.cls=.type "tuple"/\o.dict=none)∨
   (T="dict"/\((∃ kvs,H p=some (.dK kvs))∨∃ kvs,H p=some (.dT kvs)))∨(T="set"/\∃ S n,H p=some (.set S n))
 | _=>False
theorem zfE{s:Shared}(I:Inv X pins σ H s)(r:RelV x v)(ty:tyV X.K T x H):
  s.TypeIs v T/\∀ a,v=.ref a->∃ ob,s.heap.get? a=some ob/\ob.dict=none:=by
 cases x with
 | str z=>
  obtain ⟨t,rfl⟩:=r
  cases (show T="str" from ty)
  exact ⟨typeIs_str s z t,fun _ e=>nomatch e⟩
 | int i=>
  obtain ⟨t,rfl⟩:=r
  cases (show T="int" from ty)
  exact ⟨typeIs_int s i t,fun _ e=>nomatch e⟩
 | ref p=>
  cases r
  rcases ty with ⟨rfl,xs,hq⟩ | ⟨rfl,o,hk,hc,hd⟩ | ⟨rfl,hk⟩ | ⟨rfl,S,n,hk⟩
  ·obtain ⟨its,_,pl,_⟩:=I.list hq
   refine ⟨pl.isList.typeIs,fun a e=>?_⟩
   cases e
   obtain ⟨o,n,e,c,hd,_⟩:=pl
   exact ⟨o,e,hd⟩
  ·refine ⟨⟨o,I.kIn p o hk,hc⟩,fun a e=>?_⟩
   cases e
   exact ⟨o,I.kIn _ o hk,hd⟩
  ·have z:∃ o,s.heap.get? p=some o/\o.ExactDict:=by
    rcases hk with ⟨kvs,hk⟩ | ⟨kvs,hk⟩
    ·obtain ⟨_,_,_,_,o,_,_,e,ex,_⟩:=I.hok p _ hk
     exact ⟨o,e,ex⟩
    ·obtain ⟨_,_,_,_,o,_,_,e,ex,_⟩:=I.hok p _ hk
     exact ⟨o,e,ex⟩
   obtain ⟨o,e,ex⟩:=z
   refine ⟨⟨o,e,ex.1⟩,fun a e2=>?_⟩
   cases e2
   exact ⟨o,e,ex.2.1⟩
  ·obtain ⟨o,_,_,_,e,ex,_⟩:=I.hok p _ hk
   refine ⟨⟨o,e,ex.1⟩,fun a e2=>?_⟩
   cases e2
   exact ⟨o,e,ex.2.1⟩
 | _=>exact False.elim ty
noncomputable def zmx(K:PySem.W.Frag)(T:String)(r:V->List V->Hp->VK->Prop)(to:TE):TE:=fun σ H Q=>to σ H fun x H1=>tyV K T x H1/\r x [] H1 Q
noncomputable def tBM(K:PySem.W.Frag)(T:String)(r:V->List V->Hp->VK->Prop)(to:TE)(t:TA):TE:=fun σ H Q=>to σ H fun x H1=>tyV K T x H1/\t σ H1 fun xs H2=>r x xs H2 Q
variable {o e:Expr} {es:List Expr} {to:TE} {t:TA} {name:Str} {apos cpos:Pos} {T id:String} {r:V->List V->Hp->VK->Prop}
theorem zlc(pa:PlainAttrs T)(slot:Slot T name id)(hty:typeOf (.builtin id)=pure (.type "method_descriptor"))(hm:MtR X id r)(ho:PE X o to)
  (hbase:attributeBase o name X.env (eval o X.env)=eval o X.env:=by rfl)(hline:(apos.endLine == cpos.line)=true:=by rfl):PE X (.Call (.Attribute o name apos) [] [] cpos) (zmx X.K T r to):=by
 intro pins s σ H Q I h
 refine wpAny_Call_method0_late hbase hline (thn (ho pins s σ H _ I h) fun v s1 hq_=>?_)
 obtain ⟨x,H1,I1,r1,ty,q1⟩:=hq_
 obtain ⟨h1,h2⟩:=zfE I1 r1 ty
 exact ⟨T,id,pa,slot,hty,h1,h2,Calls.callWith_builtin rfl (PySem.evalArgs_none (hm pins s1 σ H1 x [] v [] Q I1 r1 .nil q1))⟩
theorem zjI(pa:PlainAttrs T)(slot:Slot T name id)(hty:typeOf (.builtin id)=pure (.type "method_descriptor"))(hm:MtR X id r)(ho:PE X o to)(ha:PA X (e::es) t)
  (hbase:attributeBase o name X.env (eval o X.env)=eval o X.env:=by rfl)
  (hfew:((backTo cpos (starEach (e::es) X.env)).all (fun x=>!x.1) && (backToKw cpos (keywordEach [] X.env)).all (fun x=>x.1.isSome)
   && decide ((e::es).length+([]:List Keyword).length+(if ([]:List Keyword).isEmpty then 0 else 1)<30))=true:=by rfl)
  (hline:(apos.endLine == cpos.line)=true:=by rfl)(hs:starEach (e::es) X.env=(false,eval e X.env)::starEach es X.env:=by rfl)(hplain:(backTo cpos (starEach es X.env)).any (·.1)=false:=by rfl):
  PE X (.Call (.Attribute o name apos) (e::es) [] cpos) (tBM X.K T r to t):=by
 intro pins s σ H Q I h
 refine wpAny_Call_method_late hbase hfew hline rfl (thn (ho pins s σ H _ I h) fun v s1 hq_=>?_)
 obtain ⟨x,H1,I1,r1,ty,q1⟩:=hq_
 obtain ⟨h1,h2⟩:=zfE I1 r1 ty
 refine ⟨T,id,pa,slot,hty,h1,h2,?_⟩
 have hA:=ha cpos pins s1 σ H1 _ I1 q1
 rw [hs] at hA ⊢
 refine Calls.callWith_builtin (by show (false || (backTo cpos (starEach es X.env)).any (·.1))=false;rw [hplain]<;>rfl) (Calls.evalArgs_plain ?_)
 exact thn hA fun us s2 ⟨vs,H2,I2,r2,q2⟩=>hm pins s2 σ H2 x vs v us Q I2 r1 r2 q2
end
noncomputable def MtM(X:Cx)(id:String)(r:V->List V->Hp->VK->Prop):Prop:=
 ∀ (pins:List (Addr × Obj)) (s:Shared) (σ:St) (H:Hp) (x:V) (xs:List V) (v:Value) (us:List Value) (Q:VK),Inv X pins σ H s->RelV x v->Vals xs us->r x xs H Q->
  wpAny (model X.prog X.w) X.A (call (.builtin id) (v::us)) (EP X pins σ Q) X.xe s
theorem Vals.one{x:V}{us:List Value}(h:Vals [x] us):∃ u,us=[u]/\RelV x u:=by
 cases h with | cons r t=>cases t;exact ⟨_,rfl,r⟩
theorem Vals.zero:∀ {us:List Value},Vals [] us->us=[]
 | _,.nil=>rfl
theorem Vals.dropLast{xs:List V}{us:List Value}(h:Vals xs us):Vals xs.dropLast us.dropLast:=by
 induction h with
 | nil=>exact .nil
 | cons r t ih=>
  cases t with
  | nil=>exact .nil
  | cons q t'=>exact .cons r ih
theorem Vals.eraseIdx:∀ {xs:List V} {us:List Value} (i:Nat),Vals xs us->Vals (xs.eraseIdx i) (us.eraseIdx i)
 | _,_,_,.nil=>.nil
 | _,_,0,.cons _ t=>t
 | _,_,i+1,.cons r t=>.cons r (Vals.eraseIdx i t)
theorem Vals.reverse{xs:List V}{us:List Value}(h:Vals xs us):Vals xs.reverse us.reverse:=by
 induction h with
 | nil=>exact .nil
 | cons r t ih=>rw [KW,KW];exact Vals.append ih (.cons r .nil)
theorem Vals.rep{xs:List V}{us:List Value}(h:Vals xs us):∀ k:Nat,Vals (List.replicate k xs).flatten (List.replicate k us).flatten
 | 0=>.nil
 | k+1=>by
  rw [Ko,Ko,KF,KF]
  exact Vals.append h (Vals.rep h k)
theorem zcN{α:Type}(l:List α):l.eraseIdx (l.length - 1)=l.dropLast:=List.eraseIdx_length_sub_one
theorem qF(its:List Value):∀ (k:Nat) (acc:List Value),
  List.foldl (fun x1 x2=>x1++x2) acc.toArray (List.replicate k its.toArray)=(acc++(List.replicate k its).flatten).toArray
 | 0,acc=>by simp
 | k+1,acc=>by
  have e:acc.toArray++its.toArray=(acc++its).toArray:=by simp
  have e2:(acc++its)++(List.replicate k its).flatten=acc++(List.replicate (k+1) its).flatten:=by
   rw [Ko,KF,Jy]
  rw [← e2,← qF its k (acc++its),← e,Ko,Qx]
section
variable {X:Cx} {pins:List (Addr × Obj)} {σ:St} {H:Hp} {s:Shared} {l b:Addr} {xs ys zs:List V}
theorem Inv.lset{its its':List Value}{f:Array Value->Array Value}(I:Inv X pins σ H s)(hH:H l=some (.lst xs))
  (e:s.heap.get? l=some { cls:=.type "list",data:=.seq its.toArray n })(hf:f its.toArray=its'.toArray)(hv:Vals ys its')(hz:ys.length≤sizeLine):
  Inv X pins σ (upd H l (.lst ys)) { s with heap:=s.heap.update l (Obj.mapSeq f),toks:=t' }:=by
 have q:=PySem.IsL.update e f
 rw [hf] at q
 refine I.write (x:=l) (e:=l) (by rw [hH];exact trivial) (.inl rfl) (fun b' u hb hu=>(KG s.heap (Obj.mapSeq f) (Qt hb)).trans hu) ⟨_,q⟩ ?_
 exact ⟨hz,its',_,hv,q⟩
theorem Inv.lnew{its:List Value}(I:Inv X pins σ H s)(hv:Vals ys its)(hz:ys.length≤sizeLine):
  Inv X pins σ (upd H s.heap.objs.size (.lst ys)) { s with heap:=s.heap.push { cls:=.type "list",data:=.seq its.toArray },toks:=t' }:=
 I.laid (fun _ _ q=>Jc _ q) (Jj _) ⟨hz,its,0,hv,Jq _ rfl⟩
theorem Inv.fresh(I:Inv X pins σ H s):H s.heap.objs.size=none:=I.hok.fresh (Jj _)
theorem Inv.lstM(I:Inv X pins σ H s)(hH:H l=some (.lst xs)):xs.length≤sizeLine/\∃ (its:List Value) (n:Nat),Vals xs its/\xs.length=its.length/\s.heap.get? l=some { cls:=.type "list",data:=.seq its.toArray n }:=by
 obtain ⟨z,its,n,r,e⟩:=I.hok l _ hH
 exact ⟨z,its,n,r,r.length,e⟩
theorem jw(h:n≤sizeLine):Builtin.List.listTooLong n=false:=by
 unfold Builtin.List.listTooLong
 exact decide_eq_false (by omega)
end
section
variable {X:Cx}
noncomputable def zdr:V->List V->Hp->VK->Prop:=fun x vs H Q=>∃ l xs y,x=.ref l/\vs=[y]/\H l=some (.lst xs)/\xs.length<sizeLine/\Q .non (upd H l (.lst (xs++[y])))
theorem k5:MtM X "list.append" zdr:=by
 intro pins s σ H x vs v us Q I rx rv h
 obtain ⟨l,xs,y,rfl,rfl,hH,hz,q⟩:=h
 cases rx
 obtain ⟨u,rfl,ru⟩:=rv.one
 obtain ⟨z,its,n,r,hl,e⟩:=I.lstM hH
 refine call_meets F.slot_list_append ⟨_,e,rfl⟩ F.entry_list_append (F.args_list_append_2 _ _) (PySem.list_append l its.toArray n u (by rw [Jv];omega)) ⟨e,?_⟩
 refine ⟨.non,_,I.lset (its':=its++[u]) hH e (by simp) (r.append (.cons ru .nil)) ?_,rfl,q⟩
 rw [Jh,Qg]
 omega
noncomputable def qd:V->List V->Hp->VK->Prop:=fun x vs H Q=>∃ l b xs zs,x=.ref l/\vs=[.ref b]/\H l=some (.lst xs)/\H b=some (.lst zs)/\xs.length+zs.length≤sizeLine/\Q .non (upd H l (.lst (xs++zs)))
theorem mt_extend:MtM X "list.extend" qd:=by
 intro pins s σ H x vs v us Q I rx rv h
 obtain ⟨l,b,xs,zs,rfl,rfl,hH,hB,hz,q⟩:=h
 cases rx
 obtain ⟨u,rfl,ru⟩:=rv.one
 cases ru
 obtain ⟨z,its,n,r,hl,e⟩:=I.lstM hH
 obtain ⟨z2,its2,n2,r2,hl2,e2⟩:=I.lstM hB
 have hsz:its.toArray.size+its2.toArray.size≤sizeLine:=by rw [Jv,Jv];omega
 have hlong:¬ (!its.toArray.isEmpty && Builtin.List.listTooLong (its.toArray.size+its2.toArray.size))=true:=by
  rw [jw hsz,Bool.and_false]
  exact Jk
 refine call_meets F.slot_list_extend ⟨_,e,rfl⟩ F.entry_list_extend (F.args_list_extend_2 _ _)
  (AutoSeq1.list_extend_list_list_0 l its.toArray n b its2.toArray n2 hlong (by rw [Jv];omega) (by omega)) ⟨e,e2,?_⟩
 refine ⟨.non,_,I.lset (its':=its++its2) hH e (by simp) (r.append r2) ?_,rfl,q⟩
 rw [Jh]
 omega
noncomputable def zmG:V->List V->Hp->VK->Prop:=fun x vs H Q=>∃ l xs y,x=.ref l/\vs=[]/\H l=some (.lst xs)/\xs[xs.length - 1]?=some y/\Q y (upd H l (.lst xs.dropLast))
theorem zlq:MtM X "list.pop" zmG:=by
 intro pins s σ H x vs v us Q I rx rv h
 obtain ⟨l,xs,y,rfl,rfl,hH,hy,q⟩:=h
 cases rx
 have hus:=rv.zero
 subst hus
 obtain ⟨z,its,n,r,hl,e⟩:=I.lstM hH
 obtain ⟨u,hu,ru⟩:=r.get hy
 have hy':its.toArray[its.toArray.size - 1]?=some u:=by
  show its.toArray[its.length - 1]?=some u
  rw [← Jp,← hl]
  exact hu
 refine call_meets F.slot_list_pop ⟨_,e,rfl⟩ F.entry_list_pop (F.args_list_pop_1 _) (MeetsSeq.list_pop_last l its.toArray n u hy' (by rw [Jv];omega)) ⟨e,?_⟩
 refine ⟨y,_,I.lset (its':=its.dropLast) hH e ?_ r.dropLast ?_,ru,q⟩
 ·show its.toArray.eraseIdxIfInBounds (its.toArray.size - 1)=its.dropLast.toArray
  rw [Jv,List.eraseIdxIfInBounds_toArray,zcN]
 ·rw [List.length_dropLast]
  omega
noncomputable def zkG:R2:=fun x y H Q=>∃ l b xs zs,x=.ref l/\y=.ref b/\H l=some (.lst xs)/\H b=some (.lst zs)/\xs.length+zs.length≤sizeLine/\∀ p,H p=none->Q (.ref p) (upd H p (.lst (xs++zs)))
theorem op_cat:OpR X (binaryOp .Add) zkG:=by
 intro pins s σ H x y v u Q I rx ry h
 obtain ⟨l,b,xs,zs,rfl,rfl,hH,hB,hz,q⟩:=h
 cases rx
 cases ry
 obtain ⟨z,its,n,r,hl,e⟩:=I.lstM hH
 obtain ⟨z2,its2,n2,r2,hl2,e2⟩:=I.lstM hB
 refine PySem.P.add_list e e2 ?_ (by rw [Jv,Jv];omega)
 have ea:its.toArray++its2.toArray=(its++its2).toArray:=by simp
 rw [ea]
 exact ⟨.ref _,_,I.lnew (t':=s.toks) (r.append r2) (by rw [Jh];omega),rfl,q _ I.fresh⟩
noncomputable def zkF:R2:=fun x y H Q=>∃ l k xs,x=.ref l/\y=.int k/\H l=some (.lst xs)/\-(2 ^ 63)≤k/\k<2 ^ 63/\xs.length * k.toNat≤sizeLine/\
 ∀ p,H p=none->Q (.ref p) (upd H p (.lst (List.replicate k.toNat xs).flatten))
theorem ziV{α:Type}(xs:List α)(k:Nat):(List.replicate k xs).flatten.length=k * xs.length:=by
 induction k with
 | zero=>simp
 | succ k ih=>rw [Ko,KF,Jh,ih,Nat.succ_mul,Nat.add_comm]
theorem zll:OpR X (binaryOp .Mult) zkF:=by
 intro pins s σ H x y v u Q I rx ry h
 obtain ⟨l,k,xs,rfl,rfl,hH,h1,h2,hz,q⟩:=h
 cases rx
 obtain ⟨t,rfl⟩:=ry
 obtain ⟨z,its,n,r,hl,e⟩:=I.lstM hH
 have hlen:its.toArray.size * k.toNat≤sizeLine:=by rw [Jv,← hl];exact hz
 have hcap:¬ its.toArray.size * k.toNat > (2 ^ 63 - 1) / 8:=by
  have:(sizeLine:Nat)≤(2 ^ 63 - 1) / 8:=by decide
  omega
 have hfit:¬ (!Builtin.List.listFitsIndex k)=true:=by
  rw [fitsIndex_both h1 h2]
  exact Jk
 have hlong:¬ Builtin.List.listTooLong (its.toArray.size * k.toNat)=true:=by
  rw [jw hlen]
  exact Jk
 have hnew:List.foldl (fun x1 x2=>x1++x2) #[] (List.replicate (if its.toArray.isEmpty=true then 0 else k.toNat) its.toArray)=(List.replicate k.toNat its).flatten.toArray:=by
  have f0:∀ m:Nat,List.foldl (fun x1 x2=>x1++x2) #[] (List.replicate m its.toArray)=(List.replicate m its).flatten.toArray:=fun m=>by
   have:=qF its m []
   rw [List.nil_append] at this
   exact this
  rw [f0]
  cases its with
  | nil=>simp
  | cons a r'=>rw [if_neg (by simp)]
 refine wpAny_binaryOp_repeat_ref (T:="list") (U:="int") (by decide) ⟨_,e,rfl⟩ (fun s'=>typeIs_int s' k t) noFill_list_mul F.fills_int_mul F.slot_int_rmul repeat_list F.slot_int_index.lookup
  (call_meets F.slot_int_rmul (typeIs_int s k t) F.entry_int_rmul (F.args_int_rmul_2 _ _) (int___rmul___int_list k t l its.toArray n)
   ⟨e,rfl,⟨_,e,rfl⟩,call_meets F.slot_list_mul ⟨_,e,rfl⟩ F.entry_list_mul (F.args_list_mul_2 _ _) (AutoListH.list___mul___list_int_3 l its.toArray n k t hfit hcap hlong) ⟨e,?_⟩⟩)
 rw [hnew]
 exact ⟨.ref _,_,I.lnew (t':=s.toks) (r.rep k.toNat) (by rw [ziV,Nat.mul_comm];exact hz),rfl,q _ I.fresh⟩
end
section
variable {κ:Type} [DecidableEq κ]
noncomputable def vY(kvs:List (κ × V))(k:κ):Option V:=(kvs.find? fun kv=>decide (kv.1=k)).map (·.2)
noncomputable def uK(kvs:List (κ × V))(k:κ)(v:V):List (κ × V):=
 if (kvs.any fun kv=>decide (kv.1=k))=true then kvs.map (fun kv=>if kv.1=k then (kv.1,v) else kv) else kvs++[(k,v)]
noncomputable def zjP(kvs:List (κ × V))(k:κ):List (κ × V):=kvs.filter fun kv=>decide (kv.1≠k)
theorem v3{p:κ × V}(e:p.1=k):vY (p::r) k=some p.2:=by simp [vY,List.find?_cons,e]
theorem jd{p:κ × V}(e:¬ p.1=k):vY (p::r) k=vY r k:=by simp [vY,List.find?_cons,e]
theorem v7(k:κ):∀ kvs:List (κ × V),(kvs.any fun kv=>decide (kv.1=k))=(vY kvs k).isSome
 | []=>rfl
 | p::r=>by
  rw [KC]
  by_cases e:p.1=k
  ·simp only [v3 e,decide_eq_true e,Bool.true_or,Option.isSome_some]
  ·rw [jd e,decide_eq_false e,Bool.false_or];exact v7 k r
theorem jD(kvs:List (κ × V))(k:κ)(v:V):(uK kvs k v).length≤kvs.length+1:=by
 unfold uK
 split
 ·rw [Je];omega
 ·rw [Jh,JF,List.length_nil];omega
theorem RelO.isSome_eq{o:Option V}{u:Option Value}(r:RelO o u):o.isSome=u.isSome:=by
 cases o with
 | none=>cases u with
  | none=>rfl
  | some _=>exact (show False from r).elim
 | some _=>cases u with
  | none=>exact (show False from r).elim
  | some _=>rfl
theorem RelO.getD{o:Option V}{u:Option Value}(r:RelO o u)(rd:RelV d d'):RelV (o.getD d) (u.getD d'):=by
 cases o with
 | none=>cases u with
  | none=>exact rd
  | some _=>exact (show False from r).elim
 | some _=>cases u with
  | none=>exact (show False from r).elim
  | some _=>exact r
theorem KV.val(r:KV kvs vs)(k:κ):RelO (vY kvs k) (valueAt vs k):=by
 unfold KV at r
 induction r with
 | nil=>exact True.intro
 | @cons p q ps qs h t ih=>
  obtain ⟨h1,h2⟩:=h
  by_cases e:p.1=k
  ·have e':q.1=k:=h1.symm.trans e
   have b:valueAt (q::qs) k=some q.2:=by simp [valueAt,List.find?_cons,e']
   rw [v3 e,b];exact h2
  ·have e':¬ q.1=k:=fun z=>e (h1.trans z)
   have b:valueAt (q::qs) k=valueAt qs k:=by simp [valueAt,List.find?_cons,e']
   rw [jd e,b];exact ih
theorem KV.any{kvs:List (κ × V)}{vs:List (κ × Value)}(r:KV kvs vs)(k:κ):(kvs.any fun kv=>decide (kv.1=k))=vs.any fun kv=>decide (kv.1=k):=by
 unfold KV at r
 induction r with
 | nil=>rfl
 | cons h t ih=>rw [KC,KC,ih,h.1]
theorem KV.repl{kvs:List (κ × V)}{vs:List (κ × Value)}(r:KV kvs vs)(k:κ)(ry:RelV y u):
  KV (kvs.map fun kv=>if kv.1=k then (kv.1,y) else kv) (vs.map fun kv=>if kv.1=k then (kv.1,u) else kv):=by
 unfold KV at r ⊢
 induction r with
 | nil=>exact .nil
 | @cons p q ps qs h t ih=>
  rw [Jm,Jm]
  refine .cons ?_ ih
  obtain ⟨h1,h2⟩:=h
  by_cases e:p.1=k
  ·rw [if_pos e,if_pos (h1.symm.trans e)];exact ⟨h1,ry⟩
  ·rw [if_neg e,if_neg (fun z=>e (h1.trans z))];exact ⟨h1,h2⟩
theorem KV.put(r:KV kvs vs)(k:κ)(ry:RelV y u):KV (uK kvs k y) (stored vs k u):=by
 unfold uK stored
 rw [r.any k]
 by_cases e:(vs.any fun kv=>decide (kv.1=k))=true
 ·rw [if_pos e,if_pos e];exact r.repl k ry
 ·rw [if_neg e,if_neg e];exact Paired.snoc r ⟨rfl,ry⟩
theorem KV.drop(r:KV kvs vs)(k:κ):KV (zjP kvs k) (without vs k):=by
 unfold KV at r ⊢
 unfold zjP without
 induction r with
 | nil=>exact .nil
 | @cons p q ps qs h t ih=>
  obtain ⟨h1,h2⟩:=h
  rw [Ku,Ku]
  by_cases e:p.1=k
  ·have a:¬ decide (p.1≠k)=true:=by simp [e]
   have b:¬ decide (q.1≠k)=true:=by simp [h1.symm.trans e]
   rw [if_neg a,if_neg b];exact ih
  ·have e':¬ q.1=k:=fun z=>e (h1.trans z)
   have a:decide (p.1≠k)=true:=by simp [e]
   have b:decide (q.1≠k)=true:=by simp [e']
   rw [if_pos a,if_pos b];exact .cons ⟨h1,h2⟩ ih
theorem KV.keys{kvs:List (κ × V)}{vs:List (κ × Value)}(r:KV kvs vs):kvs.map (·.1)=vs.map (·.1):=by
 unfold KV at r
 induction r with
 | nil=>rfl
 | cons h t ih=>rw [Jm,Jm,ih,h.1]
theorem KV.length{kvs:List (κ × V)}{vs:List (κ × Value)}(r:KV kvs vs):kvs.length=vs.length:=Paired.length r
end
theorem qD(r:RelV (kV k) u):(zC P w).is k u=true:=by
 cases k with
 | inl i=>obtain ⟨t,e⟩:=(show ∃ t,u=Value.int i t from r);subst e;exact zbn P w i t
 | inr x=>obtain ⟨t,e⟩:=(show ∃ t,u=Value.str x t from r);subst e;exact zbm P w x t
theorem uq{P:Program}{w:World}:∀ {ks:List Key} {us:List Value},Vals (ks.map kV) us->ItemsAre (zC P w) ks us
 | [],_,r=>by rw [List.map_nil] at r;cases r;exact .nil
 | k::ks,_,r=>by
  rw [Jm] at r
  cases r with
  | cons h t=>exact .cons (qD h) (uq t)
noncomputable abbrev KT(H:Hp):List (List Key × V)->List (List Key × Addr × Value)->Prop:=Paired fun p q=>p.1=q.1/\H q.2.1=some (.tup (p.1.map kV))/\RelV p.2 q.2.2
theorem KT.val(r:KT H kvs xs)(k:List Key):RelO (vY kvs k) ((atKey xs k).map (·.2)):=by
 induction r with
 | nil=>exact True.intro
 | @cons p q ps qs h t ih=>
  obtain ⟨h1,_,h2⟩:=h
  by_cases e:p.1=k
  ·have e':q.1=k:=h1.symm.trans e
   have b:atKey (q::qs) k=some q.2:=by simp [atKey,List.find?_cons,e']
   rw [v3 e,b];exact h2
  ·have e':¬ q.1=k:=fun z=>e (h1.trans z)
   have b:atKey (q::qs) k=atKey qs k:=by simp [atKey,List.find?_cons,e']
   rw [jd e,b];exact ih
theorem KT.repl{kvs:List (List Key × V)}{xs:List (List Key × Addr × Value)}(r:KT H kvs xs)(k:List Key)(ry:RelV y u):
  KT H (kvs.map fun kv=>if kv.1=k then (kv.1,y) else kv) (xs.map (putAt k u)):=by
 induction r with
 | nil=>exact .nil
 | @cons p q ps qs h t ih=>
  rw [Jm,Jm]
  refine .cons ?_ ih
  obtain ⟨h1,h2,h3⟩:=h
  unfold putAt
  by_cases e:p.1=k
  ·rw [if_pos e,if_pos (h1.symm.trans e)];exact ⟨h1,h2,ry⟩
  ·rw [if_neg e,if_neg (fun z=>e (h1.trans z))];exact ⟨h1,h2,h3⟩
theorem KT.put{H:Hp}(r:KT H kvs xs)(k:List Key)(hb:H b=some (.tup (k.map kV)))(ry:RelV y u):
  KT H (uK kvs k y) (storedH xs k b u):=by
 have e:(kvs.any fun kv=>decide (kv.1=k))=(atKey xs k).isSome:=by
  rw [v7,(r.val k).isSome_eq,Option.isSome_map]
 unfold uK storedH
 rw [e]
 by_cases q:(atKey xs k).isSome=true
 ·rw [if_pos q,if_pos q];exact r.repl k ry
 ·rw [if_neg q,if_neg q];exact Paired.snoc r ⟨rfl,hb,ry⟩
theorem KT.keeps{H H':Hp}(r:KT H kvs xs)(ht:∀ b ys,H b=some (.tup ys)->H' b=some (.tup ys)):KT H' kvs xs:=
 Paired.mapP r fun _ _ z=>⟨z.1,ht _ _ z.2.1,z.2.2⟩
section
variable {P:Program} {w:World} {H:Hp} {h:Heap} {a:Addr}
theorem zjF(ok:HOk P w H h)(e:Rd H a u):ObjOk P w H h a u:=e.ok ok
theorem qI{kvs:List (Key × V)}(ok:HOk P w H h)(e:Rd H a (.dK kvs)):kvs.length≤sizeLine/\(a == sysModules)=false/\∃ vs,KV kvs vs/\h.DictOf (zC P w) a vs:=
 show ObjOk P w H h a (.dK kvs) from zjF ok e
theorem zdW{kvs:List (Key × V)}(ok:HOk P w H h)(e:H a=some (.dK kvs)):kvs.length≤sizeLine/\(a == sysModules)=false/\∃ vs,KV kvs vs/\h.DictOf (zC P w) a vs:=qI ok (.inl e)
theorem kC{ks:List Key}(ok:HOk P w H h)(e:H a=some (.tup (ks.map kV))):(tupleKind (zC P w)).is h ks a:=by
 obtain ⟨_,its,r,o,h1,h2,n,h3⟩:=(show ObjOk P w H h a (.tup (ks.map kV)) from ok a _ e)
 exact ⟨o,its.toArray,n,h1,h2,h3,by simpa using uq r⟩
theorem zbD{kvs:List (List Key × V)}(ok:HOk P w H h)(e:Rd H a (.dT kvs)):kvs.length≤sizeLine/\(a == sysModules)=false/\
  ∃ xs,KT H kvs xs/\h.DictOfH (tupleKind (zC P w)) a xs:=by
 obtain ⟨z,y,xs,r,o,es,ep,h1,h2,h3,h4,h5⟩:=(show ObjOk P w H h a (.dT kvs) from zjF ok e)
 refine ⟨z,y,xs,r,o,es,ep,h1,h2,h3,h4,fun x hx=>?_,h5⟩
 have all:∀ {l:List (List Key × V)} {m:List (List Key × Addr × Value)},KT H l m->∀ x ∈ m,(tupleKind (zC P w)).is h x.1 x.2.1:=by
  intro l m q
  induction q with
  | nil=>intro x hx;exact nomatch hx
  | @cons p q ps qs hq t ih=>
   intro x hx
   rcases List.mem_cons.mp hx with e | hx
   ·subst e
    exact kC ok (by rw [← hq.1];exact hq.2.1)
   ·exact ih x hx
 exact all r x hx
theorem znK{kvs:List (List Key × V)}(ok:HOk P w H h)(e:H a=some (.dT kvs)):kvs.length≤sizeLine/\(a == sysModules)=false/\
  ∃ xs,KT H kvs xs/\h.DictOfH (tupleKind (zC P w)) a xs:=zbD ok (.inl e)
end
noncomputable def DGet(H:Hp)(a:Addr)(y:V)(r:Option V):Prop:=
 (∃ kvs k,Rd H a (.dK kvs)/\y=kV k/\r=vY kvs k)∨∃ kvs k b,Rd H a (.dT kvs)/\y=.ref b/\H b=some (.tup (k.map kV))/\r=vY kvs k
noncomputable def DPut(H:Hp)(a:Addr)(y v:V)(H':Hp):Prop:=
 (∃ kvs k,H a=some (.dK kvs)/\y=kV k/\kvs.length<sizeLine/\H'=upd H a (.dK (uK kvs k v)))∨
 ∃ kvs k b,H a=some (.dT kvs)/\y=.ref b/\H b=some (.tup (k.map kV))/\kvs.length<sizeLine/\H'=upd H a (.dT (uK kvs k v))
theorem DGet.k{H:Hp}{a:Addr}{kvs:List (Key × V)}{k:Key}(e:H a=some (.dK kvs)):DGet H a (kV k) (vY kvs k):=.inl ⟨kvs,k,.inl e,rfl,rfl⟩
theorem DGet.t{H:Hp}{k:List Key}(e:H a=some (.dT kvs))(eb:H b=some (.tup (k.map kV))):DGet H a (.ref b) (vY kvs k):=.inr ⟨kvs,k,b,.inl e,rfl,eb,rfl⟩
theorem DPut.k{H:Hp}{a:Addr}{kvs:List (Key × V)}{k:Key}{v:V}(e:H a=some (.dK kvs))(hl:kvs.length<sizeLine):DPut H a (kV k) v (upd H a (.dK (uK kvs k v))):=.inl ⟨kvs,k,e,rfl,hl,rfl⟩
theorem DPut.t{H:Hp}{kvs:List (List Key × V)}{k:List Key}(e:H a=some (.dT kvs))(eb:H b=some (.tup (k.map kV)))(hl:kvs.length<sizeLine):
  DPut H a (.ref b) v (upd H a (.dT (uK kvs k v))):=.inr ⟨kvs,k,b,e,rfl,eb,hl,rfl⟩
section
variable {X:Cx} {pins:List (Addr × Obj)} {σ:St} {H:Hp} {s:Shared} {a:Addr} {y v:V} {u r:Value} {o:Option V} {A:Around} {E:Value->Shared->Prop}
theorem Inv.big(I:Inv X pins σ H s):sysModules<s.heap.objs.size:=by
 have h:mainGlobals<s.heap.objs.size:=(I.mod.glob.keeps I.bk).lt
 exact Nat.lt_trans (by decide) h
theorem zeY{Q:Value->Shared->Prop}(hu:A.units+1<cLine)(I:Inv X pins σ H s)(g:DGet H a y (some v))(ry:RelV y u)(h:∀ w' s',Inv X pins σ H s'->RelV v w'->Q w' s'):
  wpAny (model X.prog X.w) A (getItem (.ref a) u) Q E s:=by
 rcases g with ⟨kvs,k,e,ey,l⟩ | ⟨kvs,k,b,e,ey,eb,l⟩
 ·subst ey
  obtain ⟨z,hd,vs,rel,dd⟩:=qI I.hok e
  obtain ⟨w',hw,rw'⟩:=RelO.some_of (v:=v) (o:=valueAt vs k) (by rw [l];exact rel.val k)
  exact wpAny_getItem_of (qD ry) dd.mapOf hw (h w' _ (I.tok _) rw')
 ·subst ey
  cases (show u=Value.ref b from ry)
  obtain ⟨z,hd,xs,rel,dd⟩:=zbD I.hok e
  obtain ⟨w',hw,rw'⟩:=RelO.some_of (v:=v) (o:=(atKey xs k).map (·.2)) (by rw [l];exact rel.val k)
  obtain ⟨p,hp,hp2⟩:=Kc.mp hw
  refine wpAny_getItem_heap (tupleKind_room_in1 hu) (kC I.hok eb) dd hp ?_
  rw [hp2]
  exact h w' _ (I.tok _) rw'
theorem zoO{Q:Value->Shared->Prop}(hu:A.units+1<cLine)(I:Inv X pins σ H s)(g:DGet H a y o)(ry:RelV y u)(h:∀ s',Inv X pins σ H s'->Q (.bool o.isSome) s'):
  wpAny (model X.prog X.w) A (compareOp .In u (.ref a)) Q E s:=by
 rcases g with ⟨kvs,k,e,ey,l⟩ | ⟨kvs,k,b,e,ey,eb,l⟩
 ·subst ey
  obtain ⟨z,hd,vs,rel,dd⟩:=qI I.hok e
  refine wpAny_in_of (qD ry) hd dd.mapOf ?_
  rw [← (rel.val k).isSome_eq,← l]
  exact h _ (I.tok _)
 ·subst ey
  cases (show u=Value.ref b from ry)
  obtain ⟨z,hd,xs,rel,dd⟩:=zbD I.hok e
  refine wpAny_in_heap (tupleKind_room_in1 hu) (kC I.hok eb) hd dd ?_
  have q:=(rel.val k).isSome_eq
  rw [Option.isSome_map] at q
  rw [← q,← l]
  exact h _ (I.tok _)
theorem zjq{Q:Value->Shared->Prop}(hu:A.units+1<cLine)(I:Inv X pins σ H s)(g:DGet H a y o)(ry:RelV y u)(h:∀ s',Inv X pins σ H s'->Q (.bool (!o.isSome)) s'):
  wpAny (model X.prog X.w) A (compareOp .NotIn u (.ref a)) Q E s:=by
 rcases g with ⟨kvs,k,e,ey,l⟩ | ⟨kvs,k,b,e,ey,eb,l⟩
 ·subst ey
  obtain ⟨z,hd,vs,rel,dd⟩:=qI I.hok e
  refine wpAny_notIn_of (qD ry) hd dd.mapOf ?_
  rw [← (rel.val k).isSome_eq,← l]
  exact h _ (I.tok _)
 ·subst ey
  cases (show u=Value.ref b from ry)
  obtain ⟨z,hd,xs,rel,dd⟩:=zbD I.hok e
  refine wpAny_notIn_heap (tupleKind_room_in1 hu) (kC I.hok eb) hd dd ?_
  have q:=(rel.val k).isSome_eq
  rw [Option.isSome_map] at q
  rw [← q,← l]
  exact h _ (I.tok _)
theorem zdX{h':Heap}(I:Inv X pins σ H s)(mu:Mut (H a))(hs:Heap.SameBut a s.heap h')(he:∃ q,h'.get? a=some q)(new:ObjOk X.prog X.w (upd H a ob) h' a ob):
  Inv X pins σ (upd H a ob) { s with heap:=h',toks:=t' }:=
 I.write (x:=a) (e:=a) mu (.inl rfl) (fun b q hb z=>(hs.2 b hb).trans z) he new
theorem zhn{h':Heap}{kvs:List (Key × V)}(z:kvs.length≤sizeLine)(hd:(a == sysModules)=false)(rel:KV kvs vs)(dd:h'.DictOf (zC P w) a vs):
  ObjOk P w H' h' a (.dK kvs):=⟨z,hd,vs,rel,dd⟩
theorem zeX{Q:Unit->Shared->Prop}(hu:A.units+1<cLine)(I:Inv X pins σ H s)(g:DPut H a y v H')(ry:RelV y u)(rv:RelV v r)(h:∀ s',Inv X pins σ H' s'->Q () s'):
  wpAny (model X.prog X.w) A (setItem (.ref a) u r) Q E s:=by
 rcases g with ⟨kvs,k,e,ey,l,eH⟩ | ⟨kvs,k,b,e,ey,eb,l,eH⟩
 ·subst ey eH
  obtain ⟨z,hd,vs,rel,dd⟩:=zdW I.hok e
  have hz:vs.length≤sizeLine:=by rw [← rel.length];exact z
  have hl:(uK kvs k v).length≤sizeLine:=by have:=jD kvs k v;omega
  refine wpAny_setItem_pairs (hsz:=hz) (qD ry) dd fun h' dd' hs=>h _ ?_
  have he:∃ q,h'.get? a=some q:=let ⟨q,_,_,hq,_⟩:=dd';⟨q,hq⟩
  exact zdX I (by rw [e];exact True.intro) hs he (zhn hl hd (rel.put k rv) dd')
 ·subst ey eH
  cases (show u=Value.ref b from ry)
  obtain ⟨z,hd,xs,rel,dd⟩:=znK I.hok e
  have hz:xs.length≤sizeLine:=by rw [← Paired.length rel];exact z
  have hl:(uK kvs k v).length≤sizeLine:=by have:=jD kvs k v;omega
  refine wpAny_setItem_heap (hsz:=hz) (tupleKind_room_in1 hu) (kC I.hok eb) dd fun h' dd' hs=>h _ ?_
  obtain ⟨q,es,ep,hq,h2,h3,h4,_,h5⟩:=dd'
  refine zdX I (by rw [e];exact True.intro) hs ⟨q,hq⟩ ⟨hl,hd,_,(rel.put k eb rv).keeps fun c ys ec=>?_,q,es,ep,hq,h2,h3,h4,h5⟩
  rw [zW (znj ec e (fun z=>nomatch z))]
  exact ec
end
section
variable {X:Cx} {pins:List (Addr × Obj)} {σ:St} {H:Hp} {s:Shared} {a:Addr} {kvs:List (Key × V)} {k:Key} {u:Value} {A:Around} {E:Value->Shared->Prop}
theorem znO{Q:Value->Shared->Prop}(I:Inv X pins σ H s)(e:Rd H a (.dK kvs))(h:∀ t s',Inv X pins σ H s'->Q (.int kvs.length t) s'):wpAny (model X.prog X.w) A (call (.builtin "len") [.ref a]) Q E s:=by
 obtain ⟨z,hd,vs,rel,dd⟩:=qI I.hok e
 refine call_len_dict hd dd (by rw [← rel.length];rw [sizeLine_eq] at z;omega) ?_
 rw [← rel.length]
 exact h _ _ (I.tok _)
end
noncomputable def znV(i:Expr):Prop:=∀ ov iv,subscripted i false ov iv=operate [ov,iv] (getItem ov iv)
theorem zil{prog:Program}{w:World}{A:Around}{E:Value->Shared->Prop}{s:Shared}{env:Env}{value slice:Expr}{pos:Pos}{T id:String}{Q:Value->Shared->Prop}
  (hl:typeLookup (.type T) "__getitem__"=pure (some (.builtin id)))(hs:znV slice)
  (h:wpAny (model prog w) A (eval value env) (fun o s₁=>wpAny (model prog w) A (eval slice env) (fun i s₂=>s₂.TypeIs o T/\wpAny (model prog w) A (getItem o i) Q E s₂) E s₁) E s):
  wpAny (model prog w) A (eval (.Subscript value slice pos) env) Q E s:=by
 refine Subscript_ (wpAny_mono h (fun o s₁ h₁=>wpAny_mono h₁ (fun i s₂ h₂=>?_) fun _ _ x=>x) fun _ _ x=>x)
 obtain ⟨hT,h₂⟩:=h₂
 unfold subscriptTail
 refine wpAny_bind ?_
 rw [getitemInPython_of_ne hT.not_modules]
 refine wpAny_bind (wpAny_specialOf hT hl ?_)
 have fin:wpAny (model prog w) A (subscripted slice false o i) (fun r s₃=>wpAny (model prog w) A (letTemporaryGo value o r >>= fun _=>pure r) Q E s₃) E s₂:=by
  rw [hs o i]
  exact wpAny_operating (wpAny_mono h₂ (fun r s₃ h₃=>wpAny_bind (wpAny_letTemporaryGo (wpAny_pure h₃))) fun _ _ x=>x)
 first
  | exact wpAny_pure (wpAny_bind fin)
  | exact wpAny_bind (wpAny_pure (wpAny_bind fin))
  | exact wpAny_bind fin
theorem zbE{s:Shared}(I:Inv X pins σ H s)(g:DGet H a y o):s.TypeIs (.ref a) "dict":=by
 rcases g with ⟨kvs,k,e,_,_⟩ | ⟨kvs,k,b,e,_,_,_⟩
 ·obtain ⟨_,_,vs,_,dd⟩:=qI I.hok e
  exact dd.typeIs
 ·obtain ⟨_,_,xs,_,dd⟩:=zbD I.hok e
  exact dd.typeIs
noncomputable def zmv(td ty:TE):TE:=fun σ H Q=>td σ H fun x H1=>ty σ H1 fun y H2=>∃ a v,x=.ref a/\DGet H2 a y (some v)/\Q v H2
noncomputable def zfZ(td ty tv:TE):TS:=fun D σ H=>tv σ H fun v H1=>td σ H1 fun x H2=>ty σ H2 fun y H3=>∃ a H4,x=.ref a/\DPut H3 a y v H4/\D.nx σ H4
section
variable {X:Cx} {o i e value:Expr} {pos pos' tpos:Pos} {td ty tv:TE}
theorem ziF(hu:X.A.units+1<cLine)(ho:PE X o td)(hi:PE X i ty)(hs:znV i):PE X (.Subscript o i pos) (zmv td ty):=by
 intro pins s σ H Q I h
 refine zil PySem.F.slot_dict_getitem.lookup hs (thn (ho pins s σ H _ I h) fun u s1 ⟨x,H1,I1,rx,q1⟩=>thn (hi pins s1 σ H1 _ I1 q1) fun iv s2 ⟨y,H2,I2,ry,a,v,ex,g,q2⟩=>?_)
 subst ex
 obtain rfl:u=Value.ref a:=rx
 exact ⟨zbE I2 g,zeY hu I2 g ry fun w' s3 I3 rw'=>⟨v,H2,I3,rw',q2⟩⟩
theorem ziz(hu:X.A.units+1<cLine)(ho:PE X o td)(hi:PE X i ty)(hv:PE X value tv)(hs:swapsWith value (some (.Subscript o i pos')) pos.line X.env=pure false):
  PS X (.Assign [.Subscript o i pos'] value pos) (zfZ td ty tv):=by
 intro pins s σ H D I h
 refine wpAny_Assign_Subscript (thn (hv pins s σ H _ I h) fun r s1 ⟨v,H1,I1,rv,q1⟩=>thn (ho pins s1 σ H1 _ I1 q1) fun u s2 ⟨x,H2,I2,rx,q2⟩=>thn (hi pins s2 σ H2 _ I2 q2) fun iv s3 ⟨y,H3,I3,ry,a,H4,ex,g,q3⟩=>?_) hs
 subst ex
 obtain rfl:u=Value.ref a:=rx
 exact zeX hu I3 g ry rv fun s4 I4=>⟨σ,H4,I4,q3⟩
end
theorem zho(h:Heap)(hb:sysModules<h.objs.size):ObjOk P w H (h.push { cls:=.type "dict",data:=.dict #[] }) h.objs.size (.dK []):=
 ⟨Kb _,beq_eq_false_iff_ne.mpr (Qt (Ju hb)),[],.nil,Heap.DictOf.new h⟩
noncomputable def zfN:TE:=fun _ H Q=>∀ p,H p=none->Q (.ref p) (upd H p (.dK []))
section
variable {X:Cx} {pos:Pos}
theorem zgs:PE X (.Dict [] [] pos) zfN:=fun pins s σ H Q I h=>
 wpAny_Dict_empty ⟨.ref s.heap.objs.size,_,I.laid (a:=s.heap.objs.size) (o:=.dK []) (t':=s.toks) (fun _ _ q=>Jc _ q) (Jj _) (zho s.heap I.big),rfl,h _ (I.hok.fresh (Jj _))⟩
end
structure M1 (X:Cx) (o:Expr) (m:Str) (apos:Pos) (e:Expr) (cpos:Pos):Prop where
 base:attributeBase o m X.env (eval o X.env)=eval o X.env
 few:((backTo cpos (starEach [e] X.env)).all (fun x=>!x.1) && (backToKw cpos (keywordEach [] X.env)).all (fun x=>x.1.isSome)
  && decide (([e]:List Expr).length+([]:List Keyword).length+(if ([]:List Keyword).isEmpty then 0 else 1)<30))=true
 line:(apos.endLine == cpos.line)=true
 trees:backTo cpos (starEach [e] X.env)=[(false,eval e X.env)]
structure M2 (X:Cx) (o:Expr) (m:Str) (apos:Pos) (e f:Expr) (cpos:Pos):Prop where
 base:attributeBase o m X.env (eval o X.env)=eval o X.env
 few:((backTo cpos (starEach [e,f] X.env)).all (fun x=>!x.1) && (backToKw cpos (keywordEach [] X.env)).all (fun x=>x.1.isSome)
  && decide (([e,f]:List Expr).length+([]:List Keyword).length+(if ([]:List Keyword).isEmpty then 0 else 1)<30))=true
 line:(apos.endLine == cpos.line)=true
 trees:backTo cpos (starEach [e,f] X.env)=[(false,eval e X.env),(false,eval f X.env)]
end L2
namespace Att
open PySem PySem.W PySem.Calls PyProof.Rows
theorem jP:∀ (ns:List Int) (vs:List Value),WellAll P h vs (ns.map WData.int)->IntsAre vs ns:=by
 intro ns
 induction ns with
 | nil=>
  intro vs w
  rw [List.map_nil] at w
  cases w
  exact .nil
 | cons n ns ih=>
  intro vs w
  rw [Jm] at w
  cases w with
  | cons a b=>
   cases a
   exact .cons _ _ (ih _ b)
theorem zex{l:OpenLaw}(hn:l.most=some n){h:Heap}
  (hpre:l.row.toRowW.claim.pre args=true)(hwl:WellAll P h vals args):
  ∃ a vs ns,vals=[Value.ref a]/\args=[WData.list (ns.map WData.int)]/\h.get? a=some { cls:=.type "list",data:=.seq vs.toArray }/\IntsAre vs ns/\ns.length≤n:=by
 have hsh:WShape.hasAll [] args [.list .int]=true:=(pre_splitW hpre).1
 have hc:l.pre.holds [] { args:=args }=true:=(pre_splitW hpre).2
 obtain ⟨d,r,rfl,h1,h2⟩:=hasAllW_cons hsh
 obtain rfl:=hasAllW_nil h2
 obtain ⟨xs,rfl,h3⟩:=hasW_list h1
 obtain ⟨ns,rfl⟩:=items_int h3
 have hlen:ns.length≤n:=by
  unfold OpenLaw.pre at hc
  have h4:(WTm.not (.lt (.lit (.int (n:Int))) (.len (.arg 0)))).holds [] { args:=[.list (ns.map .int)] }=true:=by
   have h4:=(holds_andW hc).1
   rw [hn] at h4
   exact h4
  have h5:=condW_of h4 (w_not (w_lt w_lit (w_len_list (w_arg rfl))))
  rw [Je] at h5
  refine QF fun q=>?_
  have q':(n:Int)<((ns.length:Nat):Int):=by omega
  first
   | (rw [decide_eq_true q'] at h5;exact absurd h5 (by decide))
   | (simp at h5;omega)
 cases hwl with
 | cons w1 w2=>
  cases w2
  cases w1 with
  | list ho hall=>exact ⟨_,_,ns,rfl,rfl,ho,jP ns _ hall,hlen⟩
theorem zey(l:OpenLaw)(args:List WData):l.row.toRowW.claim.post args (.bool true) args=true:=
 postW_of (r:=l.row.toRowW) (X:=(true == true))
  (show WShape.has [] (.bool true) .bool=true by first | rfl | decide | simp [WShape.has,WShape.arms,WShape.armsAll])
  (show (WTm.eq .res (.lit (.bool true))).value [] { args:=args,res:=some (.bool true),after:=args }=some (.bool (true == true)) from w_eq_bool (w_res rfl) w_lit) rfl
end Att
namespace L2
open PySem PySem.Spec PyProof.Rows
theorem ki:∀ {vs:List Value} {ns:List Int},IntsAre vs ns->Vals (ns.map V.int) vs
 | _,_,.nil=>.nil
 | _,_,.cons n t h=>.cons ⟨t,rfl⟩ (ki h)
noncomputable def zjy(H:Hp):Prop:=∀ b,H b=none∨∃ o xs,H b=some (.frz o (.lst xs))
theorem zgR{K:PySem.W.Frag}{mg mb:Str->Option Value}{CX:CXT}{sp:Sp}{s₁:Shared}{vs:List Value}{ns:List Int}
  (KX:K.In s₁.heap)(hns:s₁.heap.Ns mainGlobals mg)(hb:s₁.heap.Ns builtinsNs mb)(hbb:∀ x:Str,x≠"__name__"->mb x=bootBuiltins x)(hlim:s₁.heap.NoLimit)(hg:s₁.gens=#[])
  (ha:s₁.heap.get? a=some { cls:=.type "list",data:=.seq vs.toArray })(hi:IntsAre vs ns)(hl:ns.length≤sizeLine)(hr:Room k callerA)
  (F:∀ base:Heap,K.In base->base.Ns mainGlobals mg->FnOk P w K mg base CX k fa fd [x] sp)(hbind:∀ (s:Shared) (u:Value),BindsTo s fd ⟨[u],[]⟩ [(x,u)])
  (hsp:∀ H:Hp,zjy H->SqL K H a (ns.map V.int)->sp [.ref a] H (fun v _=>v=.bl true) fun _ _ _=>False)
  (hCX:∀ H e s',CX [] H s₁ (fun _ _ _=>False) e s'->False):
  codeAny (model P w) callerA (.call (.ref fa) ⟨[.ref a],[]⟩) (fun r s'=>r=.ok (.ret (.bool true))/\OldK s₁.heap s'.heap/\s'.os=s₁.os/\AllBare s'.gens) s₁:=by
 have rv:=ki hi
 have lenV:=hi.length
 -- from an abstract heap in which nothing but the script may be tracked
 have core:∀ H:Hp,zjy H->SqL K H a (ns.map V.int)->HOk P w H s₁.heap->(∀ b,H b≠none->b=a)->(H a≠none->K.lookup a=none)->
   codeAny (model P w) callerA (.call (.ref fa) ⟨[.ref a],[]⟩) (fun r s'=>r=.ok (.ret (.bool true))/\OldK s₁.heap s'.heap/\s'.os=s₁.os/\AllBare s'.gens) s₁:=by
  intro H hO hS hok hA hK
  have base_of:∀ {b:Addr} {o:Obj},s₁.heap.get? b=some o->H b=none->(qv s₁.heap H).get? b=some o:=fun e n=>zgZ e n
  have noA:∀ {b:Addr} {o:Obj} {es:Array DictEntry} {ep:Nat},s₁.heap.get? b=some o->o.data=.dict es ep->H b=none:=fun {b o es ep} e d=>by
   cases q:H b with
   | none=>rfl
   | some u=>
    have e':b=a:=hA b (by rw [q];simp)
    subst e'
    rw [ha] at e;cases e
    have d':Data.seq vs.toArray _=Data.dict es ep:=d
    cases d'
  have nsK:∀ {b:Addr} {m:Str->Option Value},s₁.heap.Ns b m->(qv s₁.heap H).Ns b m:=fun {b m} ⟨o,es,ep,e,d,r⟩=>⟨o,es,ep,base_of e (noA e d),d,r⟩
  have hKb:K.In (qv s₁.heap H):=fun b o e=>base_of (KX b o e) (by
   cases q:H b with
   | none=>rfl
   | some u=>
    have e':b=a:=hA b (by rw [q];simp)
    subst e'
    rw [hK (by rw [q];simp)] at e;cases e)
  have hM:Mod K mg (qv s₁.heap H):=⟨hKb,nsK hns,⟨mb,nsK hb,hbb⟩,let ⟨mc,h1,h2⟩:=hlim;⟨mc,nsK h1,h2⟩⟩
  have e0:Env0 P w K mg (qv s₁.heap H) callerA [] s₁ H:=⟨rfl,hM,fun b o e=>ziO e,Nat.le_of_eq (zeP _ _),trivial,fun b hb=>absurd (show b ∈ ([]:List Addr) from hb) (by simp),hok,.of_eq hg⟩
  refine codeAny_mono ((F _ hKb (nsK hns)).run callerA [] s₁ H ⟨[.ref a],[]⟩ [.ref a] [.ref a] _ _ hr e0 (hbind s₁ (.ref a)) (.cons rfl .nil) (hsp H hO hS)) fun r s' h=>?_
  cases r with
  | error e=>exact (hCX H e s' h).elim
  | ok fl=>
   cases fl with
   | next=>exact False.elim h
   | brk=>exact False.elim h
   | cont=>exact False.elim h
   | ret u=>
    obtain ⟨v,H',os,bare,un,hok',r',q⟩:=h
    have q':v=.bl true:=q
    subst q'
    obtain rfl:u=Value.bool true:=r'
    refine ⟨rfl,OldK.of_keep fun b o e=>?_,os,bare⟩
    cases q:H b with
    | none=>exact un.keep b o e q (by intro z;exact absurd (show b ∈ ([]:List Addr) from z) (by simp)) (by simp)
    | some u=>
     rcases hO b with z | ⟨ob,xs,z⟩
     ·rw [q] at z;cases z
     ·have z2:=un.frzs b ob _ z
      obtain ⟨e1,_⟩:=hok b _ z
      obtain ⟨e2,_⟩:=hok' b _ z2
      rw [e] at e1;cases e1
      exact e2
 cases hk:K.lookup a with
 | some o=>
  -- the script is one of the module's own objects
  have e:=KX a o hk
  rw [ha] at e
  cases e
  refine core (fun _=>none) (fun _=>.inl rfl) (.inr ⟨_,vs.toArray,_,hk,rfl,rfl,rfl,by rw [List.size_toArray,lenV];exact hl,by simpa using rv⟩) (fun b u z=>by have z':(none:Option HO)=some u:=z;cases z') (fun b z=>absurd rfl z) fun z=>absurd rfl z
 | none=>
  refine core (fun b=>if b=a then some (.frz { cls:=.type "list",data:=.seq vs.toArray } (.lst (ns.map V.int))) else none) (fun b=>?_) (.inl (.inr ⟨{ cls:=.type "list",data:=.seq vs.toArray },if_pos rfl⟩)) (fun b u z=>?_) (fun b z=>?_) fun _=>hk
  ·by_cases hb:b=a
   ·exact .inr ⟨_,_,if_pos hb⟩
   ·exact .inl (if_neg hb)
  ·by_cases hb:b=a
   ·have z':=(if_pos hb).symm.trans z
    cases z'
    subst hb
    exact ⟨ha,by rw [Je];exact hl,vs,_,rv,ha⟩
   ·have z':=(if_neg hb).symm.trans z
    cases z'
  ·by_cases hb:b=a
   ·exact hb
   ·exact absurd (if_neg hb) z
noncomputable def wO(s:Stmt):Arguments:=match s with
 | .FunctionDef _ a _ _ _ _ _ _ _ _=>a
 | _=>{ posonlyargs:=[],args:=[],vararg:=none,kwonlyargs:=[],kw_defaults:=[],kwarg:=none,defaults:=[] }
noncomputable def y4(s:Stmt):List Stmt:=match s with
 | .FunctionDef _ _ b _ _ _ _ _ _ _=>b
 | _=>[]
noncomputable def zG(s:Stmt):Scope:=match s with
 | .FunctionDef _ _ _ _ _ _ sc _ _ _=>sc
 | _=>{ kind:=.function,names:=[],isGenerator:=false,isCoroutine:=false }
noncomputable abbrev CX0:CXT:=fun _ _ _ _ _ _=>False
noncomputable abbrev E0:XK:=fun _ _ _=>False
theorem zjJ:zas CX0 X E0:=fun _ _ _ _ _ _ _ h=>h.elim
structure Fun (K:PySem.W.Frag) (x qual:Str) (st:Stmt) (f:Addr) (fd:FuncData):Prop where
 ex:∃ (oc:Value) (od:Option Addr) (kV doc pm:Value) (an:Option Addr) (cdv ct:Value) (osl:Array (Option Value)),
  fd=PySem.W.fnOf x qual (wO st) (y4 st) (zG st) .none kV doc pm an cdv ct/\K.lookup f=some ⟨oc,od,.func fd,osl⟩/\PySem.W.codeIn K cdv qual=true
 kp:PySem.W.keepIn K (.ref f)=true
section
variable {P:Program} {w:World} {K:PySem.W.Frag} {mg:Str->Option Value} {base:Heap}
theorem Fun.ok{x qual:Str}{st:Stmt}{f:Addr}{fd:FuncData}{N ps:List Str}{k:Nat}{sp:Sp}(F:Fun K x qual st f fd)(S:FnScope N ps (zG st))(len:∀ vs H Q E,sp vs H Q E->vs.length=ps.length)
  (hbody:∀ (cdv:Value) (A:Around) (outer:List Env) (s:Shared) (H:Hp) (vs:List V) (Q:VK) (E:XK),Room k (A.deeper (envOfC qual (zG st) s.heap.objs.size f cdv))->sp vs H Q E->
   ∃ t,PSs (zcP CX0 P w K mg base N qual (zG st) f cdv A outer s H E).nox (y4 st) t/\t { nx:=fun _ H'=>Q .non H',rt:=Q } (start N vs) H):FnOk P w K mg base CX0 (k+1) f fd ps sp:=by
 obtain ⟨oc,od,kV,doc,pm,an,cdv,ct,osl,rfl,lk,hcd⟩:=F.ex
 refine znC lk hcd S len fun A outer s H vs Q E hr hsp=>?_
 obtain ⟨t,h,q⟩:=hbody cdv A outer s H vs Q E hr hsp
 exact ⟨t,h.nox,q⟩
theorem Fun.binds{x qual:Str}{st:Stmt}{f:Addr}{fd:FuncData}{ps:List Str}(F:Fun K x qual st f fd)
  (h:∀ (kV doc pm:Value) (an:Option Addr) (cdv ct:Value) (us:List Value),us.length=ps.length->bindArgs (PySem.W.fnOf x qual (wO st) (y4 st) (zG st) .none kV doc pm an cdv ct) ⟨us,[]⟩=pure (ps.zip us)):Binds K fd ps []:=by
 obtain ⟨oc,od,kV,doc,pm,an,cdv,ct,osl,rfl,lk,hcd⟩:=F.ex
 exact .all (h kV doc pm an cdv ct)
theorem zhe{x qual:Str}{st:Stmt}{f:Addr}{oc:Value}{od an:Option Addr}{osl:Array (Option Value)}{kV doc pm cdv ct:Value}(l:K.lookup f=some ⟨oc,od,.func (PySem.W.fnOf x qual (wO st) (y4 st) (zG st) .none kV doc pm an cdv ct),osl⟩)
  (c:PySem.W.codeIn K cdv qual=true)(k:PySem.W.keepIn K (.ref f)=true):Fun K x qual st f (PySem.W.fnOf x qual (wO st) (y4 st) (zG st) .none kV doc pm an cdv ct):=⟨⟨oc,od,kV,doc,pm,an,cdv,ct,osl,rfl,l,c⟩,k⟩
end
theorem zny{A:Around}(hr:Room k A):A.units+1<cLine:=Qy (Nat.add_le_add_left (by decide:1≤64) _) hr.units
section
variable {X:Cx}
theorem pv(i:Nat)(hN:X.N[i]?=some x:=by rfl)(hv:Vis X.env.scope x:=by first | exact Or.inl rfl | exact Or.inr (Or.inl rfl) | exact Or.inr (Or.inr rfl))(hd:(x == ("__debug__":Str))=false:=by decide)
  (hcd:(x == ("__classdict__":Str))=false:=by decide):PE X (.Name x pos) (jM i):=zkS hN hv hd hcd
theorem call_lenD:CallR X (.builtin "len") (fun xs H Q=>∃ a kvs,xs=[V.ref a]/\H a=some (.dK kvs)/\Q (.int kvs.length) H):=by
 intro pins s σ H xs us Q I r h
 obtain ⟨a,kvs,rfl,ha,q⟩:=h
 obtain ⟨u,rfl,ru⟩:=kj r
 cases ru
 exact znO I (.inl ha) fun t s' I'=>⟨.int kvs.length,H,I',⟨t,rfl⟩,q⟩
end
noncomputable def Same(H H':Hp):Prop:=∀ b o,H b=some o->H' b=some o
theorem Same.refl(H:Hp):Same H H:=fun _ _ h=>h
theorem Same.trans(a:Same H H1)(b:Same H1 H2):Same H H2:=fun c o h=>b c o (a c o h)
theorem Same.free{H H':Hp}(e:Same H H')(h:H' l=Option.none):H l=Option.none:=by
 cases q:H l with
 | none=>rfl
 | some o=>
  rw [e l o q] at h
  cases h
theorem Same.seq{K:PySem.W.Frag}{H H':Hp}{a:Addr}{xs:List V}(e:Same H H')(h:SqL K H a xs):SqL K H' a xs:=by
 rcases h with (h | ⟨o,h⟩) | h
 ·exact .inl (.inl (e _ _ h))
 ·exact .inl (.inr ⟨o,e _ _ h⟩)
 ·exact .inr h
theorem kI{α β:Type}{f:α->β->Sem (ForInStep β)}(g:β->α->β):∀ (l:List α) (c:β),(∀ x ∈ l,∀ c,f x c=pure (.yield (g c x)))->forIn l c f=pure (l.foldl g c)
 | [],_,_=>rfl
 | x::l,c,h=>by
  rw [List.forIn_cons,h x Jf,pure_bind]
  exact kI g l _ fun y hy=>h y (Jg _ hy)
noncomputable def yZ(cells:List (Str × Addr))(cs:List (Str × Addr))(y:Str × NameKind):List (Str × Addr):=
 if (y.2 == NameKind.free)=true then (match cells.lookup y.1 with | some c=>(y.1,c)::cs | none=>cs) else cs
noncomputable def zcX(scope:Scope)(cells:List (Str × Addr)):List (Str × Addr):=scope.names.foldl (yZ cells) []
theorem kQ{scope:Scope}{env:Env}(h:∀ y ∈ scope.names,(y.2 == NameKind.free)=true->∃ c,env.cells.lookup y.1=some c):closureFor scope env=pure (zcX scope env.cells):=by
 simp only [closureFor]
 rw [kI (yZ env.cells) _ _ (fun y hy c=>?_)]
 ·rfl
 ·obtain ⟨n,k⟩:=y
  by_cases e:(k == NameKind.free)=true
  ·obtain ⟨a,ha⟩:=h _ hy e
   have ha':List.lookup n env.cells=some a:=ha
   simp [yZ,cellOf,ha',e]
  ·simp [yZ,e]
theorem zO{x n:Str}{α:Type}{c:α}{r:List (Str × α)}:List.lookup x ((n,c)::r)=if x=n then some c else r.lookup x:=by
 rw [List.lookup_cons]
 by_cases e:x=n
 ·subst e;simp
 ·rw [if_neg e]
  have:(x == n)=false:=by simpa using e
  rw [this]
theorem zcW{cells:List (Str × Addr)}:∀ (names:List (Str × NameKind)) (acc:List (Str × Addr)),(∀ x c,acc.lookup x=some c->cells.lookup x=some c)->∀ x c,(names.foldl (yZ cells) acc).lookup x=some c->cells.lookup x=some c
 | [],_,h=>h
 | y::r,acc,h=>by
  refine zcW r (yZ cells acc y) fun x c e=>?_
  unfold yZ at e
  split at e
  ·split at e
   ·rename_i c' hc'
    rw [zO] at e
    split at e
    ·rename_i hx;cases e;rw [hx];exact hc'
    ·exact h x c e
   ·exact h x c e
  ·exact h x c e
theorem zeb{cells:List (Str × Addr)}{x:Str}:∀ (names:List (Str × NameKind)) (acc:List (Str × Addr)),(acc.lookup x).isSome=true->((names.foldl (yZ cells) acc).lookup x).isSome=true
 | [],_,h=>h
 | y::r,acc,h=>by
  refine zeb r (yZ cells acc y) ?_
  unfold yZ
  split
  ·split
   ·rw [zO];split
    ·rfl
    ·exact h
   ·exact h
  ·exact h
theorem zhA{cells:List (Str × Addr)}{x:Str}(hc:(cells.lookup x).isSome=true):∀ (names:List (Str × NameKind)) (acc:List (Str × Addr)) (k:NameKind),(k == NameKind.free)=true->(x,k) ∈ names->((names.foldl (yZ cells) acc).lookup x).isSome=true
 | [],_,_,_,h=>nomatch h
 | y::r,acc,k,hk,h=>by
  rcases List.mem_cons.mp h with e | h
  ·refine zeb r (yZ cells acc y) ?_
   subst e
   obtain ⟨c,hc⟩:=Option.isSome_iff_exists.mp hc
   unfold yZ
   rw [if_pos hk]
   simp [hc]
  ·exact zhA hc r _ k hk h
theorem uI{env:Env}{x:Str}{k:NameKind}:∀ {names:List (Str × NameKind)},
  (names.map fun (n,k)=>if (k == NameKind.free && env.scope.kind == .function && env.kindOf n == some .cell) then (n,NameKind.cell) else (n,k)).lookup x=some k->∃ k0,(x,k0) ∈ names/\(k=k0∨(k0 == NameKind.free)=true)
 | [],h=>by simp at h
 | (n,j)::r,h=>by
  rw [Jm] at h
  by_cases hx:x=n
  ·subst hx
   by_cases hc:(j == NameKind.free && env.scope.kind == .function && env.kindOf x == some .cell)=true
   ·refine ⟨j,Jf,.inr ?_⟩
    simp only [Bool.and_eq_true] at hc
    exact hc.1.1
   ·dsimp only at h
    rw [if_neg hc,zO,if_pos rfl] at h
    cases h
    exact ⟨k,Jf,.inl rfl⟩
  ·have h':(r.map fun (n,k)=>if (k == NameKind.free && env.scope.kind == .function && env.kindOf n == some .cell) then (n,NameKind.cell) else (n,k)).lookup x=some k:=by
    dsimp only at h
    by_cases hc:(j == NameKind.free && env.scope.kind == .function && env.kindOf n == some .cell)=true
    ·rw [if_pos hc,zO,if_neg hx] at h;exact h
    ·rw [if_neg hc,zO,if_neg hx] at h;exact h
   obtain ⟨k0,h1,h2⟩:=uI h'
   exact ⟨k0,Jg _ h1,h2⟩
theorem uJ{env:Env}{x:Str}:∀ {names:List (Str × NameKind)},names.lookup x=some .free->
  (names.map fun (n,k)=>if (k == NameKind.free && env.scope.kind == .function && env.kindOf n == some .cell) then (n,NameKind.cell) else (n,k)).lookup x=some .cell∨
  (names.map fun (n,k)=>if (k == NameKind.free && env.scope.kind == .function && env.kindOf n == some .cell) then (n,NameKind.cell) else (n,k)).lookup x=some .free
 | [],h=>by simp at h
 | (n,j)::r,h=>by
  rw [Jm]
  dsimp only
  by_cases hx:x=n
  ·subst hx
   rw [zO,if_pos rfl] at h
   cases h
   by_cases hc:(NameKind.free == NameKind.free && env.scope.kind == .function && env.kindOf x == some .cell)=true
   ·rw [if_pos hc,zO,if_pos rfl];exact .inl rfl
   ·rw [if_neg hc,zO,if_pos rfl];exact .inr rfl
  ·rw [zO,if_neg hx] at h
   have ih:=uJ (env:=env) h
   by_cases hc:(j == NameKind.free && env.scope.kind == .function && env.kindOf n == some .cell)=true
   ·rw [if_pos hc,zO,if_neg hx];exact ih
   ·rw [if_neg hc,zO,if_neg hx];exact ih
noncomputable def cN(own:List Str)(js:List Nat)(N:List Str):List Str:=own++js.map fun j=>N.getD j ""
noncomputable def cS(own:List Str)(js:List Nat)(σ:St):St:=own.map (fun _=>none)++js.map fun j=>(σ[j]?).join
noncomputable def zb (X : Cx) (own : List Str) (js : List Nat) (scope : Scope) (C : Addr) (s₀ : Shared) (H₀ : Hp) (fp : List Addr) : Cx :=
  { prog := X.prog, w := X.w, K := X.K, mg := X.mg, base := X.base, A := X.A, N := cN own js X.N, s₀ := s₀, H₀ := H₀, env := compEnvC scope (zcX scope X.env.cells) C X.env, outer := X.stack, stack := X.stack,
    ex := fp, fn := fun _ => false, calm := X.calm, pn := [], xe := fun _ _ => False }
noncomputable def jK(js:List Nat)(scope:Scope)(kindOf:Str->Option NameKind)(N:List Str):Bool:=
 (scope.kind == .function) && scope.names.all (fun y=>!(y.2 == .cell) && (!(y.2 == .free) || kindOf y.1 == some .cell || kindOf y.1 == some .free) && (!(y.2 == .local) || scope.names.lookup y.1 == some .local)) &&
  js.all fun j=>scope.names.lookup (N.getD j "") == some .free
structure CompOk (js:List Nat) (scope:Scope) (kindOf:Str->Option NameKind) (N:List Str):Prop where
 kind:scope.kind=.function
 nocell:∀ y ∈ scope.names,y.2≠.cell
 free:∀ y ∈ scope.names,(y.2 == NameKind.free)=true->kindOf y.1=some .cell∨kindOf y.1=some .free
 loc:∀ y ∈ scope.names,y.2=.local->scope.names.lookup y.1=some .local
 used:∀ j ∈ js,scope.names.lookup (N.getD j "")=some .free
theorem qJ{js:List Nat}{scope:Scope}{kindOf:Str->Option NameKind}{N:List Str}(h:jK js scope kindOf N=true):CompOk js scope kindOf N:=by
 unfold jK at h
 simp only [Bool.and_eq_true,List.all_eq_true] at h
 obtain ⟨⟨h1,h2⟩,h3⟩:=h
 refine ⟨by simpa using h1,fun y hy e=>?_,fun y hy e=>?_,fun y hy e=>?_,fun j hj=>by simpa using h3 j hj⟩
 ·have:=(h2 y hy).1.1
  rw [e] at this
  exact absurd this (by decide)
 ·have:=(h2 y hy).1.2
  rw [e] at this
  simpa using this
 ·have:=(h2 y hy).2
  rw [e] at this
  simpa using this
theorem j7{α:Type}{x:Str}{a:α}:∀ {l:List (Str × α)},l.lookup x=some a->(x,a) ∈ l
 | [],h=>by simp at h
 | (n,c)::r,h=>by
  rw [zO] at h
  split at h
  ·rename_i e;cases h;subst e;exact List.mem_cons_self
  ·exact Jg _ (j7 h)
section
variable {X:Cx} {pins:List (Addr × Obj)} {σ:St} {H:Hp} {s:Shared} {own:List Str} {js:List Nat} {scope:Scope}
theorem zcT{h₁:Heap}(ok:CompOk js scope X.env.kindOf X.N)(I:Inv X pins σ H s)(hC:C=s.heap.objs.size)(hns:h₁.Ns C m0)(keep:∀ b o,s.heap.get? b=some o->h₁.get? b=some o)(hf:∀ b ∈ fp,u0 X pins H b)(hlt:∀ b ∈ fp,b<s.heap.objs.size):
 Inv (zb X own js scope C s H fp) [] (cS own js σ) H { s with heap:=h₁,toks:=t }:=by
 have sub:=zcW (cells:=X.env.cells) scope.names [] (by simp)
 have has:∀ x k0,(x,k0) ∈ scope.names->(k0 == NameKind.free)=true->∃ c,(zcX scope X.env.cells).lookup x=some c:=fun x k0 m hk=>by
  obtain ⟨c,hc⟩:=I.ok.has x (ok.free _ m hk)
  exact Option.isSome_iff_exists.mp (zhA (by rw [hc];rfl) scope.names [] k0 hk m)
 refine ⟨⟨I.ok.mod,ok.kind,I.ok.glob,I.ok.blt,Nat.le_of_eq hC.symm,fun x y c hx hy=>I.ok.inj x y c (sub x c hx) (sub y c hy),fun x hx=>?_,fun x c h=>absurd (show false=true from h) (by decide),I.ok.hd,I.ok.frames,.inl rfl,fun b hb=>⟨?_,fun x c hc=>(hf b hb).2.2.2.2.1 x c (sub x c hc)⟩,I.bs,JO I.ok.bsz I.sz,fun b o e hb=>?_,fun b hb hb2=>?_,I.stack,I.stkFree⟩,
  rfl,I.bare,Un.kept keep,⟨m0,hns,fun i x v e1 e2 e3=>?_⟩,fun x c e=>?_,?_,fun x c e=>I.freeC x c (sub x c e),(fun p hp=>nomatch hp),I.hok.kept keep,?_⟩
 ·have hx':∃ k,(k=NameKind.cell∨k=NameKind.free)/\(relabel scope X.env).names.lookup x=some k:=by
   rcases hx with hx | hx
   ·exact ⟨_,.inl rfl,hx⟩
   ·exact ⟨_,.inr rfl,hx⟩
  obtain ⟨k,hk,hl⟩:=hx'
  obtain ⟨k0,m,e⟩:=uI hl
  have hfree:(k0 == NameKind.free)=true:=by
   rcases e with e | e
   ·subst e
    rcases hk with hk | hk
    ·exact absurd hk (ok.nocell _ m)
    ·rw [hk];rfl
   ·exact e
  exact has x k0 m hfree
 ·rw [hC];exact Ju (hlt b hb)
 ·rcases (hf b hb).2.2.2.1 with z | z
  ·exact I.ok.noex b o e z
  ·exact absurd (JE (Jn e) (JO I.ok.bsz z)) (KI _)
 ·rcases List.mem_cons.mp (I.stkSub b hb2) with e | e
  ·exact (hf b hb).2.1 e
  ·exact (hf b hb).2.2.1 e
 ·have key:∃ j,j ∈ js/\x=X.N.getD j ""/\σ[j]?=some (some v):=by
   have e1:(own++js.map fun j=>X.N.getD j "")[i]?=some x:=e1
   have e2:(own.map (fun _=>none)++js.map fun j=>(σ[j]?).join)[i]?=some (some v):=e2
   by_cases hi:i<own.length
   ·rw [List.getElem?_append_left (by simpa using hi),List.getElem?_map] at e2
    cases q:own[i]? with
    | none=>rw [q] at e2;simp at e2
    | some y=>rw [q] at e2;simp at e2
   ·have hi':own.length≤i:=QF hi
    rw [QJ hi',JX] at e1
    rw [List.getElem?_append_right (by simpa using hi'),List.getElem?_map,List.length_map] at e2
    cases q:js[i - own.length]? with
    | none=>rw [q] at e1;simp at e1
    | some j=>
     rw [q] at e1 e2
     refine ⟨j,Ki q,?_,?_⟩
     ·have:=Js e1;exact this.symm
     ·have e2':(σ[j]?).join=some v:=Js e2
      cases z:σ[j]? with
      | none=>rw [z] at e2';simp at e2'
      | some w=>
       rw [z] at e2';have:w=some v:=by simpa using e2'
       rw [this]
  obtain ⟨j,hj,hx,hσ⟩:=key
  have hu:=ok.used j hj
  rw [← hx] at hu
  have hm:=j7 hu
  obtain ⟨m,hn,hl⟩:=I.loc
  have hjl:j<X.N.length:=by rw [← I.len];exact (JB.mp hσ).1
  have hN:X.N[j]?=some x:=by
   rw [hx,Jr hjl]
   simp [List.getD,List.getElem?_eq_getElem hjl]
  have kx:=ok.free _ hm rfl
  obtain ⟨u,r,l⟩:=hl j x v hN hσ (.inr kx)
  refine ⟨u,r,.inr ⟨uJ hu,?_⟩⟩
  rcases l with ⟨hk,_⟩ | ⟨hk,c,hc,cell⟩
  ·have kx':X.env.kindOf x=some .cell∨X.env.kindOf x=some .free:=kx
   rw [hk] at kx'
   rcases kx' with z | z<;>cases z
  ·obtain ⟨c',hc'⟩:=has x _ hm rfl
   have:=sub x c' hc'
   rw [hc] at this;cases this
   obtain ⟨o,ho,hd⟩:=cell
   exact ⟨c,hc',o,keep _ _ ho,hd⟩
 ·obtain ⟨v,o,ho,hd⟩:=I.cell x c (sub x c e)
  exact ⟨v,o,keep _ _ ho,hd⟩
 ·show H C=none
  rw [hC];exact I.hok.fresh (Jj _)
 ·show (own.map (fun _=>none)++js.map fun j=>(σ[j]?).join).length=(own++js.map fun j=>X.N.getD j "").length
  simp
theorem zfg(I:Inv X pins σ H s)(hf:∀ b ∈ fp,u0 X pins H b)(J:Inv (zb X own js scope C s H fp) p2 σ2 H2 s'):Inv X pins σ H2 s':=
 I.call' J.os J.base J.hok J.bare fun b hb=>⟨(hf b hb).2.2.2.1,(hf b hb).2.1,(hf b hb).2.2.2.2.1,(hf b hb).2.2.2.2.2⟩
end
noncomputable def PTs(X:Cx)(ifs:List Expr)(t:TT):Prop:=
 ∀ (pins:List (Addr × Obj)) (s:Shared) (σ:St) (H:Hp) (Q:Bool->Hp->Prop),Inv X pins σ H s->t σ H Q->
  wpAny (model X.prog X.w) X.A (forIn ifs true fun c r=>if r=true then do let ok ← isTrue c X.env (eval c X.env);pure (ForInStep.yield ok) else pure (ForInStep.yield r)) (TP X pins σ Q) X.xe s
noncomputable def zom:TT:=fun _ H Q=>Q true H
theorem ziw:PTs X [] zom:=fun _ _ _ H _ I h=>wpAny_tests_nil ⟨H,I,h⟩
theorem ziv(h:PT X c t):PTs X [c] t:=fun pins s σ H Q I hw=>wpAny_tests_one (h pins s σ H Q I hw)
theorem zff{R:Result->Shared->Prop}(I:Nat->Shared->Prop)
  (turn:∀ n s,I n s->wpAny (model prog w) A (pyNext it) (fun r s₁=>match r with
   | none=>R (.ok .next) s₁
   | some v=>wpAny (model prog w) A (letOwnedTupleGo target it v) (fun _ s₁'=>wpAny (model prog w) A (assign target env v) (fun _ s₂=>
     wpAny (model prog w) A (forIn ifs true fun c r=>if r=true then do let ok ← isTrue c env (eval c env);pure (ForInStep.yield ok) else pure (ForInStep.yield r)) (fun ok s₃=>
      if ok=true then wpAny (model prog w) A (eval elt env) (fun x s₄=>
       wpAny (model prog w) A (call (.builtin "list.append") [acc,x]) (fun _ s₅=>∃ m,m<n/\I m s₅) (fun _ _=>False) s₄) (fun _ _=>False) s₃
      else ∃ m,m<n/\I m s₃) (fun _ _=>False) s₂) (fun _ _=>False) s₁') (fun _ _=>False) s₁) (fun _ _=>False) s)
  (n:Nat)(h:I n s):codeAny (model prog w) A (.compLoop (.ListComp elt [⟨target,iter,ifs,0⟩] scope pos) 0 it acc env) R s:=by
 refine codeAny_loop rfl I (fun n s hI=>?_) n h
 show wpAny _ A ((compTurn (.ListComp elt [⟨target,iter,ifs,0⟩] scope pos) 0 it acc env).onRaise (fun x=>do noteFrame x env;theTreesLotGoes x)) _ _ s
 refine wpAny_noted ?_
 rw [compTurn_list]
 refine wpAny_bind (wpAny_standAt (wpAny_bind (wpAny_mono (turn n s hI) (fun r s₁ h₁=>?_) fun _ _ h'=>h'.elim)))
 cases r with
 | none=>exact wpAny_pure h₁
 | some v=>
  refine wpAny_bind (wpAny_mono h₁ (fun _ s₁' h₁'=>?_) fun _ _ h'=>h'.elim)
  refine wpAny_bind (wpAny_mono h₁' (fun _ s₂ h₂=>wpAny_bind (wpAny_mono h₂ (fun ok s₃ h₃=>?_) fun _ _ h'=>h'.elim)) fun _ _ h'=>h'.elim)
  cases ok with
  | false=>exact wpAny_pure ⟨rfl,h₃⟩
  | true=>
   exact wpAny_bind (wpAny_bind (wpAny_mono h₃ (fun x s₄ h₄=>wpAny_bind (wpAny_mono h₄ (fun _ s₅ h₅=>wpAny_pure (wpAny_pure ⟨rfl,h₅⟩)) fun _ _ h'=>h'.elim)) fun _ _ h'=>h'.elim))
noncomputable def zmB(t:TT)(σ:St)(H:Hp)(Q:Bool->Hp->Prop):Prop:=t σ H Q
noncomputable def zmD(t:TE)(σ:St)(H:Hp)(Q:VK):Prop:=t σ H Q
noncomputable def zmC(g:TG)(v:V)(σ:St)(H:Hp)(Q:St->Hp->Prop):Prop:=g v σ H Q
noncomputable def znP(Q:VK)(D:Addr)(H:Hp):Prop:=Q (.ref D) H
noncomputable def zfP(wi:TI)(own:List Str)(js:List Nat)(g:Addr->Shared->Hp->List Addr->TG)(tt:Addr->Shared->Hp->List Addr->TT)(te:Addr->Shared->Hp->List Addr->TE):TE:=fun σ H Q=>wi σ H fun J H1=>∀ C s₀ H₀ fp D,H1 D=none->
 ∃ W:Nat->Nat->St->Hp->Prop,(∃ m,W 0 m (cS own js σ) (upd H1 D (.lst [])))/\∀ i m σ1 H2,W i m σ1 H2->
  (J.stop i H2/\znP Q D H2)∨(J.go i H2/\∀ x H3,J.yld i H2 x H3->zmC (g C s₀ H₀ fp) x σ1 H3 fun σ2 H4=>zmB (tt C s₀ H₀ fp) σ2 H4 fun b H5=>
   if b=true then zmD (te C s₀ H₀ fp) σ2 H5 fun y H6=>∃ ys,H6 D=some (.lst ys)/\ys.length<sizeLine/\∃ m',m'<m/\W (i+1) m' σ2 (upd H6 D (.lst (ys++[y]))) else ∃ m',m'<m/\W (i+1) m' σ2 H5)
section
variable {X:Cx} {own:List Str} {js:List Nat} {scope:Scope} {tg elt iter:Expr} {ifs:List Expr} {pos:Pos} {g:Addr->Shared->Hp->List Addr->TG} {tt:Addr->Shared->Hp->List Addr->TT} {te:Addr->Shared->Hp->List Addr->TE}
theorem kP{H1:Hp}{s2:Shared}{tn:Nat->Heap->Prop}{J:It}{RR:Value->Addr->Result->Shared->Prop}{Qv:V->Hp->Prop}
  (hc:X.calm=true)(ok:CompOk js scope X.env.kindOf X.N)(hg:∀ C s₀ H₀ fp,PG (zb X own js scope C s₀ H₀ fp) tg (g C s₀ H₀ fp))(ht:∀ C s₀ H₀ fp,PTs (zb X own js scope C s₀ H₀ fp) ifs (tt C s₀ H₀ fp))(he:∀ C s₀ H₀ fp,PE (zb X own js scope C s₀ H₀ fp) elt (te C s₀ H₀ fp))
  (I:Inv X pins σ H1 s2)(T:Turn X.prog X.w X.K tg J fp it tn)(st:tn 0 s2.heap)(hf:∀ b ∈ fp,u0 X pins H1 b)
  (h:∀ C s₀ H₀ fp D,H1 D=none->∃ W:Nat->Nat->St->Hp->Prop,(∃ m,W 0 m (cS own js σ) (upd H1 D (.lst [])))/\∀ i m σ1 H2,W i m σ1 H2->
   (J.stop i H2/\znP Qv D H2)∨(J.go i H2/\∀ x H3,J.yld i H2 x H3->zmC (g C s₀ H₀ fp) x σ1 H3 fun σ2 H4=>zmB (tt C s₀ H₀ fp) σ2 H4 fun b H5=>
    if b=true then zmD (te C s₀ H₀ fp) σ2 H5 fun y H6=>∃ ys,H6 D=some (.lst ys)/\ys.length<sizeLine/\∃ m',m'<m/\W (i+1) m' σ2 (upd H6 D (.lst (ys++[y]))) else ∃ m',m'<m/\W (i+1) m' σ2 H5))
  (hRR:∀ D C H2 s' oC m,s'.heap.get? C=some oC->s'.heap.Ns C m->(∀ v,oC.data≠.cell v)->u0 X pins H2 C->Inv X pins σ H2 s'->Qv (.ref D) H2->RR (.ref D) C (.ok .next) s'):
  wpAny (model X.prog X.w) X.A (newList []) (fun acc s₃=>wpAny (model X.prog X.w) X.A (newFunctionEnv scope X.env.globals (zcX scope X.env.cells) [] X.env.qual none .none (some X.env)) (fun cenv s₄=>
   codeAny (model X.prog X.w) X.A (.compStart (.ListComp elt [⟨tg,iter,ifs,0⟩] scope pos) 0 (.ref it) acc { cenv with scope:=relabel scope X.env }) (RR acc cenv.locals) s₄) E s₃) E s2:=by
 refine wpAny_newObj_type (wpAny_newFunctionEnv ok.nocell (by intro y hy;simp at hy) (fun h₁ hns₁ hsb₁=>?_) ok.kind)
 dsimp only at hns₁ hsb₁ ⊢
 have hD:H1 s2.heap.objs.size=none:=I.hok.fresh (Jj _)
 have I3:Inv X pins σ (upd H1 s2.heap.objs.size (.lst [])) { s2 with heap:=s2.heap.push { cls:=.type "list",dict:=none,data:=.seq ([]:List Value).toArray } }:=
  I.laid (t':=s2.toks) (fun b u e=>Jc _ e) (Jj _) ⟨Kb _,[],0,.nil,Jq _ rfl⟩
 have hlt2:∀ b ∈ fp,b<s2.heap.objs.size:=fun b hb=>let ⟨o,e,_⟩:=T.obj 0 _ st b hb;Jn e
 generalize hH2:s2.heap.push { cls:=.type "list",dict:=none,data:=.seq ([]:List Value).toArray }=heap2 at hns₁ hsb₁ I3 ⊢
 have sz2:heap2.objs.size=s2.heap.objs.size+1:=by rw [← hH2,KM]
 have keep12:∀ b o,s2.heap.get? b=some o->heap2.get? b=some o:=fun b o e=>hH2 ▸ Jc _ e
 have keep:∀ b o,heap2.get? b=some o->h₁.get? b=some o:=fun b o e=>hsb₁.extBut b o (Ju (Jn e)) (Jc _ e)
 have hf3:∀ b ∈ fp,u0 X pins (upd H1 s2.heap.objs.size (.lst [])) b:=fun b hb=>⟨by rw [zW (Ju (hlt2 b hb))];exact (hf b hb).1,(hf b hb).2⟩
 have hlt3:∀ b ∈ fp,b<heap2.objs.size:=fun b hb=>by rw [sz2];exact JY (hlt2 b hb)
 generalize hDd:s2.heap.objs.size=D at *
 have I4:=zcT (own:=own) (js:=js) (t:=s2.toks+([]:List (Str × Value)).length) ok I3 rfl hns₁ keep hf3 hlt3
 have st4:tn 0 h₁:=T.keep 0 _ _ st fun b _ o e=>keep b o (keep12 b o e)
 obtain ⟨W,⟨m0,w0⟩,turn⟩:=h heap2.objs.size { s2 with heap:=heap2 } (upd H1 D (.lst [])) fp D hD
 -- facts about the block's frame
 have hXl:X.env.locals<heap2.objs.size:=I3.lt
 have loop:∀ s₃:Shared,s₃={ s2 with heap:=h₁,toks:=s2.toks+([]:List (Str × Value)).length }->
   codeAny (model X.prog X.w) X.A (.compLoop (.ListComp elt [⟨tg,iter,ifs,0⟩] scope pos) 0 (.ref it) (.ref D) (compEnvC scope (zcX scope X.env.cells) heap2.objs.size X.env)) (RR (.ref D) heap2.objs.size) s₃:=by
  rintro s₃ rfl
  generalize hXX:zb X own js scope heap2.objs.size { s2 with heap:=heap2 } (upd H1 D (.lst [])) fp=X' at I4
  have eP:X'.prog=X.prog:=by rw [← hXX];rfl
  have eW:X'.w=X.w:=by rw [← hXX];rfl
  have eK:X'.K=X.K:=by rw [← hXX];rfl
  have eA:X'.A=X.A:=by rw [← hXX];rfl
  have eC:X'.calm=true:=by rw [← hXX];exact hc
  have eE:X'.env=compEnvC scope (zcX scope X.env.cells) heap2.objs.size X.env:=by rw [← hXX];rfl
  have eL:X'.env.locals=heap2.objs.size:=by rw [← hXX];rfl
  have eX:X'.xe=fun _ _=>False:=by rw [← hXX];rfl
  have eex:X'.ex=fp:=by rw [← hXX];rfl
  have epn:X'.pn=[]:=by rw [← hXX];rfl
  have efs:X'.fs=frs X.stack:=by rw [← hXX];rfl
  have ecl:X'.env.cells=zcX scope X.env.cells:=by rw [← hXX];rfl
  have sub:=zcW (cells:=X.env.cells) scope.names [] (by simp)
  have stat:∀ {H':Hp},(∀ b ∈ fp,H' b=none)->∀ b ∈ fp,u0 X' [] H' b:=fun {H'} hn b hb=>by
   refine ⟨hn b hb,by rw [eL];exact Ju (hlt3 b hb),?_,.inl (by rw [eex];exact hb),fun x c hc=>?_,fun p hp=>?_⟩
   ·rw [efs]
    intro hb2
    rcases List.mem_cons.mp (I3.stkSub b hb2) with e | e
    ·exact (hf3 b hb).2.1 e
    ·exact (hf3 b hb).2.2.1 e
   ·rw [ecl] at hc
    exact (hf3 b hb).2.2.2.2.1 x c (sub x c hc)
   ·rw [epn] at hp;exact nomatch hp
  have hg':=hg heap2.objs.size { s2 with heap:=heap2 } (upd H1 D (.lst [])) fp
  have ht':=ht heap2.objs.size { s2 with heap:=heap2 } (upd H1 D (.lst [])) fp
  have he':=he heap2.objs.size { s2 with heap:=heap2 } (upd H1 D (.lst [])) fp
  rw [hXX] at hg' ht' he'
  rw [← eE]
  refine zff (fun n s'=>∃ i σ' H',Inv X' [] σ' H' s'/\tn i s'.heap/\(∀ b ∈ fp,H' b=none)/\W i n σ' H') ?_ m0 ⟨0,_,_,I4,st4,fun b hb=>(hf3 b hb).1,w0⟩
  rintro n s3 ⟨i,σ3,H3,I3',st3,fr3,w3⟩
  rcases turn i n σ3 H3 w3 with ⟨stop,qn⟩ | ⟨go,step⟩
  ·have:=T.done X' eP eW eK eC i [] s3 σ3 H3 (fun _ _=>False) I3' (stat fr3) st3 stop
   rw [eA] at this
   refine thn this fun r s4 ⟨hr,I5⟩=>?_
   subst hr
   obtain ⟨m,hn,_⟩:=I5.loc
   obtain ⟨oC,es,ep,hoC,hd,_⟩:=id hn
   rw [eL] at hoC hn
   have hback:Inv X pins σ H3 s4:=zfg I3 hf3 (hXX ▸ I5)
   refine hRR _ _ H3 s4 oC m hoC hn (fun v z=>by rw [hd] at z;cases z) ?_ hback qn
   have hfree:H3 heap2.objs.size=none:=by have:=I5.free;rw [eL] at this;exact this
   refine ⟨hfree,Qd hXl,I3.nofs (Jj _),.inr I3.sz,fun x c e z=>?_,fun p hp z=>?_⟩
   ·obtain ⟨v,q⟩:=I3.cell x c e
    exact absurd q.lt (by rw [z];exact KI _)
   ·exact absurd (Jn (I3.pin p hp).1) (by rw [z];exact KI _)
  ·have:=T.item X' eP eW eK eC i [] s3 σ3 H3 (fun _ _=>False) I3' (stat fr3) st3 go
   rw [eA] at this
   refine thn this fun r s4 ⟨u,hr,h4⟩=>?_
   subst hr
   refine thn h4 fun _ s5 ⟨x,H5,I5,r5,y5,st5,fr5⟩=>?_
   have I5':=I5.pinned (stat fr5) (T.obj _ _ st5)
   have h6:=hg' _ s5 σ3 H5 x u _ I5' r5 (step x H5 y5)
   rw [eP,eW,eA,eX] at h6
   refine thn h6 fun _ s6 ⟨σ6,H6,I6,q6⟩=>?_
   have h7:=ht' _ s6 σ6 H6 _ I6 q6
   rw [eP,eW,eA,eX] at h7
   refine thn h7 fun b s7 ⟨H7,I7,q7⟩=>?_
   have again:∀ {s8:Shared} {H8:Hp},Inv X' ([]++jt fp s5.heap) σ6 H8 s8->(∃ m',m'<n/\W (i+1) m' σ6 H8)->∃ m,m<n/\∃ i σ' H',Inv X' [] σ' H' s8/\tn i s8.heap/\(∀ b ∈ fp,H' b=none)/\W i m σ' H':=fun {s8 H8} I8 ⟨m',hm,w8⟩=>by
    refine ⟨m',hm,i+1,σ6,H8,I8.unpinned,T.keep _ _ _ st5 fun b hb o e=>(I8.pin (b,o) (Jl _ (Jl _ (wF hb e)))).1,fun b hb=>?_,w8⟩
    obtain ⟨o,e,d⟩:=T.obj _ _ st5 b hb
    exact (I8.pin (b,o) (Jl _ (Jl _ (wF hb e)))).2.1
   cases b with
   | false=>exact again I7 q7
   | true=>
    have h8:=he' _ s7 σ6 H7 _ I7 q7
    rw [eP,eW,eA,eX] at h8
    refine thn h8 fun v s8 ⟨y,H8,I8,r8,ys,hys,hz,q8⟩=>?_
    have h9:=k5 (X:=X') _ s8 σ6 H8 (.ref D) [y] (.ref D) [v] (fun _ H9=>H9=upd H8 D (.lst (ys++[y]))) I8 rfl (.cons r8 .nil) ⟨D,ys,y,rfl,rfl,hys,hz,rfl⟩
    rw [eP,eW,eA,eX] at h9
    refine thn h9 fun _ s9 ⟨v9,H9,I9,r9,e9⟩=>?_
    subst e9
    exact again I9 q8
 exact codeAny_compStart_list (loop _ rfl) (T.self _ 0 _ _ _ st4 (loop _ rfl))
theorem zmR(hc:X.calm=true)(hi:PI X tg iter wi)(hg:∀ C s₀ H₀ fp,PG (zb X own js scope C s₀ H₀ fp) tg (g C s₀ H₀ fp))(ht:∀ C s₀ H₀ fp,PTs (zb X own js scope C s₀ H₀ fp) ifs (tt C s₀ H₀ fp))(he:∀ C s₀ H₀ fp,PE (zb X own js scope C s₀ H₀ fp) elt (te C s₀ H₀ fp))
  (ok:jK js scope X.env.kindOf X.N=true:=by first | rfl | decide +kernel)(hs:∀ x,foldedSetIterable iter X.env x=pure x:=by intro _;rfl):
  PE X (.ListComp elt [⟨tg,iter,ifs,0⟩] scope pos) (zfP wi own js g tt te):=by
 intro pins s σ H Q I h
 have ok:=qJ ok
 rw [eval_ListComp]
 refine wpAny_comprehension_free (use:=none) rfl hs (kQ fun y hy e=>I.ok.has _ (ok.free y hy e)) ok.kind ok.loc (thn (hi pins s σ H _ I h) fun v s1 h1=>thn h1 fun itv s2 h2=>?_)
 obtain ⟨it,fp,tn,J,H2,e,I2,T,st2,f2,q⟩:=h2
 subst e
 refine kP (RR:=fun acc C=>compPost (model X.prog X.w) X.A X.xe none (EP X pins σ Q) acc C) hc ok hg ht he I2 T st2 f2 q ?_
 intro D C H3 s' oC m hoC hn hd hfp I' q'
 refine ⟨m,hn,fun h' hs'=>⟨.ref D,H3,?_,rfl,q'⟩⟩
 exact I'.turned (t':=s'.toks) (fun b o hb e=>(hs'.2 b hb).trans e) hfp.1 hfp.2.1 hfp.2.2.2.1 hfp.2.2.2.2.1 hfp.2.2.2.2.2
theorem zix{py spos:Pos}(hN:X.N.Nodup)(hi':X.N[i]?=some y)(hx:Loc X.env.scope y)(hc:X.calm=true)(hi:PI X tg iter wi)(hg:∀ C s₀ H₀ fp,PG (zb X own js scope C s₀ H₀ fp) tg (g C s₀ H₀ fp))
  (ht:∀ C s₀ H₀ fp,PTs (zb X own js scope C s₀ H₀ fp) ifs (tt C s₀ H₀ fp))(he:∀ C s₀ H₀ fp,PE (zb X own js scope C s₀ H₀ fp) elt (te C s₀ H₀ fp))
  (ok:jK js scope X.env.kindOf X.N=true:=by first | rfl | decide +kernel)(hs:∀ x,foldedSetIterable iter X.env x=pure x:=by intro _;rfl)
  (hsw:swapsWith (.ListComp elt [⟨tg,iter,ifs,0⟩] scope pos) (some (.Name y py)) spos.line X.env=pure true:=by rfl)(hf:X.fn y=true∨X.env.scope.names.lookup y=some .local:=by first | exact .inl rfl | exact .inr rfl | assumption):
  PS X (.Assign [.Name y py] (.ListComp elt [⟨tg,iter,ifs,0⟩] scope pos) spos) (uA (zfP wi own js g tt te) (wt i)):=by
 intro pins s σ H D I h
 have ok:=qJ ok
 rw [exec_Assign_Name_used _ _ _ _ hsw]
 refine wpAny_bind (wpAny_standAt (wpAny_bind ?_))
 show wpAny _ X.A (do let _ ← comprehension (.ListComp elt [⟨tg,iter,ifs,0⟩] scope pos) scope X.env _ (newList []) false (eval iter X.env) (some (assign (.Name y py) X.env))) _ _ s
 refine wpAny_bind (wpAny_mono (wpAny_comprehension_free (use:=some (assign (.Name y py) X.env)) (Q:=fun _ s'=>SP X pins D .next s') rfl hs (kQ fun y hy e=>I.ok.has _ (ok.free y hy e)) ok.kind ok.loc (thn (hi pins s σ H _ I h) fun v s1 h1=>thn h1 fun itv s2 h2=>?_))
  (fun _ s' hq=>wpAny_pure (wpAny_pure hq)) fun _ _ e=>e)
 obtain ⟨it,fp,tn,J,H2,e,I2,T,st2,f2,q⟩:=h2
 subst e
 refine kP (Qv:=fun x H1=>wt i x σ H1 D.nx) (RR:=fun acc C=>compPost (model X.prog X.w) X.A X.xe (some (assign (.Name y py) X.env)) (fun _ s'=>SP X pins D .next s') acc C) hc ok hg ht he I2 T st2 f2 q ?_
 intro Da C H3 s' oC m hoC hn hd hfp I' q'
 have I'':Inv X (pins++[(C,oC)]) σ H3 s':=I'.pins_of fun p hp=>(Kd.mp hp).elim (fun z=>I'.pin p (Jl _ z)) fun z=>by
  rw [Ji.mp z]
  exact ⟨hoC,hfp.1,hfp.2.1,hfp.2.2.1,hd⟩
 refine thn (zdw (pos:=py) hN hi' hx hf _ s' σ H3 (.ref Da) (.ref Da) _ I'' rfl q') fun _ s'' ⟨σ4,H4,I4,q4⟩=>?_
 have hC4:=I4.pin (C,oC) (Jl _ (Jl _ Jf))
 refine ⟨m,hn.at' fun o e=>?_,fun h' hs'=>⟨σ4,H4,?_,q4⟩⟩
 ·rw [hoC] at e;cases e;exact hC4.1
 ·have I5:Inv X pins σ4 H4 s'':=I4.unpinned
  exact I5.turned (t':=s''.toks) (fun b o hb e=>(hs'.2 b hb).trans e) hC4.2.1 hfp.2.1 hfp.2.2.2.1 hfp.2.2.2.2.1 hfp.2.2.2.2.2
end
structure Fn (P:Program) (w:World) (K:PySem.W.Frag) (mg:Str->Option Value) (base:Heap) (x:Str) (k:Nat) (ps:List Str) (sp:Sp):Prop where
 ex:∃ f fd,FnOk P w K mg base CX0 k f fd ps sp/\mg x=some (.ref f)/\PySem.W.keepIn K (.ref f)=true/\Binds K fd ps []
theorem zmT{X:Cx}(F:Fn X.prog X.w X.K X.mg X.base x k ps sp)(hr:Room k X.A)(hg:Gl X x)(ha:PA X (e::es) t)
  (hdb:(x == ("__debug__":Str))=false:=by decide)(he:starEach (e::es) X.env=(false,eval e X.env)::starEach es X.env:=by rfl)(hpl:(backTo pos (starEach es X.env)).any (·.1)=false:=by rfl):
  PE X (.Call (.Name x p) (e::es) [] pos) (zdn sp [] E0 t):=by
 obtain ⟨f,fd,F,hm,hk,hb⟩:=F.ex
 exact ziH F hr hg hm hk hb .nil zjJ ha hdb he hpl
section
variable {prog:Program} {w:World} {A:Around} {E:Value->Shared->Prop} {s:Shared}
theorem qH{it t:Addr}{items:Array Value}(hne:t≠it):∀ (n i:Nat) (s:Shared) (Q:List Value->Shared->Prop),s.heap.IsListIter it t i->s.heap.IsList t items->i+n≤items.size->
  (∀ h',h'.IsListIter it t (i+n)->Heap.SameBut it s.heap h'->Q ((items.toList.drop i).take n) { s with heap:=h' })->wpAny (model prog w) A (draw (.ref it) n) Q E s
 | 0,i,s,Q,hit,_,_,hQ=>by
  show wpAny _ _ (pure []) Q E s
  exact wpAny_pure (by simpa using hQ s.heap hit (Heap.SameBut.refl ..))
 | n+1,i,s,Q,hit,ht,hle,hQ=>by
  have hlt:i<items.size:=by omega
  show wpAny _ _ (pyNext (.ref it) >>= _) Q E s
  refine wpAny_bind (wpAny_pyNext_list_item hit ht (x:=items[i]) (by simp [hlt]) fun h₁ hit₁ hs₁=>?_)
  refine wpAny_bind (wpAny_holding (qH hne n (i+1) _ _ hit₁ (ht.extBut hs₁.extBut hne) (by omega) fun h₂ hit₂ hs₂=>wpAny_pure ?_))
  have hd:items.toList.drop i=items[i]::items.toList.drop (i+1):=by simp [List.drop_eq_getElem_cons,hlt]
  have:=hQ h₂ (by rw [show i+(n+1)=i+1+n by omega];exact hit₂) (hs₁.trans hs₂)
  rw [hd,List.take_succ_cons] at this
  exact this
theorem ue{items:Array Value}{Q:List Value->Shared->Prop}(hh:A.handled=none)(ht:s.heap.IsList t items)
  (hQ:∀ h',Heap.ExtBut s.heap.objs.size s.heap h'->Q items.toList { s with heap:=h' }):wpAny (model prog w) A (unpackItems (.ref t) items.size none) Q E s:=by
 have hlt:t≠s.heap.objs.size:=by obtain ⟨o,ho,_⟩:=ht;exact Ju (Jn ho)
 unfold unpackItems
 refine wpAny_bind ?_
 ·unfold notIterableAtAll
  refine wpAny_bind (wpAny_specialOf ht.typeIs slot_list_iter.lookup ?_)
  refine wpAny_pure ?_
  simp only [Bool.false_eq_true,if_false]
  refine wpAny_bind (wpAny_holding (wpAny_pyIter_list ht ?_))
  have hpush:(s.heap.push { cls:=.type "list_iterator",data:=.fields #[.ref t,.int 0 0] }).IsList t items:=by
   obtain ⟨o,ho,r⟩:=ht
   exact ⟨o,Jc _ ho,r⟩
  refine wpAny_bind (wpAny_holding (qH hlt items.size 0 _ _ ⟨_,Jq _ rfl,rfl,rfl⟩ hpush (by omega) fun h₁ hit₁ hs₁=>?_))
  have hall:List.take items.size (List.drop 0 items.toList)=items.toList:=by
   rw [List.drop_zero];exact List.take_of_length_le (by simp)
  rw [hall]
  rw [if_neg (by simp)]
  have ht₁:h₁.IsList t items:=hpush.extBut hs₁.extBut hlt
  refine wpAny_bind (wpAny_holding (wpAny_pyNext_list_end hh hit₁ ht₁ (by simp) fun h₂ he₂=>?_))
  simp only [Option.isSome_none,Bool.false_eq_true,if_false]
  refine wpAny_pure (hQ h₂ fun b o hb e=>he₂ b o hb (hs₁.extBut b o hb (Jc _ e)))
theorem uX{x1}{items:Array Value}(hh:A.handled=none)(ht:s.heap.IsList t items)
  (hn:(assignEach elts env).length=items.size)(hstar:(assignEach elts env).findIdx? (·.1)=none)
  (h:∀ h',Heap.ExtBut s.heap.objs.size s.heap h'->wpAny (model prog w) A (assignInOrder ((assignEach elts env).map (·.2)) items.toList) Q E { s with heap:=h' }):
  wpAny (model prog w) A (assign (.Tuple elts x1 pos) env (.ref t)) Q E s:=by
 rw [assign_Tuple]
 refine wpAny_bind (wpAny_standAt ?_)
 unfold unpack
 rw [hn,hstar]
 exact wpAny_bind (wpAny_holding (ue hh ht h))
end
section
variable {X:Cx} {pos:Pos}
noncomputable def zoK(K:PySem.W.Frag)(n:Nat)(t:TGs):TG:=fun v σ H Q=>∃ a xs,v=.ref a/\SqL K H a xs/\xs.length=n/\t xs σ H Q
theorem zkR(hc:X.calm=true)(h:PGs X es t)
  (hn:(assignEach es X.env).length=n:=by rfl)(hst:(assignEach es X.env).findIdx? (·.1)=none:=by rfl):PG X (.Tuple es k pos) (zoK X.K n t):=by
 intro pins s σ H v u Q I r hw
 obtain ⟨a,xs,e1,hq,hl,hw⟩:=hw
 subst e1
 cases r
 obtain ⟨its,rv,ht,hz⟩:=I.list hq
 refine uX (I.ok.hd hc) ht.isList (by simp [hn,← hl,rv.length]) hst fun h' hx=>?_
 have I1:Inv X pins σ H { s with heap:=h' }:=I.kept (t':=s.toks) fun b o e=>hx b o (Nat.ne_of_lt (Heap.lt_size e)) e
 exact h pins _ σ H xs _ Q I1 (by simpa using rv) hw
end
section
variable {prog:Program} {w:World} {A:Around} {E:Value->Shared->Prop} {s:Shared}
theorem vN{t sl:Addr}{items:Array Value}{vl vu:Value}{lo hi:Option Int}{Q:Value->Shared->Prop}(ht:IsTup s.heap t items)(hs:s.heap.IsSliceOf sl vl vu .none)(pl:IsPart vl lo)(pu:IsPart vu hi)
  (hw:HT.sIx items.size 0 lo=0/\HT.sIx items.size items.size hi=items.size)(h:Q (.ref t) s):wpAny (model prog w) A (getItem (.ref t) (.ref sl)) Q E s:=by
 obtain ⟨os,hos,hcs,hds⟩:=id hs
 have hTs:s.TypeIs (.ref sl) "slice":=⟨os,hos,hcs⟩
 unfold getItem
 try with_reducible refine wpAny_holding ?_
 first | refine wpAny_bind (wpAny_pure ?_) | skip
 refine wpAny_bind (wpAny_sequenceKey ht.typeIs (by decide) ?_)
 refine wpAny_bind (wpAny_callSpecial?_slot (name:=Str.ofString "__getitem__") ht.typeIs KP
  (wpAny_call_entry KP ht.typeIs entry_tuple_getitem ?_ (args_tuple_getitem _ _)))
 show wpAny _ _ (Builtin.Tuple.tupleItemsOf (.ref t) >>= _) _ _ s
 refine wpAny_bind (tupleItemsOf_ ht ?_)
 refine wpAny_bind (wpAny_typeOf hTs ?_)
 rw [if_pos (by decide)]
 refine wpAny_bind (HT.sliceApplied_gen hs pl pu ?_)
 have hyes:(((HT.sIx items.size 0 lo:Nat):Int) == 0 && (1:Int) == 1 && (HT.sIx items.size items.size hi - HT.sIx items.size 0 lo) == items.size)=true:=by
  rw [hw.1,hw.2];simp
 show wpAny _ _ (if (((HT.sIx items.size 0 lo:Nat):Int) == 0 && (1:Int) == 1 && (HT.sIx items.size items.size hi - HT.sIx items.size 0 lo) == items.size)=true then _ else _) _ _ s
 rw [if_pos hyes]
 refine wpAny_bind ?_
 unfold Builtin.Tuple.tupleIsExact
 refine wpAny_bind (wpAny_typeOf ht.typeIs (wpAny_pure ?_))
 rw [if_pos (by decide)]
 first
  | exact wpAny_bind (wpAny_rule (wpAny_pure ⟨_,rfl,wpAny_pure h⟩))
  | exact wpAny_bind (wpAny_rule (wpAny_bind (wpAny_pure (wpAny_pure ⟨_,rfl,wpAny_pure h⟩))))
  | exact wpAny_bind (wpAny_rule (wpAny_bind (wpAny_pure ⟨_,rfl,wpAny_pure h⟩)))
end
section
variable {X:Cx}
noncomputable def zmF(K:PySem.W.Frag):V->Option Int->Option Int->Hp->VK->Prop:=fun x lo hi H Q=>∃ a xs,x=.ref a/\SqT K H a xs/\(kN xs lo hi=xs->Q (.ref a) H)/\∀ p,H p=none->Q (.ref p) (upd H p (.tup (kN xs lo hi)))
theorem zim:SlR X (zmF X.K):=by
 intro pins s σ H x v vl vu lo hi sl Q I rx hs pl pu h
 obtain ⟨a,xs,rfl,hx,q1,q2⟩:=h
 by_cases hw:HT.sIx xs.length 0 lo=0/\HT.sIx xs.length xs.length hi=xs.length
 ·cases rx
  obtain ⟨its,r,ht,hz⟩:=I.tuple hx
  have hlen:its.toArray.size=xs.length:=by rw [Jv];exact r.length.symm
  refine ⟨"tuple",_,PyProof.Rows.slot_tuple_getitem.lookup,ht.typeIs,?_⟩
  refine vN ht hs pl pu (by rw [hlen];exact hw) ⟨.ref a,H,I,rfl,q1 ?_⟩
  unfold kN
  rw [hw.1,hw.2]
  simp
 ·exact zkC pins s σ H _ v vl vu lo hi sl Q I rx hs pl pu ⟨a,xs,rfl,hx,hw,q2⟩
theorem zdf:∀ {ns:List String} {us:List Value},Vals (ns.map V.ty) us->us=ns.map Value.type
 | [],_,h=>by cases h;rfl
 | n::ns,_,h=>by
  cases h with
  | cons r t=>cases r;rw [zdf t];rfl
theorem op_mulB:OpR X (binaryOp .Mult) (rI IntMulOk fun i j=>.int (i * j)):=opI fun _ _ _ _ _ _ _ hc q=>mul_int q hc
theorem ju(hu:X.A.units+1<cLine):OpR X (compareOp .In) (fun x y H Q=>∃ a o,y=.ref a/\DGet H a x o/\Q (.bl o.isSome) H):=by
 intro pins s σ H x y v u Q I rx ry h
 obtain ⟨a,o,rfl,g,q⟩:=h
 cases ry
 exact zoO hu I g rx fun s' I'=>⟨.bl _,H,I',rfl,q⟩
theorem kX(hu:X.A.units+1<cLine):OpR X (compareOp .NotIn) (fun x y H Q=>∃ a o,y=.ref a/\DGet H a x o/\Q (.bl (!o.isSome)) H):=by
 intro pins s σ H x y v u Q I rx ry h
 obtain ⟨a,o,rfl,g,q⟩:=h
 cases ry
 exact zjq hu I g rx fun s' I'=>⟨.bl _,H,I',rfl,q⟩
noncomputable def zjz(K:PySem.W.Frag)(H:Hp)(y x:V)(b:Bool):Prop:=
 (∃ p xs,y=.ref p/\(SqL K H p xs∨SqT K H p xs)/\wT x=true/\xs.all wT=true/\b=inV x xs)∨∃ a o,y=.ref a/\DGet H a x o/\b=o.isSome
theorem zeD(hu:X.A.units+1<cLine):OpR X (compareOp .In) (fun x y H Q=>∃ b,zjz X.K H y x b/\Q (.bl b) H):=by
 intro pins s σ H x y v u Q I rx ry h
 obtain ⟨b,h | h,q⟩:=h
 ·obtain ⟨p,xs,rfl,h1,h2,h3,rfl⟩:=h
  exact zeC pins s σ H x _ v u Q I rx ry ⟨p,xs,rfl,h1,h2,h3,q⟩
 ·obtain ⟨a,o,rfl,h1,rfl⟩:=h
  exact ju hu pins s σ H x _ v u Q I rx ry ⟨a,o,rfl,h1,q⟩
theorem qh(hu:X.A.units+1<cLine):OpR X (compareOp .NotIn) (fun x y H Q=>∃ b,zjz X.K H y x b/\Q (.bl (!b)) H):=by
 intro pins s σ H x y v u Q I rx ry h
 obtain ⟨b,h | h,q⟩:=h
 ·obtain ⟨p,xs,rfl,h1,h2,h3,rfl⟩:=h
  exact qg pins s σ H x _ v u Q I rx ry ⟨p,xs,rfl,h1,h2,h3,q⟩
 ·obtain ⟨a,o,rfl,h1,rfl⟩:=h
  exact kX hu pins s σ H x _ v u Q I rx ry ⟨a,o,rfl,h1,q⟩
theorem kR(hc:X.calm=true):CallR X (.type "list") (fun xs H Q=>∃ p kvs,xs=[.ref p]/\H p=some (.dK kvs)/\∀ l,H l=none->Q (.ref l) (upd H l (.lst (kvs.map fun kv=>kV kv.1)))):=by
 intro pins s σ H xs us Q I r h
 obtain ⟨p,kvs,rfl,hp,q⟩:=h
 obtain ⟨u,rfl,rx⟩:=kj r
 cases rx
 obtain ⟨hz,hS,vs,rel,o,es,ep,h1,h2,h3,h4⟩:=zdW I.hok hp
 have hlen:kvs.length=vs.length:=rel.length
 have hn:H s.heap.objs.size=none:=I.hok.fresh (Jj _)
 refine PySem.W.kdl_call (PySem.W.kdl_dict (kvs:=vs) (ep:=ep) hS) (I.ok.hd hc) ⟨o,es,h1,h2,h3,h4⟩ (by omega) fun h' tk acc' c' hk hl hi=>?_
 have rv:Vals (kvs.map fun kv=>kV kv.1) acc'.toList:=by
  have key:∀ (l:List (Key × V)) (m:List (Key × Value)) (us:List Value),KV l m->us.length=m.length->(∀ (j:Nat) (v:Value),us[j]?=some v->∃ k x,m[j]?=some (k,x)/\(zC X.prog X.w).is k v=true)->Vals (l.map fun kv=>kV kv.1) us:=by
   intro l m us hr
   unfold KV at hr
   induction hr generalizing us with
   | nil=>intro hl _;cases us with
    | nil=>exact .nil
    | cons _ _=>simp at hl
   | @cons a b l m hab t ih=>
    intro hl hv
    cases us with
    | nil=>simp at hl
    | cons u us=>
     refine .cons ?_ (ih us (by simpa using hl) fun j v hj=>by simpa using hv (j+1) v (by simpa using hj))
     obtain ⟨k,x,e,hk⟩:=hv 0 u rfl
     simp only [List.getElem?_cons_zero,Option.some.injEq] at e
     have e1:b.1=k:=by rw [e]
     show RelV (kV a.1) u
     rw [hab.1,e1]
     rw [zcB] at hk
     rcases zH hk with ⟨i,t,rfl,rfl⟩ | ⟨x,t,rfl,rfl⟩
     ·exact ⟨t,rfl⟩
     ·exact ⟨t,rfl⟩
  refine key kvs vs _ rel (by rw [Jd];exact hi.1) fun j v hj=>hi.2 j v (by rw [← Jp];exact hj)
 refine ⟨.ref s.heap.objs.size,_,I.laid hk (Jj _) (show ObjOk X.prog X.w _ h' _ (.lst (kvs.map fun kv=>kV kv.1)) from ⟨by rw [Je];exact hz,acc'.toList,c',rv,by rw [Array.toArray_toList];exact hl⟩),rfl,q _ hn⟩
end
mutual
inductive Rep (K:PySem.W.Frag) (H:Hp):V->PyData->Prop
 | non:Rep K H .non .none
 | bl (b:Bool):Rep K H (.bl b) (.bool b)
 | int (i:Int):Rep K H (.int i) (.int i)
 | str (x:Str):Rep K H (.str x) (.str x)
 | list {a:Addr} {xs:List V} {ds:List PyData}:SqL K H a xs->Reps K H xs ds->Rep K H (.ref a) (.list ds)
 | tuple {a:Addr} {xs:List V} {ds:List PyData}:SqT K H a xs->Reps K H xs ds->Rep K H (.ref a) (.tuple ds)
inductive Reps (K:PySem.W.Frag) (H:Hp):List V->List PyData->Prop
 | nil:Reps K H [] []
 | cons {x:V} {d:PyData} {xs:List V} {ds:List PyData}:Rep K H x d->Reps K H xs ds->Reps K H (x::xs) (d::ds)
end
theorem Same.tup{K:PySem.W.Frag}{H H':Hp}{a:Addr}{xs:List V}(e:Same H H')(h:SqT K H a xs):SqT K H' a xs:=by
 rcases h with (h | ⟨o,h⟩) | h
 ·exact .inl (.inl (e _ _ h))
 ·exact .inl (.inr ⟨o,e _ _ h⟩)
 ·exact .inr h
mutual
theorem Rep.same{K:PySem.W.Frag}{H H':Hp}(e:Same H H'):∀ {x:V} {d:PyData},Rep K H x d->Rep K H' x d
 | _,_,.non=>.non
 | _,_,.bl b=>.bl b
 | _,_,.int i=>.int i
 | _,_,.str x=>.str x
 | _,_,.list h r=>.list (e.seq h) (Reps.same e r)
 | _,_,.tuple h r=>.tuple (e.tup h) (Reps.same e r)
theorem Reps.same{K:PySem.W.Frag}{H H':Hp}(e:Same H H'):∀ {xs:List V} {ds:List PyData},Reps K H xs ds->Reps K H' xs ds
 | _,_,.nil=>.nil
 | _,_,.cons h t=>.cons (Rep.same e h) (Reps.same e t)
end
mutual
theorem Rep.reads{X:Cx}{pins:List (Addr × Obj)}{σ:St}{H:Hp}{s:Shared}(I:Inv X pins σ H s):∀ {x:V} {d:PyData} {u:Value},Rep X.K H x d->RelV x u->∃ as,Reads s.heap u d as
 | _,_,_,.non,r=>by cases r;exact ⟨_,.none⟩
 | _,_,_,.bl b,r=>by cases r;exact ⟨_,.bool b⟩
 | _,_,_,.int i,r=>by obtain ⟨t,rfl⟩:=r;exact ⟨_,.int i t⟩
 | _,_,_,.str x,r=>by obtain ⟨t,rfl⟩:=r;exact ⟨_,.str x t⟩
 | _,_,_,.list h q,r=>by
  cases r
  obtain ⟨its,rv,⟨o,n,e,c,d,hd⟩,hz⟩:=I.list h
  obtain ⟨as,ra⟩:=Reps.reads I q rv
  exact ⟨_,.list e c hd (by simpa using ra)⟩
 | _,_,_,.tuple h q,r=>by
  cases r
  obtain ⟨its,rv,⟨o,e,c,n,hd⟩,hz⟩:=I.tuple h
  obtain ⟨as,ra⟩:=Reps.reads I q rv
  exact ⟨_,.tuple e c hd (by simpa using ra)⟩
theorem Reps.reads{X:Cx}{pins:List (Addr × Obj)}{σ:St}{H:Hp}{s:Shared}(I:Inv X pins σ H s):∀ {xs:List V} {ds:List PyData} {us:List Value},Reps X.K H xs ds->Vals xs us->∃ as,ReadsAll s.heap us ds as
 | _,_,_,.nil,r=>by cases r;exact ⟨_,.nil⟩
 | _,_,_,.cons h t,r=>by
  cases r with
  | cons r1 r2=>
   obtain ⟨as,ra⟩:=Rep.reads I h r1
   obtain ⟨bs,rb⟩:=Reps.reads I t r2
   exact ⟨_,.cons ra rb⟩
end
section
variable {X:Cx}
open PySem.SeqAt in
theorem zlo(hu:X.A.units+64<cLine):OpR X (compareOp .Eq) (fun x y H Q=>∃ d e,Rep X.K H x d/\Rep X.K H y e/\d.canLay0=true/\e.canLay0=true/\d.depth≤64/\Q (.bl (PyData.eqv d e)) H):=by
 intro pins s σ H x y v u Q I rx ry h
 obtain ⟨d,e,hd,he,h1,h2,h3,q⟩:=h
 obtain ⟨as,ra⟩:=hd.reads I rx
 obtain ⟨bs,rb⟩:=he.reads I ry
 exact compareEq_reads ra rb h1 h2 (by have:=Nat.min_le_left d.depth e.depth;omega) ⟨.bl _,H,I,rfl,q⟩
open PySem.SeqAt in
theorem zlm(hu:X.A.units+64<cLine):OpR X (compareOp .NotEq) (fun x y H Q=>∃ d e,Rep X.K H x d/\Rep X.K H y e/\d.canLay0=true/\e.canLay0=true/\d.depth≤64/\Q (.bl (!PyData.eqv d e)) H):=by
 intro pins s σ H x y v u Q I rx ry h
 obtain ⟨d,e,hd,he,h1,h2,h3,q⟩:=h
 obtain ⟨as,ra⟩:=hd.reads I rx
 obtain ⟨bs,rb⟩:=he.reads I ry
 exact compareNe_reads ra rb h1 h2 (by have:=Nat.min_le_left d.depth e.depth;omega) ⟨.bl _,H,I,rfl,q⟩
end
section
variable {X:Cx} {pos:Pos}
theorem zlb(hg:Gl X x)(hm:X.mg x=none)(hv:bootBuiltins x=some (.type T))(hn:x≠"__name__":=by decide)(hd:(x == ("__debug__":Str))=false:=by decide):PE X (.Name x pos) (tC (.ty T)):=
 ziI hg hm hv (show RelV (.ty T) (.type T) from rfl) hn hd
theorem ziE(hg:Gl X x)(hm:X.mg x=some (.int i t))(hd:(x == ("__debug__":Str))=false:=by decide):PE X (.Name x pos) (tC (.int i)):=
 zdx hg hm (show RelV (.int i) (.int i t) from ⟨t,rfl⟩) hd
end
noncomputable def cW(D:Addr)(xs:List V)(τ:St)(Pv:Nat->List V->Hp->Prop)(i m:Nat)(σ:St)(H:Hp):Prop:=
 ∃ o ys,σ=o::τ/\H D=some (.lst ys)/\ys.length≤i/\i≤xs.length/\m=xs.length - i/\Pv i ys H
noncomputable def cPut(D:Addr)(xs:List V)(τ:St)(Pv:Nat->List V->Hp->Prop)(i:Nat)(x:V)(y:V)(H6:Hp):Prop:=
 ∃ ys,H6 D=some (.lst ys)/\ys.length<sizeLine/\∃ m',m'<xs.length - i/\cW D xs τ Pv (i+1) m' (some x::τ) (upd H6 D (.lst (ys++[y])))
noncomputable def cSkip(D:Addr)(xs:List V)(τ:St)(Pv:Nat->List V->Hp->Prop)(i:Nat)(x:V)(H5:Hp):Prop:=
 ∃ m',m'<xs.length - i/\cW D xs τ Pv (i+1) m' (some x::τ) H5
theorem cPut.mk{xs:List V}{τ:St}{Pv:Nat->List V->Hp->Prop}{H6:Hp}{ys:List V}(hi:i<xs.length)(hz:xs.length≤100000)(hy:ys.length≤i)(h:H6 D=some (.lst ys))(p:Pv (i+1) (ys++[y]) (upd H6 D (.lst (ys++[y])))):
  cPut D xs τ Pv i x y H6:=
 ⟨ys,h,by rw [sizeLine_eq];omega,xs.length - (i+1),by omega,some x,ys++[y],rfl,zT,by rw [Jh,Qg];omega,hi,rfl,p⟩
theorem cSkip.mk{xs:List V}{τ:St}{Pv:Nat->List V->Hp->Prop}{H5:Hp}{ys:List V}(hi:i<xs.length)(hy:ys.length≤i)(h:H5 D=some (.lst ys))(p:Pv (i+1) ys H5):cSkip D xs τ Pv i x H5:=
 ⟨xs.length - (i+1),by omega,some x,ys,rfl,h,by omega,hi,rfl,p⟩
theorem zw{H H':Hp}(s:Same H H')(hD:H D=none):Same H (upd H' D o):=fun b u e=>by
 rw [zW (yW e hD)]
 exact s b u e
theorem bits_of_weight:∀ (ns:List Int),PySem.W.WData.weightAll (ns.map PySem.W.WData.int)≤2 ^ 20->∀ n ∈ ns,Builtin.Int.intBits n≤1048576
 | [],_,_,h=>nomatch h
 | m::ns,hw,n,h=>by
  rw [Jm] at hw
  unfold PySem.W.WData.weightAll at hw
  rcases List.mem_cons.mp h with rfl | h
  ·have:PySem.W.WData.weight (PySem.W.WData.int n)=Builtin.Int.intBits n:=by unfold PySem.W.WData.weight Builtin.Int.intBits;rfl
   omega
  ·exact bits_of_weight ns (by omega) n h
end L2
namespace Att
open PySem PySem.W PySem.Calls PyProof.Rows
theorem attach_callB{l:OpenLaw}{YP:World->Heap->Prop}{d:DefRec}
  (hn:l.most=some n)(hdf:d.params.defaults=[])
  (call:∀ (w:World) (s₀ s₁:Shared) (mg mb:Str->Option Value) (fa:Addr) (o:Obj) (pm cd doc:Value) (a:Addr) (vs:List Value) (ns:List Int),
   Ground q loose [] XP w s₀ mg mb s₁.heap->YP w s₁.heap->
   s₁.heap.get? fa=some o->o.data=.func (docDef d.name d.params d.body d.scope pm cd doc)->s₁.heap.CodeRec cd d.name->mg d.name=some (.ref fa)->
   s₁.heap.get? a=some { cls:=.type "list",data:=.seq vs.toArray }->IntsAre vs ns->ns.length≤n->(∀ m ∈ ns,Builtin.Int.intBits m≤1048576)->s₁.gens=#[]->
   codeAny (model l.prog w) callerA (.call (.ref fa) ⟨[.ref a],[]⟩) (fun r s'=>r=.ok (.ret (.bool true))/\OldK s₁.heap s'.heap/\s'.os=s₁.os/\AllBare s'.gens) s₁):
  WalkO q loose XP YP l.row.toRowW d [] (fun f vs=>PySem.call f vs):=by
 intro w s₀ s₁ mg mb G Y fa o pm cd doc dV kV ho hd hcd hD hmg hg args vals as hpre hlay hrd hwl hlo
 obtain rfl:dV=.none:=Dflts.none hD hdf
 obtain rfl:kV=.none:=Dflts.noKw hD
 obtain ⟨a,vs,ns,rfl,rfl,hobj,hints,hlen⟩:=zex hn hpre hwl
 have hb:∀ m ∈ ns,Builtin.Int.intBits m≤1048576:=by
  refine L2.bits_of_weight ns ?_
  have h1:WData.layable (WData.list (ns.map WData.int))=true:=by simpa [WData.layableAll] using hlay
  unfold WData.layable at h1
  have h2:=of_decide_eq_true (QG.mp h1).2
  unfold WData.weight at h2
  exact h2
 refine enter_call (codeAny_mono (call w s₀ s₁ mg mb fa o pm cd doc a vs ns G Y ho (fd_plain hd) hcd hmg hobj hints hlen hb hg) fun r s' hq=>?_)
 obtain ⟨rfl,h2,h3,h4⟩:=hq
 exact ⟨.inl ⟨.bool true,.bool true,[],rfl,fun _=>rfl,.bool true,zey l _,fun _=>⟨List.Pairwise.nil,fun _ hm=>(nomatch hm)⟩⟩,h2,h3,h4⟩
end Att
namespace L2
open PySem PySem.Spec PyProof.Rows
theorem walk_ofB{l:PySem.W.OpenLaw}{YP:World->Heap->Prop}{d:DefRec}{K:Params->PySem.W.Frag}{CX:World->CXT}{sp:World->Sp}
  (hn:l.most=some n)(hn2:n≤sizeLine)(hdf:d.params.defaults=[])(hr:Room k callerA)
  (hY:∀ (w:World) (h:Heap),YP w h->(K w.params).In h)
  (F:∀ (w:World) (mg:Str->Option Value) (fa:Addr) (h:Heap),(K w.params).In h->h.Ns mainGlobals mg->mg d.name=some (.ref fa)->
   ∃ fd:FuncData,(∀ (s:Shared) (u:Value),BindsTo s fd ⟨[u],[]⟩ [(x,u)])/\
    ∀ base:Heap,(K w.params).In base->base.Ns mainGlobals mg->FnOk l.prog w (K w.params) mg base (CX w) k fa fd [x] (sp w))
  (hsp:∀ (w:World) (H:Hp) (a:Addr) (ns:List Int),ns.length≤n->(∀ m ∈ ns,Builtin.Int.intBits m≤1048576)->zjy H->SqL (K w.params) H a (ns.map V.int)->sp w [.ref a] H (fun v _=>v=.bl true) fun _ _ _=>False)
  (hCX:∀ (w:World) (H:Hp) (s:Shared) (e:Value) (s':Shared),CX w [] H s (fun _ _ _=>False) e s'->False):
  PySem.W.WalkO q loose XP YP l.row.toRowW d [] (fun f vs=>PySem.call f vs):=by
 refine Att.attach_callB hn hdf fun w s₀ s₁ mg mb fa o pm cd doc a vs ns G Y ho hd hcd hmg hobj hints hlen hb hg=>?_
 have KX:=hY w _ Y
 obtain ⟨fd,hbd,hF⟩:=F w mg fa _ KX G.T.g hmg
 exact zgR KX G.T.g G.T.b G.T.builtins G.T.nolimit hg hobj hints (JO hlen hn2) hr hF hbd (fun H hO hS=>hsp w H a ns hlen hb hO hS) fun H e s'=>hCX w H s₁ e s'
section
variable {prog:Program} {w:World} {A:Around} {E:Value->Shared->Prop} {s:Shared}
theorem xT(s:Shared):s.TypeIs .none "NoneType":=by first | exact rfl | trivial | (unfold Shared.TypeIs;trivial)
theorem vz{Q:Int->Shared->Prop}(h:Q 0xFCA86420 { s with toks:=s.toks+1 }):wpAny (model prog w) A (pyHash .none) Q E s:=by
 unfold pyHash
 unfold pyHashByItsType
 have hv:[Value.none].any Value.onHeap=false:=rfl
 refine wpAny_bind ?_
 rw [cRoomFor,if_neg (by rw [hv];exact Jk)];refine wpAny_pure ?_
 refine wpAny_bind (wpAny_specialOf (xT s) PySem.F.slot_NoneType_hash.lookup ?_)
 show wpAny _ _ (if (some (Value.builtin "NoneType.__hash__") == some Value.none)=true then _ else _) Q E s
 rw [if_neg (by rw [beq_builtin_none];exact Jk)]
 refine wpAny_bind (wpAny_specialOf (xT s) PySem.F.slot_NoneType_hash.lookup ?_)
 show wpAny _ _ (callSpecialIfBoundUnlessNone? .none "__hash__" _ >>= _) Q E s
 refine wpAny_bind (wpAny_callSpecialIfBoundUnlessNone?_slot (xT s) PySem.F.slot_NoneType_hash
  (wpAny_call_entry PySem.F.slot_NoneType_hash (xT s) PySem.F.entry_NoneType_hash
   (show wpAny _ _ (do ret (← mkInt 0xFCA86420)) _ _ s from wpAny_ret_mkInt ?_) (PySem.F.args_NoneType_hash_1 _)))
 show wpAny _ _ (if (decide (-(2:Int) ^ 63≤0xFCA86420) && decide ((0xFCA86420:Int)<2 ^ 63))=true then _ else _) Q E _
 rw [if_pos (by decide)]
 exact wpAny_pure h
end
noncomputable def qf(prog:Program)(w:World):PySem.KeyKind prog w (Option Key) where
 is:=fun o v=>match o with | some k=>vW k v | none=>(v == Value.none)
 hash:=fun o=>match o with | some k=>znu w k | none=>0xFCA86420
 inj:=fun v a b ha hb=>by
  cases a with
  | none=>
   have ha:v=Value.none:=eq_of_beq ha
   subst ha
   cases b with
   | none=>rfl
   | some k=>rcases zH hb with ⟨_,_,_,e⟩ | ⟨_,_,_,e⟩<;>cases e
  | some k=>
   cases b with
   | none=>
    have hb:v=Value.none:=eq_of_beq hb
    subst hb
    rcases zH ha with ⟨_,_,_,e⟩ | ⟨_,_,_,e⟩<;>cases e
   | some k'=>rw [(zC prog w).inj v k k' ha hb]
 byValue:=fun k v h=>by
  cases k with
  | none=>have h:v=Value.none:=eq_of_beq h;subst h;rfl
  | some k=>exact (zC prog w).byValue k v h
 pyHash:=fun {A E s k v Q} hv h=>by
  cases k with
  | none=>have hv:v=Value.none:=eq_of_beq hv;subst hv;exact vz h
  | some k=>exact (zC prog w).pyHash (k:=k) hv h
 eqBool:=fun {A E s a b u v Q} hu hv h=>by
  cases a with
  | none=>
   have hu:u=Value.none:=eq_of_beq hu
   subst hu
   cases b with
   | none=>
    have hv:v=Value.none:=eq_of_beq hv
    subst hv
    exact SeqAt.EqAt.same .none _ _ _ _ (by simpa using h)
   | some k=>
    have h:Q false s:=by simpa using h
    rcases zH hv with ⟨i,t,rfl,rfl⟩ | ⟨x,t,rfl,rfl⟩
    ·exact SeqAt.EqAt.none_int i t _ _ _ _ h
    ·exact SeqAt.EqAt.none_str x t _ _ _ _ h
  | some k=>
   cases b with
   | none=>
    have hv:v=Value.none:=eq_of_beq hv
    subst hv
    have h:Q false s:=by simpa using h
    rcases zH hu with ⟨i,t,rfl,rfl⟩ | ⟨x,t,rfl,rfl⟩
    ·exact SeqAt.EqAt.int_none i t _ _ _ _ h
    ·exact SeqAt.EqAt.str_none x t _ _ _ _ h
   | some k'=>
    refine (zC prog w).eqBool (a:=k) (b:=k') hu hv ?_
    have e:decide (some k=some k')=decide (k=k'):=by by_cases z:k=k'<;>simp [z]
    rw [e] at h
    exact h
 «strs»:=fun k x t v h=>by
  cases k with
  | none=>
   have z:Value.str x t=Value.none:=eq_of_beq h
   cases z
  | some k=>exact (zC prog w).strs k x t v h
theorem zbo{h:Heap}{f:Key->Option Value}(m:h.MapOf (zC P w) a f):h.MapOf (qf P w) a (fun o=>match o with | some k=>f k | none=>none):=by
 obtain ⟨o,es,ep,h1,h2,h3,h4,h5⟩:=m
 refine ⟨o,es,ep,h1,h2,h3,fun e he=>?_,fun k=>?_⟩
 ·obtain ⟨k,a1,a2⟩:=h4 e he
  exact ⟨some k,a1,a2⟩
 ·cases k with
  | some k=>exact h5 k
  | none=>
   unfold findBy
   rw [Option.map_eq_none_iff,Array.find?_eq_none]
   intro e he z
   obtain ⟨k,a1,a2⟩:=h4 e he
   have z:e.key=Value.none:=eq_of_beq z
   rw [z] at a1
   rcases zH a1 with ⟨_,_,_,e⟩ | ⟨_,_,_,e⟩<;>cases e
section
variable {X:Cx}
theorem zbd(hu:X.A.units+1<cLine):OpR X (compareOp .In) (fun x y H Q=>∃ a,y=.ref a/\((∃ o,DGet H a x o/\Q (.bl o.isSome) H)∨(∃ kvs,x=.non/\H a=some (.dK kvs)/\Q (.bl false) H))):=by
 intro pins s σ H x y v u Q I rx ry h
 obtain ⟨a,rfl,h | h⟩:=h
 ·obtain ⟨o,g,q⟩:=h
  exact ju hu pins s σ H x _ v u Q I rx ry ⟨a,o,rfl,g,q⟩
 ·obtain ⟨kvs,rfl,ha,q⟩:=h
  cases ry
  cases rx
  obtain ⟨z,hd,vs,rel,dd⟩:=zdW I.hok ha
  exact wpAny_in_of (knd:=qf X.prog X.w) (k:=none) rfl hd (zbo dd.mapOf) ⟨.bl false,H,I.tok _,rfl,q⟩
end
end L2
namespace CB
inductive Reach (R:Int->Int->Prop) (S A:Int->Prop):Int->Prop where
 | start {p:Int}:A p->S p->Reach R S A p
 | step {p q:Int}:Reach R S A p->R p q->S q->Reach R S A q
theorem Reach.inS{R S A}{p:Int}(h:Reach R S A p):S p:=by
 cases h with
 | start _ h=>exact h
 | step _ _ h=>exact h
theorem Reach.mono{R:Int->Int->Prop}{S S' A A':Int->Prop}(hA:∀ p,A p->S p->Reach R S' A' p)(hS:∀ p,Reach R S A p->S' p){p:Int}(h:Reach R S A p):Reach R S' A' p:=by
 induction h with
 | start a s=>exact hA _ a s
 | step h r s ih=>exact .step ih r (hS _ (.step h r s))
theorem zI:∀ (xs ys:List Int),xs.Nodup->(∀ x ∈ xs,x ∈ ys)->xs.length≤ys.length
 | [],ys,_,_=>Kb _
 | x::xs,ys,nd,h=>by
  have hx:x ∈ ys:=h x Jf
  have nd':=Kh.mp nd
  have ih:=zI xs (ys.erase x) nd'.2 fun z hz=>by
   have hzx:z≠x:=fun e=>nd'.1 (e ▸ hz)
   exact (List.mem_erase_of_ne hzx).mpr (h z (Jg _ hz))
  rw [Qn hx] at ih
  have:0<ys.length:=QA hx
  simp only [List.length_cons]
  omega
theorem yu{xs ys:List Int}(nd:xs.Nodup)(nd':ys.Nodup)(h:∀ x ∈ xs,x ∈ ys):xs.length=ys.length ↔ ∀ y ∈ ys,y ∈ xs:=by
 constructor
 ·intro e y hy
  refine Jx fun hn=>?_
  have:xs.length≤(ys.erase y).length:=zI xs (ys.erase y) nd fun z hz=>by
   have hzy:z≠y:=fun e=>hn (e ▸ hz)
   exact (List.mem_erase_of_ne hzy).mpr (h z hz)
  rw [Qn hy] at this
  have:0<ys.length:=QA hy
  omega
 ·intro h'
  exact Nat.le_antisymm (zI _ _ nd h) (zI _ _ nd' h')
structure Dfs (R:Int->Int->Prop) (S A:Int->Prop) (found waiting:List Int):Prop where
 nd:found.Nodup
 sound:∀ p ∈ found,Reach R S A p
 soundW:∀ p ∈ waiting,Reach R S A p
 starts:∀ p,A p->S p->p ∈ found∨p ∈ waiting
 closed:∀ p ∈ found,∀ q,R p q->S q->q ∈ found∨q ∈ waiting
section
variable {R:Int->Int->Prop} {S A:Int->Prop} {found ws nbs:List Int} {p:Int}
theorem Dfs.init{starts:List Int}(h:∀ q,q ∈ starts ↔ A q/\S q):Dfs R S A [] starts:=
 ⟨List.nodup_nil,(fun _ h=>nomatch h),fun p hp=>.start ((h p).mp hp).1 ((h p).mp hp).2,fun p a s=>.inr ((h p).mpr ⟨a,s⟩),(fun _ h=>nomatch h)⟩
theorem Dfs.old(d:Dfs R S A found (ws++[p]))(hp:p ∈ found):Dfs R S A found ws:=by
 refine ⟨d.nd,d.sound,fun q hq=>d.soundW q (Jt _ hq),fun q a s=>?_,fun q hq r hr s=>?_⟩
 ·rcases d.starts q a s with h | h
  ·exact .inl h
  ·rcases List.mem_append.mp h with h | h
   ·exact .inr h
   ·rw [Ji.mp h];exact .inl hp
 ·rcases d.closed q hq r hr s with h | h
  ·exact .inl h
  ·rcases List.mem_append.mp h with h | h
   ·exact .inr h
   ·rw [Ji.mp h];exact .inl hp
theorem Dfs.new(d:Dfs R S A found (ws++[p]))(hp:p ∉ found)(hn:∀ q,q ∈ nbs ↔ R p q/\S q):Dfs R S A (found++[p]) (ws++nbs):=by
 have rp:Reach R S A p:=d.soundW p (Jl _ Jf)
 have mv:∀ q,q ∈ found∨q ∈ ws++[p]->q ∈ found++[p]∨q ∈ ws++nbs:=fun q h=>by
  rcases h with h | h
  ·exact .inl (Jt _ h)
  ·rcases List.mem_append.mp h with h | h
   ·exact .inr (Jt _ h)
   ·exact .inl (Jl _ h)
 refine ⟨?_,fun q hq=>?_,fun q hq=>?_,fun q a s=>mv q (d.starts q a s),fun q hq r hr s=>?_⟩
 ·rw [Qi]
  refine ⟨d.nd,by simp,fun a ha b hb=>?_⟩
  rw [Ji.mp hb]
  exact fun e=>hp (e ▸ ha)
 ·rcases List.mem_append.mp hq with h | h
  ·exact d.sound q h
  ·rw [Ji.mp h];exact rp
 ·rcases List.mem_append.mp hq with h | h
  ·exact d.soundW q (Jt _ h)
  ·exact .step rp ((hn q).mp h).1 ((hn q).mp h).2
 ·rcases List.mem_append.mp hq with h | h
  ·exact mv r (d.closed q h r hr s)
  ·rw [Ji.mp h] at hr
   exact .inr (Jl _ ((hn r).mpr ⟨hr,s⟩))
theorem Dfs.done(d:Dfs R S A found [])(q:Int):q ∈ found ↔ Reach R S A q:=by
 refine ⟨d.sound q,fun h=>?_⟩
 induction h with
 | start a s=>rcases d.starts _ a s with h | h;exact h;exact nomatch h
 | step h r s ih=>rcases d.closed _ ih _ r s with h | h;exact h;exact nomatch h
end
noncomputable def Place(w h p:Int):Prop:=0≤p/\p<w * h
noncomputable def Adj(w p q:Int):Prop:=(q=p+1/\p / w=q / w)∨(q+1=p/\p / w=q / w)∨q=p+w∨q+w=p
noncomputable def Rim(w h p:Int):Prop:=p % w=0∨p % w=w - 1∨p / w=0∨p / w=h - 1
noncomputable def zN(w h p:Int):List Int:=
 (if 0<p % w then [p - 1] else [])++(if p % w<w - 1 then [p+1] else [])++(if 0<p / w then [p - w] else [])++(if p / w<h - 1 then [p+w] else [])
theorem six{w:Int}(h1:1≤w)(h6:w≤6):w=1∨w=2∨w=3∨w=4∨w=5∨w=6:=by omega
theorem zfR{w p:Int}(w1:1≤w)(h:p % w<w - 1):(p+1) / w=p / w/\(p+1) % w=p % w+1:=by
 have e:=JN p w
 have:=JQ p (show w≠0 by omega)
 exact (KQ (by omega)).mpr ⟨by omega,by omega,by omega⟩
theorem zbN{w p:Int}(w1:1≤w)(h:0<p % w):(p - 1) / w=p / w/\(p - 1) % w=p % w - 1:=by
 have e:=JN p w
 have:=JK p (show 0<w by omega)
 exact (KQ (by omega)).mpr ⟨by omega,by omega,by omega⟩
theorem uk(w1:1≤w)(hp:Place w h p):0≤p / w/\p / w<h:=by
 obtain ⟨p0,p1⟩:=hp
 exact ⟨Int.ediv_nonneg p0 (by omega),Int.ediv_lt_of_lt_mul (by omega) (by rw [Qo];exact p1)⟩
theorem zgJ{c:Prop}[Decidable c]:(q ∈ (if c then [a] else []:List Int)) ↔ c/\q=a:=by
 by_cases h:c
 ·simp [h]
 ·simp [h]
theorem zhE{w p:Int}(w1:1≤w)(h:p % w=0):(p - 1) / w=p / w - 1:=by
 have e:=JN p w
 refine ((KQ (r:=w - 1) (show 0<w by omega)).mpr ⟨?_,by omega,by omega⟩).1
 rw [Int.mul_sub,Qz];omega
theorem zhf{w p:Int}(w1:1≤w)(h:p % w=w - 1):(p+1) / w=p / w+1:=by
 have e:=JN p w
 refine ((KQ (r:=0) (show 0<w by omega)).mpr ⟨?_,by omega,by omega⟩).1
 rw [Int.mul_add,Qz];omega
theorem zir(w1:1≤w)(hp:Place w h p):0≤p / w/\p / w<h/\(0≤p - w ↔ 0<p / w)/\(p+w<w * h ↔ p / w<h - 1)/\(p % w<w - 1->p+1<w * h)/\p % w≤p:=by
 have e:=JN p w
 have a0:=JQ p (show w≠0 by omega)
 have a1:=JK p (show 0<w by omega)
 have hw:0≤w:=by omega
 have mono:∀ {a b:Int},a≤b->w * a≤w * b:=fun h=>Int.mul_le_mul_of_nonneg_left h hw
 obtain ⟨p0,p1⟩:=hp
 have q0:0≤p / w:=Int.ediv_nonneg p0 hw
 have q1:p / w<h:=by
  refine Jx fun z=>?_
  have:=mono (show h≤p / w by omega)
  omega
 have m1:=mono (show p / w+1≤h by omega)
 rw [Int.mul_add,Qz] at m1
 refine ⟨q0,q1,⟨fun z=>Jx fun y=>?_,fun z=>?_⟩,⟨fun z=>Jx fun y=>?_,fun z=>?_⟩,fun z=>by omega,by have:=QS hw q0;omega⟩
 ·have:p / w=0:=by omega
  rw [this,Int.mul_zero] at e
  omega
 ·have:=mono (show 1≤p / w by omega)
  rw [Qz] at this
  omega
 ·have:=mono (show h≤p / w+1 by omega)
  rw [Int.mul_add,Qz] at this
  omega
 ·have:=mono (show p / w+2≤h by omega)
  rw [Int.mul_add] at this
  omega
theorem jz{w h p q:Int}(w1:1≤w)(w6:w≤6)(hp:Place w h p):q ∈ zN w h p ↔ Place w h q/\Adj w p q:=by
 obtain ⟨r0,r1,r2,r3,r4,r5⟩:=zir w1 hp
 have a0:=JQ p (show w≠0 by omega)
 have a1:=JK p (show 0<w by omega)
 obtain ⟨p0,p1⟩:=hp
 have b1:=fun z=>(zbN (w:=w) (p:=p) w1 z).1
 have b2:=fun z=>zhE (w:=w) (p:=p) w1 z
 have f1:=fun z=>(zfR (w:=w) (p:=p) w1 z).1
 have f2:=fun z=>zhf (w:=w) (p:=p) w1 z
 unfold zN
 simp only [List.mem_append,zgJ]
 generalize p % w=b at *
 generalize ha:p / w=a at *
 unfold Place Adj
 rw [ha]
 constructor
 ·rintro (((⟨z,rfl⟩ | ⟨z,rfl⟩) | ⟨z,rfl⟩) | ⟨z,rfl⟩)
  ·exact ⟨⟨by omega,by omega⟩,.inr (.inl ⟨by omega,(b1 z).symm⟩)⟩
  ·exact ⟨⟨by omega,r4 z⟩,.inl ⟨rfl,(f1 z).symm⟩⟩
  ·exact ⟨⟨r2.mpr z,by omega⟩,.inr (.inr (.inr (by omega)))⟩
  ·exact ⟨⟨by omega,r3.mpr z⟩,.inr (.inr (.inl rfl))⟩
 ·rintro ⟨⟨q0,q1⟩,⟨rfl,z⟩ | ⟨y,z⟩ | rfl | y⟩
  ·refine .inl (.inl (.inr ⟨Jx fun x=>?_,rfl⟩))
   have:=f2 (by omega)
   omega
  ·obtain rfl:q=p - 1:=by omega
   refine .inl (.inl (.inl ⟨Jx fun x=>?_,rfl⟩))
   have:=b2 (by omega)
   omega
  ·exact .inr ⟨r3.mp q1,rfl⟩
  ·obtain rfl:q=p - w:=by omega
   exact .inl (.inr ⟨r2.mp q0,rfl⟩)
theorem Adj.symm{w p q:Int}(h:Adj w p q):Adj w q p:=by
 unfold Adj at *
 rcases h with ⟨a,b⟩ | ⟨a,b⟩ | a | a
 ·exact .inr (.inl ⟨by omega,b.symm⟩)
 ·exact .inl ⟨by omega,b.symm⟩
 ·exact .inr (.inr (.inr (by omega)))
 ·exact .inr (.inr (.inl (by omega)))
theorem vV(w h p:Int):(zN w h p).length≤4:=by
 unfold zN
 have:∀ (c:Prop) [Decidable c] (a:Int),(if c then [a] else []:List Int).length≤1:=fun c _ a=>by
  by_cases h:c<;>simp [h]
 have h1:=this (0<p % w) (p - 1)
 have h2:=this (p % w<w - 1) (p+1)
 have h3:=this (0<p / w) (p - w)
 have h4:=this (p / w<h - 1) (p+w)
 simp only [List.length_append]
 omega
structure IsFloor (w h:Int) (F:List Int):Prop where
 w1:1≤w
 w6:w≤6
 h1:1≤h
 h6:h≤6
 ne:F≠[]
 rise:F.Pairwise (·<·)
 inn:∀ p ∈ F,Place w h p
 conn:∀ p ∈ F,Reach (Adj w) (· ∈ F) (fun q=>F.head?=some q) p
 noh:∀ p,Place w h p->p ∉ F->Reach (Adj w) (fun q=>Place w h q/\q ∉ F) (Rim w h) p
theorem zR{F:List Int}(h:F.Pairwise (·<·)):F.Nodup:=h.imp fun h e=>by omega
noncomputable def places(w h:Int):List Int:=(List.range (w * h).toNat).map fun (n:Nat)=>(n:Int)
theorem mem_places{w h p:Int}:p ∈ places w h ↔ Place w h p:=by
 unfold places Place
 simp only [List.mem_map,List.mem_range]
 constructor
 ·rintro ⟨n,hn,rfl⟩;omega
 ·intro hp;exact ⟨p.toNat,by omega,by omega⟩
theorem jA(w h:Int):(places w h).Pairwise (·<·):=by
 unfold places
 rw [JJ]
 exact List.pairwise_lt_range.imp fun h=>by omega
theorem zlB{w h:Int}(w1:1≤w)(w6:w≤6)(h1:1≤h)(h6:h≤6){L O:Int->Prop}{a:Int}(hL:∀ p,L p->Place w h p)(ha:L a)
  (conn:∀ p,L p->Reach (Adj w) L (·=a) p)(hO:∀ p,O p ↔ Reach (Adj w) (fun q=>Place w h q/\¬ L q) (Rim w h) p)[DecidablePred O]:
  IsFloor w h ((places w h).filter fun p=>!decide (O p)):=by
 have mem:∀ p,p ∈ ((places w h).filter fun p=>!decide (O p)) ↔ Place w h p/\¬ O p:=fun p=>by
  rw [JD,mem_places]
  simp
 have LO:∀ p,L p->¬ O p:=fun p hp ho=>((hO p).mp ho).inS.2 hp
 have hne:((places w h).filter fun p=>!decide (O p))≠[]:=fun e=>by
  have:a ∈ ((places w h).filter fun p=>!decide (O p)):=(mem a).mpr ⟨hL a ha,LO a ha⟩
  rw [e] at this;exact nomatch this
 -- within: from any field a row of fields leads left to L
 have toL:∀ (n:Nat) (p:Int),(p % w).toNat=n->Place w h p->¬ O p->¬ L p->∃ q,L q/\Reach (Adj w) (fun q=>Place w h q/\¬ O q) (·=q) p/\Reach (Adj w) (fun q=>Place w h q/\¬ O q) (·=p) q:=by
  intro n
  induction n with
  | zero=>
   intro p e hp ho hl
   refine absurd ((hO p).mpr (.start (.inl ?_) ⟨hp,hl⟩)) ho
   have:=JQ p (show w≠0 by omega)
   omega
  | succ n ih=>
   intro p e hp ho hl
   have hm:0<p % w:=by omega
   obtain ⟨m1,m2⟩:=zbN w1 hm
   have pl:Place w h (p - 1):=by
    have hp0:p≠0:=fun e=>by rw [e,Int.zero_emod] at hm;omega
    exact ⟨by have:=hp.1;omega,by have:=hp.2;omega⟩
   have e':((p - 1) % w).toNat=n:=by omega
   have adj:Adj w p (p - 1):=.inr (.inl ⟨Int.sub_add_cancel p 1,m1.symm⟩)
   by_cases hl':L (p - 1)
   ·exact ⟨p - 1,hl',.step (.start rfl ⟨pl,LO _ hl'⟩) adj.symm ⟨hp,ho⟩,.step (.start rfl ⟨hp,ho⟩) adj ⟨pl,LO _ hl'⟩⟩
   ·have ho':¬ O (p - 1):=fun z=>ho ((hO p).mpr (.step ((hO _).mp z) adj.symm ⟨hp,hl⟩))
    obtain ⟨q,hq,r1,r2⟩:=ih (p - 1) e' pl ho' hl'
    refine ⟨q,hq,.step r1 adj.symm ⟨hp,ho⟩,r2.mono (fun z e _=>?_) fun z hz=>hz.inS⟩
    rw [e]
    exact .step (.start rfl ⟨hp,ho⟩) adj ⟨pl,ho'⟩
 -- L is within one reach of a
 have mono:∀ p,L p->Reach (Adj w) (fun q=>Place w h q/\¬ O q) (·=a) p:=fun p hp=>(conn p hp).mono (fun q e s=>.start e ⟨hL q s,LO q s⟩) fun q r=>⟨hL q r.inS,LO q r.inS⟩
 have fromA:∀ p,Place w h p->¬ O p->Reach (Adj w) (fun q=>Place w h q/\¬ O q) (·=a) p:=fun p hp ho=>by
  by_cases hl:L p
  ·exact mono p hl
  ·obtain ⟨q,hq,r1,_⟩:=toL _ p rfl hp ho hl
   exact r1.mono (fun z e _=>e ▸ mono q hq) fun z r=>r.inS
 have rev:∀ (S:Int->Prop) (b p:Int),Reach (Adj w) S (·=b) p->Reach (Adj w) S (·=p) b:=fun S b p r=>by
  induction r with
  | start e s=>subst e;exact .start rfl s
  | @step p q r adj s ih=>exact ih.mono (fun z e sz=>by subst e;exact .step (.start rfl s) adj.symm sz) fun z r=>r.inS
 have cn:∀ (S:Int->Prop) (b p:Int),Reach (Adj w) S (·=a) b->Reach (Adj w) S (·=a) p->Reach (Adj w) S (·=b) p:=fun S b p rb rp=>
  rp.mono (fun z e s=>by subst e;exact rev S _ _ rb) fun z r=>r.inS
 refine ⟨w1,w6,h1,h6,hne,(jA w h).sublist Qq,fun p hp=>((mem p).mp hp).1,fun p hp=>?_,fun p hp hn=>?_⟩
 ·cases hF:((places w h).filter fun p=>!decide (O p)) with
  | nil=>exact absurd hF hne
  | cons b r=>
   have hb:b ∈ ((places w h).filter fun p=>!decide (O p)):=by rw [hF];exact Jf
   rw [hF] at hp
   have hp':p ∈ ((places w h).filter fun p=>!decide (O p)):=by rw [hF];exact hp
   have:=cn _ b p (fromA b ((mem b).mp hb).1 ((mem b).mp hb).2) (fromA p ((mem p).mp hp').1 ((mem p).mp hp').2)
   refine this.mono (fun q e s=>.start (by subst e;rfl) ?_) fun q r=>?_
   ·rw [← hF];exact (mem q).mpr s
   ·rw [← hF];exact (mem q).mpr r.inS
 ·have ho:O p:=Jx fun z=>hn ((mem p).mpr ⟨hp,z⟩)
  have all:∀ q,Reach (Adj w) (fun q=>Place w h q/\¬ L q) (Rim w h) q->Place w h q/\q ∉ ((places w h).filter fun p=>!decide (O p)):=fun q r=>
   ⟨r.inS.1,fun z=>((mem q).mp z).2 ((hO q).mpr r)⟩
  exact ((hO p).mp ho).mono (fun q ri s=>.start ri (all q (.start ri s))) fun q r=>all q r
noncomputable abbrev Pt:=Int × Int
noncomputable def Nb(p q:Pt):Prop:=(q.1=p.1+1/\q.2=p.2)∨(q.1+1=p.1/\q.2=p.2)∨(q.1=p.1/\q.2=p.2+1)∨(q.1=p.1/\q.2+1=p.2)
noncomputable def Clo(a u:Int->Int->Int)(p:Pt):Prop:=a p.1 p.2+u (p.1+1) p.2=u p.1 p.2+a p.1 (p.2+1)
noncomputable def AcS(S:Pt->Prop)(x y:Int):Prop:=S (x,y)∨S (x,y - 1)
noncomputable def UpS(S:Pt->Prop)(x y:Int):Prop:=S (x,y)∨S (x - 1,y)
noncomputable def zaC(f:Int->Int->Int)(x y v:Int):Int->Int->Int:=fun i j=>if i=x/\j=y then v else f i j
theorem vB:zaC f x y v x y=v:=by simp [zaC]
theorem xS{f:Int->Int->Int}(h:¬ (i=x/\j=y)):zaC f x y v i j=f i j:=by simp [zaC,h]
noncomputable def Ord(G:Pt->Prop):List Pt->Prop
 | []=>True
 | p::r=>(∃ q,Nb p q/\(q ∈ r∨¬ G q))/\p ∉ r/\Ord G r
theorem extend(G:Pt->Prop):∀ (L:List Pt) (S:Pt->Prop) (a u:Int->Int->Int),(∀ p,S p->G p)->(∀ p ∈ L,G p/\¬ S p)->Ord G L->(∀ p,S p->Clo a u p)->
  ∃ a' u',(∀ x y,AcS S x y->a' x y=a x y)/\(∀ x y,UpS S x y->u' x y=u x y)/\∀ p,(S p∨p ∈ L)->Clo a' u' p
 | [],S,a,u,_,_,_,hc=>⟨a,u,fun _ _ _=>rfl,fun _ _ _=>rfl,fun p h=>h.elim (hc p) fun z=>nomatch z⟩
 | p::L,S,a,u,hS,hL,hO,hc=>by
  obtain ⟨⟨q,nb,hq⟩,hp,hO⟩:=hO
  obtain ⟨x,y⟩:=p
  obtain ⟨i,j⟩:=q
  have qS:¬ S (i,j):=fun z=>hq.elim (fun m=>(hL _ (Jg _ m)).2 z) fun g=>g (hS _ z)
  have pS:¬ S (x,y):=(hL _ Jf).2
  -- the exit's side takes what is lacking
  have key:∃ a1 u1,(∀ X Y,AcS S X Y->a1 X Y=a X Y)/\(∀ X Y,UpS S X Y->u1 X Y=u X Y)/\Clo a1 u1 (x,y):=by
   have ne:∀ X Y,S (X,Y)->¬ (X=x/\Y=y)/\¬ (X=i/\Y=j):=fun X Y z=>⟨fun e=>pS (by rw [← e.1,← e.2];exact z),fun e=>qS (by rw [← e.1,← e.2];exact z)⟩
   unfold Nb at nb
   dsimp only at nb
   rcases nb with ⟨e1,e2⟩ | ⟨e1,e2⟩ | ⟨e1,e2⟩ | ⟨e1,e2⟩
   ·refine ⟨a,zaC u (x+1) y (u x y+a x (y+1) - a x y),fun _ _ _=>rfl,fun X Y h=>xS fun e=>?_,?_⟩
    ·unfold UpS at h
     rcases h with h | h
     ·exact (ne _ _ h).2 (by omega)
     ·exact (ne _ _ h).1 (by omega)
    ·unfold Clo;dsimp only
     rw [vB,xS (by omega)];omega
   ·refine ⟨a,zaC u x y (a x y+u (x+1) y - a x (y+1)),fun _ _ _=>rfl,fun X Y h=>xS fun e=>?_,?_⟩
    ·unfold UpS at h
     rcases h with h | h
     ·exact (ne _ _ h).1 (by omega)
     ·exact (ne _ _ h).2 (by omega)
    ·unfold Clo;dsimp only
     rw [vB,xS (by omega)];omega
   ·refine ⟨zaC a x (y+1) (a x y+u (x+1) y - u x y),u,fun X Y h=>xS fun e=>?_,fun _ _ _=>rfl,?_⟩
    ·unfold AcS at h
     rcases h with h | h
     ·exact (ne _ _ h).2 (by omega)
     ·exact (ne _ _ h).1 (by omega)
    ·unfold Clo;dsimp only
     rw [vB,xS (by omega)];omega
   ·refine ⟨zaC a x y (u x y+a x (y+1) - u (x+1) y),u,fun X Y h=>xS fun e=>?_,fun _ _ _=>rfl,?_⟩
    ·unfold AcS at h
     rcases h with h | h
     ·exact (ne _ _ h).1 (by omega)
     ·exact (ne _ _ h).2 (by omega)
    ·unfold Clo;dsimp only
     rw [vB,xS (by omega)];omega
  obtain ⟨a1,u1,k1,k2,k3⟩:=key
  have clo1:∀ r,S r->Clo a1 u1 r:=fun r hr=>by
   obtain ⟨X,Y⟩:=r
   have h1:=hc _ hr
   unfold Clo at h1 ⊢
   dsimp only at h1 ⊢
   rw [k1 X Y (.inl hr),k1 X (Y+1) (.inr (by rw [show Y+1 - 1=Y by omega];exact hr)),k2 X Y (.inl hr),k2 (X+1) Y (.inr (by rw [show X+1 - 1=X by omega];exact hr))]
   exact h1
  obtain ⟨a2,u2,g1,g2,g3⟩:=extend G L (fun r=>S r∨r=(x,y)) a1 u1 (fun r h=>h.elim (hS r) fun e=>by rw [e];exact (hL _ Jf).1)
   (fun r hr=>⟨(hL r (Jg _ hr)).1,fun z=>z.elim (hL r (Jg _ hr)).2 fun e=>hp (e ▸ hr)⟩) hO (fun r h=>h.elim (clo1 r) fun e=>by rw [e];exact k3)
  refine ⟨a2,u2,fun X Y h=>?_,fun X Y h=>?_,fun r h=>?_⟩
  ·rw [g1 X Y (h.elim (fun z=>.inl (.inl z)) fun z=>.inr (.inl z)),k1 X Y h]
  ·rw [g2 X Y (h.elim (fun z=>.inl (.inl z)) fun z=>.inr (.inl z)),k2 X Y h]
  ·refine g3 r ?_
   rcases h with h | h
   ·exact .inl (.inl h)
   ·rcases List.mem_cons.mp h with h | h
    ·exact .inl (.inr h)
    ·exact .inr h
noncomputable def qV(f:Int->Int):Nat->Int
 | 0=>0
 | n+1=>qV f n+f n
theorem zlA(hc:∀ (x y:Nat),x<w->y<h->Clo a u ((x:Int),(y:Int))):
  ∃ φ:Int->Int->Int,φ 0 0=0/\(∀ x y:Nat,x<w->y≤h->φ (x+1) y=φ x y+a x y)/\(∀ x y:Nat,x≤w->y<h->φ x (y+1)=φ x y+u x y):=by
 refine ⟨fun x y=>qV (fun i=>a i 0) x.toNat+qV (fun j=>u x j) y.toNat,rfl,fun x y hx hy=>?_,fun x y hx hy=>?_⟩
 ·dsimp only
  have e1:((x:Int)+1).toNat=x+1:=by omega
  rw [e1,Int.toNat_natCast,Int.toNat_natCast]
  have:∀ n:Nat,n≤h->qV (fun j=>u ((x:Int)+1) j) n+a x 0=qV (fun j=>u x j) n+a x n:=by
   intro n
   induction n with
   | zero=>intro _;simp [qV]
   | succ n ih=>
    intro hn
    have c:=hc x n hx (by omega)
    unfold Clo at c
    dsimp only at c
    have:=ih (by omega)
    simp only [qV]
    have e:((n+1:Nat):Int)=(n:Int)+1:=by omega
    rw [e]
    omega
  have:=this y hy
  simp only [qV]
  omega
 ·dsimp only
  have e1:((y:Int)+1).toNat=y+1:=by omega
  rw [e1]
  simp only [Int.toNat_natCast,qV]
  omega
noncomputable def OrdR(R:Int->Int->Prop)(A:Int->Prop):List Int->Prop
 | []=>True
 | p::r=>(A p∨∃ q ∈ r,R q p)/\p ∉ r/\OrdR R A r
theorem OrdR.nodup{R:Int->Int->Prop}{A:Int->Prop}:∀ {L:List Int},OrdR R A L->L.Nodup
 | [],_=>List.nodup_nil
 | _::_,h=>Kh.mpr ⟨h.2.1,OrdR.nodup h.2.2⟩
theorem zbe{R:Int->Int->Prop}{A:Int->Prop}{S:Int->Prop}(L:List Int)(h:Reach R S A p):p ∈ L∨∃ z,S z/\z ∉ L/\(A z∨∃ q ∈ L,R q z):=by
 induction h with
 | @start p a s=>
  by_cases hp:p ∈ L
  ·exact .inl hp
  ·exact .inr ⟨p,s,hp,.inl a⟩
 | @step p q h r s ih=>
  rcases ih with ih | ih
  ·by_cases hq:q ∈ L
   ·exact .inl hq
   ·exact .inr ⟨q,s,hq,.inr ⟨p,ih,r⟩⟩
  ·exact .inr ih
theorem ziK(N:List Int)(h:∀ p ∈ N,Reach R (· ∈ N) A p):∀ (n:Nat) (L:List Int),N.length - L.length=n->(∀ p ∈ L,p ∈ N)->OrdR R A L->∃ L',(∀ p,p ∈ L' ↔ p ∈ N)/\OrdR R A L':=by
 intro n
 induction n with
 | zero=>
  intro L e hs ho
  refine ⟨L,fun p=>⟨hs p,fun hp=>?_⟩,ho⟩
  rcases zbe L (h p hp) with z | ⟨z,h1,h2,h3⟩
  ·exact z
  ·have:(z::L).length≤N.length:=zI _ _ (Kh.mpr ⟨h2,ho.nodup⟩) fun q hq=>by
    rcases List.mem_cons.mp hq with e | hq
    ·rw [e];exact h1
    ·exact hs q hq
   simp only [List.length_cons] at this
   omega
 | succ n ih=>
  intro L e hs ho
  by_cases all:∀ p ∈ N,p ∈ L
  ·exact ⟨L,fun p=>⟨hs p,all p⟩,ho⟩
  ·obtain ⟨p,hp,hpL⟩:∃ p,p ∈ N/\p ∉ L:=Jx fun z=>all fun p hp=>Jx fun q=>z ⟨p,hp,q⟩
   rcases zbe L (h p hp) with z | ⟨z,h1,h2,h3⟩
   ·exact absurd z hpL
   ·refine ih (z::L) (by simp only [List.length_cons];omega) (fun q hq=>?_) ⟨h3,h2,ho⟩
    rcases List.mem_cons.mp hq with e | hq
    ·rw [e];exact h1
    ·exact hs q hq
noncomputable def pt(w p:Int):Pt:=(p % w,p / w)
theorem zgk(h:pt w p=pt w q):p=q:=by
 unfold pt at h
 injection h with h1 h2
 rw [← Int.emod_add_mul_ediv p w,← Int.emod_add_mul_ediv q w,h1,h2]
theorem qW(w1:1≤w)(p:Int):(p+w) / w=p / w+1/\(p+w) % w=p % w:=by
 have d:(p+w) / w=p / w+1:=(Int.add_ediv_of_dvd_right (Int.dvd_refl w)).trans (by rw [Int.ediv_self (by omega)])
 refine ⟨d,?_⟩
 have a:=JN p w
 have b:=JN (p+w) w
 rw [d,Int.mul_add,Qz] at b
 omega
theorem zfS{w p:Int}(e:p / w=(p+1) / w):(p+1) % w=p % w+1:=by
 have a:=JN p w
 have b:=JN (p+1) w
 rw [← e] at b
 omega
theorem zlS{w p q:Int}(w1:1≤w)(h:Adj w p q):Nb (pt w p) (pt w q):=by
 unfold Nb pt
 dsimp only
 rcases h with ⟨rfl,e⟩ | ⟨e1,e⟩ | rfl | e
 ·exact .inl ⟨zfS e,e.symm⟩
 ·have:=e1.symm
  obtain rfl:p=q+1:=by omega
  exact .inr (.inl ⟨(zfS e.symm).symm,e.symm⟩)
 ·obtain ⟨a,b⟩:=qW w1 p
  exact .inr (.inr (.inl ⟨b,a⟩))
 ·subst e
  obtain ⟨a,b⟩:=qW w1 q
  exact .inr (.inr (.inr ⟨b.symm,a.symm⟩))
theorem zjd(w1:1≤w)(x0:0≤x)(x1:x<w)(y0:0≤y)(y1:y<h):Place w h (y * w+x)/\(y * w+x) % w=x/\(y * w+x) / w=y:=by
 obtain ⟨a,b⟩:=(KQ (a:=y * w+x) (b:=w) (q:=y) (r:=x) (by omega)).mpr ⟨by rw [Qo];omega,x0,x1⟩
 have h1:0≤y * w:=QS y0 (by omega)
 have h2:(y+1) * w≤h * w:=Int.mul_le_mul_of_nonneg_right (by omega) (by omega)
 rw [QM,Int.one_mul] at h2
 have h3:h * w=w * h:=Qo _ _
 exact ⟨⟨by omega,by omega⟩,b,a⟩
theorem zdy{w h:Int}(w1:1≤w)(w6:w≤6)(h1:1≤h):∀ (L:List Int),(∀ p ∈ L,Place w h p)->OrdR (Adj w) (Rim w h) L->Ord (fun q=>0≤q.1/\q.1<w/\0≤q.2/\q.2<h) (L.map (pt w))
 | [],_,_=>trivial
 | p::r,hL,⟨hx,hn,ho⟩=>by
  refine ⟨?_,fun z=>?_,zdy w1 w6 h1 r (fun q hq=>hL q (Jg _ hq)) ho⟩
  ·have hp:=hL p Jf
   rcases hx with hx | ⟨q,hq,ha⟩
   ·unfold Rim at hx
    rcases hx with e | e | e | e
    ·exact ⟨(p % w - 1,p / w),.inr (.inl ⟨by simp only [pt];omega,rfl⟩),.inr fun z=>by have:=z.1;simp only at this;omega⟩
    ·exact ⟨(p % w+1,p / w),.inl ⟨by simp only [pt],rfl⟩,.inr fun z=>by have:=z.2.1;simp only at this;omega⟩
    ·exact ⟨(p % w,p / w - 1),.inr (.inr (.inr ⟨rfl,by simp only [pt];omega⟩)),.inr fun z=>by have:=z.2.2.1;simp only at this;omega⟩
    ·exact ⟨(p % w,p / w+1),.inr (.inr (.inl ⟨rfl,by simp only [pt]⟩)),.inr fun z=>by have:=z.2.2.2;simp only at this;omega⟩
   ·refine ⟨pt w q,?_,.inl (Jo.mpr ⟨q,hq,rfl⟩)⟩
    exact zlS w1 ha.symm
  ·obtain ⟨q,hq,e⟩:=Jo.mp z
   exact hn (zgk e ▸ hq)
theorem zaa(I:IsFloor w h F)(hc:∀ p ∈ F,Clo a u (pt w p)):
  ∃ φ:Int->Int->Int,φ 0 0=0/\∀ p ∈ F,φ (p % w+1) (p / w)=φ (p % w) (p / w)+a (p % w) (p / w)/\φ (p % w+1) (p / w+1)=φ (p % w) (p / w+1)+a (p % w) (p / w+1)/\
   φ (p % w) (p / w+1)=φ (p % w) (p / w)+u (p % w) (p / w)/\φ (p % w+1) (p / w+1)=φ (p % w+1) (p / w)+u (p % w+1) (p / w):=by
 have w1:=I.w1
 have w6:=I.w6
 have h1:=I.h1
 -- the bare places,from the outside inwards
 let N:=(places w h).filter fun p=>!decide (p ∈ F)
 have memN:∀ p,p ∈ N ↔ Place w h p/\p ∉ F:=fun p=>by
  show p ∈ (places w h).filter (fun p=>!decide (p ∈ F)) ↔ _
  rw [List.mem_filter,mem_places];simp
 obtain ⟨L,hL,ho⟩:=ziK N (fun p hp=>(I.noh p ((memN p).mp hp).1 ((memN p).mp hp).2).mono (fun q ri s=>.start ri ((memN q).mpr s)) fun q r=>(memN q).mpr r.inS) (N.length - 0) [] rfl (fun _ z=>nomatch z) trivial
 have hLp:∀ p ∈ L,Place w h p/\p ∉ F:=fun p hp=>(memN p).mp ((hL p).mp hp)
 have grid:∀ p,Place w h p->0≤p % w/\p % w<w/\0≤p / w/\p / w<h:=fun p hp=>by
  have hr:=uk w1 hp
  exact ⟨JQ _ (by omega),JK _ (by omega),hr.1,hr.2⟩
 obtain ⟨a',u',ga,gu,gc⟩:=extend (fun q=>0≤q.1/\q.1<w/\0≤q.2/\q.2<h) (L.map (pt w)) (fun q=>∃ p ∈ F,q=pt w p) a u
  (fun q ⟨p,hp,e⟩=>by rw [e];exact grid p (I.inn p hp))
  (fun q hq=>by
   obtain ⟨p,hp,rfl⟩:=Jo.mp hq
   exact ⟨grid p (hLp p hp).1,fun ⟨r,hr,e⟩=>(hLp p hp).2 (zgk e ▸ hr)⟩)
  (zdy w1 w6 h1 L (fun p hp=>(hLp p hp).1) ho) (fun q ⟨p,hp,e⟩=>by rw [e];exact hc p hp)
 have all:∀ (x y:Nat),x<w.toNat->y<h.toNat->Clo a' u' ((x:Int),(y:Int)):=fun x y hx hy=>by
  have hp:Place w h ((y:Int) * w+x)/\((y:Int) * w+x) % w=x/\((y:Int) * w+x) / w=y:=zjd w1 (Int.natCast_nonneg _) (by omega) (Int.natCast_nonneg _) (by omega)
  have e:((x:Int),(y:Int))=pt w ((y:Int) * w+x):=by unfold pt;rw [hp.2.1,hp.2.2]
  refine gc _ ?_
  rw [e]
  by_cases hF:((y:Int) * w+x) ∈ F
  ·exact .inl ⟨_,hF,rfl⟩
  ·exact .inr (Jo.mpr ⟨_,(hL _).mpr ((memN _).mpr ⟨hp.1,hF⟩),rfl⟩)
 obtain ⟨φ,z,f1,f2⟩:=zlA all
 refine ⟨φ,z,fun p hp=>?_⟩
 have hg:=grid p (I.inn p hp)
 have hS:∃ r ∈ F,((p % w,p / w):Pt)=pt w r:=⟨p,hp,rfl⟩
 obtain ⟨x,hx⟩:=Int.eq_ofNat_of_zero_le hg.1
 obtain ⟨y,hy⟩:=Int.eq_ofNat_of_zero_le hg.2.2.1
 have b1:=f1 x y (by omega) (by omega)
 have b2:=f1 x (y+1) (by omega) (by omega)
 have b3:=f2 x y (by omega) (by omega)
 have b4:=f2 (x+1) y (by omega) (by omega)
 have c1:=ga (p % w) (p / w) (.inl hS)
 have c2:=ga (p % w) (p / w+1) (.inr (by rw [show p / w+1 - 1=p / w by omega];exact hS))
 have c3:=gu (p % w) (p / w) (.inl hS)
 have c4:=gu (p % w+1) (p / w) (.inr (by rw [show p % w+1 - 1=p % w by omega];exact hS))
 rw [hx,hy] at c1 c2 c3 c4 ⊢
 have e1:((y+1:Nat):Int)=(y:Int)+1:=by omega
 have e2:((x+1:Nat):Int)=(x:Int)+1:=by omega
 rw [e1] at b2
 rw [e2] at b4
 rw [c1] at b1
 rw [c2] at b2
 rw [c3] at b3
 rw [c4] at b4
 exact ⟨b1,b2,b3,b4⟩
end CB
set_option maxHeartbeats 4000000
namespace CB
noncomputable def zec(d s:Int)(k:Nat):List Int:=(List.range k).map fun (i:Nat)=>s+i * d
theorem mem_chain:x ∈ zec d s k ↔ ∃ i:Nat,i<k/\x=s+i * d:=by
 unfold zec
 rw [Jo]
 exact ⟨fun ⟨i,h,e⟩=>⟨i,JA.mp h,e.symm⟩,fun ⟨i,h,e⟩=>⟨i,JA.mpr h,e.symm⟩⟩
theorem zaN(i:Nat)(d:Int):((i+1:Nat):Int) * d=i * d+d:=by rw [Int.natCast_succ,QM,Int.one_mul]
section
variable {F:List Int} {d:Int} {stop:Int->Bool} {pre:List Int} {ps qs:List (Int × Nat)} {f:Int}
noncomputable def xV(F:List Int)(d:Int)(stop:Int->Bool)(f:Int):Bool:=stop f || !decide (f - d ∈ F)
structure Runs0 (F:List Int) (d:Int) (stop:Int->Bool) (pre:List Int) (ps:List (Int × Nat)):Prop where
 heads:ps.map (·.1)=pre.filter (xV F d stop)
 pos:∀ x ∈ ps,1≤x.2
 inn:∀ x ∈ ps,∀ i:Nat,i<x.2->x.1+i * d ∈ pre/\(0<i->stop (x.1+i * d)=false)
 mx:∀ x ∈ ps,x.1+x.2 * d ∈ pre->stop (x.1+x.2 * d)=true
structure Runs (F:List Int) (d:Int) (stop:Int->Bool) (pre:List Int) (ps:List (Int × Nat)):Prop extends Runs0 F d stop pre ps where
 cov:∀ f ∈ pre,∃ x ∈ ps,∃ i:Nat,i<x.2/\f=x.1+i * d
theorem Runs.start(r:Runs0 F d stop pre ps){x:Int × Nat}(hx:x ∈ ps):x.1 ∈ pre/\xV F d stop x.1=true:=by
 have:x.1 ∈ ps.map (·.1):=Jo.mpr ⟨x,hx,rfl⟩
 rw [r.heads] at this
 exact JD.mp this
theorem Runs.same(r:Runs0 F d stop pre ps)(sub:∀ p ∈ pre,p ∈ F){x y:Int × Nat}(hx:x ∈ ps)(hy:y ∈ ps)(hi:i<x.2)(hj:j<y.2)(e:x.1+i * d=y.1+j * d):x.1=y.1:=by
 have key:∀ {x y:Int × Nat},x ∈ ps->y ∈ ps->∀ {i j:Nat},j<y.2->x.1+i * d=y.1+j * d->i<j->False:=by
  intro x y hx hy i j hj e h
  obtain ⟨m,rfl⟩:∃ m,j=i+(m+1):=⟨j - i - 1,by omega⟩
  have e1:x.1=y.1+((m+1:Nat):Int) * d:=by
   have:((i+(m+1):Nat):Int) * d=i * d+((m+1:Nat):Int) * d:=by rw [Int.natCast_add,QM]
   omega
  have i1:=r.inn y hy (m+1) (by omega)
  have i2:=r.inn y hy m (by omega)
  have e2:x.1 - d=y.1+m * d:=by have:=zaN m d;omega
  have s:=(Runs.start r hx).2
  unfold xV at s
  rw [e2,e1,i1.2 (by omega)] at s
  simp [sub _ i2.1] at s
 rcases Nat.lt_trichotomy i j with h | h | h
 ·exact (key hx hy hj e h).elim
 ·subst h;omega
 ·exact (key hy hx hi e.symm h).elim
theorem Runs.clash(r:Runs0 F d stop pre ps)(sub:∀ p ∈ pre,p ∈ F){x y:Int × Nat}(hx:x ∈ ps)(hy:y ∈ ps)(e:x.1=y.1+((q+1:Nat):Int) * d)(hq:q+1<y.2):False:=by
 have i1:=r.inn y hy (q+1) hq
 have i2:=r.inn y hy q (by omega)
 have e2:x.1 - d=y.1+q * d:=by have:=zaN q d;omega
 have s:=(Runs.start r hx).2
 unfold xV at s
 rw [e2,e,i1.2 (by omega)] at s
 simp [sub _ i2.1] at s
theorem Runs.heads_nd(r:Runs0 F d stop pre ps)(nd:pre.Nodup):(ps.map (·.1)).Nodup:=by rw [r.heads];exact nd.filter _
theorem Runs.ix(r:Runs0 F d stop pre ps)(nd:pre.Nodup){i j:Nat}{x y:Int × Nat}(hi:ps[i]?=some x)(hj:ps[j]?=some y)(e:x.1=y.1):i=j:=by
 have h:=Runs.heads_nd r nd
 obtain ⟨l1,rfl⟩:=JB.mp hi
 obtain ⟨l2,rfl⟩:=JB.mp hj
 rcases Nat.lt_trichotomy i j with z | z | z
 ·have:=List.pairwise_iff_getElem.mp h i j (by simpa using l1) (by simpa using l2) z
  exact absurd (by simpa using e) this
 ·exact z
 ·have:=List.pairwise_iff_getElem.mp h j i (by simpa using l2) (by simpa using l1) z
  exact absurd (by simpa using e.symm) this
theorem Runs.one(r:Runs F d stop pre ps)(sub:∀ p ∈ pre,p ∈ F)(nd:pre.Nodup)(hf:f ∈ pre):∃ k,k<ps.length/\∀ j x,ps[j]?=some x->(f ∈ zec d x.1 x.2 ↔ j=k):=by
 obtain ⟨x,hx,i,hi,e⟩:=r.cov f hf
 obtain ⟨k,hk,rfl⟩:=JV hx
 refine ⟨k,hk,fun j y hj=>⟨fun h=>?_,fun h=>?_⟩⟩
 ·obtain ⟨i',hi',e'⟩:=mem_chain.mp h
  exact Runs.ix r.toRuns0 nd hj (Jr hk) (Runs.same r.toRuns0 sub (Ki hj) hx hi' hi (by omega))
 ·subst h
  rw [Jr hk] at hj
  cases hj
  exact mem_chain.mpr ⟨i,hi,e⟩
theorem Runs.nil:Runs F d stop [] []:=⟨⟨rfl,by simp,by simp,by simp⟩,by simp⟩
theorem Runs.new(r:Runs F d stop pre ps)(hd:0<d)(sub:∀ p ∈ pre,p ∈ F)(lt:∀ p ∈ pre,p<f)(hs:xV F d stop f=true):Runs F d stop (pre++[f]) (ps++[(f,1)]):=by
 refine ⟨⟨?_,?_,?_,?_⟩,?_⟩
 ·rw [List.map_append,List.filter_append,r.heads];simp [hs]
 ·intro x hx
  rcases List.mem_append.mp hx with hx | hx
  ·exact r.pos x hx
  ·rw [Ji.mp hx];exact Jj _
 ·intro x hx i hi
  rcases List.mem_append.mp hx with hx | hx
  ·have:=r.inn x hx i hi
   exact ⟨Jt _ this.1,this.2⟩
  ·rw [Ji.mp hx] at hi ⊢
   have:i=0:=by simp at hi;exact hi
   subst this
   simp
 ·intro x hx hm
  rcases List.mem_append.mp hx with hx | hx
  ·rcases List.mem_append.mp hm with hm | hm
   ·exact r.mx x hx hm
   ·have e:=Ji.mp hm
    have p:=r.pos x hx
    obtain ⟨m,hm'⟩:∃ m,x.2=m+1:=⟨x.2 - 1,by omega⟩
    have i1:=r.inn x hx m (by omega)
    have e2:f - d=x.1+m * d:=by rw [← e,hm'];have:=zaN m d;omega
    rw [e]
    unfold xV at hs
    rw [e2] at hs
    simpa [sub _ i1.1] using hs
  ·rw [Ji.mp hx] at hm ⊢
   simp only [Int.natCast_one,Int.one_mul] at hm
   rcases List.mem_append.mp hm with hm | hm
   ·have:=lt _ hm;omega
   ·have:=Ji.mp hm;omega
 ·intro g hg
  rcases List.mem_append.mp hg with hg | hg
  ·obtain ⟨x,hx,i,hi,e⟩:=r.cov g hg
   exact ⟨x,Jt _ hx,i,hi,e⟩
  ·exact ⟨(f,1),by simp,0,by simp,by rw [List.mem_singleton.mp hg];simp⟩
theorem Runs.ext(r:Runs F d stop pre ps)(hd:0<d)(sub:∀ p ∈ pre,p ∈ F)(nd:pre.Nodup)(lt:∀ p ∈ pre,p<f)(hs:xV F d stop f=false){a:Nat}{s:Int}{k:Nat}(ha:ps[a]?=some (s,k))(e:f=s+k * d):Runs F d stop (pre++[f]) (ps.set a (s,k+1)):=by
 obtain ⟨al,ae⟩:=JB.mp ha
 have hx:(s,k) ∈ ps:=Ki ha
 have st:stop f=false:=by unfold xV at hs;rw [Bool.or_eq_false_iff] at hs;exact hs.1
 have cases':∀ x ∈ ps.set a (s,k+1),x=(s,k+1)∨∃ b,b≠a/\ps[b]?=some x:=by
  intro x hx
  obtain ⟨b,hb⟩:=Ke.mp hx
  rw [QC] at hb
  by_cases hba:a=b
  ·rw [if_pos hba] at hb
   exact .inl (by split at hb<;>(cases hb;rfl))
  ·rw [if_neg hba] at hb
   exact .inr ⟨b,fun z=>hba z.symm,hb⟩
 refine ⟨⟨?_,?_,?_,?_⟩,?_⟩
 ·rw [QP,← r.heads,List.map_set]
  simp only [List.filter_cons,hs,Bool.false_eq_true,if_false,List.filter_nil,List.append_nil]
  refine List.ext_getElem (by simp) fun i h1 h2=>?_
  rw [List.getElem_set]
  split
  ·rename_i hia
   subst hia
   simp [ae]
  ·rfl
 ·intro x hx'
  rcases cases' x hx' with rfl | ⟨b,_,hb⟩
  ·exact Kj _
  ·exact r.pos x (Ki hb)
 ·intro x hx' i hi
  rcases cases' x hx' with rfl | ⟨b,_,hb⟩
  ·by_cases h:i<k
   ·have:=r.inn _ hx i h
    exact ⟨Jt _ this.1,this.2⟩
   ·have hik:i=k:=by simp at hi;omega
    subst hik
    refine ⟨by rw [← e];simp,fun _=>by rw [← e];exact st⟩
  ·have:=r.inn x (Ki hb) i hi
   exact ⟨Jt _ this.1,this.2⟩
 ·intro x hx' hm
  rcases cases' x hx' with rfl | ⟨b,hba,hb⟩
  ·rw [zaN] at hm ⊢
   have h1:s+(k * d+d)=f+d:=by omega
   rw [h1] at hm ⊢
   rcases List.mem_append.mp hm with hm | hm
   ·have:=lt _ hm;omega
   ·have:=Ji.mp hm;omega
  ·rcases List.mem_append.mp hm with hm | hm
   ·exact r.mx x (Ki hb) hm
   ·have e2:=Ji.mp hm
    have hx2:=Ki hb
    have p:=r.pos x hx2
    obtain ⟨m,hm'⟩:∃ m,x.2=m+1:=⟨x.2 - 1,by omega⟩
    have pk:=r.pos _ hx
    obtain ⟨n,hn⟩:∃ n,k=n+1:=⟨k - 1,by simp at pk;omega⟩
    -- the last ones of both are f - d
    have e3:x.1+m * d=s+n * d:=by
     rw [hm'] at e2
     rw [hn] at e
     have:=zaN m d
     have:=zaN n d
     omega
    have same:∀ {i j:Nat} {x y:Int × Nat},ps[i]?=some x->ps[j]?=some y->x.1=y.1->i=j:=fun h1 h2 h3=>Runs.ix r.toRuns0 nd h1 h2 h3
    exfalso
    -- both heads begin,so they are one
    rcases Nat.lt_trichotomy m n with z | z | z
    ·obtain ⟨q,rfl⟩:∃ q,n=m+(q+1):=⟨n - m - 1,by omega⟩
     have e4:x.1=s+((q+1:Nat):Int) * d:=by
      have:((m+(q+1):Nat):Int) * d=m * d+((q+1:Nat):Int) * d:=by rw [Int.natCast_add,QM]
      omega
     exact Runs.clash r.toRuns0 sub hx2 hx e4 (by rw [hn];omega)
    ·subst z
     exact hba (same hb ha (by simp;omega))
    ·obtain ⟨q,rfl⟩:∃ q,m=n+(q+1):=⟨m - n - 1,by omega⟩
     have e4:s=x.1+((q+1:Nat):Int) * d:=by
      have:((n+(q+1):Nat):Int) * d=n * d+((q+1:Nat):Int) * d:=by rw [Int.natCast_add,QM]
      omega
     exact Runs.clash r.toRuns0 sub hx hx2 e4 (by rw [hm'];omega)
 ·intro g hg
  rcases List.mem_append.mp hg with hg | hg
  ·obtain ⟨x,hx',i,hi,e'⟩:=r.cov g hg
   obtain ⟨b,hb,rfl⟩:=JV hx'
   by_cases hba:a=b
   ·subst hba
    rw [ae] at hi e'
    exact ⟨(s,k+1),List.mem_iff_getElem?.mpr ⟨a,by rw [List.getElem?_set,if_pos rfl,if_pos al]⟩,i,by simp at hi ⊢;omega,e'⟩
   ·exact ⟨ps[b],Ke.mpr ⟨b,by rw [QC,if_neg hba];exact Jr hb⟩,i,hi,e'⟩
  ·exact ⟨(s,k+1),List.mem_iff_getElem?.mpr ⟨a,by rw [List.getElem?_set,if_pos rfl,if_pos al]⟩,k,by simp,by rw [List.mem_singleton.mp hg];exact e⟩
end
end CB
namespace F
open PySem PySem.Spec PyProof.Rows L2
inductive PV where
 | non | bl (b:Bool) | int (i:Int) | str (x:Str) | ty (n:String)
 | tup (xs:List PV) | lst (xs:List PV)
 | fls (xs:List PV)
 | dct (ks:List Key) (vs:List PV)
 | any
 | pen (a:Addr) (ns:List Int)
 | adr (a:Addr)
noncomputable abbrev En:=List (Option PV)
noncomputable abbrev St:=L2.St
noncomputable abbrev FE:=En->Option PV
noncomputable abbrev FT:=En->Option Bool
noncomputable abbrev FA:=En->Option (List PV)
mutual
noncomputable def zQ:PV->Bool
 | .lst _=>false
 | .dct _ _=>false
 | .pen _ _=>false
 | .adr _=>false
 | .tup xs=>isDatas xs
 | .fls xs=>isDatas xs
 | _=>true
noncomputable def isDatas:List PV->Bool
 | []=>true
 | x::r=>zQ x && isDatas r
end
theorem yi:∀ (xs ys:List PV),isDatas (xs++ys)=(isDatas xs && isDatas ys)
 | [],ys=>by simp [isDatas]
 | x::r,ys=>by simp [isDatas,yi r ys,Bool.and_assoc]
theorem xW:∀ (xs:List PV),isDatas xs=true ↔ ∀ x ∈ xs,zQ x=true
 | []=>by simp [isDatas]
 | x::r=>by simp [isDatas,xW r]
theorem yh{α:Type}(f:α->PV)(h:∀ a,zQ (f a)=true)(xs:List α):isDatas (xs.map f)=true:=by
 rw [xW]
 intro x hx
 obtain ⟨a,_,rfl⟩:=Jo.mp hx
 exact h a
theorem qu(xs:List Int):isDatas (xs.map PV.int)=true:=yh _ (fun _=>by simp [zQ]) xs
noncomputable def Fz(K:PySem.W.Frag)(H:Hp)(a:Addr)(xs:List V):Prop:=
 (∃ o,H a=some (.frz o (.lst xs)))∨∃ (o:Obj) (its:Array Value) (n:Nat),K.lookup a=some o/\o.cls=.type "list"/\o.dict=none/\o.data=.seq its n/\its.size≤sizeLine/\Vals xs its.toList
theorem Fz.seq{K:PySem.W.Frag}{H:Hp}{a:Addr}{xs:List V}(h:Fz K H a xs):SqL K H a xs:=h.elim (fun z=>.inl (.inr z)) .inr
theorem Fz.same{K:PySem.W.Frag}{H H':Hp}{a:Addr}{xs:List V}(e:Same H H')(h:Fz K H a xs):Fz K H' a xs:=h.elim (fun ⟨o,z⟩=>.inl ⟨o,e _ _ z⟩) .inr
mutual
noncomputable def Rp(K:PySem.W.Frag)(H:Hp):PV->V->List Addr->Prop
 | .non,v,A=>v=.non/\A=[]
 | .bl b,v,A=>v=.bl b/\A=[]
 | .int i,v,A=>v=.int i/\A=[]
 | .str x,v,A=>v=.str x/\A=[]
 | .ty n,v,A=>v=.ty n/\A=[]
 | .any,_,A=>A=[]
 | .pen a ns,v,A=>v=.ref a/\A=[a]/\H a=some (.lst (ns.map V.int))
 | .adr a,v,A=>v=.ref a/\A=[]
 | .tup ps,v,A=>∃ a xs,v=.ref a/\SqT K H a xs/\Rps K H ps xs A
 | .lst ps,v,A=>∃ a xs B,v=.ref a/\H a=some (.lst xs)/\A=a::B/\Rps K H ps xs B
 | .fls ps,v,A=>∃ a xs,v=.ref a/\Fz K H a xs/\Rps K H ps xs A
 | .dct ks ps,v,A=>∃ a xs B,v=.ref a/\H a=some (.dK (ks.zip xs))/\ks.length=ps.length/\A=a::B/\Rps K H ps xs B
noncomputable def Rps(K:PySem.W.Frag)(H:Hp):List PV->List V->List Addr->Prop
 | [],vs,A=>vs=[]/\A=[]
 | p::ps,vs,A=>∃ v r A1 A2,vs=v::r/\A=A1++A2/\Rp K H p v A1/\Rps K H ps r A2
end
section
variable {K:PySem.W.Frag} {H H':Hp}
mutual
theorem Rp.same(e:Same H H'):∀ (p:PV) {v:V} {A:List Addr},Rp K H p v A->Rp K H' p v A
 | .non,_,_,h=>by unfold Rp at h ⊢;exact h
 | .bl _,_,_,h=>by unfold Rp at h ⊢;exact h
 | .int _,_,_,h=>by unfold Rp at h ⊢;exact h
 | .str _,_,_,h=>by unfold Rp at h ⊢;exact h
 | .ty _,_,_,h=>by unfold Rp at h ⊢;exact h
 | .any,_,_,h=>by unfold Rp at h ⊢;exact h
 | .adr _,_,_,h=>by unfold Rp at h ⊢;exact h
 | .pen _ _,_,_,h=>by unfold Rp at h ⊢;exact ⟨h.1,h.2.1,e _ _ h.2.2⟩
 | .tup ps,_,_,h=>by
  unfold Rp at h ⊢
  obtain ⟨a,xs,h1,h2,h3⟩:=h
  exact ⟨a,xs,h1,e.tup h2,Rps.same e ps h3⟩
 | .lst ps,_,_,h=>by
  unfold Rp at h ⊢
  obtain ⟨a,xs,B,h1,h2,h3,h4⟩:=h
  exact ⟨a,xs,B,h1,e _ _ h2,h3,Rps.same e ps h4⟩
 | .fls ps,_,_,h=>by
  unfold Rp at h ⊢
  obtain ⟨a,xs,h1,h2,h3⟩:=h
  exact ⟨a,xs,h1,h2.same e,Rps.same e ps h3⟩
 | .dct ks ps,_,_,h=>by
  unfold Rp at h ⊢
  obtain ⟨a,xs,B,h1,h2,h3,h4,h5⟩:=h
  exact ⟨a,xs,B,h1,e _ _ h2,h3,h4,Rps.same e ps h5⟩
theorem Rps.same(e:Same H H'):∀ (ps:List PV) {vs:List V} {A:List Addr},Rps K H ps vs A->Rps K H' ps vs A
 | [],_,_,h=>by unfold Rps at h ⊢;exact h
 | p::ps,_,_,h=>by
  unfold Rps at h ⊢
  obtain ⟨v,r,A1,A2,h1,h2,h3,h4⟩:=h
  exact ⟨v,r,A1,A2,h1,h2,Rp.same e p h3,Rps.same e ps h4⟩
end
noncomputable def MutH(H:Hp)(a:Addr):Prop:=(∃ xs,H a=some (.lst xs))∨∃ kvs,H a=some (.dK kvs)
theorem MutH.tup{a b:Addr}{xs:List V}{o:HO}(m:MutH H a)(h:SqT K H b xs):SqT K (upd H a o) b xs:=by
 rcases h with (h | ⟨u,h⟩) | h
 ·have:b≠a:=by rintro rfl;rcases m with ⟨_,m⟩ | ⟨_,m⟩<;>(rw [h] at m;cases m)
  exact .inl (.inl (by rw [zW this];exact h))
 ·have:b≠a:=by rintro rfl;rcases m with ⟨_,m⟩ | ⟨_,m⟩<;>(rw [h] at m;cases m)
  exact .inl (.inr ⟨u,by rw [zW this];exact h⟩)
 ·exact .inr h
theorem MutH.fz(m:MutH H a)(h:Fz K H b xs):Fz K (upd H a o) b xs:=by
 rcases h with ⟨u,h⟩ | h
 ·have:b≠a:=by rintro rfl;rcases m with ⟨_,m⟩ | ⟨_,m⟩<;>(rw [h] at m;cases m)
  exact .inl ⟨u,by rw [zW this];exact h⟩
 ·exact .inr h
mutual
theorem Rp.upd{a:Addr}{o:HO}(m:MutH H a):∀ (p:PV) {v:V} {A:List Addr},a ∉ A->Rp K H p v A->Rp K (L2.upd H a o) p v A
 | .non,_,_,_,h=>by unfold Rp at h ⊢;exact h
 | .bl _,_,_,_,h=>by unfold Rp at h ⊢;exact h
 | .int _,_,_,_,h=>by unfold Rp at h ⊢;exact h
 | .str _,_,_,_,h=>by unfold Rp at h ⊢;exact h
 | .ty _,_,_,_,h=>by unfold Rp at h ⊢;exact h
 | .any,_,_,_,h=>by unfold Rp at h ⊢;exact h
 | .adr _,_,_,_,h=>by unfold Rp at h ⊢;exact h
 | .pen b _,_,_,n,h=>by
  unfold Rp at h ⊢
  refine ⟨h.1,h.2.1,?_⟩
  rw [zW (fun z=>n (by rw [h.2.1,z];exact Jf))]
  exact h.2.2
 | .tup ps,_,_,n,h=>by
  unfold Rp at h ⊢
  obtain ⟨b,xs,h1,h2,h3⟩:=h
  exact ⟨b,xs,h1,m.tup h2,Rps.upd m ps n h3⟩
 | .lst ps,_,_,n,h=>by
  unfold Rp at h ⊢
  obtain ⟨b,xs,B,h1,h2,rfl,h4⟩:=h
  have nb:b≠a:=fun z=>n (z ▸ Jf)
  exact ⟨b,xs,B,h1,by rw [zW nb];exact h2,rfl,Rps.upd m ps (fun z=>n (Jg _ z)) h4⟩
 | .fls ps,_,_,n,h=>by
  unfold Rp at h ⊢
  obtain ⟨b,xs,h1,h2,h3⟩:=h
  exact ⟨b,xs,h1,m.fz h2,Rps.upd m ps n h3⟩
 | .dct ks ps,_,_,n,h=>by
  unfold Rp at h ⊢
  obtain ⟨b,xs,B,h1,h2,h3,rfl,h5⟩:=h
  have nb:b≠a:=fun z=>n (z ▸ Jf)
  exact ⟨b,xs,B,h1,by rw [zW nb];exact h2,h3,rfl,Rps.upd m ps (fun z=>n (Jg _ z)) h5⟩
theorem Rps.upd{a:Addr}{o:HO}(m:MutH H a):∀ (ps:List PV) {vs:List V} {A:List Addr},a ∉ A->Rps K H ps vs A->Rps K (L2.upd H a o) ps vs A
 | [],_,_,_,h=>by unfold Rps at h ⊢;exact h
 | p::ps,_,_,n,h=>by
  unfold Rps at h ⊢
  obtain ⟨v,r,A1,A2,h1,rfl,h3,h4⟩:=h
  exact ⟨v,r,A1,A2,h1,rfl,Rp.upd m p (fun z=>n (Jt _ z)) h3,Rps.upd m ps (fun z=>n (Jl _ z)) h4⟩
end
mutual
theorem Rp.mut:∀ (p:PV) {v:V} {A:List Addr},Rp K H p v A->∀ a ∈ A,MutH H a
 | .non,_,_,h=>by unfold Rp at h;rw [h.2];simp
 | .bl _,_,_,h=>by unfold Rp at h;rw [h.2];simp
 | .int _,_,_,h=>by unfold Rp at h;rw [h.2];simp
 | .str _,_,_,h=>by unfold Rp at h;rw [h.2];simp
 | .ty _,_,_,h=>by unfold Rp at h;rw [h.2];simp
 | .any,_,_,h=>by unfold Rp at h;rw [h];simp
 | .adr _,_,_,h=>by unfold Rp at h;rw [h.2];simp
 | .pen _ _,_,_,h=>by
  unfold Rp at h
  rw [h.2.1]
  intro b hb
  rw [Ji.mp hb]
  exact .inl ⟨_,h.2.2⟩
 | .tup ps,_,_,h=>by
  unfold Rp at h
  obtain ⟨b,xs,h1,h2,h3⟩:=h
  exact Rps.mut ps h3
 | .lst ps,_,_,h=>by
  unfold Rp at h
  obtain ⟨b,xs,B,h1,h2,rfl,h4⟩:=h
  intro a ha
  rcases List.mem_cons.mp ha with rfl | ha
  ·exact .inl ⟨xs,h2⟩
  ·exact Rps.mut ps h4 a ha
 | .fls ps,_,_,h=>by
  unfold Rp at h
  obtain ⟨b,xs,h1,h2,h3⟩:=h
  exact Rps.mut ps h3
 | .dct ks ps,_,_,h=>by
  unfold Rp at h
  obtain ⟨b,xs,B,h1,h2,h3,rfl,h5⟩:=h
  intro a ha
  rcases List.mem_cons.mp ha with rfl | ha
  ·exact .inr ⟨_,h2⟩
  ·exact Rps.mut ps h5 a ha
theorem Rps.mut:∀ (ps:List PV) {vs:List V} {A:List Addr},Rps K H ps vs A->∀ a ∈ A,MutH H a
 | [],_,_,h=>by unfold Rps at h;rw [h.2];simp
 | p::ps,_,_,h=>by
  unfold Rps at h
  obtain ⟨v,r,A1,A2,h1,rfl,h3,h4⟩:=h
  intro a ha
  rcases List.mem_append.mp ha with ha | ha
  ·exact Rp.mut p h3 a ha
  ·exact Rps.mut ps h4 a ha
end
theorem MutH.same(h:MutH H a)(s:Same H H'):MutH H' a:=h.elim (fun ⟨x,z⟩=>.inl ⟨x,s _ _ z⟩) fun ⟨x,z⟩=>.inr ⟨x,s _ _ z⟩
theorem MutH.some(h:MutH H a):∃ o,H a=some o:=by
 rcases h with ⟨_,h⟩ | ⟨_,h⟩<;>exact ⟨_,h⟩
theorem Rp.alloc(h:Rp K H p v A)(ha:a ∈ A):∃ o,H a=some o:=(Rp.mut p h a ha).some
mutual
theorem Rp.data:∀ (p:PV) {v:V} {A:List Addr},zQ p=true->Rp K H p v A->A=[]
 | .non,_,_,_,h=>by unfold Rp at h;exact h.2
 | .bl _,_,_,_,h=>by unfold Rp at h;exact h.2
 | .int _,_,_,_,h=>by unfold Rp at h;exact h.2
 | .str _,_,_,_,h=>by unfold Rp at h;exact h.2
 | .ty _,_,_,_,h=>by unfold Rp at h;exact h.2
 | .any,_,_,_,h=>by unfold Rp at h;exact h
 | .pen _ _,_,_,d,_=>by simp [zQ] at d
 | .adr _,_,_,d,_=>by simp [zQ] at d
 | .tup ps,_,_,d,h=>by
  unfold Rp at h
  unfold zQ at d
  obtain ⟨b,xs,h1,h2,h3⟩:=h
  exact Rps.data ps d h3
 | .lst ps,_,_,d,h=>by simp [zQ] at d
 | .fls ps,_,_,d,h=>by
  unfold Rp at h
  unfold zQ at d
  obtain ⟨b,xs,h1,h2,h3⟩:=h
  exact Rps.data ps d h3
 | .dct ks ps,_,_,d,h=>by simp [zQ] at d
theorem Rps.data:∀ (ps:List PV) {vs:List V} {A:List Addr},isDatas ps=true->Rps K H ps vs A->A=[]
 | [],_,_,_,h=>by unfold Rps at h;exact h.2
 | p::ps,_,_,d,h=>by
  unfold Rps at h
  unfold isDatas at d
  rw [JR] at d
  obtain ⟨v,r,A1,A2,h1,h2,h3,h4⟩:=h
  rw [h2,Rp.data p d.1 h3,Rps.data ps d.2 h4];rfl
end
theorem Rps.length:∀ {ps:List PV} {vs:List V} {A:List Addr},Rps K H ps vs A->ps.length=vs.length
 | [],_,_,h=>by unfold Rps at h;rw [h.1];rfl
 | p::ps,_,_,h=>by
  unfold Rps at h
  obtain ⟨v,r,A1,A2,h1,h2,h3,h4⟩:=h
  rw [h1,JF,JF,Rps.length h4]
theorem Rps.get:∀ {ps:List PV} {vs:List V} {A:List Addr} {i:Nat} {p:PV},Rps K H ps vs A->ps[i]?=some p->∃ v C,vs[i]?=some v/\Rp K H p v C/\C.Sublist A
 | [],_,_,_,_,_,e=>by simp at e
 | q::ps,_,_,0,p,h,e=>by
  unfold Rps at h
  obtain ⟨v,r,A1,A2,h1,h2,h3,h4⟩:=h
  simp at e
  subst e
  exact ⟨v,A1,by rw [h1];rfl,h3,by rw [h2];exact List.sublist_append_left _ _⟩
 | q::ps,_,_,i+1,p,h,e=>by
  unfold Rps at h
  obtain ⟨v,r,A1,A2,h1,h2,h3,h4⟩:=h
  obtain ⟨w,C,g1,g2,g3⟩:=Rps.get (i:=i) h4 (by simpa using e)
  exact ⟨w,C,by rw [h1];simpa using g1,g2,by rw [h2];exact g3.trans (List.sublist_append_right _ _)⟩
theorem Rps.append:∀ {ps qs:List PV} {vs ws:List V} {A B:List Addr},Rps K H ps vs A->Rps K H qs ws B->Rps K H (ps++qs) (vs++ws) (A++B)
 | [],_,_,_,_,_,h,h'=>by unfold Rps at h;rw [h.1,h.2];exact h'
 | p::ps,qs,_,ws,_,B,h,h'=>by
  unfold Rps at h
  obtain ⟨v,r,A1,A2,h1,h2,h3,h4⟩:=h
  show Rps K H (p::(ps++qs)) _ _
  unfold Rps
  exact ⟨v,r++ws,A1,A2++B,by rw [h1];rfl,by rw [h2,Jy],h3,Rps.append h4 h'⟩
theorem Rps.nil:Rps K H [] [] []:=by unfold Rps;exact ⟨rfl,rfl⟩
theorem Rps.cons{p:PV}{ps:List PV}{v:V}{vs:List V}{A B:List Addr}(h:Rp K H p v A)(h':Rps K H ps vs B):Rps K H (p::ps) (v::vs) (A++B):=by
 unfold Rps;exact ⟨v,vs,A,B,rfl,rfl,h,h'⟩
theorem Rps.one{p:PV}{v:V}{A:List Addr}(h:Rp K H p v A):Rps K H [p] [v] A:=by
 have:=Rps.cons h (Rps.nil (K:=K) (H:=H))
 rwa [JS] at this
theorem Rps.inv(h:Rps K H (p::ps) vs A):∃ v r A1 A2,vs=v::r/\A=A1++A2/\Rp K H p v A1/\Rps K H ps r A2:=by
 unfold Rps at h;exact h
theorem Rps.inv0(h:Rps K H [] vs A):vs=[]/\A=[]:=by unfold Rps at h;exact h
theorem Rps.split:∀ {ps qs:List PV} {vs:List V} {A:List Addr},Rps K H (ps++qs) vs A->∃ v1 v2 A1 A2,vs=v1++v2/\A=A1++A2/\Rps K H ps v1 A1/\Rps K H qs v2 A2
 | [],qs,vs,A,h=>⟨[],vs,[],A,rfl,rfl,.nil,h⟩
 | p::ps,qs,vs,A,h=>by
  obtain ⟨v,r,A1,A2,h1,h2,h3,h4⟩:=Rps.inv (show Rps K H (p::(ps++qs)) vs A from h)
  obtain ⟨v1,v2,B1,B2,g1,g2,g3,g4⟩:=Rps.split h4
  exact ⟨v::v1,v2,A1++B1,B2,by rw [h1,g1];rfl,by rw [h2,g2,Jy],.cons h3 g3,g4⟩
theorem Rp.mkI(i:Int):Rp K H (.int i) (.int i) []:=by unfold Rp;exact ⟨rfl,rfl⟩
theorem Rp.mkB(b:Bool):Rp K H (.bl b) (.bl b) []:=by unfold Rp;exact ⟨rfl,rfl⟩
theorem Rp.mkS(x:Str):Rp K H (.str x) (.str x) []:=by unfold Rp;exact ⟨rfl,rfl⟩
theorem Rp.mkN:Rp K H .non .non []:=by unfold Rp;exact ⟨rfl,rfl⟩
theorem Rp.mkTy(n:String):Rp K H (.ty n) (.ty n) []:=by unfold Rp;exact ⟨rfl,rfl⟩
theorem Rp.mkT(h:SqT K H a xs)(r:Rps K H ps xs A):Rp K H (.tup ps) (.ref a) A:=by unfold Rp;exact ⟨a,xs,rfl,h,r⟩
theorem Rp.mkL(h:H a=some (.lst xs))(r:Rps K H ps xs A):Rp K H (.lst ps) (.ref a) (a::A):=by unfold Rp;exact ⟨a,xs,A,rfl,h,rfl,r⟩
theorem Rp.mkD{ks:List Key}{ps:List PV}(h:H a=some (.dK (ks.zip xs)))(l:ks.length=ps.length)(r:Rps K H ps xs A):Rp K H (.dct ks ps) (.ref a) (a::A):=by unfold Rp;exact ⟨a,xs,A,rfl,h,l,rfl,r⟩
theorem Rp.I(h:Rp K H (.int i) v A):v=.int i/\A=[]:=by unfold Rp at h;exact h
theorem Rp.B(h:Rp K H (.bl i) v A):v=.bl i/\A=[]:=by unfold Rp at h;exact h
theorem Rp.S(h:Rp K H (.str i) v A):v=.str i/\A=[]:=by unfold Rp at h;exact h
theorem Rp.N{v:V}{A:List Addr}(h:Rp K H .non v A):v=.non/\A=[]:=by unfold Rp at h;exact h
theorem Rp.Ty(h:Rp K H (.ty n) v A):v=.ty n/\A=[]:=by unfold Rp at h;exact h
theorem Rp.T(h:Rp K H (.tup ps) v A):∃ a xs,v=.ref a/\SqT K H a xs/\Rps K H ps xs A:=by unfold Rp at h;exact h
theorem Rp.L(h:Rp K H (.lst ps) v A):∃ a xs B,v=.ref a/\H a=some (.lst xs)/\A=a::B/\Rps K H ps xs B:=by unfold Rp at h;exact h
theorem Rp.P{ns:List Int}(h:Rp K H (.pen a ns) v A):v=.ref a/\A=[a]/\H a=some (.lst (ns.map V.int)):=by unfold Rp at h;exact h
theorem Rp.Fl(h:Rp K H (.fls ps) v A):∃ a xs,v=.ref a/\Fz K H a xs/\Rps K H ps xs A:=by unfold Rp at h;exact h
theorem Rp.D{ks:List Key}{ps:List PV}(h:Rp K H (.dct ks ps) v A):∃ a xs B,v=.ref a/\H a=some (.dK (ks.zip xs))/\ks.length=ps.length/\A=a::B/\Rps K H ps xs B:=by unfold Rp at h;exact h
end
structure VI (K:PySem.W.Frag) (κ:Nat->Option Nat) (G:Hp) (own:Addr->Option Nat) (env:En) (σ:St) (H:Hp):Prop where
 len:env.length=σ.length
 slot:∀ i p,env[i]?=some (some p)->∃ v A,σ[i]?=some (some v)/\Rp K H p v A/\(κ i=none->∀ a ∈ A,own a=none)/\∀ l,κ i=some l->A.Nodup/\∀ a ∈ A,own a=some l
 own:∀ a l,own a=some l->G a=none/\MutH H a
 same:Same G H
theorem VI.grow{K:PySem.W.Frag}{κ:Nat->Option Nat}{G:Hp}{own:Addr->Option Nat}{env:En}{σ:St}{H H':Hp}(I:VI K κ G own env σ H)(s:Same H H'):VI K κ G own env σ H':=
 ⟨I.len,fun i p e=>let ⟨v,A,h1,h2,h3⟩:=I.slot i p e;⟨v,A,h1,Rp.same s p h2,h3⟩,fun a l e=>let ⟨h1,h2⟩:=I.own a l e;⟨h1,h2.same s⟩,I.same.trans s⟩
noncomputable def Ext(own:Addr->Option Nat)(H:Hp)(own':Addr->Option Nat)(H':Hp):Prop:=∀ b o,own b=none->H b=some o->own' b=none/\H' b=some o
theorem Ext.refl(own:Addr->Option Nat)(H:Hp):Ext own H own H:=fun _ _ h e=>⟨h,e⟩
theorem Ext.trans(a:Ext o1 H1 o2 H2)(b:Ext o2 H2 o3 H3):Ext o1 H1 o3 H3:=fun x o h e=>let ⟨h',e'⟩:=a x o h e;b x o h' e'
theorem Ext.grow(s:Same H H'):Ext own H own H':=fun b o h e=>⟨h,s b o e⟩
inductive Cat where
 | mv (L:List Nat) | sh | bo
noncomputable def Cat.ok:Cat->Hp->(Addr->Option Nat)->List Addr->Prop
 | .mv L,H,own,A=>A.Nodup/\∀ a ∈ A,H a=none∨∃ l ∈ L,own a=some l
 | .sh,_,own,A=>∀ a ∈ A,own a=none
 | .bo,_,_,_=>True
theorem Cat.nil(c:Cat)(H:Hp)(own:Addr->Option Nat):c.ok H own []:=by
 cases c with
 | mv L=>exact ⟨.nil,by simp⟩
 | sh=>show ∀ a ∈ [],own a=none;simp
 | bo=>trivial
noncomputable def tV(K:PySem.W.Frag)(κ:Nat->Option Nat)(G:Hp)(c:Cat)(f:FE):TE:=fun σ H Q=>∃ own env p,VI K κ G own env σ H/\f env=some p/\∀ v H' A,Same H H'->Rp K H' p v A->c.ok H own A->Q v H'
noncomputable def tVT(K:PySem.W.Frag)(κ:Nat->Option Nat)(G:Hp)(f:FT):TT:=fun σ H Q=>∃ own env b,VI K κ G own env σ H/\f env=some b/\∀ H',Same H H'->Q b H'
noncomputable def tVA(K:PySem.W.Frag)(κ:Nat->Option Nat)(G:Hp)(c:Cat)(f:FA):TA:=fun σ H Q=>∃ own env ps,VI K κ G own env σ H/\f env=some ps/\∀ vs H' A,Same H H'->Rps K H' ps vs A->c.ok H own A->Q vs H'
theorem tV.in{K:PySem.W.Frag}{κ:Nat->Option Nat}{G:Hp}{c:Cat}{f:FE}{σ:St}{H:Hp}{Q:VK}{own:Addr->Option Nat}{env:En}{p:PV}(I:VI K κ G own env σ H)(hf:f env=some p)(k:∀ v H' A,Same H H'->Rp K H' p v A->c.ok H own A->Q v H'):tV K κ G c f σ H Q:=⟨own,env,p,I,hf,k⟩
theorem tV.elim{K:PySem.W.Frag}{κ:Nat->Option Nat}{G:Hp}{c:Cat}{f:FE}{σ:St}{H:Hp}{Q:VK}{C:Prop}(h:tV K κ G c f σ H Q)(k:∀ own env (p:PV),VI K κ G own env σ H->f env=some p->(∀ v H' A,Same H H'->Rp K H' p v A->c.ok H own A->Q v H')->C):C:=
 let ⟨own,env,p,I,hf,q⟩:=h
 k own env p I hf q
theorem tVT.in{K:PySem.W.Frag}{κ:Nat->Option Nat}{G:Hp}{f:FT}{σ:St}{H:Hp}{Q:Bool->Hp->Prop}{own:Addr->Option Nat}{env:En}{p:Bool}(I:VI K κ G own env σ H)(hf:f env=some p)(k:∀ H',Same H H'->Q p H'):tVT K κ G f σ H Q:=⟨own,env,p,I,hf,k⟩
theorem tVT.elim{K:PySem.W.Frag}{κ:Nat->Option Nat}{G:Hp}{f:FT}{σ:St}{H:Hp}{Q:Bool->Hp->Prop}{C:Prop}(h:tVT K κ G f σ H Q)(k:∀ own env (p:Bool),VI K κ G own env σ H->f env=some p->(∀ H',Same H H'->Q p H')->C):C:=
 let ⟨own,env,p,I,hf,q⟩:=h
 k own env p I hf q
theorem tVA.in{K:PySem.W.Frag}{κ:Nat->Option Nat}{G:Hp}{c:Cat}{f:FA}{σ:St}{H:Hp}{Q:List V->Hp->Prop}{own:Addr->Option Nat}{env:En}{p:List PV}(I:VI K κ G own env σ H)(hf:f env=some p)(k:∀ vs H' A,Same H H'->Rps K H' p vs A->c.ok H own A->Q vs H'):tVA K κ G c f σ H Q:=⟨own,env,p,I,hf,k⟩
theorem tVA.elim{K:PySem.W.Frag}{κ:Nat->Option Nat}{G:Hp}{c:Cat}{f:FA}{σ:St}{H:Hp}{Q:List V->Hp->Prop}{C:Prop}(h:tVA K κ G c f σ H Q)(k:∀ own env (p:List PV),VI K κ G own env σ H->f env=some p->(∀ vs H' A,Same H H'->Rps K H' p vs A->c.ok H own A->Q vs H')->C):C:=
 let ⟨own,env,p,I,hf,q⟩:=h
 k own env p I hf q
noncomputable def VE(X:Cx)(κ:Nat->Option Nat)(G:Hp)(c:Cat)(e:Expr)(f:FE):Prop:=PE X e (tV X.K κ G c f)
noncomputable def VT(X:Cx)(κ:Nat->Option Nat)(G:Hp)(e:Expr)(f:FT):Prop:=PT X e (tVT X.K κ G f)
noncomputable def VW(X:Cx)(κ:Nat->Option Nat)(G:Hp)(e:Expr)(f:FT):Prop:=PW X e (tVT X.K κ G f)
noncomputable def VA(X:Cx)(κ:Nat->Option Nat)(G:Hp)(c:Cat)(es:List Expr)(f:FA):Prop:=PA X es (tVA X.K κ G c f)/\∀ env ps,f env=some ps->ps.length=es.length
end F
namespace L2
theorem PE.imp{t t':TE}(h:PE X e t)(i:∀ σ H Q,t' σ H Q->t σ H Q):PE X e t':=fun pins s σ H Q I hw=>h pins s σ H Q I (i _ _ _ hw)
theorem PT.imp{t t':TT}(h:PT X e t)(i:∀ σ H Q,t' σ H Q->t σ H Q):PT X e t':=fun pins s σ H Q I hw=>h pins s σ H Q I (i _ _ _ hw)
theorem PW.imp{t t':TT}(h:PW X e t)(i:∀ σ H Q,t' σ H Q->t σ H Q):PW X e t':=fun wh pins s σ H Q I hw=>h wh pins s σ H Q I (i _ _ _ hw)
theorem PA.imp{t t':TA}(h:PA X e t)(i:∀ σ H Q,t' σ H Q->t σ H Q):PA X e t':=fun pos pins s σ H Q I hw=>h pos pins s σ H Q I (i _ _ _ hw)
theorem PS.imp{t t':TS}(h:PS X e t)(i:∀ D σ H,t' D σ H->t D σ H):PS X e t':=fun pins s σ H D I hw=>h pins s σ H D I (i _ _ _ hw)
theorem PSs.imp{t t':TS}(h:PSs X e t)(i:∀ D σ H,t' D σ H->t D σ H):PSs X e t':=fun pins s σ H D I hw=>h pins s σ H D I (i _ _ _ hw)
end L2
namespace F
open PySem PySem.Spec PyProof.Rows L2
noncomputable def zf:PV->Option Bool
 | .bl b=>some b
 | _=>none
noncomputable def zA(i:Nat):FE:=fun env=>(env[i]?).join
noncomputable def fC(p:PV):FE:=fun _=>some p
noncomputable def fOp(g:PV->PV->Option PV)(fa fb:FE):FE:=fun env=>(fa env).bind fun x=>(fb env).bind fun y=>g x y
noncomputable def fUn(g:PV->Option PV)(fa:FE):FE:=fun env=>(fa env).bind g
noncomputable def ze(f:FE):FE:=fun env=>(f env).bind fun p=>if zQ p=true then some p else none
noncomputable def fT(f:FE):FT:=fun env=>(f env).bind zf
noncomputable def zac(t u:FT):FT:=fun env=>(t env).bind fun b=>if b=true then u env else some false
noncomputable def fOr(t u:FT):FT:=fun env=>(t env).bind fun b=>if b=true then some true else u env
noncomputable def uU(t:FT):FT:=fun env=>(t env).map fun b=>!b
noncomputable def fIf(t:FT)(a b:FE):FE:=fun env=>(t env).bind fun c=>if c=true then a env else b env
noncomputable def zF:FA:=fun _=>some []
noncomputable def zB(f:FE)(r:FA):FA:=fun env=>(f env).bind fun p=>(r env).map fun ps=>p::ps
noncomputable def yj(f:FA):FE:=fun env=>(f env).map .tup
noncomputable def vq(f:FA):FE:=fun env=>(f env).map .lst
noncomputable def zE(Φ:List PV->Option PV)(f:FA):FE:=fun env=>(f env).bind Φ
section
variable {X:Cx} {κ:Nat->Option Nat} {G:Hp} {c c1 c2:Cat} {a b e:Expr} {es:List Expr} {fa fb f:FE} {t u:FT} {fs:FA} {pos:Pos}
theorem VE.bo(h:VE X κ G c e f):VE X κ G .bo e f:=PE.imp h fun σ H Q ⟨own,env,p,I,hf,k⟩=>(.in I hf fun v H' A s r _=>k v H' A s r trivial)
theorem uT{K:PySem.W.Frag}{own:Addr->Option Nat}{env:En}{σ:St}{H:Hp}{A:List Addr}(I:VI K κ G own env σ H)(h:∀ a ∈ A,H a=none):∀ a ∈ A,own a=none:=fun a ha=>by
 cases e:own a with
 | none=>rfl
 | some l=>obtain ⟨_,m⟩:=I.own a l e;obtain ⟨o,h'⟩:=m.some;rw [h a ha] at h';cases h'
theorem VE.sh(h:VE X κ G (.mv []) e f):VE X κ G .sh e f:=PE.imp h fun σ H Q ⟨own,env,p,I,hf,k⟩=>by
 exact (.in I hf fun v H' A s r hc=>k v H' A s r (uT I fun a ha=>(hc.2 a ha).elim id fun ⟨_,hl,_⟩=>nomatch hl))
theorem VE.data(h:VE X κ G c e f)(L:Cat):VE X κ G L e (ze f):=PE.imp h fun σ H Q ⟨own,env,p,I,hf,k⟩=>by
 unfold ze at hf
 cases hq:f env with
 | none=>rw [hq] at hf;cases hf
 | some q=>
  rw [hq] at hf
  dsimp only [Option.bind_some] at hf
  split at hf
  ·rename_i hd
   cases hf
   refine (.in I hq fun v H' A s r hc=>k v H' A s r ?_)
   rw [Rp.data p hd r]
   exact Cat.nil _ _ _
  ·cases hf
theorem zmf(i:Nat){x:Str}(hk:κ i=none)(h:PE X (.Name x pos) (jM i)):VE X κ G .sh (.Name x pos) (zA i):=h.imp fun σ H Q hq_=>by
 refine hq_.elim fun own env p I hf k=>?_
 have e:env[i]?=some (some p):=by
  unfold zA at hf
  cases q:env[i]? with
  | none=>rw [q] at hf;cases hf
  | some z=>
   rw [q] at hf;have:z=some p:=by simpa using hf
   rw [this]
 obtain ⟨v,A,h1,h2,h3,_⟩:=I.slot i p e
 exact ⟨v,h1,k v H A (Same.refl _) h2 (h3 hk)⟩
theorem zmm(i:Nat){x:Str}(h:PE X (.Name x pos) (jM i)):VE X κ G .bo (.Name x pos) (zA i):=h.imp fun σ H Q hq_=>by
 refine hq_.elim fun own env p I hf k=>?_
 have e:env[i]?=some (some p):=by
  unfold zA at hf
  cases q:env[i]? with
  | none=>rw [q] at hf;cases hf
  | some z=>
   rw [q] at hf;have:z=some p:=by simpa using hf
   rw [this]
 obtain ⟨v,A,h1,h2,h3,_⟩:=I.slot i p e
 exact ⟨v,h1,k v H A (Same.refl _) h2 trivial⟩
theorem zmi(i:Nat){l:Nat}{x:Str}(hk:κ i=some l)(h:PE X (.Name x pos) (jM i)):VE X κ G (.mv [l]) (.Name x pos) (zA i):=h.imp fun σ H Q hq_=>by
 refine hq_.elim fun own env p I hf k=>?_
 have e:env[i]?=some (some p):=by
  unfold zA at hf
  cases q:env[i]? with
  | none=>rw [q] at hf;cases hf
  | some z=>
   rw [q] at hf;have:z=some p:=by simpa using hf
   rw [this]
 obtain ⟨v,A,h1,h2,_,h3⟩:=I.slot i p e
 exact ⟨v,h1,k v H A (Same.refl _) h2 ⟨(h3 l hk).1,fun a ha=>.inr ⟨l,Ji.mpr rfl,(h3 l hk).2 a ha⟩⟩⟩
theorem zen{p:PV}{v:V}(hp:∀ K H,Rp K H p v [])(h:PE X e (tC v)):VE X κ G c e (fC p):=h.imp fun σ H Q hq_=>by
 refine hq_.elim fun own env q I hf k=>?_
 cases hf
 exact k v H [] (Same.refl _) (hp _ _) (Cat.nil _ _ _)
theorem zkl{i j}:VE X κ G (.mv []) (.Constant (.int i) j pos) (fC (.int i)):=zen (fun _ _=>.mkI i) zkZ
theorem zmn{i j}:VE X κ G (.mv []) (.Constant (.bool i) j pos) (fC (.bl i)):=zen (fun _ _=>.mkB i) zmU
theorem zki{j}:VE X κ G (.mv []) (.Constant .none j pos) (fC .non):=zen (fun _ _=>.mkN) zkX
theorem zke{i j}:VE X κ G (.mv []) (.Constant (.str i) j pos) (fC (.str i)):=zen (fun _ _=>.mkS i) zkU
noncomputable def OpV(K:PySem.W.Frag)(r:R2)(g:PV->PV->Option PV):Prop:=∀ (H:Hp) (p q:PV) (x y:V) (A B:List Addr) (z:PV) (Q:VK),Rp K H p x A->Rp K H q y B->g p q=some z->
 (∀ v H' C,Same H H'->Rp K H' z v C->C.Nodup->(∀ a ∈ C,H a=none)->Q v H')->r x y H Q
theorem zcg{K:PySem.W.Frag}{r:R2}{g:PV->PV->Option PV}(hv:OpV K r g)(σ:St)(H:Hp)(Q:VK)(h:tV K κ G (.mv []) (fOp g fa fb) σ H Q):tOp r (tV K κ G c1 fa) (tV K κ G c2 fb) σ H Q:=by
 obtain ⟨own,env,z,I,e,k⟩:=h
 unfold fOp at e
 replace e:=Ja.mp e;obtain ⟨p,hp,e⟩:=e
 replace e:=Ja.mp e;obtain ⟨q,hq,e⟩:=e
 refine (.in I hp fun x H1 A s1 r1 _=>(.in (I.grow s1) hq fun y H2 B s2 r2 _=>?_))
 exact hv H2 p q x y A B z Q (Rp.same s2 p r1) r2 e fun v H' C s3 r3 nd fr=>k v H' C (s1.trans (s2.trans s3)) r3 ⟨nd,fun a ha=>.inl ((s1.trans s2).free (fr a ha))⟩
theorem zmh(ho:OpR X (binaryOp op) r)(hv:OpV X.K r g)(ha:VE X κ G c1 a fa)(hb:VE X κ G c2 b fb):VE X κ G (.mv []) (.BinOp a op b pos) (fOp g fa fb):=
 (zmQ ho ha hb).imp (zcg hv)
theorem zkm(ho:OpR X (compareOp op) r)(hv:OpV X.K r g)(ha:VE X κ G c1 a fa)(hb:VE X κ G c2 b fb)(hm:behindInMarks op b=false):VE X κ G (.mv []) (.Compare a [op] [b] pos) (fOp g fa fb):=
 (ziG ho ha hb hm).imp (zcg hv)
theorem zaI{te:TE}(h:∀ σ H Q,tV X.K κ G (.mv []) f σ H Q->te σ H Q)(σ:St)(H:Hp)(Q:Bool->Hp->Prop)(hq:tVT X.K κ G (fT f) σ H Q):zfI te σ H Q:=by
 obtain ⟨own,env,b,I,e,k⟩:=hq
 unfold fT at e
 replace e:=Ja.mp e;obtain ⟨p,hp,e⟩:=e
 cases p<;>first | cases e | skip
 refine h _ _ _ (.in I hp fun v H' A s r _=>?_)
 exact ⟨_,r.B.1,k H' s⟩
theorem zjV(ho:OpR X (compareOp op) r)(hv:OpV X.K r g)(ha:VE X κ G c1 a fa)(hb:VE X κ G c2 b fb)(hm:behindInMarks op b=false):VT X κ G (.Compare a [op] [b] pos) (fT (fOp g fa fb)):=
 (zdt ho ha hb hm).imp (zaI (zcg hv))
noncomputable def yY(g g':PV->PV->Option PV)(fa fb fc:FE):FE:=fun env=>(fa env).bind fun x=>(fb env).bind fun y=>(g x y).bind fun z=>(zf z).bind fun k=>if k=true then (fc env).bind fun w=>g' y w else some (.bl false)
theorem kr{K:PySem.W.Frag}{r r':R2}{g g':PV->PV->Option PV}{fc:FE}{c3:Cat}(hv:OpV K r g)(hv':OpV K r' g')(σ:St)(H:Hp)(Q:VK)(h:tV K κ G (.mv []) (yY g g' fa fb fc) σ H Q):zch r r' (tV K κ G c1 fa) (tV K κ G c2 fb) (tV K κ G c3 fc) σ H Q:=by
 obtain ⟨own,env,z,I,e,k⟩:=h
 unfold yY at e
 replace e:=Ja.mp e;obtain ⟨p,hp,e⟩:=e
 replace e:=Ja.mp e;obtain ⟨q,hq,e⟩:=e
 replace e:=Ja.mp e;obtain ⟨d,hg,e⟩:=e
 cases d<;>first | cases e | skip
 rename_i kb
 rw [show zf (.bl kb)=some kb from rfl,Jb] at e
 refine (.in I hp fun x H1 A s1 r1 _=>(.in (I.grow s1) hq fun y H2 B s2 r2 _=>?_))
 refine hv H2 p q x y A B _ _ (Rp.same s2 p r1) r2 hg fun v H3 C s3 r3 nd fr=>⟨kb,r3.B.1,?_⟩
 cases kb with
 | false=>
  cases e
  exact ite_ff (k _ _ [] (s1.trans (s2.trans s3)) (.mkB false) (Cat.nil _ _ _))
 | true=>
  simp only [if_true] at e
  replace e:=Ja.mp e;obtain ⟨w,hc,e⟩:=e
  refine ite_tt ⟨own,env,w,I.grow (s1.trans (s2.trans s3)),hc,fun y' H4 C' s4 r4 _=>?_⟩
  exact hv' H4 q w y y' B C' z Q (Rp.same (s3.trans s4) q r2) r4 e fun v H' C s5 r5 nd fr=>k v H' C (s1.trans (s2.trans (s3.trans (s4.trans s5)))) r5 ⟨nd,fun a ha=>.inl ((s1.trans (s2.trans (s3.trans s4))).free (fr a ha))⟩
theorem zfA(ho:OpR X (compareOp op) r)(ho':OpR X (compareOp op') r')(hv:OpV X.K r g)(hv':OpV X.K r' g')(ha:VE X κ G c1 a fa)(hb:VE X κ G c2 b fb)(hc:VE X κ G c3 cc fc)
  (hm:lastMarks [op,op'] [b,cc]=false:=by with_unfolding_all rfl):VE X κ G (.mv []) (.Compare a [op,op'] [b,cc] pos) (yY g g' fa fb fc):=(zgt ho ho' ha hb hc hm).imp (kr hv hv')
theorem zfs(ho:OpR X (compareOp op) r)(ho':OpR X (compareOp op') r')(hv:OpV X.K r g)(hv':OpV X.K r' g')(ha:VE X κ G c1 a fa)(hb:VE X κ G c2 b fb)(hc:VE X κ G c3 cc fc)
  (hm:lastMarks [op,op'] [b,cc]=false:=by with_unfolding_all rfl):VT X κ G (.Compare a [op,op'] [b,cc] pos) (fT (yY g g' fa fb fc)):=(zgl ho ho' ha hb hc hm).imp (zaI (kr hv hv'))
noncomputable def UnV(K:PySem.W.Frag)(r:V->Hp->VK->Prop)(g:PV->Option PV):Prop:=∀ (H:Hp) (p:PV) (x:V) (A:List Addr) (z:PV) (Q:VK),Rp K H p x A->g p=some z->(∀ v H' C,Same H H'->Rp K H' z v C->C.Nodup->(∀ a ∈ C,H a=none)->Q v H')->r x H Q
theorem zme{op:UnaryOp}{r:V->Hp->VK->Prop}{g:PV->Option PV}(ho:UnR X (unaryOp op) r)(hv:UnV X.K r g)(ha:VE X κ G c a fa):VE X κ G (.mv []) (.UnaryOp op a pos) (fUn g fa):=(zmO ho ha).imp fun σ H Q hq_=>by
 refine hq_.elim fun own env z I e k=>?_
 unfold fUn at e
 replace e:=Ja.mp e;obtain ⟨p,hp,e⟩:=e
 exact (.in I hp fun x H1 A s1 r1 _=>hv H1 p x A z Q r1 e fun v H' C s2 r2 nd fr=>k v H' C (s1.trans s2) r2 ⟨nd,fun a ha=>.inl (s1.free (fr a ha))⟩)
theorem zjU(h:VT X κ G a t):VT X κ G (.UnaryOp .Not a pos) (uU t):=(zkJ h).imp fun σ H Q hq_=>by
 refine hq_.elim fun own env b I e k=>?_
 unfold uU at e
 cases hp:t env with
 | none=>rw [hp] at e;cases e
 | some p=>rw [hp] at e;cases e;exact ⟨own,env,p,I,hp,k⟩
theorem zhQ(h:VT X κ G a t):VW X κ G (.BoolOp .And [a] pos) t:=ziu h
theorem zjS(h:VT X κ G a t):VW X κ G (.BoolOp .Or [a] pos) t:=zkH h
theorem zjT{zg:List Expr}(h:VT X κ G a t)(h2:VW X κ G (.BoolOp .And (b::zg) pos) u):VW X κ G (.BoolOp .And (a::b::zg) pos) (zac t u):=(zkI h h2).imp fun σ H Q hq_=>by
 refine hq_.elim fun own env z I e k=>?_
 unfold zac at e
 replace e:=Ja.mp e;obtain ⟨p,hp,e⟩:=e
 refine (.in I hp fun H1 s1=>?_)
 cases p with
 | true=>exact ite_tt (.in (I.grow s1) (by simpa using e) fun H' s2=>k H' (s1.trans s2))
 | false=>cases e;exact ite_ff (k H1 s1)
theorem zmb{zg:List Expr}(h:VT X κ G a t)(h2:VW X κ G (.BoolOp .Or (b::zg) pos) u):VW X κ G (.BoolOp .Or (a::b::zg) pos) (fOr t u):=(zmK h h2).imp fun σ H Q hq_=>by
 refine hq_.elim fun own env z I e k=>?_
 unfold fOr at e
 replace e:=Ja.mp e;obtain ⟨p,hp,e⟩:=e
 refine (.in I hp fun H1 s1=>?_)
 cases p with
 | false=>exact ite_ff (.in (I.grow s1) (by simpa using e) fun H' s2=>k H' (s1.trans s2))
 | true=>cases e;exact ite_tt (k H1 s1)
theorem VW.vt(h:VW X κ G e t):VT X κ G e t:=PW.pt h
theorem zkg{op}(h:VE X κ G c a fa):VE X κ G c (.BoolOp op [a] pos) fa:=zkV h
noncomputable def kK(fa fb:FE):FE:=fun env=>(fa env).bind fun x=>(zf x).bind fun k=>if k=true then fb env else some (.bl false)
noncomputable def zeR(fa fb:FE):FE:=fun env=>(fa env).bind fun x=>(zf x).bind fun k=>if k=true then some (.bl true) else fb env
noncomputable def zbC(fa:FE):FE:=fun env=>(fa env).bind fun x=>(zf x).map fun k=>.bl (!k)
theorem zkn{zg:List Expr}(h:VE X κ G c1 a fa)(h2:VE X κ G (.mv []) (.BoolOp .And (b::zg) pos) fb):VE X κ G (.mv []) (.BoolOp .And (a::b::zg) pos) (kK fa fb):=(zld h h2).imp fun σ H Q hq_=>by
 refine hq_.elim fun own env z I e k=>?_
 unfold kK at e
 replace e:=Ja.mp e;obtain ⟨p,hp,e⟩:=e
 cases p<;>first | cases e | skip
 rename_i kb
 rw [show zf (.bl kb)=some kb from rfl,Jb] at e
 refine (.in I hp fun x H1 A s1 r1 _=>⟨kb,r1.B.1,?_⟩)
 cases kb with
 | true=>exact ite_tt (.in (I.grow s1) (by simpa using e) fun v H' A s2 r2 h=>k v H' A (s1.trans s2) r2 ⟨h.1,fun a ha=>(h.2 a ha).elim (fun z=>.inl (s1.free z)) .inr⟩)
 | false=>cases e;exact ite_ff (k _ H1 [] s1 (.mkB false) (Cat.nil _ _ _))
theorem zmg{zg:List Expr}(h:VE X κ G c1 a fa)(h2:VE X κ G (.mv []) (.BoolOp .Or (b::zg) pos) fb):VE X κ G (.mv []) (.BoolOp .Or (a::b::zg) pos) (zeR fa fb):=(zmP h h2).imp fun σ H Q hq_=>by
 refine hq_.elim fun own env z I e k=>?_
 unfold zeR at e
 replace e:=Ja.mp e;obtain ⟨p,hp,e⟩:=e
 cases p<;>first | cases e | skip
 rename_i kb
 rw [show zf (.bl kb)=some kb from rfl,Jb] at e
 refine (.in I hp fun x H1 A s1 r1 _=>⟨kb,r1.B.1,?_⟩)
 cases kb with
 | false=>exact ite_ff (.in (I.grow s1) (by simpa using e) fun v H' A s2 r2 h=>k v H' A (s1.trans s2) r2 ⟨h.1,fun a ha=>(h.2 a ha).elim (fun z=>.inl (s1.free z)) .inr⟩)
 | true=>cases e;exact ite_tt (k _ H1 [] s1 (.mkB true) (Cat.nil _ _ _))
theorem zkh(h:VE X κ G c1 a fa):VE X κ G (.mv []) (.UnaryOp .Not a pos) (zbC fa):=(zkW h).imp fun σ H Q hq_=>by
 refine hq_.elim fun own env z I e k=>?_
 unfold zbC at e
 replace e:=Ja.mp e;obtain ⟨p,hp,e⟩:=e
 cases p<;>first | cases e | skip
 rename_i kb
 exact (.in I hp fun x H1 A s1 r1 _=>⟨_,r1.B.1,k _ H1 [] s1 (.mkB _) (Cat.nil _ _ _)⟩)
theorem zbX:VA X κ G c [] zF:=⟨pa_nil.imp fun σ H Q hq_=>by
 refine hq_.elim fun own env ps I e k=>?_
 cases e
 exact k [] H [] (Same.refl _) .nil (Cat.nil _ _ _),fun env ps e=>by cases e;rfl⟩
theorem wN(e:zB f fs env=some ps):∃ p r,f env=some p/\fs env=some r/\ps=p::r:=by
 unfold zB at e
 replace e:=Ja.mp e;obtain ⟨p,hp,e⟩:=e
 cases hr:fs env with
 | none=>rw [hr] at e;cases e
 | some r=>rw [hr] at e;cases e;exact ⟨p,r,hp,rfl,rfl⟩
theorem uy(hr:∀ env ps,fs env=some ps->ps.length=es.length):∀ env ps,zB f fs env=some ps->ps.length=(e::es).length:=fun env ps hf=>by
 obtain ⟨p,r,_,h2,rfl⟩:=wN hf
 rw [JF,JF,hr env r h2]
theorem zmp(h:VE X κ G c1 e f)(hr:VA X κ G .bo es fs)(hs:starEach (e::es) X.env=(false,eval e X.env)::starEach es X.env:=by rfl):VA X κ G .bo (e::es) (zB f fs):=⟨(uL h hr.1 hs).imp fun σ H Q hq_=>by
 refine hq_.elim fun own env ps I hf k=>?_
 obtain ⟨p,r,h1,h2,rfl⟩:=wN hf
 exact (.in I h1 fun v H1 A s1 r1 _=>(.in (I.grow s1) h2 fun vs H2 B s2 r2 _=>k _ H2 (A++B) (s1.trans s2) (.cons (Rp.same s2 p r1) r2) trivial)),uy hr.2⟩
theorem zmo(h:VE X κ G .sh e f)(hr:VA X κ G .sh es fs)(hs:starEach (e::es) X.env=(false,eval e X.env)::starEach es X.env:=by rfl):VA X κ G .sh (e::es) (zB f fs):=⟨(uL h hr.1 hs).imp fun σ H Q hq_=>by
 refine hq_.elim fun own env ps I hf k=>?_
 obtain ⟨p,r,h1,h2,rfl⟩:=wN hf
 exact (.in I h1 fun v H1 A s1 r1 c1=>(.in (I.grow s1) h2 fun vs H2 B s2 r2 c2=>k _ H2 (A++B) (s1.trans s2) (.cons (Rp.same s2 p r1) r2) fun a ha=>(Kd.mp ha).elim (c1 a) (c2 a))),uy hr.2⟩
theorem zjC{L1 L2:List Nat}(h:VE X κ G (.mv L1) e f)(hr:VA X κ G (.mv L2) es fs)(hL:∀ l ∈ L1,l ∉ L2:=by decide)(hs:starEach (e::es) X.env=(false,eval e X.env)::starEach es X.env:=by rfl):VA X κ G (.mv (L1++L2)) (e::es) (zB f fs):=⟨(uL h hr.1 hs).imp fun σ H Q hq_=>by
 refine hq_.elim fun own env ps I hf k=>?_
 obtain ⟨p,r,h1,h2,rfl⟩:=wN hf
 refine (.in I h1 fun v H1 A s1 r1 c1=>(.in (I.grow s1) h2 fun vs H2 B s2 r2 c2=>k _ H2 (A++B) (s1.trans s2) (.cons (Rp.same s2 p r1) r2) ⟨?_,fun a ha=>?_⟩))
 ·refine Qi.mpr ⟨c1.1,c2.1,fun a ha b hb=>?_⟩
  rintro rfl
  obtain ⟨o,ho⟩:=r1.alloc ha
  rcases c2.2 a hb with z | ⟨l,hl,z⟩
  ·rw [ho] at z;cases z
  ·rcases c1.2 a ha with z' | ⟨l',hl',z'⟩
   ·obtain ⟨_,m⟩:=I.own a l z
    obtain ⟨o',h'⟩:=m.some
    rw [z'] at h';cases h'
   ·rw [z] at z';cases z';exact hL _ hl' hl
 ·rcases List.mem_append.mp ha with ha | ha
  ·exact (c1.2 a ha).elim .inl fun ⟨l,hl,z⟩=>.inr ⟨l,Jt _ hl,z⟩
  ·exact (c2.2 a ha).elim (fun z=>.inl (s1.free z)) fun ⟨l,hl,z⟩=>.inr ⟨l,Jl _ hl,z⟩,uy hr.2⟩
theorem Cat.push{L:List Nat}{K:PySem.W.Frag}{own:Addr->Option Nat}{env:En}{σ:St}{H H1:Hp}{A:List Addr}{p:Addr}{vs:List V}{ps:List PV}(c:Cat)(I:VI K κ G own env σ H)(s:Same H H1)(r:Rps K H1 ps vs A)(hp:H1 p=none)(h:c.ok H own A):c.ok H own (p::A):=by
 cases c with
 | mv L=>
  refine ⟨Kh.mpr ⟨fun z=>?_,h.1⟩,fun a ha=>?_⟩
  ·obtain ⟨o,ho⟩:=(Rps.mut ps r p z).some
   rw [hp] at ho;cases ho
  ·rcases List.mem_cons.mp ha with rfl | ha
   ·exact .inl (s.free hp)
   ·exact h.2 a ha
 | sh=>
  intro a ha
  rcases List.mem_cons.mp ha with rfl | ha
  ·exact uT (A:=[a]) I (fun b hb=>by rw [Ji.mp hb];exact s.free hp) a (Ji.mpr rfl)
  ·exact h a ha
 | bo=>trivial
theorem zkd{x1}(h:VA X κ G c es fs)(hn:es.length≤100000:=by first | decide | simp):VE X κ G c (.Tuple es x1 pos) (yj fs):=(zkT h.1).imp fun σ H Q hq_=>by
 refine hq_.elim fun own env z I e k=>?_
 unfold yj at e
 cases hp:fs env with
 | none=>rw [hp] at e;cases e
 | some ps=>
  rw [hp] at e
  cases e
  have hl:=h.2 env ps hp
  refine (.in I hp fun vs H1 A s1 r1 c1=>⟨by rw [← r1.length,hl,sizeLine_eq];omega,fun p hn=>?_⟩)
  exact k _ _ A (zw s1 (s1.free hn)) (.mkT (SqT.of zT) (Rps.same (zw (Same.refl _) hn) ps r1)) c1
theorem zkj(h:VA X κ G c es fs)(hn:es.length≤100000:=by first | decide | simp):VE X κ G c (.List es pos) (vq fs):=(zkY h.1).imp fun σ H Q hq_=>by
 refine hq_.elim fun own env z I e k=>?_
 unfold vq at e
 cases hp:fs env with
 | none=>rw [hp] at e;cases e
 | some ps=>
  rw [hp] at e
  cases e
  have hl:=h.2 env ps hp
  refine (.in I hp fun vs H1 A s1 r1 c1=>⟨by rw [← r1.length,hl,sizeLine_eq];omega,fun p hn=>?_⟩)
  exact k _ _ (p::A) (zw s1 (s1.free hn)) (.mkL zT (Rps.same (zw (Same.refl _) hn) ps r1)) (Cat.push (L:=[]) c I s1 r1 hn c1)
end
inductive Out where
 | nx (e:En) | rt (p:PV) (e:En) | bk (e:En) | ct (e:En)
noncomputable abbrev FS:=En->Option Out
noncomputable def ko(O:List Nat):Nat->Option Nat:=fun i=>if i ∈ O then some i else none
theorem kA(h:i ∈ O):ko O i=some i:=if_pos h
theorem zcE(h:i ∉ O):ko O i=none:=if_neg h
theorem zdI(h:ko O i=some l):l=i:=by
 unfold ko at h
 split at h
 ·cases h;rfl
 ·cases h
noncomputable def OutK(K:PySem.W.Frag)(κ:Nat->Option Nat)(G:Hp)(own:Addr->Option Nat)(H:Hp)(D:Ends):Out->Prop
 | .nx e=>∀ own' σ' H',VI K κ G own' e σ' H'->Ext own H own' H'->D.nx σ' H'
 | .bk e=>∀ own' σ' H',VI K κ G own' e σ' H'->Ext own H own' H'->D.bk σ' H'
 | .ct e=>∀ own' σ' H',VI K κ G own' e σ' H'->Ext own H own' H'->D.ct σ' H'
 | .rt p e=>∀ v H' A own' σ',VI K κ G own' e σ' H'->Rp K H' p v A->A.Nodup->(∀ a ∈ A,G a=none/\own' a≠some 0)->D.rt v H'
theorem OutK.ext{K:PySem.W.Frag}{κ:Nat->Option Nat}{G:Hp}{own own':Addr->Option Nat}{H H':Hp}{D:Ends}{o:Out}(h:OutK K κ G own H D o)(x:Ext own H own' H'):OutK K κ G own' H' D o:=by
 cases o with
 | nx e=>exact fun o2 σ2 H2 I2 x2=>h o2 σ2 H2 I2 (x.trans x2)
 | bk e=>exact fun o2 σ2 H2 I2 x2=>h o2 σ2 H2 I2 (x.trans x2)
 | ct e=>exact fun o2 σ2 H2 I2 x2=>h o2 σ2 H2 I2 (x.trans x2)
 | rt p e=>exact h
noncomputable def tVS(K:PySem.W.Frag)(κ:Nat->Option Nat)(G:Hp)(g:FS):TS:=fun D σ H=>∃ own env o,VI K κ G own env σ H/\g env=some o/\OutK K κ G own H D o
theorem tVS.elim{K:PySem.W.Frag}{κ:Nat->Option Nat}{G:Hp}{g:FS}{D:Ends}{σ:St}{H:Hp}{C:Prop}(h:tVS K κ G g D σ H)(k:∀ own env o,VI K κ G own env σ H->g env=some o->OutK K κ G own H D o->C):C:=
 let ⟨own,env,o,I,hf,q⟩:=h
 k own env o I hf q
noncomputable def VS(X:Cx)(κ:Nat->Option Nat)(G:Hp)(st:Stmt)(g:FS):Prop:=PS X st (tVS X.K κ G g)
noncomputable def VSs(X:Cx)(κ:Nat->Option Nat)(G:Hp)(st:List Stmt)(g:FS):Prop:=PSs X st (tVS X.K κ G g)
noncomputable def fNx:FS:=fun env=>some (.nx env)
noncomputable def fBk:FS:=fun env=>some (.bk env)
noncomputable def fCt:FS:=fun env=>some (.ct env)
noncomputable def zK(g h:FS):FS:=fun env=>(g env).bind fun o=>match o with | .nx e=>h e | o=>some o
noncomputable def yI(f:FE):FS:=fun env=>(f env).map fun p=>.rt p env
noncomputable def yJ(t:FT)(g h:FS):FS:=fun env=>(t env).bind fun b=>if b=true then g env else h env
noncomputable def zV(i:Nat)(f:FE):FS:=fun env=>(f env).map fun p=>.nx (env.set i (some p))
noncomputable def zeS(bnd:PV->En->Option En)(f:FE):FS:=fun env=>(f env).bind fun p=>(bnd p env).map .nx
noncomputable def xQ(bnd:PV->En->Option En)(body:FS):List PV->En->Option Out
 | [],env=>some (.nx env)
 | p::ps,env=>(bnd p env).bind fun e1=>(body e1).bind fun o=>match o with | .nx e=>xQ bnd body ps e | .ct e=>xQ bnd body ps e | .bk e=>some (.nx e) | .rt p e=>some (.rt p e)
noncomputable def xX(src:FA)(bnd:PV->En->Option En)(body:FS):FS:=fun env=>(src env).bind fun ps=>xQ bnd body ps env
noncomputable def fWh(t:FT)(body:FS):Nat->En->Option Out
 | 0,_=>none
 | n+1,env=>(t env).bind fun b=>if b=true then (body env).bind fun o=>match o with | .nx e=>fWh t body n e | .ct e=>fWh t body n e | .bk e=>some (.nx e) | .rt p e=>some (.rt p e) else some (.nx env)
section
variable {X:Cx} {κ:Nat->Option Nat} {G:Hp} {c c1 c2:Cat} {a b e:Expr} {es:List Expr} {fa fb f:FE} {t u:FT} {fs:FA} {pos:Pos} {g h:FS} {st:Stmt} {zg:List Stmt}
theorem zhV:VSs X κ G [] fNx:=pss_nil.imp fun D σ H hq_=>by
 refine hq_.elim fun own env o I hf k=>?_
 cases hf
 exact k own σ H I (Ext.refl _ _)
theorem zft(h1:VS X κ G st g)(h2:VSs X κ G zg h):VSs X κ G (st::zg) (zK g h):=(zaY h1 h2).imp fun D σ H hq_=>by
 refine hq_.elim fun own env o I hf k=>?_
 unfold zK at hf
 replace hf:=Ja.mp hf;obtain ⟨o1,hg,hf⟩:=hf
 refine ⟨own,env,o1,I,hg,?_⟩
 cases o1 with
 | nx e1=>exact fun own' σ' H' I' x=>⟨own',e1,o,I',hf,k.ext x⟩
 | bk e1=>cases hf;exact k
 | ct e1=>cases hf;exact k
 | rt p e1=>cases hf;exact k
theorem zhU(h1:VS X κ G st g):VSs X κ G [st] g:=(zaY h1 pss_nil).imp fun D σ H h=>h
theorem zhZ:VS X κ G (.Pass pos) fNx:=ps_pass.imp fun D σ H hq_=>by
 refine hq_.elim fun own env o I hf k=>?_
 cases hf
 exact k own σ H I (Ext.refl _ _)
theorem zfw:VS X κ G (.Break pos) fBk:=ps_break.imp fun D σ H hq_=>by
 refine hq_.elim fun own env o I hf k=>?_
 cases hf
 exact k own σ H I (Ext.refl _ _)
theorem zaA:VS X κ G (.Continue pos) fCt:=ps_continue.imp fun D σ H hq_=>by
 refine hq_.elim fun own env o I hf k=>?_
 cases hf
 exact k own σ H I (Ext.refl _ _)
theorem zjZ{x j pos pos'}:VS X κ G (.Expr (.Constant (.str x) j pos) pos') fNx:=ps_doc.imp fun D σ H hq_=>by
 refine hq_.elim fun own env o I hf k=>?_
 cases hf
 exact k own σ H I (Ext.refl _ _)
noncomputable def vp:FS:=fun _=>none
theorem zfv:VS X κ G st vp:=ps_never.imp fun D σ H ⟨own,env,o,I,hf,k⟩=>nomatch hf
theorem zjW{L:List Nat}(he:VE X κ G (.mv L) e f)(h0:0 ∉ L:=by decide):VS X κ G (.Return (some e) pos) (yI f):=(zkM he).imp fun D σ H hq_=>by
 refine hq_.elim fun own env o I hf k=>?_
 unfold yI at hf
 cases hp:f env with
 | none=>rw [hp] at hf;cases hf
 | some p=>
  rw [hp] at hf;cases hf
  refine (.in I hp fun v H' A s r hc=>k v H' A own σ (I.grow s) r hc.1 fun a ha=>?_)
  rcases hc.2 a ha with z | ⟨l,hl,z⟩
  ·refine ⟨I.same.free z,fun y=>?_⟩
   obtain ⟨o,ho⟩:=(I.own a 0 y).2.some
   rw [z] at ho;cases ho
  ·exact ⟨(I.own a l z).1,fun y=>h0 (by rw [z] at y;cases y;exact hl)⟩
noncomputable def zjO:FS:=fun env=>some (.rt .non env)
theorem zhY:VS X κ G (.Return none pos) zjO:=ps_retN.imp fun D σ H hq_=>by
 refine hq_.elim fun own env o I hf k=>?_
 cases hf
 exact k .non H [] own σ I .mkN .nil (by simp)
theorem zmc{cc:Expr}{bs1 bs2:List Stmt}(hc:VT X κ G cc t)(h1:VSs X κ G bs1 g)(h2:VSs X κ G bs2 h):VS X κ G (.If cc bs1 bs2 pos) (yJ t g h):=(zmM hc h1 h2).imp fun D σ H hq_=>by
 refine hq_.elim fun own env o I hf k=>?_
 unfold yJ at hf
 replace hf:=Ja.mp hf;obtain ⟨p,hp,hf⟩:=hf
 refine (.in I hp fun H1 s1=>?_)
 cases p with
 | true=>exact ite_tt ⟨own,env,o,I.grow s1,by simpa using hf,k.ext (Ext.grow s1)⟩
 | false=>exact ite_ff ⟨own,env,o,I.grow s1,by simpa using hf,k.ext (Ext.grow s1)⟩
theorem VI.set_sh{K:PySem.W.Frag}{own:Addr->Option Nat}{env:En}{σ:St}{H:Hp}{i:Nat}{p:PV}{v:V}{A:List Addr}(I:VI K κ G own env σ H)(hk:κ i=none)(r:Rp K H p v A)(hA:∀ a ∈ A,own a=none):VI K κ G own (env.set i (some p)) (σ.set i (some v)) H:=by
 refine ⟨by simp [I.len],fun j q e=>?_,I.own,I.same⟩
 rw [QC] at e ⊢
 by_cases hij:i=j
 ·subst hij
  rw [if_pos rfl] at e ⊢
  by_cases hl:i<env.length
  ·rw [if_pos hl] at e
   rw [if_pos (by rw [← I.len];exact hl)]
   cases e
   exact ⟨v,A,rfl,r,fun _=>hA,fun l z=>by rw [hk] at z;cases z⟩
  ·rw [if_neg hl] at e;cases e
 ·rw [if_neg hij] at e ⊢
  exact I.slot j q e
noncomputable def acq(own:Addr->Option Nat)(i:Nat)(A:List Addr):Addr->Option Nat:=fun a=>if a ∈ A then some i else if own a=some i then none else own a
theorem VI.take{O:List Nat}{K:PySem.W.Frag}{own:Addr->Option Nat}{env:En}{σ:St}{H0 H2:Hp}{i:Nat}{p:PV}{v:V}{A:List Addr}(hi:i ∈ O)(I:VI K (ko O) G own env σ H0)
  (keep:∀ j q w B,j≠i->env[j]?=some (some q)->Rp K H0 q w B->(∀ b ∈ B,own b≠some i)->Rp K H2 q w B)
  (hx:∀ b o,own b≠some i->H0 b=some o->H2 b=some o)
  (r:Rp K H2 p v A)(nd:A.Nodup)(hA:∀ a ∈ A,own a=some i∨H0 a=none):
  VI K (ko O) G (acq own i A) (env.set i (some p)) (σ.set i (some v)) H2/\Ext own H0 (acq own i A) H2:=by
 have notin:∀ b o,own b≠some i->H0 b=some o->b ∉ A:=fun b o h1 h2 hb=>by
  rcases hA b hb with z | z
  ·exact h1 z
  ·rw [h2] at z;cases z
 have stay:∀ b o,own b≠some i->H0 b=some o->acq own i A b=own b:=fun b o h1 h2=>by
  unfold acq;rw [if_neg (notin b o h1 h2),if_neg h1]
 refine ⟨⟨by simp [I.len],fun j q e=>?_,fun b l e=>?_,fun b o e=>?_⟩,fun b o h1 h2=>?_⟩
 ·rw [QC] at e ⊢
  by_cases hij:i=j
  ·subst hij
   rw [if_pos rfl] at e ⊢
   by_cases hl:i<env.length
   ·rw [if_pos hl] at e
    rw [if_pos (by rw [← I.len];exact hl)]
    cases e
    refine ⟨v,A,rfl,r,fun z=>(by rw [kA hi] at z;cases z),fun l z=>?_⟩
    rw [kA hi] at z;cases z
    exact ⟨nd,fun a ha=>by unfold acq;rw [if_pos ha]⟩
   ·rw [if_neg hl] at e;cases e
  ·rw [if_neg hij] at e ⊢
   obtain ⟨w,B,h1,h2,h3,h4⟩:=I.slot j q e
   have no:∀ b ∈ B,own b≠some i:=fun b hb z=>by
    cases hk:ko O j with
    | none=>rw [h3 hk b hb] at z;cases z
    | some l=>
     have:=(h4 l hk).2 b hb
     rw [z] at this
     have e1:=zdI hk
     cases this
     exact hij e1
   refine ⟨w,B,h1,keep j q w B (fun z=>hij z.symm) e h2 no,fun hk b hb=>?_,fun l hk=>⟨(h4 l hk).1,fun b hb=>?_⟩⟩
   ·obtain ⟨o,ho⟩:=h2.alloc hb
    rw [stay b o (no b hb) ho];exact h3 hk b hb
   ·obtain ⟨o,ho⟩:=h2.alloc hb
    rw [stay b o (no b hb) ho];exact (h4 l hk).2 b hb
 ·unfold acq at e
  split at e
  ·rename_i hb
   refine ⟨?_,Rp.mut p r b hb⟩
   rcases hA b hb with z | z
   ·exact (I.own b i z).1
   ·exact I.same.free z
  ·split at e
   ·cases e
   ·rename_i hb hn
    obtain ⟨h1,h2⟩:=I.own b l e
    refine ⟨h1,?_⟩
    rcases h2 with ⟨xs,h2⟩ | ⟨xs,h2⟩
    ·exact .inl ⟨xs,hx b _ hn h2⟩
    ·exact .inr ⟨xs,hx b _ hn h2⟩
 ·have h0:=I.same b o e
  refine hx b o (fun z=>?_) h0
  rw [(I.own b i z).1] at e;cases e
 ·have hn:own b≠some i:=by rw [h1];exact fun z=>nomatch z
  exact ⟨by rw [stay b o hn h2];exact h1,hx b o hn h2⟩
theorem ub{i:Nat}(hk:κ i=none)(h:PS X st (uA (tV X.K κ G .sh f) (wt i))):VS X κ G st (zV i f):=h.imp fun D σ H hq_=>by
 refine hq_.elim fun own env o I hf k=>?_
 unfold zV at hf
 cases hp:f env with
 | none=>rw [hp] at hf;cases hf
 | some p=>
  rw [hp] at hf;cases hf
  exact (.in I hp fun v H' A s r hc=>k own _ H' ((I.grow s).set_sh hk r hc) (Ext.grow s))
theorem uc{O:List Nat}{i:Nat}(hi:i ∈ O)(h:PS X st (uA (tV X.K (ko O) G (.mv []) f) (wt i))):VS X (ko O) G st (zV i f):=h.imp fun D σ H hq_=>by
 refine hq_.elim fun own env o I hf k=>?_
 unfold zV at hf
 cases hp:f env with
 | none=>rw [hp] at hf;cases hf
 | some p=>
  rw [hp] at hf;cases hf
  refine (.in I hp fun v H' A s r hc=>?_)
  obtain ⟨h1,h2⟩:=I.take hi (fun j q w B _ _ z _=>Rp.same s q z) (fun b o _ z=>s b o z) r hc.1 fun a ha=>.inr ((hc.2 a ha).elim id fun ⟨_,hl,_⟩=>nomatch hl)
  exact k _ _ H' h1 h2
noncomputable def tVG(K:PySem.W.Frag)(κ:Nat->Option Nat)(G:Hp)(Bs:List Nat)(bnd:PV->En->Option En):TG:=fun v σ H Q=>∃ own env p A e,VI K κ G own env σ H/\Rp K H p v A/\(∀ a ∈ A,own a=none)/\bnd p env=some e/\∀ σ',VI K κ G own e σ' H->(∀ i,i ∉ Bs->σ'[i]?=σ[i]?)->σ'.length=σ.length->Q σ' H
noncomputable def VG(X:Cx)(κ:Nat->Option Nat)(G:Hp)(Bs:List Nat)(tg:Expr)(bnd:PV->En->Option En):Prop:=PG X tg (tVG X.K κ G Bs bnd)
noncomputable def zoo(K:PySem.W.Frag)(κ:Nat->Option Nat)(G:Hp)(Bs:List Nat)(bnd:List PV->En->Option En):TGs:=fun vs σ H Q=>∃ own env ps A e,VI K κ G own env σ H/\Rps K H ps vs A/\(∀ a ∈ A,own a=none)/\bnd ps env=some e/\∀ σ',VI K κ G own e σ' H->(∀ i,i ∉ Bs->σ'[i]?=σ[i]?)->σ'.length=σ.length->Q σ' H
noncomputable def VGs(X:Cx)(κ:Nat->Option Nat)(G:Hp)(Bs:List Nat)(tg:List Expr)(bnd:List PV->En->Option En):Prop:=PGs X tg (zoo X.K κ G Bs bnd)
noncomputable def zJ(i:Nat):PV->En->Option En:=fun p env=>some (env.set i (some p))
noncomputable def zbO:List PV->En->Option En:=fun ps env=>match ps with | []=>some env | _=>none
noncomputable def xZ(b1:PV->En->Option En)(b2:List PV->En->Option En):List PV->En->Option En:=fun ps env=>match ps with | p::r=>(b1 p env).bind fun e=>b2 r e | []=>none
noncomputable def zal(n:Nat)(b:List PV->En->Option En):PV->En->Option En:=fun p env=>match p with
 | .tup ps=>if ps.length=n then b ps env else none
 | .lst ps=>if ps.length=n then b ps env else none
 | _=>none
end
end F
namespace L2
theorem PG.imp{t t':TG}(h:PG X e t)(i:∀ v σ H Q,t' v σ H Q->t v σ H Q):PG X e t':=fun pins s σ H v u Q I r hw=>h pins s σ H v u Q I r (i _ _ _ _ hw)
theorem PGs.imp{t t':TGs}(h:PGs X e t)(i:∀ v σ H Q,t' v σ H Q->t v σ H Q):PGs X e t':=fun pins s σ H v u Q I r hw=>h pins s σ H v u Q I r (i _ _ _ _ hw)
theorem PG.or{t t':TG}(h:PG X e t)(h':PG X e t'):PG X e (fun v σ H Q=>t v σ H Q∨t' v σ H Q):=fun pins s σ H v u Q I r hw=>hw.elim (h pins s σ H v u Q I r) (h' pins s σ H v u Q I r)
theorem PI.imp{t t':TI}(h:PI X tg e t)(i:∀ σ H R,t' σ H R->t σ H R):PI X tg e t':=fun pins s σ H R I hw=>h pins s σ H R I (i _ _ _ hw)
end L2
namespace F
open PySem PySem.Spec PyProof.Rows L2
section
variable {X:Cx} {κ:Nat->Option Nat} {G:Hp} {c c1 c2:Cat} {a b e:Expr} {es:List Expr} {fa fb f:FE} {t u:FT} {fs:FA} {pos:Pos} {g h:FS} {st:Stmt} {zg:List Stmt} {bnd:PV->En->Option En} {bnds:List PV->En->Option En}
theorem zie(i:Nat)(hk:κ i=none)(h:PG X tg (wt i)):VG X κ G [i] tg (zJ i):=h.imp fun v σ H Q hq_=>by
 obtain ⟨own,env,p,A,e,I,r,hA,hb,k⟩:=hq_
 cases hb
 refine k _ (I.set_sh hk r hA) (fun j hj=>?_) (by simp)
 rw [List.getElem?_set,if_neg (fun z=>hj (by simp [z]))]
theorem zid:VGs X κ G [] [] zbO:=pgs_nil.imp fun vs σ H Q hq_=>by
 obtain ⟨own,env,ps,A,e,I,r,hA,hb,k⟩:=hq_
 unfold zbO at hb
 cases ps with
 | nil=>cases hb;exact ⟨r.inv0.1,k σ I (fun _ _=>rfl) rfl⟩
 | cons p ps=>cases hb
theorem zfx(h1:VG X κ G Bs1 e bnd)(h2:VGs X κ G Bs2 es bnds)(hs:(assignEach (e::es) X.env).map (·.2)=assign e X.env::(assignEach es X.env).map (·.2):=by rfl):VGs X κ G (Bs1++Bs2) (e::es) (xZ bnd bnds):=(zgq h1 h2 hs).imp fun vs σ H Q hq_=>by
 obtain ⟨own,env,ps,A,e,I,r,hA,hb,k⟩:=hq_
 unfold xZ at hb
 cases ps with
 | nil=>cases hb
 | cons p ps=>
  dsimp only at hb
  obtain ⟨v,r',A1,A2,h1,h2,h3,h4⟩:=r.inv
  replace hb:=Ja.mp hb;obtain ⟨e1,hp,hb⟩:=hb
  subst h2
  refine ⟨v,r',h1,own,env,p,A1,e1,I,h3,fun a ha=>hA a (Jt _ ha),hp,fun σ1 I1 q1 l1=>?_⟩
  exact ⟨own,e1,ps,A2,e,I1,h4,fun a ha=>hA a (Jl _ ha),hb,fun σ2 I2 q2 l2=>k σ2 I2 (fun i hi=>(q2 i fun z=>hi (Jl _ z)).trans (q1 i fun z=>hi (Jt _ z))) (l2.trans l1)⟩
theorem zkc(n:Nat)(hc:X.calm=true)(h:VGs X κ G Bs es bnds)(hn:(assignEach es X.env).length=n:=by rfl)(hst:(assignEach es X.env).findIdx? (·.1)=none:=by rfl):VG X κ G Bs (.Tuple es k pos) (zal n bnds):=
 ((zkP hc h hn hst).or (zkR hc h hn hst)).imp fun v σ H Q hq_=>by
 obtain ⟨own,env,p,A,e,I,r,hA,hb,k⟩:=hq_
 unfold zal at hb
 cases p with
 | tup ps=>
  dsimp only at hb
  split at hb
  ·rename_i hl
   obtain ⟨a,xs,h1,h2,h3⟩:=r.T
   exact .inl ⟨a,xs,h1,h2,by rw [← h3.length];exact hl,own,env,ps,A,e,I,h3,hA,hb,k⟩
  ·cases hb
 | lst ps=>
  dsimp only at hb
  split at hb
  ·rename_i hl
   obtain ⟨a,xs,B,h1,h2,h3,h4⟩:=r.L
   subst h3
   exact .inr ⟨a,xs,h1,SqL.of h2,by rw [← h4.length];exact hl,own,env,ps,B,e,I,h4,fun a ha=>hA a (Jg _ ha),hb,k⟩
  ·cases hb
 | _=>cases hb
theorem zka{Bs:List Nat}{tg:Expr}(he:VE X κ G .sh e f)(hg:VG X κ G Bs tg bnd)(hs:swapsWithSole [tg] e pos.line X.env=pure false:=by rfl)(hw:swappedStores [tg] e X.env=pure none:=by rfl)
  (h1:(assignEach [tg] X.env).map (·.2)=[assign tg X.env]:=by rfl):VS X κ G (.Assign [tg] e pos) (zeS bnd f):=(zgo he hg hs hw h1).imp fun D σ H hq_=>by
 refine hq_.elim fun own env o I hf k=>?_
 unfold zeS at hf
 replace hf:=Ja.mp hf;obtain ⟨p,hp,hf⟩:=hf
 cases hb:bnd p env with
 | none=>rw [hb] at hf;cases hf
 | some e1=>
  rw [hb] at hf;cases hf
  exact (.in I hp fun v H' A s r hc=>⟨own,env,p,A,e1,I.grow s,r,hc,hb,fun σ' I' _ _=>k own σ' H' I' (Ext.grow s)⟩)
noncomputable def Stay(own:Addr->Option Nat)(H1 H2:Hp):Prop:=∀ b o,own b=none->H1 b=some o->H2 b=some o
theorem Stay.of(s:Same H1 H2):Stay own H1 H2:=fun b o _ e=>s b o e
theorem Stay.ext(s:Ext own H1 own' H2):Stay own H1 H2:=fun b o h e=>(s b o h e).2
theorem Stay.tup{K:PySem.W.Frag}{own:Addr->Option Nat}{H1 H2:Hp}{a:Addr}{xs:List V}(s:Stay own H1 H2)(hm:∀ a l,own a=some l->MutH H1 a)(h:SqT K H1 a xs):SqT K H2 a xs:=by
 have no:∀ o,H1 a=some o->(∀ z,o≠.lst z)->(∀ z,o≠.dK z)->own a=none:=fun o e n1 n2=>by
  cases q:own a with
  | none=>rfl
  | some l=>
   rcases hm a l q with ⟨z,m⟩ | ⟨z,m⟩
   ·rw [e] at m;exact absurd (Js m) (n1 z)
   ·rw [e] at m;exact absurd (Js m) (n2 z)
 rcases h with (h | ⟨u,h⟩) | h
 ·exact .inl (.inl (s _ _ (no _ h (fun _ z=>nomatch z) fun _ z=>nomatch z) h))
 ·exact .inl (.inr ⟨u,s _ _ (no _ h (fun _ z=>nomatch z) fun _ z=>nomatch z) h⟩)
 ·exact .inr h
theorem Stay.fz{K:PySem.W.Frag}{own:Addr->Option Nat}{H1 H2:Hp}{a:Addr}{xs:List V}(s:Stay own H1 H2)(hm:∀ a l,own a=some l->MutH H1 a)(h:Fz K H1 a xs):Fz K H2 a xs:=by
 rcases h with ⟨u,h⟩ | h
 ·refine .inl ⟨u,s _ _ ?_ h⟩
  cases q:own a with
  | none=>rfl
  | some l=>rcases hm a l q with ⟨z,m⟩ | ⟨z,m⟩<;>(rw [h] at m;cases m)
 ·exact .inr h
mutual
theorem Rp.stay{K:PySem.W.Frag}{own:Addr->Option Nat}{H1 H2:Hp}(s:Stay own H1 H2)(hm:∀ a l,own a=some l->MutH H1 a):∀ (p:PV) {v:V} {A:List Addr},(∀ a ∈ A,own a=none)->Rp K H1 p v A->Rp K H2 p v A
 | .non,_,_,_,h=>by unfold Rp at h ⊢;exact h
 | .bl _,_,_,_,h=>by unfold Rp at h ⊢;exact h
 | .int _,_,_,_,h=>by unfold Rp at h ⊢;exact h
 | .str _,_,_,_,h=>by unfold Rp at h ⊢;exact h
 | .ty _,_,_,_,h=>by unfold Rp at h ⊢;exact h
 | .any,_,_,_,h=>by unfold Rp at h ⊢;exact h
 | .adr _,_,_,_,h=>by unfold Rp at h ⊢;exact h
 | .pen a _,_,_,hA,h=>by
  unfold Rp at h ⊢
  exact ⟨h.1,h.2.1,s _ _ (hA a (by rw [h.2.1];exact Jf)) h.2.2⟩
 | .tup ps,_,_,hA,h=>by
  unfold Rp at h ⊢
  obtain ⟨a,xs,h1,h2,h3⟩:=h
  exact ⟨a,xs,h1,s.tup hm h2,Rps.stay s hm ps hA h3⟩
 | .lst ps,_,_,hA,h=>by
  unfold Rp at h ⊢
  obtain ⟨a,xs,B,h1,h2,rfl,h4⟩:=h
  exact ⟨a,xs,B,h1,s _ _ (hA a Jf) h2,rfl,Rps.stay s hm ps (fun b hb=>hA b (Jg _ hb)) h4⟩
 | .fls ps,_,_,hA,h=>by
  unfold Rp at h ⊢
  obtain ⟨a,xs,h1,h2,h3⟩:=h
  exact ⟨a,xs,h1,s.fz hm h2,Rps.stay s hm ps hA h3⟩
 | .dct ks ps,_,_,hA,h=>by
  unfold Rp at h ⊢
  obtain ⟨a,xs,B,h1,h2,h3,rfl,h5⟩:=h
  exact ⟨a,xs,B,h1,s _ _ (hA a Jf) h2,h3,rfl,Rps.stay s hm ps (fun b hb=>hA b (Jg _ hb)) h5⟩
theorem Rps.stay{K:PySem.W.Frag}{own:Addr->Option Nat}{H1 H2:Hp}(s:Stay own H1 H2)(hm:∀ a l,own a=some l->MutH H1 a):∀ (ps:List PV) {vs:List V} {A:List Addr},(∀ a ∈ A,own a=none)->Rps K H1 ps vs A->Rps K H2 ps vs A
 | [],_,_,_,h=>by unfold Rps at h ⊢;exact h
 | p::ps,_,_,hA,h=>by
  unfold Rps at h ⊢
  obtain ⟨v,r,A1,A2,h1,rfl,h3,h4⟩:=h
  exact ⟨v,r,A1,A2,h1,rfl,Rp.stay s hm p (fun a ha=>hA a (Jt _ ha)) h3,Rps.stay s hm ps (fun a ha=>hA a (Jl _ ha)) h4⟩
end
noncomputable def Walks(K:PySem.W.Frag)(own:Addr->Option Nat)(H1:Hp)(R:Hp->Prop)(J:It)(ps:List PV):Prop:=∀ i H2,R H2->
 (∀ p,ps[i]?=some p->J.go i H2/\∀ x H3,J.yld i H2 x H3->Same H2 H3/\∃ A,Rp K H3 p x A/\∀ a ∈ A,own a=none/\∃ o,H1 a=some o)/\(ps.length≤i->J.stop i H2)
noncomputable def tVI(K:PySem.W.Frag)(κ:Nat->Option Nat)(G:Hp)(lp:Bool)(f:FA):TI:=fun σ H R=>∃ own env ps,VI K κ G own env σ H/\f env=some ps/\∀ J H1,Same H H1->Walks K own H1 (fun H2=>if lp=true then Stay own H1 H2 else Same H1 H2) J ps->R J H1
theorem tVI.in{K:PySem.W.Frag}{κ:Nat->Option Nat}{G:Hp}{lp:Bool}{f:FA}{σ:St}{H:Hp}{R:It->Hp->Prop}{own:Addr->Option Nat}{env:En}{p:List PV}(I:VI K κ G own env σ H)(hf:f env=some p)(k:∀ J H1,Same H H1->Walks K own H1 (fun H2=>if lp=true then Stay own H1 H2 else Same H1 H2) J p->R J H1):tVI K κ G lp f σ H R:=⟨own,env,p,I,hf,k⟩
theorem tVI.elim{K:PySem.W.Frag}{κ:Nat->Option Nat}{G:Hp}{lp:Bool}{f:FA}{σ:St}{H:Hp}{R:It->Hp->Prop}{C:Prop}(h:tVI K κ G lp f σ H R)(k:∀ own env (p:List PV),VI K κ G own env σ H->f env=some p->(∀ J H1,Same H H1->Walks K own H1 (fun H2=>if lp=true then Stay own H1 H2 else Same H1 H2) J p->R J H1)->C):C:=
 let ⟨own,env,p,I,hf,q⟩:=h
 k own env p I hf q
noncomputable def VIt(X:Cx)(κ:Nat->Option Nat)(G:Hp)(lp:Bool)(tg iter:Expr)(f:FA):Prop:=PI X tg iter (tVI X.K κ G lp f)
noncomputable def wY:PV->Option (List PV)
 | .lst ps=>some ps
 | .fls ps=>some ps
 | .tup ps=>some ps
 | _=>none
noncomputable def zZ(f:FE):FA:=fun env=>(f env).bind wY
noncomputable def znD(f:FE):FA:=fun env=>(f env).bind fun p=>(wY p).bind fun ps=>if isDatas ps=true then some ps else none
theorem zmN{t t':TI}(h:PI X tg iter t)(h':PI X tg iter t'):PI X tg iter (fun σ H R=>t σ H R∨t' σ H R):=fun pins s σ H R I hw=>hw.elim (h pins s σ H R I) (h' pins s σ H R I)
theorem zde{K:PySem.W.Frag}{own:Addr->Option Nat}{H1:Hp}{R:Hp->Prop}{a:Addr}{ps:List PV}{xs:List V}{A:List Addr}(h1':Rps K H1 ps xs A)(hA:∀ a ∈ A,own a=none)(hl:∀ H2,R H2->SqL K H2 a xs/\Rps K H2 ps xs A):Walks K own H1 R (Itl K a) ps:=by
 intro i H2 hR
 obtain ⟨hq,hr⟩:=hl H2 hR
 refine ⟨fun p hp=>?_,fun hi=>⟨xs,hq,by rw [← hr.length];exact hi⟩⟩
 obtain ⟨v,C,h1,h2,h3⟩:=hr.get hp
 refine ⟨⟨xs,v,hq,h1⟩,fun x H3 ⟨e,hy⟩=>?_⟩
 subst e
 have:=hy xs hq
 rw [h1] at this;cases this
 exact ⟨Same.refl _,C,h2,fun a ha=>⟨hA a (h3.subset ha),(Rps.mut _ h1' a (h3.subset ha)).some⟩⟩
theorem zhO{K:PySem.W.Frag}{own:Addr->Option Nat}{H1:Hp}{R:Hp->Prop}{a:Addr}{ps:List PV}{xs:List V}{A:List Addr}(h1':Rps K H1 ps xs A)(hA:∀ a ∈ A,own a=none)(hl:∀ H2,R H2->SqT K H2 a xs/\Rps K H2 ps xs A):Walks K own H1 R (Itt K a) ps:=by
 intro i H2 hR
 obtain ⟨hq,hr⟩:=hl H2 hR
 refine ⟨fun p hp=>?_,fun hi=>⟨xs,hq,by rw [← hr.length];exact hi⟩⟩
 obtain ⟨v,C,h1,h2,h3⟩:=hr.get hp
 refine ⟨⟨xs,v,hq,h1⟩,fun x H3 ⟨e,hy⟩=>?_⟩
 subst e
 have:=hy xs hq
 rw [h1] at this;cases this
 exact ⟨Same.refl _,C,h2,fun a ha=>⟨hA a (h3.subset ha),(Rps.mut _ h1' a (h3.subset ha)).some⟩⟩
theorem zkb{tg l:Expr}(lp:Bool)(hl:VE X κ G .sh l f):VIt X κ G lp tg l (zZ f):=(zmN (ziD hl) (zkO hl)).imp fun σ H R hq_=>by
 refine hq_.elim fun own env ps I hf k=>?_
 unfold zZ at hf
 replace hf:=Ja.mp hf;obtain ⟨p,hp,hf⟩:=hf
 cases p<;>first | cases hf | skip
 ·refine .inr (.in I hp fun v H1 A s r hc=>?_)
  obtain ⟨a,xs,h1,h2,h3⟩:=r.T
  have hm:∀ a l,own a=some l->MutH H1 a:=fun a l e=>((I.grow s).own a l e).2
  refine ⟨a,h1,⟨xs,h2⟩,k _ H1 s (zhO (xs:=xs) h3 hc fun H2 hR=>?_)⟩
  cases lp with
  | true=>exact ⟨Stay.tup hR hm h2,Rps.stay hR hm _ hc h3⟩
  | false=>exact ⟨Same.tup hR h2,Rps.same hR _ h3⟩
 ·refine .inl (.in I hp fun v H1 A s r hc=>?_)
  obtain ⟨a,xs,B,h1,h2,rfl,h3⟩:=r.L
  have hm:∀ a l,own a=some l->MutH H1 a:=fun a l e=>((I.grow s).own a l e).2
  refine ⟨a,h1,⟨xs,SqL.of h2⟩,k _ H1 s (zde (xs:=xs) h3 (fun b hb=>hc b (Jg _ hb)) fun H2 hR=>?_)⟩
  cases lp with
  | true=>exact ⟨SqL.of (hR _ _ (hc a Jf) h2),Rps.stay hR hm _ (fun b hb=>hc b (Jg _ hb)) h3⟩
  | false=>exact ⟨SqL.of (hR _ _ h2),Rps.same hR _ h3⟩
 ·refine .inl (.in I hp fun v H1 A s r hc=>?_)
  obtain ⟨a,xs,h1,h2,h3⟩:=r.Fl
  have hm:∀ a l,own a=some l->MutH H1 a:=fun a l e=>((I.grow s).own a l e).2
  refine ⟨a,h1,⟨xs,h2.seq⟩,k _ H1 s (zde (xs:=xs) h3 hc fun H2 hR=>?_)⟩
  cases lp with
  | true=>exact ⟨(Stay.fz hR hm h2).seq,Rps.stay hR hm _ hc h3⟩
  | false=>exact ⟨(h2.same hR).seq,Rps.same hR _ h3⟩
noncomputable def uj(lo:Int)(n:Nat):List PV:=(List.range n).map fun (i:Nat)=>PV.int (lo+i)
theorem jq(lo:Int)(n:Nat):(uj lo n).length=n:=by simp [uj]
theorem zhP{K:PySem.W.Frag}{own:Addr->Option Nat}{H1:Hp}{R:Hp->Prop}(lo:Int)(n:Nat):Walks K own H1 R (Itr lo n) (uj lo n):=by
 intro i H2 _
 refine ⟨fun p hp=>?_,fun hi=>by rw [jq] at hi;exact hi⟩
 unfold uj at hp
 rw [JX] at hp
 by_cases hi:i<n
 ·rw [List.getElem?_range hi] at hp
  cases hp
  refine ⟨hi,fun x H3 ⟨e,hx⟩=>?_⟩
  subst e
  exact ⟨Same.refl _,[],by rw [hx];exact .mkI _,by simp⟩
 ·rw [List.getElem?_eq_none (by simpa using hi)] at hp
  cases hp
noncomputable def xJ(f:FA):FA:=fun env=>(f env).bind fun ps=>match ps with | [.int j]=>if -(2 ^ 62)≤j/\j<2 ^ 62 then some (uj 0 j.toNat) else none | _=>none
theorem zic{tg:Expr}{p:Pos}(lp:Bool)(hg:Gl X "range")(hm:X.mg "range"=none)(ha:VA X κ G c [a] fs)(hs:starEach [a] X.env=[(false,eval a X.env)]:=by rfl):VIt X κ G lp tg (.Call (.Name "range" p) [a] [] pos) (xJ fs):=(zeA hg hm ha.1 hs).imp fun σ H R hq_=>by
 refine hq_.elim fun own env ps I hf k=>?_
 unfold xJ at hf
 replace hf:=Ja.mp hf;obtain ⟨qs,hp,hf⟩:=hf
 refine (.in I hp fun vs H1 A s r _=>?_)
 split at hf
 ·split at hf
  ·rename_i j hj
   cases hf
   obtain ⟨v,r',A1,A2,h1,h2,h3,h4⟩:=r.inv
   exact ⟨j,by rw [h1,h4.inv0.1,h3.I.1],hj.1,hj.2,k _ H1 s (zhP 0 j.toNat)⟩
  ·cases hf
 ·cases hf
theorem zjY{Bs:List Nat}{tg iter:Expr}{body:List Stmt}(hp:PassesOwn (model X.prog X.w) X.A X.env X.xe)(hc:X.calm=true)(hi:VIt X κ G true tg iter fs)(hg:VG X κ G Bs tg bnd)(hb:VSs X κ G body g)
  (hs:∀ x,foldedSetIterable iter X.env x=pure x:=by intro _;rfl):VS X κ G (.For tg iter body [] pos) (xX fs bnd g):=(zkN hp hc hi hg hb hs).imp fun D σ H hq_=>by
 refine hq_.elim fun own env o I hf k=>?_
 unfold xX at hf
 replace hf:=Ja.mp hf;obtain ⟨ps,hp,hf⟩:=hf
 refine (.in I hp fun J H1 s hw=>?_)
 have k1:=k.ext (Ext.grow s)
 refine ⟨fun i m σ2 H2=>∃ own2 e2,VI X.K κ G own2 e2 σ2 H2/\Ext own H1 own2 H2/\i≤ps.length/\m=ps.length - i/\xQ bnd g (ps.drop i) e2=some o,⟨ps.length,own,env,I.grow s,Ext.refl _ _,Nat.zero_le _,by simp,by simpa using hf⟩,?_⟩
 rintro i m σ2 H2 ⟨own2,e2,I2,x2,hi,rfl,h2⟩
 have W:=hw i H2 (by simpa using Stay.ext x2)
 by_cases hlt:i<ps.length
 ·have hpi:ps[i]?=some ps[i]:=Jr hlt
  obtain ⟨go,yl⟩:=W.1 _ hpi
  rw [Qj hlt] at h2
  unfold xQ at h2
  replace h2:=Ja.mp h2;obtain ⟨e3,hb1,h2⟩:=h2
  replace h2:=Ja.mp h2;obtain ⟨o1,ho,h2⟩:=h2
  refine .inr ⟨go,fun σ' H'=>∃ own',∃ e',VI X.K κ G own' e' σ' H'/\Ext own H1 own' H'/\xQ bnd g (ps.drop (i+1)) e'=some o,?_,?_⟩
  ·rintro σ' H' ⟨own',e',I',x',h'⟩
   exact ⟨ps.length - (i+1),by omega,own',e',I',x',hlt,rfl,h'⟩
  ·intro x H3 hy
   obtain ⟨s3,A,r3,hA⟩:=yl x H3 hy
   have hA2:∀ a ∈ A,own2 a=none:=fun a ha=>let ⟨h1,o,h2⟩:=hA a ha;(x2 a o h1 h2).1
   refine ⟨own2,e2,ps[i],A,e3,I2.grow s3,r3,hA2,hb1,fun σ3 I3 _ _=>⟨own2,e3,o1,I3,ho,?_⟩⟩
   have x3:Ext own H1 own2 H3:=x2.trans (Ext.grow s3)
   cases o1 with
   | nx e4=>exact fun own4 σ4 H4 I4 x4=>⟨own4,e4,I4,x3.trans x4,h2⟩
   | ct e4=>exact fun own4 σ4 H4 I4 x4=>⟨own4,e4,I4,x3.trans x4,h2⟩
   | bk e4=>cases h2;exact k1.ext x3
   | rt p e4=>cases h2;exact k1.ext x3
 ·have e:i=ps.length:=by omega
  subst e
  rw [List.drop_length] at h2
  cases h2
  exact .inl ⟨W.2 (Jj _),k1 own2 σ2 H2 I2 x2⟩
theorem zfu(n:Nat)(hp:PassesOwn (model X.prog X.w) X.A X.env X.xe)(hc:VT X κ G cc t)(hb:VSs X κ G body g):VS X κ G (.While cc body [] pos) (fWh t g n):=(zgm hp hc hb).imp fun D σ H hq_=>by
 refine hq_.elim fun own env o I hf k=>?_
 refine ⟨fun m σ2 H2=>∃ own2 e2,VI X.K κ G own2 e2 σ2 H2/\Ext own H own2 H2/\fWh t g m e2=some o,⟨n,own,env,I,Ext.refl _ _,hf⟩,?_⟩
 rintro m σ2 H2 ⟨own2,e2,I2,x2,h2⟩
 cases m with
 | zero=>cases h2
 | succ m=>
  unfold fWh at h2
  replace h2:=Ja.mp h2;obtain ⟨b,ht,h2⟩:=h2
  refine ⟨own2,e2,b,I2,ht,fun H3 s3=>?_⟩
  have x3:Ext own H own2 H3:=x2.trans (Ext.grow s3)
  cases b with
  | false=>
   simp only [Bool.false_eq_true,if_false] at h2
   cases h2
   exact ite_ff (k own2 σ2 H3 (I2.grow s3) x3)
  | true=>
   simp only [if_true] at h2
   replace h2:=Ja.mp h2;obtain ⟨o1,ho,h2⟩:=h2
   refine ite_tt ⟨fun σ' H'=>∃ own',∃ e',VI X.K κ G own' e' σ' H'/\Ext own H own' H'/\fWh t g m e'=some o,fun σ' H' ⟨own',e',I',x',h'⟩=>⟨m,KJ m,own',e',I',x',h'⟩,own2,e2,o1,I2.grow s3,ho,?_⟩
   cases o1 with
   | nx e4=>exact fun own4 σ4 H4 I4 x4=>⟨own4,e4,I4,x3.trans x4,h2⟩
   | ct e4=>exact fun own4 σ4 H4 I4 x4=>⟨own4,e4,I4,x3.trans x4,h2⟩
   | bk e4=>cases h2;exact k.ext x3
   | rt p e4=>cases h2;exact k.ext x3
noncomputable def cE(n:Nat)(js:List Nat)(env:En):En:=List.replicate n none++js.map fun j=>(env[j]?).join
noncomputable def cK(n:Nat)(js:List Nat)(κ:Nat->Option Nat):Nat->Option Nat:=fun i=>if i<n then none else match js[i - n]? with | some j=>κ j | none=>none
noncomputable def zo(bnd:PV->En->Option En)(t:FT)(f:FE):List PV->En->Option (List PV)
 | [],_=>some []
 | p::ps,env=>(bnd p env).bind fun e=>(t e).bind fun b=>if b=true then (f e).bind fun q=>(zo bnd t f ps env).map fun r=>q::r else zo bnd t f ps env
noncomputable def fLC(src:FA)(n:Nat)(js:List Nat)(bnd:PV->En->Option En)(t:FT)(f:FE):FE:=fun env=>(src env).bind fun ps=>if ps.length≤100000 then (zo bnd t f ps (cE n js env)).map .lst else none
theorem VI.block{K:PySem.W.Frag}{own:Addr->Option Nat}{env:En}{σ:St}{H:Hp}{ow:List Str}{js:List Nat}(I:VI K κ G own env σ H):VI K (cK ow.length js κ) G own (cE ow.length js env) (cS ow js σ) H:=by
 refine ⟨by simp [cE,cS],fun i p e=>?_,I.own,I.same⟩
 unfold cE at e
 unfold cS cK
 by_cases hi:i<ow.length
 ·rw [List.getElem?_append_left (by simpa using hi),List.getElem?_replicate,if_pos hi] at e
  cases e
 ·have hi':ow.length≤i:=QF hi
  rw [List.getElem?_append_right (by simpa using hi'),List.getElem?_map,List.length_replicate] at e
  rw [List.getElem?_append_right (by simpa using hi'),List.getElem?_map,List.length_map,if_neg hi]
  cases q:js[i - ow.length]? with
  | none=>rw [q] at e;cases e
  | some j=>
   rw [q] at e
   have e':(env[j]?).join=some p:=Js e
   have e2:env[j]?=some (some p):=by
    cases z:env[j]? with
    | none=>rw [z] at e';cases e'
    | some w=>
     rw [z] at e';have:w=some p:=by simpa using e'
     rw [this]
   obtain ⟨v,A,h1,h2,h3⟩:=I.slot j p e2
   exact ⟨v,A,by simp [h1],h2,h3⟩
theorem VI.again{K:PySem.W.Frag}{own:Addr->Option Nat}{env:En}{σ σ':St}{H:Hp}{n:Nat}{js:List Nat}{Bs:List Nat}(I:VI K (cK n js κ) G own (cE n js env) σ H)(hB:∀ i ∈ Bs,i<n)(hs:∀ i,i ∉ Bs->σ'[i]?=σ[i]?)(hl:σ'.length=σ.length):VI K (cK n js κ) G own (cE n js env) σ' H:=by
 refine ⟨I.len.trans hl.symm,fun i p e=>?_,I.own,I.same⟩
 have hi:¬ i<n:=fun hi=>by
  unfold cE at e
  rw [List.getElem?_append_left (by simpa using hi),List.getElem?_replicate,if_pos hi] at e
  cases e
 obtain ⟨v,A,h1,h2⟩:=I.slot i p e
 exact ⟨v,A,(hs i fun z=>hi (hB i z)).trans h1,h2⟩
noncomputable def VTs(X:Cx)(κ:Nat->Option Nat)(G:Hp)(ifs:List Expr)(t:FT):Prop:=PTs X ifs (tVT X.K κ G t)
noncomputable def zbB:FT:=fun _=>some true
theorem zhS:VTs X κ G [] zbB:=fun pins s σ H Q I ⟨own,env,b,I',e,k⟩=>by
 cases e
 exact ziw pins s σ H Q I (k H (Same.refl _))
theorem zhR(h:VT X κ G e t):VTs X κ G [e] t:=ziv h
noncomputable def jC(own:Addr->Option Nat)(D:Addr):Addr->Option Nat:=fun a=>if a=D then some 1000000 else own a
theorem j5{own:Addr->Option Nat}{D a:Addr}(h:jC own D a=none):a≠D/\own a=none:=by
 unfold jC at h
 split at h
 ·cases h
 ·rename_i n;exact ⟨n,h⟩
theorem j6{own:Addr->Option Nat}{D a:Addr}(h:a≠D):jC own D a=own a:=if_neg h
theorem VI.mark{K:PySem.W.Frag}{own:Addr->Option Nat}{env:En}{σ:St}{H1 H2:Hp}{D:Addr}{ys:List V}(I:VI K κ G own env σ H1)(hD:H1 D=none)(s:Same H1 H2)(hy:H2 D=some (.lst ys)):VI K κ G (jC own D) env σ H2:=by
 have J:=I.grow s
 refine ⟨I.len,fun i p e=>?_,fun a l e=>?_,J.same⟩
 ·obtain ⟨v,A,h1,h2,h3,h4⟩:=I.slot i p e
  have ne:∀ a ∈ A,a≠D:=fun a ha z=>by
   obtain ⟨o,ho⟩:=h2.alloc ha
   rw [z,hD] at ho;cases ho
  exact ⟨v,A,h1,Rp.same s p h2,fun hk a ha=>(j6 (ne a ha)).trans (h3 hk a ha),fun l hk=>⟨(h4 l hk).1,fun a ha=>(j6 (ne a ha)).trans ((h4 l hk).2 a ha)⟩⟩
 ·unfold jC at e
  split at e
  ·rename_i z
   rw [z]
   exact ⟨I.same.free hD,.inl ⟨ys,hy⟩⟩
  ·exact J.own a l e
section
variable {ow:List Str} {js Bs:List Nat} {tg elt iter:Expr} {ifs:List Expr} {scope:Scope}
theorem zaJ{K:PySem.W.Frag}{cc:Cat}(hcc:cc=.mv []∨cc=.sh)(hB:∀ i ∈ Bs,i<ow.length)(σ:St)(H:Hp)(Q:VK)
  (hq:tV K κ G cc (fLC fs ow.length js bnd t f) σ H Q):
  zfP (tVI K κ G false fs) ow js (fun _ _ _ _=>tVG K (cK ow.length js κ) G Bs bnd) (fun _ _ _ _=>tVT K (cK ow.length js κ) G t) (fun _ _ _ _=>tV K (cK ow.length js κ) G cc f) σ H Q:=by
 refine Jx fun hno=>?_
 obtain ⟨own,env,z,I,e,k⟩:=hq
 unfold fLC at e
 replace e:=Ja.mp e;obtain ⟨ps,hp,e⟩:=e
 split at e
 case isFalse=>cases e
 rename_i hlen
 cases hr:zo bnd t f ps (cE ow.length js env) with
 | none=>rw [hr] at e;cases e
 | some rs=>
  rw [hr] at e;cases e
  refine hno (.in I hp fun J H1 s1 hw C s₀ H₀ fp D hD=>?_)
  clear hno
  have I1:VI K (cK ow.length js κ) G own (cE ow.length js env) (cS ow js σ) H1:=(I.grow s1).block
  have sD:Same H1 (upd H1 D (.lst [])):=zw (Same.refl _) hD
  refine ⟨fun i m σ1 H2=>∃ ys qs B r2,VI K (cK ow.length js κ) G own (cE ow.length js env) σ1 H1/\Same H1 H2/\H2 D=some (.lst ys)/\Rps K H2 qs ys B/\cc.ok H1 own B/\D ∉ B/\i≤ps.length/\ys.length≤i/\m=ps.length - i/\zo bnd t f (ps.drop i) (cE ow.length js env)=some r2/\rs=qs++r2,
   ⟨ps.length,[],[],[],rs,I1,sD,zT,.nil,Cat.nil _ _ _,by simp,Nat.zero_le _,Nat.le_refl _,by simp,by simpa using hr,rfl⟩,?_⟩
  intro i m σ1 H2 hI
  refine Jx fun hno=>?_
  obtain ⟨ys,qs,B,r2,I2,s2,hy,ry,cB,nB,hi,hyl,rfl,h2,hrs⟩:=hI
  have Wk:=hw i H2 (by simpa using s2)
  by_cases hlt:i<ps.length
  ·have hpi:ps[i]?=some ps[i]:=Jr hlt
   obtain ⟨go,yl⟩:=Wk.1 _ hpi
   refine hno (.inr ⟨go,fun x H3 hyl'=>?_⟩)
   clear hno
   refine Jx fun hno=>?_
   obtain ⟨s3,A,r3,hA⟩:=yl x H3 hyl'
   rw [Qj hlt] at h2
   unfold zo at h2
   replace h2:=Ja.mp h2;obtain ⟨e3,hb1,h2⟩:=h2
   replace h2:=Ja.mp h2;obtain ⟨bb,ht,h2⟩:=h2
   have neA:∀ a ∈ A,a≠D:=fun a ha z=>by
    obtain ⟨_,o,ho⟩:=hA a ha
    rw [z,hD] at ho;cases ho
   refine hno ⟨jC own D,_,ps[i],A,e3,I2.mark hD (s2.trans s3) (s3 _ _ hy),r3,fun a ha=>(j6 (neA a ha)).trans (hA a ha).1,hb1,fun σ3 I3 q3 l3=>?_⟩
   have I3':=I2.again hB q3 l3
   refine ⟨jC own D,e3,bb,I3,ht,fun H5 s5=>?_⟩
   have s25:Same H2 H5:=s3.trans s5
   have hy5:=s25 _ _ hy
   cases bb with
   | false=>
    simp only [Bool.false_eq_true,if_false] at h2
    refine ite_ff ⟨ps.length - (i+1),by omega,ys,qs,B,r2,I3',s2.trans s25,hy5,Rps.same s25 qs ry,cB,nB,hlt,by omega,rfl,h2,hrs⟩
   | true=>
    simp only [if_true] at h2
    replace h2:=Ja.mp h2;obtain ⟨q,hf,h2⟩:=h2
    cases hr2:zo bnd t f (ps.drop (i+1)) (cE ow.length js env) with
    | none=>rw [hr2] at h2;cases h2
    | some r4=>
     rw [hr2] at h2;cases h2
     refine ite_tt ⟨jC own D,e3,q,I3.grow s5,hf,fun y H6 C6 s6 r6 c6=>?_⟩
     have s26:Same H2 H6:=s25.trans s6
     have hy6:=s26 _ _ hy
     have nC:D ∉ C6:=fun z=>by
      rcases hcc with rfl | rfl
      ·rcases c6.2 D z with w | ⟨_,w,_⟩
       ·rw [hy5] at w;cases w
       ·cases w
      ·exact (j5 (c6 D z)).1 rfl
     refine ⟨ys,hy6,by rw [sizeLine_eq];omega,ps.length - (i+1),by omega,ys++[y],qs++[q],B++C6,r4,I3',zw (s2.trans s26) hD,zT,?_,?_,?_,hlt,by rw [Jh,Qg];omega,rfl,hr2,by rw [hrs,Jy];rfl⟩
     ·exact (Rps.upd (.inl ⟨ys,hy6⟩) qs nB (Rps.same s26 qs ry)).append (Rps.one (Rp.upd (.inl ⟨ys,hy6⟩) q nC r6))
     ·rcases hcc with rfl | rfl
      ·refine ⟨Qi.mpr ⟨cB.1,c6.1,fun x hx y' hy' hxy=>?_⟩,fun x hx=>?_⟩
       ·subst hxy
        rcases c6.2 x hy' with w | ⟨_,w,_⟩
        ·obtain ⟨o,ho⟩:=(Rps.mut qs (Rps.same s25 qs ry) x hx).some
         rw [ho] at w;cases w
        ·cases w
       ·rcases List.mem_append.mp hx with hx | hx
        ·exact cB.2 x hx
        ·exact (c6.2 x hx).elim (fun w=>.inl ((s2.trans s25).free w)) fun ⟨_,w,_⟩=>nomatch w
      ·intro x hx
       rcases List.mem_append.mp hx with hx | hx
       ·exact cB x hx
       ·exact (j5 (c6 x hx)).2
     ·exact fun z=>(Kd.mp z).elim nB nC
  ·have ei:i=ps.length:=by omega
   subst ei
   rw [List.drop_length] at h2
   cases h2
   refine hno (.inl ⟨Wk.2 (Jj _),?_⟩)
   rw [JS] at hrs
   subst hrs
   refine k (.ref D) H2 (D::B) (s1.trans s2) (.mkL hy ry) ?_
   have hDH:H D=none:=s1.free hD
   rcases hcc with rfl | rfl
   ·refine ⟨Kh.mpr ⟨nB,cB.1⟩,fun a ha=>?_⟩
    rcases List.mem_cons.mp ha with rfl | ha
    ·exact .inl hDH
    ·exact (cB.2 a ha).elim (fun w=>.inl (s1.free w)) .inr
   ·intro a ha
    rcases List.mem_cons.mp ha with rfl | ha
    ·exact uT (A:=[a]) I (fun b hb=>by rw [Ji.mp hb];exact hDH) a (Ji.mpr rfl)
    ·exact cB a ha
variable {wi:TI}
theorem zmj(cc:Cat)(hcc:cc=.mv []∨cc=.sh)(hB:∀ i ∈ Bs,i<ow.length)(hc:X.calm=true)(hi:VIt X κ G false tg iter fs)(hg:∀ C s₀ H₀ fp,VG (zb X ow js scope C s₀ H₀ fp) (cK ow.length js κ) G Bs tg bnd)
  (ht:∀ C s₀ H₀ fp,VTs (zb X ow js scope C s₀ H₀ fp) (cK ow.length js κ) G ifs t)(he:∀ C s₀ H₀ fp,VE (zb X ow js scope C s₀ H₀ fp) (cK ow.length js κ) G cc elt f)
  (ok:jK js scope X.env.kindOf X.N=true:=by first | rfl | decide +kernel)(hs:∀ x,foldedSetIterable iter X.env x=pure x:=by intro _;rfl):
  VE X κ G cc (.ListComp elt [⟨tg,iter,ifs,0⟩] scope pos) (fLC fs ow.length js bnd t f):=
 (zmR (own:=ow) (js:=js) hc hi hg ht he ok hs).imp fun σ H Q h=>zaJ hcc hB σ H Q h
theorem zmL{py spos:Pos}(cc:Cat)(hN:X.N.Nodup)(hi':X.N[i]?=some y)(hx:Loc X.env.scope y)(hcc:cc=.mv []∨cc=.sh)(hB:∀ i ∈ Bs,i<ow.length)(hc:X.calm=true)(hi:VIt X κ G false tg iter fs)(hg:∀ C s₀ H₀ fp,VG (zb X ow js scope C s₀ H₀ fp) (cK ow.length js κ) G Bs tg bnd)
  (ht:∀ C s₀ H₀ fp,VTs (zb X ow js scope C s₀ H₀ fp) (cK ow.length js κ) G ifs t)(he:∀ C s₀ H₀ fp,VE (zb X ow js scope C s₀ H₀ fp) (cK ow.length js κ) G cc elt f)
  (ok:jK js scope X.env.kindOf X.N=true:=by first | rfl | decide +kernel)(hs:∀ x,foldedSetIterable iter X.env x=pure x:=by intro _;rfl)
  (hsw:swapsWith (.ListComp elt [⟨tg,iter,ifs,0⟩] scope pos) (some (.Name y py)) spos.line X.env=pure true:=by rfl)(hf:X.fn y=true∨X.env.scope.names.lookup y=some .local:=by first | exact .inl rfl | exact .inr rfl | assumption):
  PS X (.Assign [.Name y py] (.ListComp elt [⟨tg,iter,ifs,0⟩] scope pos) spos) (uA (tV X.K κ G cc (fLC fs ow.length js bnd t f)) (wt i)):=
 (zix (own:=ow) (js:=js) hN hi' hx hc hi hg ht he ok hs hsw hf).imp fun D σ H h=>zaJ hcc hB σ H _ h
end
theorem zkK(h:PS X st (uA (tV X.K κ G (.mv []) f) tg)):PS X st (uA (tV X.K κ G .sh f) tg):=h.imp fun D σ H hq_=>by
 refine hq_.elim fun own env p I hf k=>?_
 exact (.in I hf fun v H' A s r hc=>k v H' A s r (uT I fun a ha=>(hc.2 a ha).elim id fun ⟨_,hl,_⟩=>nomatch hl))
noncomputable def spV(K:PySem.W.Frag)(n:Nat)(Φ:List PV->Option PV):Sp:=fun vs H Q _=>∃ ps A z,Rps K H ps vs A/\ps.length=n/\Φ ps=some z/\∀ v H' C,Same H H'->Rp K H' z v C->C.Nodup->(∀ a ∈ C,H a=none)->Q v H'
theorem zih(hF:Fn X.prog X.w X.K X.mg X.base x k ps (spV X.K n Φ))(hr:Room k X.A)(hg:Gl X x)(ha:VA X κ G c (e::es) fs)(hl:(e::es).length=n:=by rfl)
  (hdb:(x == ("__debug__":Str))=false:=by decide)(he:starEach (e::es) X.env=(false,eval e X.env)::starEach es X.env:=by rfl)(hpl:(backTo pos (starEach es X.env)).any (·.1)=false:=by rfl):
  VE X κ G (.mv []) (.Call (.Name x p) (e::es) [] pos) (zE Φ fs):=(zmT hF hr hg ha.1 hdb he hpl).imp fun σ H Q hq_=>by
 refine hq_.elim fun own env z I hf k=>?_
 unfold zE at hf
 replace hf:=Ja.mp hf;obtain ⟨qs,hp,hf⟩:=hf
 refine (.in I hp fun vs H1 A s1 r1 _=>⟨qs,A,z,by rw [JS];exact r1,(ha.2 env qs hp).trans hl,hf,fun v H' C s2 r2 nd fr=>k v H' C (s1.trans s2) r2 ⟨nd,fun a ha=>.inl (s1.free (fr a ha))⟩⟩)
noncomputable def fnV(m:Nat)(g:FS):List PV->Option PV:=fun ps=>(g (ps.map some++List.replicate (m - ps.length) none)).bind fun o=>match o with | .rt p _=>some p | .nx _=>some .non | _=>none
theorem VI.start{K:PySem.W.Frag}{H:Hp}{N:List Str}{ps:List PV}{vs:List V}{A:List Addr}(hk:∀ i,i<ps.length->κ i=none)(r:Rps K H ps vs A):VI K κ H (fun _=>none) (ps.map some++List.replicate (N.length - ps.length) none) (L2.start N vs) H:=by
 have hl:=r.length
 refine ⟨by simp [L2.start,hl],fun i p e=>?_,(fun _ _ z=>nomatch z),Same.refl _⟩
 by_cases hi:i<ps.length
 ·rw [List.getElem?_append_left (by simpa using hi),List.getElem?_map] at e
  cases q:ps[i]? with
  | none=>rw [q] at e;cases e
  | some p'=>
   rw [q] at e
   have:p'=p:=by simpa using e
   subst this
   obtain ⟨v,C,h1,h2,h3⟩:=r.get q
   refine ⟨v,C,?_,h2,fun _ _ _=>rfl,fun l z=>?_⟩
   ·unfold L2.start
    rw [Qk (by rw [Je,← hl];exact hi),JX,h1];rfl
   ·rw [hk i hi] at z;cases z
 ·rw [List.getElem?_append_right (by simpa using hi),List.getElem?_replicate] at e
  split at e<;>cases e
theorem xg{P:Program}{w:World}{K:PySem.W.Frag}{mg:Str->Option Value}{base:Heap}{x qual:Str}{st:Stmt}{f:Addr}{fd:FuncData}{N ps:List Str}{k n m:Nat}(O:List Nat)(hn:ps.length=n)(hm:N.length=m)(hO:∀ i ∈ O,n≤i)(hF:Fun K x qual st f fd)(S:FnScope N ps (zG st))
  (body:∀ (cdv:Value) (A:Around) (outer:List PySem.Env) (s:Shared) (H:Hp) (E:XK),Room k (A.deeper (envOfC qual (zG st) s.heap.objs.size f cdv))->VSs (zcP CX0 P w K mg base N qual (zG st) f cdv A outer s H E).nox (ko O) H (y4 st) g):
  FnOk P w K mg base CX0 (k+1) f fd ps (spV K n (fnV m g)):=by
 subst hn hm
 refine hF.ok S (fun vs H Q E ⟨qs,A,z,r,hl,_⟩=>by rw [← r.length,hl]) fun cdv A outer s H vs Q E hr ⟨qs,B,z,r,hl,hΦ,k⟩=>⟨_,body cdv A outer s H E hr,?_⟩
 unfold fnV at hΦ
 replace hΦ:=Ja.mp hΦ;obtain ⟨o,ho,hΦ⟩:=hΦ
 refine ⟨fun _=>none,_,o,VI.start (N:=N) (fun i hi=>zcE fun z=>absurd (hO i z) (by omega)) r,ho,?_⟩
 cases o with
 | rt p e=>cases hΦ;exact fun v H' C own' σ' I' r' nd fr=>k v H' C I'.same r' nd fun a ha=>(fr a ha).1
 | nx e=>cases hΦ;exact fun own' σ' H' I' _=>k .non H' [] I'.same .mkN .nil (by simp)
 | bk e=>cases hΦ
 | ct e=>cases hΦ
end
end F
namespace L2
open PySem PySem.Spec PyProof.Rows
noncomputable def zcl(K:PySem.W.Frag):R2:=fun x y H Q=>∃ a b ys,x=.ref a/\y=.ref b/\SqT K H a []/\SqT K H b ys/\Q (.ref b) H
theorem zhB{s:Shared}{us:List Value}{Q:Value->Shared->Prop}(ht:IsTup s.heap t #[])(hb:IsTup s.heap b us.toArray)(k:Q (.ref b) s):wpAny (model prog w) A (binaryOp .Add (.ref t) (.ref b)) Q E s:=by
 obtain ⟨⟨c1,o1,a1,z1⟩,g1,hc1,n1,hd1⟩:=id ht
 obtain ⟨⟨c2,o2,a2,z2⟩,g2,hc2,n2,hd2⟩:=id hb
 simp only at hc1 hd1 hc2 hd2
 subst hc1 hd1 hc2 hd2
 exact concat_meets ⟨_,g1,rfl⟩ ⟨_,g2,rfl⟩ noFill_tuple_add seq_tuple_add PySem.F.slot_tuple_add PySem.F.entry_tuple_add (PySem.F.args_tuple_add_2 _ _) (tuple_addW0 t b #[] us.toArray n1 n2 o1 o2 z1 z2 rfl) ⟨g1,g2,k⟩
theorem op_catT0{X:Cx}:OpR X (binaryOp .Add) (zcl X.K):=by
 intro pins s σ H x y v u Q I rx ry h
 obtain ⟨a,b,ys,rfl,rfl,ha,hb,q⟩:=h
 cases rx
 cases ry
 obtain ⟨its,r1,p1,_⟩:=I.tuple ha
 obtain ⟨its2,r2,p2,_⟩:=I.tuple hb
 have:=r1.nil_iff.mpr rfl
 subst this
 exact zhB p1 p2 ⟨.ref b,H,I,rfl,q⟩
end L2
namespace F
open PySem PySem.Spec PyProof.Rows L2
noncomputable def zv:PV->PV->Option PV
 | .int i,.int j=>some (.int (i+j))
 | .str x,.str y=>if x.length+y.length≤100000 then some (.str (x++y)) else none
 | .tup xs,.tup ys=>if (isDatas xs && isDatas ys && decide (xs.length+ys.length≤100000))=true then some (.tup (xs++ys)) else none
 | .lst xs,.lst ys=>if (isDatas xs && isDatas ys && decide (xs.length+ys.length≤100000))=true then some (.lst (xs++ys)) else none
 | _,_=>none
noncomputable def yw:PV->PV->Option PV
 | .int i,.int j=>some (.int (i - j))
 | _,_=>none
instance (a b:Int):Decidable (IntMulOk a b):=by unfold IntMulOk;infer_instance
noncomputable def zt:PV->PV->Option PV
 | .int i,.int j=>if IntMulOk i j then some (.int (i * j)) else none
 | .lst xs,.int k=>if (isDatas xs=true/\-(2 ^ 63)≤k/\k<2 ^ 63/\xs.length * k.toNat≤100000) then some (.lst (List.replicate k.toNat xs).flatten) else none
 | _,_=>none
noncomputable def yM:PV->PV->Option PV
 | .int i,.int j=>if 0<j/\j<1073741824 then some (.int (i / j)) else none
 | _,_=>none
noncomputable def xP:PV->PV->Option PV
 | .int i,.int j=>if 0<j then some (.int (i % j)) else none
 | _,_=>none
noncomputable def vLt:PV->PV->Option PV
 | .int i,.int j=>some (.bl (decide (i<j)))
 | _,_=>none
noncomputable def vLe:PV->PV->Option PV
 | .int i,.int j=>some (.bl (decide (i≤j)))
 | _,_=>none
noncomputable def vGt:PV->PV->Option PV
 | .int i,.int j=>some (.bl (decide (j<i)))
 | _,_=>none
noncomputable def vGe:PV->PV->Option PV
 | .int i,.int j=>some (.bl (decide (j≤i)))
 | _,_=>none
noncomputable def zkp:PV->Option PV
 | .int i=>some (.int (-i))
 | _=>none
mutual
noncomputable def yU:PV->PyData
 | .non=>.none
 | .bl b=>.bool b
 | .int i=>.int i
 | .str x=>.str x
 | .ty _=>.none
 | .any=>.none
 | .pen _ _=>.none
 | .adr _=>.none
 | .tup xs=>.tuple (toPys xs)
 | .lst xs=>.list (toPys xs)
 | .fls xs=>.list (toPys xs)
 | .dct _ _=>.none
noncomputable def toPys:List PV->List PyData
 | []=>[]
 | x::r=>yU x::toPys r
end
mutual
noncomputable def wf:PV->Bool
 | .ty _=>false
 | .any=>false
 | .pen _ _=>false
 | .adr _=>false
 | .dct _ _=>false
 | .tup xs=>okPys xs
 | .lst xs=>okPys xs
 | .fls xs=>okPys xs
 | _=>true
noncomputable def okPys:List PV->Bool
 | []=>true
 | x::r=>wf x && okPys r
end
noncomputable def wy(p:PV):Bool:=wf p && (yU p).canLay0 && decide ((yU p).depth≤64)
noncomputable def eqP(p q:PV):Bool:=PyData.eqv (yU p) (yU q)
noncomputable def vEq(p q:PV):Option PV:=if (wy p && wy q)=true then some (.bl (eqP p q)) else none
noncomputable def vNe(p q:PV):Option PV:=if (wy p && wy q)=true then some (.bl (!eqP p q)) else none
section
variable {K:PySem.W.Frag} {H:Hp}
mutual
theorem Rp.rep:∀ (p:PV) {v:V} {A:List Addr},wf p=true->Rp K H p v A->Rep K H v (yU p)
 | .non,_,_,_,h=>by rw [h.N.1];unfold yU;exact .non
 | .bl b,_,_,_,h=>by rw [h.B.1];unfold yU;exact .bl b
 | .int i,_,_,_,h=>by rw [h.I.1];unfold yU;exact .int i
 | .str x,_,_,_,h=>by rw [h.S.1];unfold yU;exact .str x
 | .ty _,_,_,d,_=>by simp [wf] at d
 | .any,_,_,d,_=>by simp [wf] at d
 | .pen _ _,_,_,d,_=>by simp [wf] at d
 | .adr _,_,_,d,_=>by simp [wf] at d
 | .dct _ _,_,_,d,_=>by simp [wf] at d
 | .tup ps,_,_,d,h=>by
  unfold wf at d
  obtain ⟨a,xs,rfl,h2,h3⟩:=h.T
  unfold yU
  exact .tuple h2 (Rps.rep ps d h3)
 | .lst ps,_,_,d,h=>by
  unfold wf at d
  obtain ⟨a,xs,B,rfl,h2,rfl,h3⟩:=h.L
  unfold yU
  exact .list (SqL.of h2) (Rps.rep ps d h3)
 | .fls ps,_,_,d,h=>by
  unfold wf at d
  obtain ⟨a,xs,rfl,h2,h3⟩:=h.Fl
  unfold yU
  exact .list h2.seq (Rps.rep ps d h3)
theorem Rps.rep:∀ (ps:List PV) {vs:List V} {A:List Addr},okPys ps=true->Rps K H ps vs A->Reps K H vs (toPys ps)
 | [],_,_,_,h=>by rw [h.inv0.1];unfold toPys;exact .nil
 | p::ps,_,_,d,h=>by
  unfold okPys at d
  rw [JR] at d
  obtain ⟨v,r,A1,A2,rfl,h2,h3,h4⟩:=h.inv
  unfold toPys
  exact .cons (Rp.rep p d.1 h3) (Rps.rep ps d.2 h4)
end
end
noncomputable def xI:PV->Bool
 | .non=>true
 | .bl _=>true
 | .int _=>true
 | .str _=>true
 | _=>false
noncomputable def eqS:PV->PV->Bool
 | .non,.non=>true
 | .bl a,.bl b=>a == b
 | .bl a,.int b=>(if a then 1 else 0) == b
 | .int a,.bl b=>a == (if b then 1 else 0)
 | .int a,.int b=>a == b
 | .str a,.str b=>a == b
 | _,_=>false
noncomputable def inP(p:PV)(xs:List PV):Bool:=xs.any fun y=>eqS y p
noncomputable def qw(ks:List Key)(k:Key):Bool:=ks.any fun x=>decide (x=k)
theorem zha(ks:List Key)(k:Key):qw ks k=true ↔ k ∈ ks:=by
 unfold qw
 rw [Kv]
 constructor
 ·rintro ⟨x,hx,e⟩
  rw [← of_decide_eq_true e];exact hx
 ·intro h;exact ⟨k,h,by simp⟩
noncomputable def vIn(p:PV):PV->Option Bool
 | .lst xs=>if (xI p && xs.all xI)=true then some (inP p xs) else none
 | .fls xs=>if (xI p && xs.all xI)=true then some (inP p xs) else none
 | .tup xs=>if (xI p && xs.all xI)=true then some (inP p xs) else none
 | .dct ks _=>match p with | .non=>some false | .int i=>some (qw ks (.inl i)) | .str x=>some (qw ks (.inr x)) | _=>none
 | _=>none
noncomputable def ye(p q:PV):Option PV:=(vIn p q).map .bl
noncomputable def z7(p q:PV):Option PV:=(vIn p q).map fun b=>.bl (!b)
section
variable {X:Cx} {K:PySem.W.Frag}
theorem OpV.int{r:R2}{g:PV->PV->Option PV}(h:∀ p q z,g p q=some z->∃ i j,p=.int i/\q=.int j/\∃ w,(∀ K H,Rp K H z w [])/\∀ H Q,Q w H->r (.int i) (.int j) H Q):OpV K r g:=by
 intro H p q x y A B z Q r1 r2 e k
 obtain ⟨i,j,rfl,rfl,w,hw,hr⟩:=h p q z e
 rw [r1.I.1,r2.I.1]
 exact hr H Q (k w H [] (Same.refl _) (hw _ _) .nil (by simp))
theorem zle:OpV K (rI0 fun i j=>.int (i - j)) yw:=OpV.int fun p q z e=>by
 unfold yw at e
 split at e
 case h_2=>cases e
 cases e
 exact ⟨_,_,rfl,rfl,_,fun _ _=>.mkI _,fun H Q h=>⟨_,_,rfl,rfl,h⟩⟩
theorem ziJ:OpV K (rI znW fun i j=>.int (i / j)) yM:=OpV.int fun p q z e=>by
 unfold yM at e
 split at e
 case h_2=>cases e
 split at e
 ·rename_i hc;cases e
  exact ⟨_,_,rfl,rfl,_,fun _ _=>.mkI _,fun H Q h=>⟨_,_,rfl,rfl,hc,h⟩⟩
 ·cases e
theorem zlg:OpV K (rI (fun _ j=>0<j) fun i j=>.int (i % j)) xP:=OpV.int fun p q z e=>by
 unfold xP at e
 split at e
 case h_2=>cases e
 split at e
 ·rename_i hc;cases e
  exact ⟨_,_,rfl,rfl,_,fun _ _=>.mkI _,fun H Q h=>⟨_,_,rfl,rfl,hc,h⟩⟩
 ·cases e
theorem zmW:OpV K (rI0 fun i j=>.bl (decide (i<j))) vLt:=OpV.int fun p q z e=>by
 unfold vLt at e
 split at e
 case h_2=>cases e
 cases e
 exact ⟨_,_,rfl,rfl,_,fun _ _=>.mkB _,fun H Q h=>⟨_,_,rfl,rfl,h⟩⟩
theorem zmX:OpV K (rI0 fun i j=>.bl (decide (i≤j))) vLe:=OpV.int fun p q z e=>by
 unfold vLe at e
 split at e
 case h_2=>cases e
 cases e
 exact ⟨_,_,rfl,rfl,_,fun _ _=>.mkB _,fun H Q h=>⟨_,_,rfl,rfl,h⟩⟩
theorem zmZ:OpV K (rI0 fun i j=>.bl (decide (j<i))) vGt:=OpV.int fun p q z e=>by
 unfold vGt at e
 split at e
 case h_2=>cases e
 cases e
 exact ⟨_,_,rfl,rfl,_,fun _ _=>.mkB _,fun H Q h=>⟨_,_,rfl,rfl,h⟩⟩
theorem zna:OpV K (rI0 fun i j=>.bl (decide (j≤i))) vGe:=OpV.int fun p q z e=>by
 unfold vGe at e
 split at e
 case h_2=>cases e
 cases e
 exact ⟨_,_,rfl,rfl,_,fun _ _=>.mkB _,fun H Q h=>⟨_,_,rfl,rfl,h⟩⟩
theorem zkq:UnV K (rU fun i=>.int (-i)) zkp:=by
 intro H p x A z Q r e k
 cases p<;>first | cases e | skip
 exact ⟨_,r.I.1,k _ H [] (Same.refl _) (.mkI _) .nil (by simp)⟩
theorem xU{H:Hp}{z:PV}{Q:VK}(hd:isDatas ps=true)(r:Rps K H ps xs A)(k:∀ v H' C,Same H H'->Rp K H' (.lst ps) v C->C.Nodup->(∀ a ∈ C,H a=none)->Q v H'):∀ p,H p=none->Q (.ref p) (upd H p (.lst xs)):=fun p hp=>by
 have e:=Rps.data ps hd r
 subst e
 have s:Same H (upd H p (.lst xs)):=zw (Same.refl _) hp
 exact k _ _ [p] s (.mkL zT (Rps.same s ps r)) (by simp) (by simpa using hp)
theorem jR{H:Hp}{z:PV}{Q:VK}(hd:isDatas ps=true)(r:Rps K H ps xs A)(k:∀ v H' C,Same H H'->Rp K H' (.tup ps) v C->C.Nodup->(∀ a ∈ C,H a=none)->Q v H'):∀ p,H p=none->Q (.ref p) (upd H p (.tup xs)):=fun p hp=>by
 have e:=Rps.data ps hd r
 subst e
 have s:Same H (upd H p (.tup xs)):=zw (Same.refl _) hp
 exact k _ _ [] s (.mkT (SqT.of zT) (Rps.same s ps r)) (by simp) (by simp)
theorem zlj:OpR X (binaryOp .Add) (fun x y H Q=>(rI0 fun i j=>.int (i+j)) x y H Q∨(zkG x y H Q∨(zgf X.K x y H Q∨(zcl X.K x y H Q∨∃ i j,x=.str i/\y=.str j/\i.length+j.length≤sizeLine/\Q (.str (i++j)) H)))):=op_add.or (op_cat.or (op_catT.or (op_catT0.or zcs)))
theorem zlh:OpV K (fun x y H Q=>(rI0 fun i j=>.int (i+j)) x y H Q∨(zkG x y H Q∨(zgf K x y H Q∨(zcl K x y H Q∨∃ i j,x=.str i/\y=.str j/\i.length+j.length≤sizeLine/\Q (.str (i++j)) H)))) zv:=by
 intro H p q x y A B z Q r1 r2 e k
 unfold zv at e
 split at e
 case h_5=>cases e
 ·cases e
  exact .inl ⟨_,_,r1.I.1,r2.I.1,k _ H [] (Same.refl _) (.mkI _) .nil (by simp)⟩
 ·split at e
  ·rename_i hc;cases e
   exact .inr (.inr (.inr (.inr ⟨_,_,r1.S.1,r2.S.1,by rw [sizeLine_eq];omega,k _ H [] (Same.refl _) (.mkS _) .nil (by simp)⟩)))
  ·cases e
 ·split at e
  ·rename_i hc;cases e
   simp only [Bool.and_eq_true,decide_eq_true_eq] at hc
   obtain ⟨⟨d1,d2⟩,hl⟩:=hc
   obtain ⟨a,xs,e1,h1,g1⟩:=r1.T
   obtain ⟨b,ys,e2,h2,g2⟩:=r2.T
   have l1:=g1.length
   have l2:=g2.length
   by_cases hx0:xs=[]
   ·subst hx0
    rename_i ps qs
    have:ps=[]:=by cases ps with | nil=>rfl | cons _ _=>simp at l1
    subst this
    rw [List.nil_append] at k
    have e:=Rps.data qs d2 g2
    subst e
    exact .inr (.inr (.inr (.inl ⟨a,b,ys,e1,e2,h1,h2,k _ H [] (Same.refl _) (.mkT h2 g2) .nil (by simp)⟩)))
   refine .inr (.inr (.inl ⟨a,b,xs,ys,e1,e2,h1,h2,hx0,by rw [sizeLine_eq];omega,fun z=>?_,fun _=>?_⟩))
   ·subst z
    rename_i ps qs
    have:qs=[]:=by cases qs with | nil=>rfl | cons _ _=>simp at l2
    subst this
    rw [JS] at k
    have e:=Rps.data ps d1 g1
    subst e
    exact k _ H [] (Same.refl _) (.mkT h1 g1) .nil (by simp)
   ·exact jR (by rw [yi,d1,d2];rfl) (g1.append g2) k (z:=.non)
  ·cases e
 ·split at e
  ·rename_i hc;cases e
   simp only [Bool.and_eq_true,decide_eq_true_eq] at hc
   obtain ⟨⟨d1,d2⟩,hl⟩:=hc
   obtain ⟨a,xs,B1,e1,h1,_,g1⟩:=r1.L
   obtain ⟨b,ys,B2,e2,h2,_,g2⟩:=r2.L
   have l1:=g1.length
   have l2:=g2.length
   exact .inr (.inl ⟨a,b,xs,ys,e1,e2,h1,h2,by rw [sizeLine_eq];omega,xU (by rw [yi,d1,d2];rfl) (g1.append g2) k (z:=.non)⟩)
  ·cases e
theorem zli:OpR X (binaryOp .Mult) (fun x y H Q=>(rI IntMulOk fun i j=>.int (i * j)) x y H Q∨zkF x y H Q):=op_mulB.or zll
theorem Rps.rep_{H:Hp}{ps:List PV}{xs:List V}(r:Rps K H ps xs []):∀ k:Nat,Rps K H (List.replicate k ps).flatten (List.replicate k xs).flatten []
 | 0=>.nil
 | k+1=>by
  rw [Ko,Ko,KF,KF]
  exact r.append (Rps.rep_ r k)
theorem jE{ps:List PV}(h:isDatas ps=true):∀ k:Nat,isDatas (List.replicate k ps).flatten=true
 | 0=>rfl
 | k+1=>by rw [Ko,KF,yi,h,jE h k];rfl
theorem zlf:OpV K (fun x y H Q=>(rI IntMulOk fun i j=>.int (i * j)) x y H Q∨zkF x y H Q) zt:=by
 intro H p q x y A B z Q r1 r2 e k
 unfold zt at e
 split at e
 case h_3=>cases e
 ·split at e
  ·rename_i hc;cases e
   exact .inl ⟨_,_,r1.I.1,r2.I.1,hc,k _ H [] (Same.refl _) (.mkI _) .nil (by simp)⟩
  ·cases e
 ·split at e
  ·rename_i hc;cases e
   obtain ⟨d,h1,h2,h3⟩:=hc
   obtain ⟨a,xs,B1,e1,g0,_,g1⟩:=r1.L
   have e:=Rps.data _ d g1
   subst e
   have l1:=g1.length
   exact .inr ⟨a,_,xs,e1,r2.I.1,g0,h1,h2,by rw [sizeLine_eq,← l1];omega,xU (jE d _) (Rps.rep_ g1 _) k (z:=.non)⟩
  ·cases e
theorem znb:OpV K (fun x y H Q=>∃ d e,Rep K H x d/\Rep K H y e/\d.canLay0=true/\e.canLay0=true/\d.depth≤64/\Q (.bl (PyData.eqv d e)) H) vEq:=by
 intro H p q x y A B z Q r1 r2 e k
 unfold vEq at e
 split at e
 ·rename_i hc;cases e
  unfold wy at hc
  simp only [Bool.and_eq_true,decide_eq_true_eq] at hc
  obtain ⟨⟨⟨a1,a2⟩,a3⟩,⟨b1,b2⟩,b3⟩:=hc
  exact ⟨_,_,Rp.rep p a1 r1,Rp.rep q b1 r2,a2,b2,a3,k _ H [] (Same.refl _) (.mkB _) .nil (by simp)⟩
 ·cases e
theorem zmV:OpV K (fun x y H Q=>∃ d e,Rep K H x d/\Rep K H y e/\d.canLay0=true/\e.canLay0=true/\d.depth≤64/\Q (.bl (!PyData.eqv d e)) H) vNe:=by
 intro H p q x y A B z Q r1 r2 e k
 unfold vNe at e
 split at e
 ·rename_i hc;cases e
  unfold wy at hc
  simp only [Bool.and_eq_true,decide_eq_true_eq] at hc
  obtain ⟨⟨⟨a1,a2⟩,a3⟩,⟨b1,b2⟩,b3⟩:=hc
  exact ⟨_,_,Rp.rep p a1 r1,Rp.rep q b1 r2,a2,b2,a3,k _ H [] (Same.refl _) (.mkB _) .nil (by simp)⟩
 ·cases e
theorem jV(h:xI p=true)(r:Rp K H p v A):wT v=true:=by
 cases p<;>first | (simp [xI] at h;done) | skip
 ·rw [r.N.1];rfl
 ·rw [r.B.1];rfl
 ·rw [r.I.1];rfl
 ·rw [r.S.1];rfl
theorem znH(h:xI p=true)(h':xI q=true)(r:Rp K H p v A)(r':Rp K H q w B):eqV v w=eqS p q:=by
 cases p<;>cases q<;>first | (simp [xI] at h;done) | (simp [xI] at h';done) | skip
 all_goals first
  | rw [r.N.1,r'.N.1];rfl
  | rw [r.N.1,r'.B.1];rfl
  | rw [r.N.1,r'.I.1];rfl
  | rw [r.N.1,r'.S.1];rfl
  | rw [r.B.1,r'.N.1];rfl
  | rw [r.B.1,r'.B.1];rfl
  | rw [r.B.1,r'.I.1];rfl
  | rw [r.B.1,r'.S.1];rfl
  | rw [r.I.1,r'.N.1];rfl
  | rw [r.I.1,r'.B.1];rfl
  | rw [r.I.1,r'.I.1];rfl
  | rw [r.I.1,r'.S.1];rfl
  | rw [r.S.1,r'.N.1];rfl
  | rw [r.S.1,r'.B.1];rfl
  | rw [r.S.1,r'.I.1];rfl
  | rw [r.S.1,r'.S.1];rfl
theorem zdO{H:Hp}{p:PV}{v:V}{A:List Addr}(h:xI p=true)(r:Rp K H p v A):∀ {ps:List PV} {xs:List V} {B:List Addr},ps.all xI=true->Rps K H ps xs B->xs.all wT=true/\inV v xs=inP p ps
 | [],_,_,_,g=>by rw [g.inv0.1];exact ⟨rfl,rfl⟩
 | q::ps,_,_,hq,g=>by
  obtain ⟨w,r',A1,A2,rfl,_,h3,h4⟩:=g.inv
  rw [List.all_cons,JR] at hq
  obtain ⟨i1,i2⟩:=zdO h r hq.2 h4
  refine ⟨by rw [List.all_cons,jV hq.1 h3,i1];rfl,?_⟩
  unfold inV inP at i2 ⊢
  rw [KC,KC,znH hq.1 h h3 r,i2]
theorem jQ:∀ {ks:List Key} {xs:List V} (h:ks.length=xs.length) (k:Key),(vY (ks.zip xs) k).isSome=qw ks k
 | [],[],_,_=>rfl
 | [],_::_,h,_=>by simp at h
 | _::_,[],h,_=>by simp at h
 | k'::ks,x::xs,h,k=>by
  have ih:=jQ (ks:=ks) (xs:=xs) (by simpa using h) k
  rw [← v7] at ih ⊢
  unfold qw at ih ⊢
  rw [Qf,KC,KC,ih]
noncomputable def zit(K:PySem.W.Frag)(neg:Bool):R2:=fun x y H Q=>∃ b,(zjz K H y x b∨∃ a kvs,x=.non/\y=.ref a/\H a=some (.dK kvs)/\b=false)/\Q (.bl (if neg then !b else b)) H
theorem znc(hu:X.A.units+1<cLine):OpR X (compareOp .In) (zit X.K false):=by
 intro pins s σ H x y v u Q I rx ry h
 obtain ⟨b,h | ⟨a,kvs,rfl,rfl,h,rfl⟩,q⟩:=h
 ·exact zeD hu pins s σ H x y v u Q I rx ry ⟨b,h,q⟩
 ·exact zbd hu pins s σ H _ _ v u Q I rx ry ⟨a,rfl,.inr ⟨kvs,rfl,h,q⟩⟩
theorem zgz(hu:X.A.units+1<cLine):OpR X (compareOp .NotIn) (zit X.K true):=by
 intro pins s σ H x y v u Q I rx ry h
 obtain ⟨b,h | ⟨a,kvs,rfl,rfl,h,rfl⟩,q⟩:=h
 ·exact qh hu pins s σ H x y v u Q I rx ry ⟨b,h,q⟩
 ·cases ry
  cases rx
  obtain ⟨z,hd,vs,rel,dd⟩:=zdW I.hok h
  exact wpAny_notIn_of (knd:=qf X.prog X.w) (k:=none) rfl hd (zbo dd.mapOf) ⟨.bl true,H,I.tok _,rfl,q⟩
theorem zjN{H:Hp}(r1:Rp K H p x A)(r2:Rp K H q y B)(e:vIn p q=some b):zjz K H y x b∨∃ a kvs,x=.non/\y=.ref a/\H a=some (.dK kvs)/\b=false:=by
 cases q<;>first | (cases e;done) | skip
 ·simp only [vIn] at e
  split at e
  ·rename_i hc;cases e
   rw [JR] at hc
   obtain ⟨a,xs,e1,g0,g1⟩:=r2.T
   obtain ⟨i1,i2⟩:=zdO hc.1 r1 hc.2 g1
   exact .inl (.inl ⟨a,xs,e1,.inr g0,jV hc.1 r1,i1,i2.symm⟩)
  ·cases e
 ·simp only [vIn] at e
  split at e
  ·rename_i hc;cases e
   rw [JR] at hc
   obtain ⟨a,xs,B1,e1,g0,_,g1⟩:=r2.L
   obtain ⟨i1,i2⟩:=zdO hc.1 r1 hc.2 g1
   exact .inl (.inl ⟨a,xs,e1,.inl (SqL.of g0),jV hc.1 r1,i1,i2.symm⟩)
  ·cases e
 ·simp only [vIn] at e
  split at e
  ·rename_i hc;cases e
   rw [JR] at hc
   obtain ⟨a,xs,e1,g0,g1⟩:=r2.Fl
   obtain ⟨i1,i2⟩:=zdO hc.1 r1 hc.2 g1
   exact .inl (.inl ⟨a,xs,e1,.inl g0.seq,jV hc.1 r1,i1,i2.symm⟩)
  ·cases e
 ·obtain ⟨a,xs,B1,e1,g0,gl,_,g1⟩:=r2.D
  have hl:=g1.length
  cases p<;>first | (cases e;done) | skip
  ·cases e
   exact .inr ⟨a,_,r1.N.1,e1,g0,rfl⟩
  ·cases e
   refine .inl (.inr ⟨a,_,e1,by rw [r1.I.1];exact DGet.k (k:=Sum.inl _) g0,?_⟩)
   rw [jQ (by omega)]
  ·cases e
   refine .inl (.inr ⟨a,_,e1,by rw [r1.S.1];exact DGet.k (k:=Sum.inr _) g0,?_⟩)
   rw [jQ (by omega)]
theorem zmY:OpV K (zit K false) ye:=by
 intro H p q x y A B z Q r1 r2 e k
 unfold ye at e
 cases hb:vIn p q with
 | none=>rw [hb] at e;cases e
 | some b=>rw [hb] at e;cases e;exact ⟨b,zjN r1 r2 hb,k _ H [] (Same.refl _) (.mkB _) .nil (by simp)⟩
theorem zgw:OpV K (zit K true) z7:=by
 intro H p q x y A B z Q r1 r2 e k
 unfold z7 at e
 cases hb:vIn p q with
 | none=>rw [hb] at e;cases e
 | some b=>rw [hb] at e;cases e;exact ⟨b,zjN r1 r2 hb,k _ H [] (Same.refl _) (.mkB _) .nil (by simp)⟩
end
end F
namespace L2
theorem PE.or{t t':TE}(h:PE X e t)(h':PE X e t'):PE X e (fun σ H Q=>t σ H Q∨t' σ H Q):=fun pins s σ H Q I hw=>hw.elim (h pins s σ H Q I) (h' pins s σ H Q I)
theorem PS.or{t t':TS}(h:PS X e t)(h':PS X e t'):PS X e (fun D σ H=>t D σ H∨t' D σ H):=fun pins s σ H D I hw=>hw.elim (h pins s σ H D I) (h' pins s σ H D I)
end L2
namespace F
open PySem PySem.Spec PyProof.Rows L2
noncomputable def zbF(ks:List Key)(vs:List PV)(k:Key):Option PV:=((ks.zip vs).find? fun kv=>decide (kv.1=k)).map (·.2)
noncomputable def vIx:PV->PV->Option PV
 | .lst xs,.int i=>atI xs i
 | .fls xs,.int i=>atI xs i
 | .tup xs,.int i=>atI xs i
 | .str z,.int i=>if z.length≤100000 then (atI z.cps.toList i).map fun c=>.str ⟨#[c]⟩ else none
 | .dct ks vs,.int i=>zbF ks vs (.inl i)
 | .dct ks vs,.str x=>zbF ks vs (.inr x)
 | _,_=>none
theorem Cat.sub{c:Cat}{A C:List Addr}(h:c.ok H own A)(s:C.Sublist A):c.ok H own C:=by
 cases c with
 | mv L=>exact ⟨h.1.sublist s,fun a ha=>h.2 a (s.subset ha)⟩
 | sh=>exact fun a ha=>h a (s.subset ha)
 | bo=>trivial
section
variable {K:PySem.W.Frag} {H:Hp}
theorem Rps.atI(r:Rps K H ps xs A)(h:L2.atI ps i=some p):∃ v C,L2.atI xs i=some v/\Rp K H p v C/\C.Sublist A:=by
 unfold L2.atI at h ⊢
 rw [← r.length]
 cases e:ixN ps.length i with
 | none=>rw [e] at h;cases h
 | some j=>
  rw [e] at h
  exact r.get h
theorem qP:∀ {ks:List Key} {ps:List PV} {xs:List V} {A:List Addr} {k:Key} {p:PV},Rps K H ps xs A->zbF ks ps k=some p->∃ v C,vY (ks.zip xs) k=some v/\Rp K H p v C/\C.Sublist A
 | [],_,_,_,_,_,_,h=>by simp [zbF] at h
 | k'::ks,[],_,_,_,_,_,h=>by simp [zbF] at h
 | k'::ks,q::ps,_,_,k,p,r,h=>by
  obtain ⟨w,r',A1,A2,rfl,rfl,h3,h4⟩:=r.inv
  unfold zbF at h
  rw [Qf,List.find?_cons] at h
  by_cases hk:k'=k
  ·subst hk
   simp at h
   subst h
   exact ⟨w,A1,by rw [Qf];exact v3 rfl,h3,List.sublist_append_left _ _⟩
  ·have:decide (k'=k)=false:=decide_eq_false hk
   rw [show decide ((k',q).1=k)=false from this] at h
   obtain ⟨v,C,g1,g2,g3⟩:=qP (ks:=ks) h4 h
   refine ⟨v,C,?_,g2,g3.trans (List.sublist_append_right _ _)⟩
   rw [Qf]
   unfold vY at g1 ⊢
   rw [List.find?_cons,show decide ((k',w).1=k)=false from this]
   exact g1
end
section
variable {X:Cx} {κ:Nat->Option Nat} {G:Hp} {c c1 c2:Cat} {a b e:Expr} {es:List Expr} {fa fb f:FE} {t u:FT} {fs:FA} {pos:Pos} {g h:FS} {st:Stmt} {zg:List Stmt}
theorem zhi{gg:PV->PV->Option PV}(e:fOp gg fa fb env=some z):∃ p q,fa env=some p/\fb env=some q/\gg p q=some z:=by
 unfold fOp at e
 replace e:=Ja.mp e;obtain ⟨p,hp,e⟩:=e
 replace e:=Ja.mp e;obtain ⟨q,hq,e⟩:=e
 exact ⟨p,q,hp,hq,e⟩
theorem zmk(hu:X.A.units+1<cLine)(ha:VE X κ G c a fa)(hb:VE X κ G c2 b fb)(hs:zef b):VE X κ G c (.Subscript a b pos) (fOp vIx fa fb):=
 ((zmS zly ha hb hs).or (ziF hu ha hb hs)).imp fun σ H Q hq_=>by
 refine hq_.elim fun own env z I e k=>?_
 obtain ⟨p,q,hp,hq,e⟩:=zhi e
 have go:∀ x H1 A,Same H H1->Rp X.K H1 p x A->c.ok H own A->∀ (R:V->Hp->Prop),(∀ y H2 B,Same H1 H2->Rp X.K H2 q y B->R y H2)->tV X.K κ G c2 fb σ H1 R:=fun x H1 A s1 r1 _ R hR=>(.in (I.grow s1) hq fun y H2 B s2 r2 _=>hR y H2 B s2 r2)
 unfold vIx at e
 split at e
 ·refine .inl (.in I hp fun x H1 A s1 r1 c1=>go x H1 A s1 r1 c1 _ fun y H2 B s2 r2=>.inl ?_)
  obtain ⟨ad,xs,B1,e1,h1,rfl,g1⟩:=(Rp.same s2 _ r1).L
  obtain ⟨v,C,h3,h4,h5⟩:=g1.atI e
  exact ⟨ad,xs,_,v,e1,r2.I.1,SqL.of h1,h3,k v H2 C (s1.trans s2) h4 (Cat.sub c1 (h5.trans (List.sublist_cons_self _ _)))⟩
 ·refine .inl (.in I hp fun x H1 A s1 r1 c1=>go x H1 A s1 r1 c1 _ fun y H2 B s2 r2=>.inl ?_)
  obtain ⟨ad,xs,e1,h1,g1⟩:=(Rp.same s2 _ r1).Fl
  obtain ⟨v,C,h3,h4,h5⟩:=g1.atI e
  exact ⟨ad,xs,_,v,e1,r2.I.1,h1.seq,h3,k v H2 C (s1.trans s2) h4 (Cat.sub c1 h5)⟩
 ·refine .inl (.in I hp fun x H1 A s1 r1 c1=>go x H1 A s1 r1 c1 _ fun y H2 B s2 r2=>.inr (.inl ?_))
  obtain ⟨ad,xs,e1,h1,g1⟩:=(Rp.same s2 _ r1).T
  obtain ⟨v,C,h3,h4,h5⟩:=g1.atI e
  exact ⟨ad,xs,_,v,e1,r2.I.1,h1,h3,k v H2 C (s1.trans s2) h4 (Cat.sub c1 h5)⟩
 ·rename_i zz ii
  split at e
  case isFalse=>cases e
  rename_i hl
  cases hc:atI zz.cps.toList ii with
  | none=>rw [hc] at e;cases e
  | some ch=>
   rw [hc] at e
   have ez:z=.str ⟨#[ch]⟩:=(Js e).symm
   refine .inl (.in I hp fun x H1 A s1 r1 c1=>go x H1 A s1 r1 c1 _ fun y H2 B s2 r2=>.inr (.inr ?_))
   exact ⟨_,_,ch,r1.S.1,r2.I.1,by rw [sizeLine_eq];omega,hc,k _ H2 [] (s1.trans s2) (by rw [ez];exact .mkS _) (Cat.nil _ _ _)⟩
 ·refine .inr (.in I hp fun x H1 A s1 r1 c1=>go x H1 A s1 r1 c1 _ fun y H2 B s2 r2=>?_)
  obtain ⟨ad,xs,B1,e1,h1,hl,rfl,g1⟩:=(Rp.same s2 _ r1).D
  obtain ⟨v,C,h3,h4,h5⟩:=qP g1 e
  exact ⟨ad,v,e1,by rw [r2.I.1,← h3];exact DGet.k (k:=Sum.inl _) h1,k v H2 C (s1.trans s2) h4 (Cat.sub c1 (h5.trans (List.sublist_cons_self _ _)))⟩
 ·refine .inr (.in I hp fun x H1 A s1 r1 c1=>go x H1 A s1 r1 c1 _ fun y H2 B s2 r2=>?_)
  obtain ⟨ad,xs,B1,e1,h1,hl,rfl,g1⟩:=(Rp.same s2 _ r1).D
  obtain ⟨v,C,h3,h4,h5⟩:=qP g1 e
  exact ⟨ad,v,e1,by rw [r2.S.1,← h3];exact DGet.k (k:=Sum.inr _) h1,k v H2 C (s1.trans s2) h4 (Cat.sub c1 (h5.trans (List.sublist_cons_self _ _)))⟩
 ·cases e
noncomputable def jL(K:PySem.W.Frag)(r:List V->Hp->VK->Prop)(gg:List PV->Option PV):Prop:=∀ (H:Hp) (ps:List PV) (vs:List V) (A:List Addr) (z:PV) (Q:VK),Rps K H ps vs A->gg ps=some z->
 (∀ v H' C,Same H H'->Rp K H' z v C->C.Nodup->(∀ a ∈ C,H a=none)->Q v H')->r vs H Q
theorem zfQ{K:PySem.W.Frag}{r:List V->Hp->VK->Prop}{gg:List PV->Option PV}(hv:jL K r gg)(σ:St)(H:Hp)(Q:VK)(h:tV K κ G (.mv []) (zE gg fs) σ H Q):tCB r (tVA K κ G c fs) σ H Q:=by
 obtain ⟨own,env,z,I,hf,k⟩:=h
 unfold zE at hf
 replace hf:=Ja.mp hf;obtain ⟨qs,hp,hf⟩:=hf
 exact (.in I hp fun vs H1 A s1 r1 _=>hv H1 qs vs A z Q r1 hf fun v H' C s2 r2 nd fr=>k v H' C (s1.trans s2) r2 ⟨nd,fun a ha=>.inl (s1.free (fr a ha))⟩)
theorem zfB{x:Str}{p:Pos}{id:String}{r:List V->Hp->VK->Prop}{gg:List PV->Option PV}(hv:jL X.K r gg)(hc:CallR X (.builtin id) r)(hg:Gl X x)(hm:X.mg x=none)(hb:bootBuiltins x=some (.builtin id))(ha:VA X κ G c (e::es) fs)(hn:x≠"__name__":=by decide)(hdb:(x == ("__debug__":Str))=false:=by decide)
  (he:starEach (e::es) X.env=(false,eval e X.env)::starEach es X.env:=by rfl)(hpl:(backTo pos (starEach es X.env)).any (·.1)=false:=by rfl):VE X κ G (.mv []) (.Call (.Name x p) (e::es) [] pos) (zE gg fs):=(zgu hc hg hm hb ha.1 hn hdb he hpl).imp (zfQ hv)
theorem zem(hv:jL X.K r gg)(hc:CallR X (.type T) r)(hg:Gl X x)(hm:X.mg x=none)(hb:bootBuiltins x=some (.type T))(ha:VA X κ G c (e::es) fs)(hn:x≠"__name__":=by decide)(hdb:(x == ("__debug__":Str))=false:=by decide)
  (he:starEach (e::es) X.env=(false,eval e X.env)::starEach es X.env:=by rfl)(hpl:(backTo pos (starEach es X.env)).any (·.1)=false:=by rfl):VE X κ G (.mv []) (.Call (.Name x p) (e::es) [] pos) (zE gg fs):=(zeB hc hg hm hb ha.1 hn hdb he hpl).imp (zfQ hv)
noncomputable def yH:List PV->Option PV
 | [.lst xs]=>some (.int xs.length)
 | [.fls xs]=>some (.int xs.length)
 | [.tup xs]=>some (.int xs.length)
 | [.dct ks _]=>some (.int ks.length)
 | [.str z]=>if z.length≤100000 then some (.int z.length) else none
 | _=>none
theorem zlJ:CallR X (.builtin "len") (fun xs H Q=>(∃ p ys,xs=[.ref p]/\(SqL X.K H p ys∨SqT X.K H p ys)/\Q (.int ys.length) H)∨((∃ a kvs,xs=[V.ref a]/\H a=some (.dK kvs)/\Q (.int kvs.length) H)∨∃ z,xs=[.str z]/\z.length≤sizeLine/\Q (.int z.length) H)):=call_len_seq.or (call_lenD.or zah)
theorem z8{K:PySem.W.Frag}{H:Hp}{p:PV}{vs:List V}{A:List Addr}(r:Rps K H [p] vs A):∃ v,vs=[v]/\Rp K H p v A:=by
 obtain ⟨v,r',A1,A2,h1,h2,h3,h4⟩:=r.inv
 obtain ⟨h5,h6⟩:=h4.inv0
 exact ⟨v,by rw [h1,h5],by rw [h2,h6,JS];exact h3⟩
theorem zcb{K:PySem.W.Frag}{H:Hp}{p q:PV}{vs:List V}{A:List Addr}(r:Rps K H [p,q] vs A):∃ v w A1 A2,vs=[v,w]/\A=A1++A2/\Rp K H p v A1/\Rp K H q w A2:=by
 obtain ⟨v,r',A1,A2,h1,h2,h3,h4⟩:=r.inv
 obtain ⟨w,h5,h6⟩:=z8 h4
 exact ⟨v,w,A1,A2,by rw [h1,h5],h2,h3,h6⟩
theorem zlI{K:PySem.W.Frag}:jL K (fun xs H Q=>(∃ p ys,xs=[.ref p]/\(SqL K H p ys∨SqT K H p ys)/\Q (.int ys.length) H)∨((∃ a kvs,xs=[V.ref a]/\H a=some (.dK kvs)/\Q (.int kvs.length) H)∨∃ z,xs=[.str z]/\z.length≤sizeLine/\Q (.int z.length) H)) yH:=by
 intro H ps vs A z Q r e k
 have fin:∀ n:Int,z=.int n->Q (.int n) H:=fun n e=>k _ H [] (Same.refl _) (by rw [e];exact .mkI n) .nil (by simp)
 unfold yH at e
 split at e
 ·rename_i xs
  obtain ⟨v,rfl,rr⟩:=z8 r
  obtain ⟨a,ys,B,e1,h1,_,g⟩:=rr.L
  exact .inl ⟨a,ys,by rw [e1],.inl (SqL.of h1),fin _ (by rw [← g.length];exact (Js e).symm)⟩
 ·rename_i xs
  obtain ⟨v,rfl,rr⟩:=z8 r
  obtain ⟨a,ys,e1,h1,g⟩:=rr.Fl
  exact .inl ⟨a,ys,by rw [e1],.inl h1.seq,fin _ (by rw [← g.length];exact (Js e).symm)⟩
 ·rename_i xs
  obtain ⟨v,rfl,rr⟩:=z8 r
  obtain ⟨a,ys,e1,h1,g⟩:=rr.T
  exact .inl ⟨a,ys,by rw [e1],.inr h1,fin _ (by rw [← g.length];exact (Js e).symm)⟩
 ·rename_i ks xs
  obtain ⟨v,rfl,rr⟩:=z8 r
  obtain ⟨a,ys,B,e1,h1,hl,_,g⟩:=rr.D
  refine .inr (.inl ⟨a,_,by rw [e1],h1,fin _ ?_⟩)
  rw [List.length_zip,← g.length,← hl,Nat.min_self]
  exact (Js e).symm
 ·rename_i y
  obtain ⟨v,rfl,rr⟩:=z8 r
  split at e
  ·rename_i hl
   exact .inr (.inr ⟨y,by rw [rr.S.1],by rw [sizeLine_eq];omega,fin _ (Js e).symm⟩)
  ·cases e
 ·cases e
noncomputable def wX:List PV->Option PV
 | [.lst xs]=>if isDatas xs=true then some (.lst xs) else none
 | [.fls xs]=>if isDatas xs=true then some (.lst xs) else none
 | [.tup xs]=>if isDatas xs=true then some (.lst xs) else none
 | [.dct ks _]=>some (.lst (ks.map fun k=>match k with | .inl i=>.int i | .inr x=>.str x))
 | _=>none
noncomputable def ud:List PV->Option PV
 | [.lst xs]=>if isDatas xs=true then some (.tup xs) else none
 | [.fls xs]=>if isDatas xs=true then some (.tup xs) else none
 | [.tup xs]=>if isDatas xs=true then some (.tup xs) else none
 | _=>none
theorem kB{K:PySem.W.Frag}{H:Hp}:∀ (ks:List Key),Rps K H (ks.map fun k=>match k with | .inl i=>.int i | .inr x=>.str x) (ks.map kV) []
 | []=>.nil
 | .inl i::ks=>by
  have:=Rps.cons (K:=K) (H:=H) (.mkI i) (kB ks)
  exact this
 | .inr x::ks=>by
  have:=Rps.cons (K:=K) (H:=H) (.mkS x) (kB ks)
  exact this
theorem zjt(hc:X.calm=true):CallR X (.type "list") (fun xs H Q=>(∃ p ys,xs=[.ref p]/\(SqL X.K H p ys∨SqT X.K H p ys)/\∀ l,H l=none->Q (.ref l) (upd H l (.lst ys)))∨∃ p kvs,xs=[.ref p]/\H p=some (.dK kvs)/\∀ l,H l=none->Q (.ref l) (upd H l (.lst (kvs.map fun kv=>kV kv.1)))):=call_list_of.or (kR hc)
theorem zjs{K:PySem.W.Frag}:jL K (fun xs H Q=>(∃ p ys,xs=[.ref p]/\(SqL K H p ys∨SqT K H p ys)/\∀ l,H l=none->Q (.ref l) (upd H l (.lst ys)))∨∃ p kvs,xs=[.ref p]/\H p=some (.dK kvs)/\∀ l,H l=none->Q (.ref l) (upd H l (.lst (kvs.map fun kv=>kV kv.1)))) wX:=by
 intro H ps vs A z Q r e k
 unfold wX at e
 split at e
 ·rename_i xs
  obtain ⟨v,rfl,rr⟩:=z8 r
  split at e
  ·rename_i hd;cases e
   obtain ⟨a,ys,B,e1,h1,_,g⟩:=rr.L
   exact .inl ⟨a,ys,by rw [e1],.inl (SqL.of h1),xU hd g k (z:=.non)⟩
  ·cases e
 ·rename_i xs
  obtain ⟨v,rfl,rr⟩:=z8 r
  split at e
  ·rename_i hd;cases e
   obtain ⟨a,ys,e1,h1,g⟩:=rr.Fl
   exact .inl ⟨a,ys,by rw [e1],.inl h1.seq,xU hd g k (z:=.non)⟩
  ·cases e
 ·rename_i xs
  obtain ⟨v,rfl,rr⟩:=z8 r
  split at e
  ·rename_i hd;cases e
   obtain ⟨a,ys,e1,h1,g⟩:=rr.T
   exact .inl ⟨a,ys,by rw [e1],.inr h1,xU hd g k (z:=.non)⟩
  ·cases e
 ·rename_i ks xs
  obtain ⟨v,rfl,rr⟩:=z8 r
  obtain ⟨a,ys,B,e1,h1,hl,_,g⟩:=rr.D
  cases e
  refine .inr ⟨a,_,by rw [e1],h1,?_⟩
  have e2:(ks.zip ys).map (fun kv=>kV kv.1)=ks.map kV:=by
   have:(ks.zip ys).map (fun kv=>kV kv.1)=((ks.zip ys).map Prod.fst).map kV:=by rw [Kr];rfl
   rw [this,List.map_fst_zip (by rw [← g.length,hl];exact Jj _)]
  rw [e2]
  exact xU (yh _ (fun k=>by cases k<;>rfl) ks) (kB ks) k (z:=.non)
 ·cases e
theorem zhv{K:PySem.W.Frag}:jL K (fun xs H Q=>∃ p ys,xs=[.ref p]/\((SqL K H p ys/\∀ l,H l=none->Q (.ref l) (upd H l (.tup ys)))∨(SqT K H p ys/\Q (.ref p) H))) ud:=by
 intro H ps vs A z Q r e k
 unfold ud at e
 split at e
 ·rename_i xs
  obtain ⟨v,rfl,rr⟩:=z8 r
  split at e
  ·rename_i hd;cases e
   obtain ⟨a,ys,B,e1,h1,_,g⟩:=rr.L
   exact ⟨a,ys,by rw [e1],.inl ⟨SqL.of h1,jR hd g k (z:=.non)⟩⟩
  ·cases e
 ·rename_i xs
  obtain ⟨v,rfl,rr⟩:=z8 r
  split at e
  ·rename_i hd;cases e
   obtain ⟨a,ys,e1,h1,g⟩:=rr.Fl
   exact ⟨a,ys,by rw [e1],.inl ⟨h1.seq,jR hd g k (z:=.non)⟩⟩
  ·cases e
 ·rename_i xs
  obtain ⟨v,rfl,rr⟩:=z8 r
  split at e
  ·rename_i hd;cases e
   obtain ⟨a,ys,e1,h1,g⟩:=rr.T
   have:=Rps.data xs hd g
   subst this
   exact ⟨a,ys,by rw [e1],.inr ⟨h1,k _ H [] (Same.refl _) (.mkT h1 g) .nil (by simp)⟩⟩
  ·cases e
 ·cases e
noncomputable def zoj:List PV->Option PV
 | [.int i]=>some (.int i)
 | [.bl b]=>some (.int (if b then 1 else 0))
 | _=>none
noncomputable def zbG(xs:List PV)(lo hi:Option Int):List PV:=(xs.drop (HT.sIx xs.length 0 lo)).take (HT.sIx xs.length xs.length hi - HT.sIx xs.length 0 lo)
noncomputable def vSl:PV->Option Int->Option Int->Option PV
 | .lst xs,lo,hi=>if isDatas xs=true then some (.lst (zbG xs lo hi)) else none
 | .fls xs,lo,hi=>if isDatas xs=true then some (.lst (zbG xs lo hi)) else none
 | .tup xs,lo,hi=>if isDatas xs=true then some (.tup (zbG xs lo hi)) else none
 | _,_,_=>none
noncomputable abbrev FO:=En->Option (Option Int)
noncomputable def wM:FO:=fun _=>some none
noncomputable def jI(f:FE):FO:=fun env=>(f env).bind fun p=>match p with | .int i=>some (some i) | _=>none
noncomputable def tVO(K:PySem.W.Frag)(κ:Nat->Option Nat)(G:Hp)(f:FO):TO:=fun σ H Q=>∃ own env o,VI K κ G own env σ H/\f env=some o/\∀ H',Same H H'->Q o H'
theorem tVO.in{K:PySem.W.Frag}{κ:Nat->Option Nat}{G:Hp}{f:FO}{σ:St}{H:Hp}{Q:Option Int->Hp->Prop}{own:Addr->Option Nat}{env:En}{p:Option Int}(I:VI K κ G own env σ H)(hf:f env=some p)(k:∀ H',Same H H'->Q p H'):tVO K κ G f σ H Q:=⟨own,env,p,I,hf,k⟩
theorem tVO.elim{K:PySem.W.Frag}{κ:Nat->Option Nat}{G:Hp}{f:FO}{σ:St}{H:Hp}{Q:Option Int->Hp->Prop}{C:Prop}(h:tVO K κ G f σ H Q)(k:∀ own env (p:Option Int),VI K κ G own env σ H->f env=some p->(∀ H',Same H H'->Q p H')->C):C:=
 let ⟨own,env,p,I,hf,q⟩:=h
 k own env p I hf q
noncomputable def VO(X:Cx)(κ:Nat->Option Nat)(G:Hp)(e:Option Expr)(f:FO):Prop:=PO X e (tVO X.K κ G f)
theorem zib:VO X κ G none wM:=fun pins s σ H Q I ⟨own,env,o,I',e,k⟩=>by
 cases e
 exact ziC pins s σ H Q I (k H (Same.refl _))
theorem zia(h:VE X κ G c e f):VO X κ G (some e) (jI f):=fun pins s σ H Q I ⟨own,env,o,I',hf,k⟩=>by
 refine ziB h pins s σ H Q I ?_
 unfold jI at hf
 replace hf:=Ja.mp hf;obtain ⟨p,hp,hf⟩:=hf
 refine (.in I' hp fun v H' A s r _=>?_)
 cases p<;>first | (cases hf;done) | skip
 cases hf
 exact ⟨_,r.I.1,k H' s⟩
theorem Rps.take_{K:PySem.W.Frag}{H:Hp}:∀ {ps:List PV} {xs:List V} (n:Nat),Rps K H ps xs []->Rps K H (ps.take n) (xs.take n) []
 | _,_,0,_=>by simpa using Rps.nil
 | [],_,n+1,r=>by rw [r.inv0.1];simpa using Rps.nil
 | p::ps,_,n+1,r=>by
  obtain ⟨v,r',A1,A2,rfl,h2,h3,h4⟩:=r.inv
  obtain ⟨rfl,rfl⟩:=Ky.mp h2.symm
  exact Rps.cons h3 (Rps.take_ n h4)
theorem Rps.drop_{K:PySem.W.Frag}{H:Hp}:∀ {ps:List PV} {xs:List V} (n:Nat),Rps K H ps xs []->Rps K H (ps.drop n) (xs.drop n) []
 | _,_,0,r=>r
 | [],_,n+1,r=>by rw [r.inv0.1];simpa using Rps.nil
 | p::ps,_,n+1,r=>by
  obtain ⟨v,r',A1,A2,rfl,h2,h3,h4⟩:=r.inv
  obtain ⟨rfl,rfl⟩:=Ky.mp h2.symm
  exact Rps.drop_ n h4
theorem Rps.cut{K:PySem.W.Frag}{H:Hp}{ps:List PV}{xs:List V}{lo hi:Option Int}(r:Rps K H ps xs []):Rps K H (zbG ps lo hi) (kN xs lo hi) []:=by
 unfold zbG kN
 rw [r.length]
 exact Rps.take_ _ (Rps.drop_ _ r)
theorem wk(h:isDatas xs=true)(s:∀ y ∈ ys,y ∈ xs):isDatas ys=true:=by
 rw [xW] at h ⊢
 exact fun y hy=>h y (s y hy)
theorem kO{xs:List PV}{lo hi:Option Int}:∀ y ∈ zbG xs lo hi,y ∈ xs:=fun y hy=>Ql (QH hy)
noncomputable def fSl(f:FE)(l h:FO):FE:=fun env=>(f env).bind fun p=>(l env).bind fun lo=>(h env).bind fun hi=>vSl p lo hi
theorem zfy{lo hi:Option Expr}{fl fh:FO}{p2:Pos}(he:VE X κ G c e f)(hl:VO X κ G lo fl)(hh:VO X κ G hi fh):VE X κ G (.mv []) (.Subscript e (.Slice lo hi none p2) pos) (fSl f fl fh):=
 (zgr (sl_list.or zim) he hl hh).imp fun σ H Q hq_=>by
 refine hq_.elim fun own env z I e k=>?_
 unfold fSl at e
 replace e:=Ja.mp e;obtain ⟨p,hp,e⟩:=e
 replace e:=Ja.mp e;obtain ⟨l,h1,e⟩:=e
 replace e:=Ja.mp e;obtain ⟨u,h2,e⟩:=e
 refine (.in I hp fun x H1 A s1 r1 _=>(.in (I.grow s1) h1 fun H2 s2=>(.in (I.grow (s1.trans s2)) h2 fun H3 s3=>?_)))
 have sA:=s1.trans (s2.trans s3)
 have k':∀ v H' C,Same H3 H'->Rp X.K H' z v C->C.Nodup->(∀ a ∈ C,H3 a=none)->Q v H':=fun v H' C s r nd fr=>k v H' C (sA.trans s) r ⟨nd,fun a ha=>.inl (sA.free (fr a ha))⟩
 have r3:=Rp.same (s2.trans s3) p r1
 unfold vSl at e
 split at e
 ·split at e
  case isFalse=>cases e
  rename_i hd
  cases e
  obtain ⟨a,xs,B1,e1,g0,_,g1⟩:=r3.L
  have:=Rps.data _ hd g1
  subst this
  exact .inl ⟨a,xs,e1,SqL.of g0,xU (wk hd kO) g1.cut k' (z:=.non)⟩
 ·split at e
  case isFalse=>cases e
  rename_i hd
  cases e
  obtain ⟨a,xs,e1,g0,g1⟩:=r3.Fl
  have:=Rps.data _ hd g1
  subst this
  exact .inl ⟨a,xs,e1,g0.seq,xU (wk hd kO) g1.cut k' (z:=.non)⟩
 ·split at e
  case isFalse=>cases e
  rename_i hd
  cases e
  obtain ⟨a,xs,e1,g0,g1⟩:=r3.T
  have:=Rps.data _ hd g1
  subst this
  refine .inr ⟨a,xs,e1,g0,fun hw=>?_,jR (wk hd kO) g1.cut k' (z:=.non)⟩
  have gc:=g1.cut (lo:=l) (hi:=u)
  rw [hw] at gc
  exact k' _ H3 [] (Same.refl _) (.mkT g0 gc) .nil (by simp)
 ·cases e
end
section
variable {X:Cx} {κ:Nat->Option Nat} {G:Hp} {c c1 c2:Cat} {a b e:Expr} {es:List Expr} {fa fb f:FE} {t u:FT} {fs:FA} {pos:Pos} {g h:FS} {st:Stmt} {zg:List Stmt} {O:List Nat}
theorem qG{env:En}(hf:zA i env=some p):env[i]?=some (some p):=by
 unfold zA at hf
 cases q:env[i]? with
 | none=>rw [q] at hf;cases hf
 | some z=>
  rw [q] at hf;have:z=some p:=by simpa using hf
  rw [this]
theorem zfV{σ:St}(h:σ[i]?=some (some v)):σ.set i (some v)=σ:=by
 apply KY
 intro j
 rw [QC]
 by_cases hij:i=j
 ·subst hij
  rw [if_pos rfl,if_pos (JB.mp h).1,h]
 ·rw [if_neg hij]
theorem VI.turn{K:PySem.W.Frag}{own:Addr->Option Nat}{env:En}{σ:St}{H0 H1:Hp}{i:Nat}{p:PV}{a:Addr}{o:HO}{B:List Addr}(hi:i ∈ O)(I:VI K (ko O) G own env σ H0)(s:Same H0 H1)(hσ:σ[i]?=some (some (.ref a)))(ho:own a=some i)
  (hm:MutH H0 a)(r:Rp K (upd H1 a o) p (.ref a) (a::B))(nd:(a::B).Nodup)(hB:∀ b ∈ B,own b=some i∨H0 b=none):
  VI K (ko O) G (acq own i (a::B)) (env.set i (some p)) σ (upd H1 a o)/\Ext own H0 (acq own i (a::B)) (upd H1 a o):=by
 have:=I.take (H2:=upd H1 a o) (v:=.ref a) hi (fun j q w C hj _ z hC=>Rp.upd (hm.same s) q (fun z'=>hC a z' ho) (Rp.same s q z)) (fun b u hb z=>by
  rw [zW (by rintro rfl;exact hb ho)];exact s b u z) r nd (fun b hb=>(Qa.mp hb).elim (fun z=>.inl (z ▸ ho)) (hB b))
 rw [zfV hσ] at this
 exact this
noncomputable def za(i:Nat)(f:FE):FS:=fun env=>(zA i env).bind fun l=>(f env).bind fun q=>match l with | .lst ps=>if ps.length<100000 then some (.nx (env.set i (some (.lst (ps++[q]))))) else none | _=>none
theorem zai{K:PySem.W.Frag}{own:Addr->Option Nat}{env:En}{σ:St}{H:Hp}{i:Nat}{ps:List PV}(hi:i ∈ O)(I:VI K (ko O) G own env σ H)(hf:zA i env=some (.lst ps)):
  ∃ a xs B,σ[i]?=some (some (.ref a))/\H a=some (.lst xs)/\Rps K H ps xs B/\(a::B).Nodup/\own a=some i/\∀ b ∈ B,own b=some i:=by
 obtain ⟨v,A,h1,h2,_,h3⟩:=I.slot i _ (qG hf)
 obtain ⟨nd,ho⟩:=h3 i (kA hi)
 obtain ⟨a,xs,B,rfl,h4,rfl,h5⟩:=h2.L
 exact ⟨a,xs,B,h1,h4,h5,nd,ho a Jf,fun b hb=>ho b (Jg _ hb)⟩
theorem zek(i:Nat)(hi:i ∈ O)(hp:PS X st (zfM (tBM X.K "list" zdr (jM i) (zfO (tV X.K (ko O) G (.mv []) f) zfK)))):VS X (ko O) G st (za i f):=hp.imp fun D σ H hq_=>by
 refine hq_.elim fun own env o I hf k=>?_
 unfold za at hf
 replace hf:=Ja.mp hf;obtain ⟨l,hl,hf⟩:=hf
 replace hf:=Ja.mp hf;obtain ⟨q,hq,hf⟩:=hf
 cases l<;>first | (cases hf;done) | skip
 rename_i ps
 dsimp only at hf
 split at hf
 case isFalse=>cases hf
 rename_i hlen
 cases hf
 obtain ⟨a,xs,B,hσ,ha,hr,nd,ho,hB⟩:=zai hi I hl
 refine ⟨.ref a,hσ,.inl ⟨rfl,xs,SqL.of ha⟩,.in I hq fun y H1 C s1 r1 c1=>⟨a,xs,y,rfl,rfl,s1 _ _ ha,by rw [← hr.length,sizeLine_eq];omega,?_⟩⟩
 have fr:∀ b ∈ C,H b=none:=fun b hb=>(c1.2 b hb).elim id fun ⟨_,z,_⟩=>nomatch z
 have nC:a ∉ C:=fun z=>by rw [fr a z] at ha;cases ha
 have nB:a ∉ B:=(Kh.mp nd).1
 have m1:MutH H1 a:=.inl ⟨xs,s1 _ _ ha⟩
 have hnd:(a::(B++C)).Nodup:=by
  rw [← List.cons_append]
  refine Qi.mpr ⟨nd,c1.1,fun x hx y' hy' hxy=>?_⟩
  subst hxy
  have hn:=fr x hy'
  rcases List.mem_cons.mp hx with rfl | hx
  ·exact nC hy'
  ·obtain ⟨o,ho⟩:=(Rps.mut ps hr x hx).some
   rw [hn] at ho;cases ho
 have hBC:∀ b ∈ B++C,own b=some i∨H b=none:=by
  intro b hb
  rcases List.mem_append.mp hb with hb | hb
  ·exact .inl (hB b hb)
  ·exact .inr (fr b hb)
 obtain ⟨h1,h2⟩:=I.turn (p:=.lst (ps++[q])) (o:=.lst (xs++[y])) (B:=B++C) hi s1 hσ ho (.inl ⟨xs,ha⟩)
  (.mkL zT ((Rps.upd m1 ps nB (Rps.same s1 ps hr)).append (Rps.one (Rp.upd m1 q nC r1)))) hnd hBC
 exact k _ _ _ h1 h2
noncomputable def zab(k i:Nat):FS:=fun env=>(zA i env).bind fun l=>match l with | .lst ps=>(ps.getLast?).bind fun q=>if isDatas ps=true then some (.nx ((env.set i (some (.lst ps.dropLast))).set k (some q))) else none | _=>none
theorem Rps.dropLast{K:PySem.W.Frag}{H:Hp}:∀ {ps:List PV} {xs:List V},Rps K H ps xs []->Rps K H ps.dropLast xs.dropLast []
 | [],_,r=>by rw [r.inv0.1];exact .nil
 | [p],_,r=>by
  obtain ⟨v,h1,_⟩:=z8 r
  rw [h1];exact .nil
 | p::q::ps,_,r=>by
  obtain ⟨v,r',A1,A2,rfl,h2,h3,h4⟩:=r.inv
  obtain ⟨rfl,rfl⟩:=Ky.mp h2.symm
  obtain ⟨w,r'',_,_,rfl,_,_,_⟩:=id h4.inv
  exact Rps.cons h3 (Rps.dropLast h4)
theorem zjX(k i:Nat)(hi:i ∈ O)(hk:k ∉ O)(hp:PS X st (uA (zmx X.K "list" zmG (jM i)) (wt k))):VS X (ko O) G st (zab k i):=hp.imp fun D σ H hq_=>by
 refine hq_.elim fun own env o I hf kk=>?_
 unfold zab at hf
 replace hf:=Ja.mp hf;obtain ⟨l,hl,hf⟩:=hf
 cases l<;>first | (cases hf;done) | skip
 rename_i ps
 dsimp only at hf
 replace hf:=Ja.mp hf;obtain ⟨q,hq,hf⟩:=hf
 split at hf
 case isFalse=>cases hf
 rename_i hd
 cases hf
 obtain ⟨a,xs,B,hσ,ha,hr,nd,ho,hB⟩:=zai hi I hl
 have eB:=Rps.data ps hd hr
 subst eB
 have hq':ps[xs.length - 1]?=some q:=by rw [← hr.length,← hq,List.getLast?_eq_getElem?]
 obtain ⟨y,C,hy,r1,hC⟩:=hr.get hq'
 have eC:C=[]:=List.sublist_nil.mp hC
 subst eC
 have m1:MutH H a:=.inl ⟨xs,ha⟩
 refine ⟨.ref a,hσ,.inl ⟨rfl,xs,SqL.of ha⟩,a,xs,y,rfl,rfl,ha,hy,?_⟩
 obtain ⟨h1,h2⟩:=I.turn (p:=.lst ps.dropLast) (o:=.lst xs.dropLast) (B:=[]) hi (Same.refl _) hσ ho m1 (.mkL zT (Rps.upd m1 _ (by simp) hr.dropLast)) (by simp) (by simp)
 exact kk _ _ _ (h1.set_sh (zcE hk) (Rp.upd m1 q (by simp) r1) (by simp)) h2
theorem Rps.reverse{K:PySem.W.Frag}{H:Hp}:∀ {ps:List PV} {xs:List V},Rps K H ps xs []->Rps K H ps.reverse xs.reverse []
 | [],_,r=>by rw [r.inv0.1];exact .nil
 | p::ps,_,r=>by
  obtain ⟨v,r',A1,A2,rfl,h2,h3,h4⟩:=r.inv
  obtain ⟨rfl,rfl⟩:=Ky.mp h2.symm
  rw [KW,KW]
  exact (Rps.reverse h4).append (Rps.one h3)
noncomputable def y6{α:Type}(ks:List Key)(vs:List α)(k:Key)(p:α):List Key × List α:=if qw ks k=true then (ks,List.zipWith (fun k' v=>if k'=k then p else v) ks vs) else (ks++[k],vs++[p])
theorem zhs{ks:List Key}{xs:List V}(hl:ks.length=xs.length)(k:Key)(v:V):uK (ks.zip xs) k v=(y6 ks xs k v).1.zip (y6 ks xs k v).2:=by
 have h:=jQ hl k
 rw [← v7] at h
 unfold uK y6
 by_cases hk:qw ks k=true
 ·rw [if_pos hk,h,hk,if_pos rfl]
  clear h hk
  induction ks generalizing xs with
  | nil=>simp
  | cons k' ks ih=>
   cases xs with
   | nil=>simp at hl
   | cons x xs=>
    simp only [List.zip_cons_cons,List.map_cons,List.zipWith_cons_cons]
    rw [ih (by simpa using hl)]
    by_cases e:k'=k<;>simp [e]
 ·rw [if_neg hk,h,if_neg hk]
  show ks.zip xs++[(k,v)]=(ks++[k]).zip (xs++[v])
  rw [List.zip_append hl]
  rfl
theorem zhu{α:Type}{ks:List Key}{vs:List α}(hl:ks.length=vs.length)(k:Key)(p:α):(y6 ks vs k p).1.length=(y6 ks vs k p).2.length:=by
 unfold y6
 split
 ·simp [hl]
 ·simp [hl]
theorem zeZ{α β:Type}{ks:List Key}{vs:List α}{ws:List β}(k:Key)(p:α)(q:β):(y6 ks vs k p).1=(y6 ks ws k q).1:=by
 unfold y6
 split<;>rfl
theorem zht{K:PySem.W.Frag}{H:Hp}{ks:List Key}{k:Key}{p:PV}{v:V}(rp:Rp K H p v []):∀ {ps:List PV} {xs:List V},Rps K H ps xs []->Rps K H (y6 ks ps k p).2 (y6 ks xs k v).2 []:=by
 intro ps xs r
 unfold y6
 split
 ·rename_i hk
  clear hk
  induction ks generalizing ps xs with
  | nil=>exact .nil
  | cons k' ks ih=>
   cases ps with
   | nil=>rw [r.inv0.1];exact .nil
   | cons q ps=>
    obtain ⟨w,r',A1,A2,rfl,h2,h3,h4⟩:=r.inv
    obtain ⟨rfl,rfl⟩:=Ky.mp h2.symm
    simp only [List.zipWith_cons_cons]
    by_cases e:k'=k
    ·rw [if_pos e,if_pos e];exact Rps.cons rp (ih h4)
    ·rw [if_neg e,if_neg e];exact Rps.cons h3 (ih h4)
 ·exact r.append (Rps.one rp)
noncomputable def wW(l:PV)(k q:PV):Option PV:=match l,k with
 | .lst ps,.int i=>if (isDatas ps && zQ q)=true then (ixN ps.length i).map fun j=>.lst (ps.set j q) else none
 | .dct ks vs,.int i=>if (isDatas vs && zQ q && decide (ks.length<100000))=true then some (.dct (y6 ks vs (.inl i) q).1 (y6 ks vs (.inl i) q).2) else none
 | .dct ks vs,.str x=>if (isDatas vs && zQ q && decide (ks.length<100000))=true then some (.dct (y6 ks vs (.inr x) q).1 (y6 ks vs (.inr x) q).2) else none
 | _,_=>none
noncomputable def ww(i:Nat)(fk f:FE):FS:=fun env=>(f env).bind fun q=>(zA i env).bind fun l=>(fk env).bind fun k=>(wW l k q).map fun l'=>.nx (env.set i (some l'))
theorem Rps.set_{K:PySem.W.Frag}{H:Hp}{q:PV}{y:V}(rq:Rp K H q y []):∀ {ps:List PV} {xs:List V} (j:Nat),Rps K H ps xs []->Rps K H (ps.set j q) (xs.set j y) []
 | [],_,_,r=>by rw [r.inv0.1];exact .nil
 | p::ps,_,0,r=>by
  obtain ⟨v,r',A1,A2,rfl,h2,h3,h4⟩:=r.inv
  obtain ⟨rfl,rfl⟩:=Ky.mp h2.symm
  exact Rps.cons rq h4
 | p::ps,_,j+1,r=>by
  obtain ⟨v,r',A1,A2,rfl,h2,h3,h4⟩:=r.inv
  obtain ⟨rfl,rfl⟩:=Ky.mp h2.symm
  exact Rps.cons h3 (Rps.set_ rq j h4)
theorem zlL{K:PySem.W.Frag}{own:Addr->Option Nat}{env:En}{σ:St}{H:Hp}{i:Nat}{ks:List Key}{ps:List PV}(hi:i ∈ O)(I:VI K (ko O) G own env σ H)(hf:zA i env=some (.dct ks ps)):
  ∃ a xs B,σ[i]?=some (some (.ref a))/\H a=some (.dK (ks.zip xs))/\ks.length=ps.length/\Rps K H ps xs B/\(a::B).Nodup/\own a=some i/\∀ b ∈ B,own b=some i:=by
 obtain ⟨v,A,h1,h2,_,h3⟩:=I.slot i _ (qG hf)
 obtain ⟨nd,ho⟩:=h3 i (kA hi)
 obtain ⟨a,xs,B,rfl,h4,hl,rfl,h5⟩:=h2.D
 exact ⟨a,xs,B,h1,h4,hl,h5,nd,ho a Jf,fun b hb=>ho b (Jg _ hb)⟩
theorem zhW(i:Nat)(hi:i ∈ O){fk:FE}(hp:PS X st (uA (tV X.K (ko O) G c f) (znA (jM i) (tV X.K (ko O) G c2 fk) zjG)))(hd:PS X st (zfZ (jM i) (tV X.K (ko O) G c2 fk) (tV X.K (ko O) G c f))):VS X (ko O) G st (ww i fk f):=(hp.or hd).imp fun D σ H hq_=>by
 refine hq_.elim fun own env o I hf k=>?_
 unfold ww at hf
 replace hf:=Ja.mp hf;obtain ⟨q,hq,hf⟩:=hf
 replace hf:=Ja.mp hf;obtain ⟨l,hl,hf⟩:=hf
 replace hf:=Ja.mp hf;obtain ⟨kk,hk,hf⟩:=hf
 cases hv:wW l kk q with
 | none=>rw [hv] at hf;cases hf
 | some l'=>
  rw [hv] at hf;cases hf
  unfold wW at hv
  have dput:∀ (ks:List Key) (ps:List PV) (key:Key),l=.dct ks ps->(∀ (H2:Hp) (y:V) (B:List Addr),Rp X.K H2 kk y B->y=kV key)->(isDatas ps && zQ q && decide (ks.length<100000))=true->l'=.dct (y6 ks ps key q).1 (y6 ks ps key q).2->zfZ (jM i) (tV X.K (ko O) G c2 fk) (tV X.K (ko O) G c f) D σ H:=by
   rintro ks ps key rfl hy hc rfl
   simp only [Bool.and_eq_true,decide_eq_true_eq] at hc
   obtain ⟨⟨d1,d2⟩,hlen⟩:=hc
   obtain ⟨a,xs,B,hσ,ha,hkl,hr,nd,ho,hB⟩:=zlL hi I hl
   have eB:=Rps.data ps d1 hr
   subst eB
   refine (.in I hq fun v H1 A s1 r1 _=>⟨.ref a,hσ,.in (I.grow s1) hk fun y H2 B s2 r2 _=>?_⟩)
   have eA:=Rp.data q d2 r1
   subst eA
   have s12:=s1.trans s2
   have hxl:=hr.length
   refine ⟨a,_,rfl,by rw [hy H2 y B r2];exact DPut.k (s12 _ _ ha) (by rw [List.length_zip,sizeLine_eq];omega),?_⟩
   rw [zhs (by omega)]
   have m0:MutH H a:=.inr ⟨_,ha⟩
   have m2:=m0.same s12
   have rq:=Rp.same s2 q r1
   obtain ⟨h1,h2⟩:=I.turn (p:=.dct (y6 ks ps key q).1 (y6 ks ps key q).2) (o:=.dK ((y6 ks xs key v).1.zip (y6 ks xs key v).2)) (B:=[]) hi s12 hσ ho m0
    (.mkD (by rw [zeZ (ws:=xs) key q v];exact zT) (zhu hkl key q) (Rps.upd m2 _ (by simp) (zht rq (Rps.same s12 ps hr)))) (by simp) (by simp)
   exact k _ _ _ h1 h2
  split at hv
  ·rename_i ps j
   split at hv
   case isFalse=>cases hv
   rename_i hc
   rw [JR] at hc
   obtain ⟨a,xs,B,hσ,ha,hr,nd,ho,hB⟩:=zai hi I hl
   have eB:=Rps.data ps hc.1 hr
   subst eB
   cases hj:ixN ps.length j with
   | none=>rw [hj] at hv;cases hv
   | some jn=>
    rw [hj] at hv;cases hv
    refine .inl (.in I hq fun v H1 A s1 r1 _=>⟨.ref a,hσ,.in (I.grow s1) hk fun y H2 B s2 r2 _=>?_⟩)
    have eA:=Rp.data q hc.2 r1
    subst eA
    have s12:=s1.trans s2
    refine ⟨a,xs,j,jn,rfl,r2.I.1,s12 _ _ ha,by rw [← hr.length];exact hj,?_⟩
    have m0:MutH H a:=.inl ⟨_,ha⟩
    have m2:=m0.same s12
    obtain ⟨h1,h2⟩:=I.turn (p:=.lst (ps.set jn q)) (o:=.lst (xs.set jn v)) (B:=[]) hi s12 hσ ho m0 (.mkL zT (Rps.upd m2 _ (by simp) (Rps.set_ (Rp.same s2 q r1) jn (Rps.same s12 ps hr)))) (by simp) (by simp)
    exact k _ _ _ h1 h2
  ·split at hv
   case isFalse=>cases hv
   rename_i hc
   cases hv
   exact .inr (dput _ _ (Sum.inl _) rfl (fun H2 y B r=>r.I.1) hc rfl)
  ·split at hv
   case isFalse=>cases hv
   rename_i hc
   cases hv
   exact .inr (dput _ _ (Sum.inr _) rfl (fun H2 y B r=>r.S.1) hc rfl)
  ·cases hv
noncomputable def kJ:FE:=fun _=>some (.dct [] [])
theorem zfz(h:PE X e zfN):VE X κ G (.mv []) e kJ:=h.imp fun σ H Q hq_=>by
 refine hq_.elim fun own env z I hf k=>?_
 cases hf
 intro p hp
 exact k _ _ [p] (zw (Same.refl _) hp) (.mkD (by simpa using zT) rfl .nil) ⟨by simp,fun a ha=>.inl (by rw [List.mem_singleton.mp ha];exact hp)⟩
noncomputable def zjD:PV->Option Bool
 | .non=>some false
 | .bl b=>some b
 | .int i=>some (i != 0)
 | .str y=>if y.length≤100000 then some ((y.length:Int) != 0) else none
 | .lst xs=>some (!xs.isEmpty)
 | .fls xs=>some (!xs.isEmpty)
 | .tup xs=>some (!xs.isEmpty)
 | .dct ks _=>some (!ks.isEmpty)
 | .ty _=>none
 | .any=>none
 | .pen _ _=>none
 | .adr _=>none
noncomputable def yz(f:FE):FT:=fun env=>(f env).bind zjD
theorem kM{K:PySem.W.Frag}{H:Hp}{ps:List PV}{xs:List V}{A:List Addr}(r:Rps K H ps xs A):(!ps.isEmpty)=!xs.isEmpty:=by
 have:=r.length
 cases ps<;>cases xs<;>simp_all
theorem zfr(ha:VE X κ G c a fa)(he:∀ whole,isTrue a X.env whole=(do let v ← whole;standAt a.pos;holding [v] (truthy v))):VT X κ G a (yz fa):=(zgj ha he).imp fun σ H Q hq_=>by
 refine hq_.elim fun own env z I hf k=>?_
 unfold yz at hf
 replace hf:=Ja.mp hf;obtain ⟨p,hp,hf⟩:=hf
 refine (.in I hp fun x H1 A s1 r1 _=>⟨z,?_,k H1 s1⟩)
 cases p
 case non=>cases hf;rw [r1.N.1];exact rfl
 case bl=>cases hf;rw [r1.B.1];exact rfl
 case int=>cases hf;rw [r1.I.1];exact rfl
 case str=>
  simp only [zjD] at hf
  split at hf
  ·rename_i hl;cases hf;rw [r1.S.1];exact ⟨by rw [sizeLine_eq];omega,rfl⟩
  ·cases hf
 case ty=>cases hf
 case any=>cases hf
 case pen=>cases hf
 case adr=>cases hf
 case tup=>cases hf;obtain ⟨a,xs,e1,h1,g⟩:=r1.T;rw [e1];exact .inr (.inl ⟨xs,h1,kM g⟩)
 case lst=>cases hf;obtain ⟨a,xs,B,e1,h1,_,g⟩:=r1.L;rw [e1];exact .inl ⟨xs,SqL.of h1,kM g⟩
 case fls=>cases hf;obtain ⟨a,xs,e1,h1,g⟩:=r1.Fl;rw [e1];exact .inl ⟨xs,h1.seq,kM g⟩
 case dct ks ps=>
  cases hf;obtain ⟨a,xs,B,e1,h1,hl,_,g⟩:=r1.D;rw [e1];refine .inr (.inr ⟨_,h1,?_⟩)
  have:=g.length
  cases ks<;>cases ps<;>cases xs<;>simp_all
end
end F
namespace L2
open PySem PySem.Spec PyProof.Rows
section
variable {X:Cx}
theorem zjh(l:Addr)(items:Array Value)(n:Nat)(b:Addr)(items2:Array Value)(n2:Nat)(dd:Option Addr)(sl:Array (Option Value))(hs0:¬(!items.isEmpty && Builtin.List.listTooLong (items.size+items2.size))=true)(hs1:items.size≤sizeLine)(hs2:items.size+items2.size≤sizeLine+1):
  Meets (Builtin.«list.extend» ⟨[.ref l,.ref b],[]⟩) (fun _ R s=>s.heap.get? l=some { cls:=.type "list",dict:=none,data:=.seq items n,slots:=#[] }/\s.heap.get? b=some { cls:=.type "tuple",dict:=dd,data:=.seq items2 n2,slots:=sl }/\R (.ok (.ret Value.none)) { s with heap:=s.heap.update l (Obj.mapSeq fun x=>x++items2),toks:=s.toks }):=
 .of_wp fun prog w A R s h=>by
  obtain ⟨hp,g,d,tk,os⟩:=s;obtain ⟨hl,hb,h⟩:=h;have f1:=AutoSeq1.idx_int;have f2:=AutoSeq1.sub_tuple_tuple;have f3:=AutoSeq1.sub_list_list;have f4:=AutoSeq1.sub_tuple_list;have f5:=AutoSeq1.sub_list_tuple;
  have hz':(items++items2).size≤sizeLine+1:=JO (Nat.le_of_eq QD) hs2
  wp_walk using (wpAny_updateSeq hl rfl (hz:=hs1) (_hz':=hz')),AutoSeq1.wpAny_loadPart' hl,AutoSeq1.wpAny_loadPart' hb;exact ⟨_,rfl,h⟩
noncomputable def jr(K:PySem.W.Frag):V->List V->Hp->VK->Prop:=fun x vs H Q=>∃ l b xs zs,x=.ref l/\vs=[.ref b]/\H l=some (.lst xs)/\SqT K H b zs/\xs.length+zs.length≤sizeLine/\Q .non (upd H l (.lst (xs++zs)))
theorem zcy:MtM X "list.extend" (jr X.K):=by
 intro pins s σ H x vs v us Q I rx rv h
 obtain ⟨l,b,xs,zs,rfl,rfl,hH,hB,hz,q⟩:=h
 cases rx
 obtain ⟨u,rfl,ru⟩:=rv.one
 cases ru
 obtain ⟨z,its,n,r,hl,e⟩:=I.lstM hH
 obtain ⟨its2,r2,⟨⟨cls,dd,dat,sl⟩,e2,hc,n2,hd⟩,z2⟩:=I.tuple hB
 simp only at hc hd
 subst hc hd
 have hl2:=r2.length
 have hsz:its.toArray.size+its2.toArray.size≤sizeLine:=by rw [Jv,Jv];omega
 have hlong:¬ (!its.toArray.isEmpty && Builtin.List.listTooLong (its.toArray.size+its2.toArray.size))=true:=by
  rw [jw hsz,Bool.and_false]
  exact Jk
 refine call_meets F.slot_list_extend ⟨_,e,rfl⟩ F.entry_list_extend (F.args_list_extend_2 _ _)
  (zjh l its.toArray n b its2.toArray n2 dd sl hlong (by rw [Jv];omega) (by omega)) ⟨e,e2,?_⟩
 refine ⟨.non,_,I.lset (its':=its++its2) hH e (by simp) (r.append r2) ?_,rfl,q⟩
 rw [Jh]
 omega
theorem MtM.or{id:String}{r r':V->List V->Hp->VK->Prop}(h:MtM X id r)(h':MtM X id r'):MtM X id (fun x xs H Q=>r x xs H Q∨r' x xs H Q):=fun pins s σ H x xs v us Q I rx rs q=>q.elim (h pins s σ H x xs v us Q I rx rs) (h' pins s σ H x xs v us Q I rx rs)
theorem zcz:MtM X "list.extend" (fun x xs H Q=>qd x xs H Q∨jr X.K x xs H Q):=mt_extend.or zcy
inductive TyR (K:PySem.W.Frag) (H:Hp):V->String->Prop where
 | non:TyR K H .non "NoneType"
 | bl (x:Bool):TyR K H (.bl x) "bool"
 | int (i:Int):TyR K H (.int i) "int"
 | str (x:Str):TyR K H (.str x) "str"
 | lst {a:Addr} {xs:List V} (e:SqL K H a xs):TyR K H (.ref a) "list"
 | tup {a:Addr} {xs:List V} (e:SqT K H a xs):TyR K H (.ref a) "tuple"
 | dct {a:Addr} {kvs:List (Key × V)} (e:H a=some (.dK kvs)):TyR K H (.ref a) "dict"
theorem cr_isinst1:CallR X (.builtin "isinstance") (fun xs H Q=>∃ x n t b,xs=[x,.ty n]/\TyR X.K H x t/\PySem.W.kitOne X.K (.type t) (.type n)=some b/\Q (.bl b) H):=by
 intro pins s σ H xs us Q I r h
 obtain ⟨x,n,t,b,rfl,ty,e,q⟩:=h
 obtain ⟨u,w',rfl,rx,r2⟩:=zjB r
 cases r2
 have fin:∀ tk,EP X pins σ Q (.bool b) { s with toks:=tk }:=fun tk=>⟨.bl b,H,I.tok tk,rfl,q⟩
 cases ty with
 | non=>cases (show u=Value.none from rx);exact PySem.W.kia_one PySem.W.kitx_none I.kIn True.intro e (fun z=>nomatch z) fin
 | bl y=>cases (show u=Value.bool y from rx);exact PySem.W.kia_one PySem.W.kitx_bool I.kIn True.intro e (fun z=>nomatch z) fin
 | int i=>obtain ⟨t,q⟩:=(show ∃ t,u=Value.int i t from rx);cases q;exact PySem.W.kia_one PySem.W.kitx_int I.kIn True.intro e (fun z=>nomatch z) fin
 | str y=>obtain ⟨t,q⟩:=(show ∃ t,u=Value.str y t from rx);cases q;exact PySem.W.kia_one PySem.W.kitx_str I.kIn True.intro e (fun z=>nomatch z) fin
 | @lst a xs ea=>
  cases (show u=Value.ref a from rx)
  obtain ⟨its,_,⟨o,n,e1,e2,_,_⟩,_⟩:=I.list ea
  exact PySem.W.kia_one PySem.W.kitx_list I.kIn ⟨o,e1,e2⟩ e (fun z=>nomatch z) fin
 | @tup a xs ea=>
  cases (show u=Value.ref a from rx)
  obtain ⟨its,_,⟨o,e1,e2,_⟩,_⟩:=I.tuple ea
  exact PySem.W.kia_one PySem.W.kitx_tuple I.kIn ⟨o,e1,e2⟩ e (fun z=>nomatch z) fin
 | @dct a kvs ea=>
  cases (show u=Value.ref a from rx)
  obtain ⟨_,_,vs,_,p⟩:=(show ObjOk X.prog X.w H s.heap a (.dK kvs) from I.hok a _ ea)
  obtain ⟨o,es,ep,h1,h2,_⟩:=p
  exact PySem.W.kia_one PySem.W.kitx_dict I.kIn ⟨o,h1,h2.1⟩ e (fun z=>nomatch z) fin
theorem zcQ:CallR X (.builtin "isinstance") (fun xs H Q=>∃ x p,∃ ns:List String,∃ t b,xs=[x,.ref p]/\SqT X.K H p (ns.map V.ty)/\TyR X.K H x t/\PySem.W.kitAny X.K (.type t) (ns.map Value.type)=some b/\Q (.bl b) H):=by
 intro pins s σ H xs us Q I r h
 obtain ⟨x,p,ns,t,b,rfl,hp,ty,e,q⟩:=h
 obtain ⟨u,w',rfl,rx,r2⟩:=zjB r
 cases r2
 obtain ⟨its,rv,⟨⟨cls,dd,dat,sl⟩,h1,h2,n,h3⟩,_⟩:=I.tuple hp
 simp only at h2 h3
 subst h2 h3
 have hi:=zdf rv
 subst hi
 have fin:∀ tk,EP X pins σ Q (.bool b) { s with toks:=tk }:=fun tk=>⟨.bl b,H,I.tok tk,rfl,q⟩
 cases ty with
 | non=>cases (show u=Value.none from rx);exact PySem.W.kia_tup PySem.W.kitx_none I.kIn True.intro h1 e (fun z=>nomatch z) fin
 | bl y=>cases (show u=Value.bool y from rx);exact PySem.W.kia_tup PySem.W.kitx_bool I.kIn True.intro h1 e (fun z=>nomatch z) fin
 | int i=>obtain ⟨t,q⟩:=(show ∃ t,u=Value.int i t from rx);cases q;exact PySem.W.kia_tup PySem.W.kitx_int I.kIn True.intro h1 e (fun z=>nomatch z) fin
 | str y=>obtain ⟨t,q⟩:=(show ∃ t,u=Value.str y t from rx);cases q;exact PySem.W.kia_tup PySem.W.kitx_str I.kIn True.intro h1 e (fun z=>nomatch z) fin
 | @lst a xs ea=>
  cases (show u=Value.ref a from rx)
  obtain ⟨its,_,⟨o,n,e1,e2,_,_⟩,_⟩:=I.list ea
  exact PySem.W.kia_tup PySem.W.kitx_list I.kIn ⟨o,e1,e2⟩ h1 e (fun z=>nomatch z) fin
 | @tup a xs ea=>
  cases (show u=Value.ref a from rx)
  obtain ⟨its,_,⟨o,e1,e2,_⟩,_⟩:=I.tuple ea
  exact PySem.W.kia_tup PySem.W.kitx_tuple I.kIn ⟨o,e1,e2⟩ h1 e (fun z=>nomatch z) fin
 | @dct a kvs ea=>
  cases (show u=Value.ref a from rx)
  obtain ⟨_,_,vs,_,p⟩:=(show ObjOk X.prog X.w H s.heap a (.dK kvs) from I.hok a _ ea)
  obtain ⟨o,es,ep,h1',h2,_⟩:=p
  exact PySem.W.kia_tup PySem.W.kitx_dict I.kIn ⟨o,h1',h2.1⟩ h1 e (fun z=>nomatch z) fin
end
end L2
namespace F
open PySem PySem.Spec PyProof.Rows L2
noncomputable def zdq:PV->Option (List PV)
 | .lst ps=>some ps
 | .tup ps=>some ps
 | _=>none
noncomputable def zn(i:Nat)(f:FE):FS:=fun env=>(zA i env).bind fun l=>(f env).bind fun q=>match l with
 | .lst ps=>(zdq q).bind fun qs=>if (isDatas qs=true/\ps.length+qs.length≤100000) then some (.nx (env.set i (some (.lst (ps++qs))))) else none
 | _=>none
theorem zbV{X:Cx}{G:Hp}{O:List Nat}{st:Stmt}{f:FE}(i:Nat)(hi:i ∈ O)(hp:PS X st (zfM (tBM X.K "list" (fun x xs H Q=>qd x xs H Q∨jr X.K x xs H Q) (jM i) (zfO (tV X.K (ko O) G (.mv []) f) zfK)))):VS X (ko O) G st (zn i f):=hp.imp fun D σ H hq_=>by
 refine hq_.elim fun own env o I hf k=>?_
 unfold zn at hf
 replace hf:=Ja.mp hf;obtain ⟨l,hl,hf⟩:=hf
 replace hf:=Ja.mp hf;obtain ⟨q,hq,hf⟩:=hf
 split at hf
 case h_2=>cases hf
 rename_i ps
 replace hf:=Ja.mp hf;obtain ⟨qs,hs,hf⟩:=hf
 split at hf
 case isFalse=>cases hf
 rename_i hc
 have hf:=(Js hf).symm
 subst hf
 obtain ⟨a,xs,B,hσ,ha,hr,nd,ho,hB⟩:=zai hi I hl
 refine ⟨.ref a,hσ,.inl ⟨rfl,xs,SqL.of ha⟩,.in I hq fun y H1 C s1 r1 c1=>?_⟩
 have nB:a ∉ B:=(Kh.mp nd).1
 have m1:MutH H1 a:=.inl ⟨xs,s1 _ _ ha⟩
 have fin:∀ (zs:List V),Rps X.K H1 qs zs []->D.nx σ (upd H1 a (.lst (xs++zs))):=fun zs g1=>by
  obtain ⟨h1,h2⟩:=I.turn (p:=.lst (ps++qs)) (o:=.lst (xs++zs)) (B:=B++[]) hi s1 hσ ho (.inl ⟨xs,ha⟩)
   (.mkL zT ((Rps.upd m1 ps nB (Rps.same s1 ps hr)).append (Rps.upd m1 qs (by simp) g1))) (by simpa using nd) (by simpa using fun b hb=>Or.inl (hB b hb))
  exact k _ _ _ h1 h2
 unfold zdq at hs
 split at hs
 ·have hs:=Js hs
  subst hs
  obtain ⟨b,zs,C1,rfl,hb,rfl,g1⟩:=r1.L
  have e1:=Rps.data _ hc.1 g1
  subst e1
  exact .inl ⟨a,b,xs,zs,rfl,rfl,s1 _ _ ha,hb,by rw [← hr.length,← g1.length,sizeLine_eq];omega,fin zs g1⟩
 ·have hs:=Js hs
  subst hs
  obtain ⟨b,zs,rfl,hb,g1⟩:=r1.T
  have e1:=Rps.data _ hc.1 g1
  subst e1
  exact .inr ⟨a,b,xs,zs,rfl,rfl,s1 _ _ ha,hb,by rw [← hr.length,← g1.length,sizeLine_eq];omega,fin zs g1⟩
 ·cases hs
noncomputable def tyP:PV->Option String
 | .non=>some "NoneType"
 | .bl _=>some "bool"
 | .int _=>some "int"
 | .str _=>some "str"
 | .lst _=>some "list"
 | .fls _=>some "list"
 | .tup _=>some "tuple"
 | .dct _ _=>some "dict"
 | .ty _=>none
 | .any=>none
 | .pen _ _=>none
 | .adr _=>none
theorem TyR.of{K:PySem.W.Frag}{H:Hp}{p:PV}{v:V}{A:List Addr}{t:String}(h:tyP p=some t)(r:Rp K H p v A):TyR K H v t:=by
 cases p<;>cases h
 ·rw [r.N.1];exact .non
 ·rw [r.B.1];exact .bl _
 ·rw [r.I.1];exact .int _
 ·rw [r.S.1];exact .str _
 ·obtain ⟨a,xs,rfl,h,_⟩:=r.T;exact .tup h
 ·obtain ⟨a,xs,B,rfl,h,_⟩:=r.L;exact .lst (SqL.of h)
 ·obtain ⟨a,xs,rfl,h,_⟩:=r.Fl;exact .lst h.seq
 ·obtain ⟨a,xs,B,rfl,h,_⟩:=r.D;exact .dct h
noncomputable def zbs:List String:=["NoneType","bool","int","str","list","tuple","dict"]
noncomputable def kD(t n:String):Bool:=t == n || (t == "bool" && n == "int")
theorem zgS(K:PySem.W.Frag):∀ t ∈ zbs,∀ n ∈ ["int","bool","str","list","tuple","dict"],PySem.W.kitOne K (.type t) (.type n)=some (kD t n):=by
 intro t ht n hn
 simp only [zbs,List.mem_cons,List.not_mem_nil,or_false] at ht hn
 rcases ht with rfl | rfl | rfl | rfl | rfl | rfl | rfl<;>rcases hn with rfl | rfl | rfl | rfl | rfl | rfl<;>rfl
noncomputable def vC:List PV->Option (List String)
 | []=>some []
 | .ty n::r=>(vC r).map fun ns=>n::ns
 | _::_=>none
noncomputable def zgC(n:String):Bool:=["int","bool","str","list","tuple","dict"].contains n
noncomputable def vA:List PV->Option PV
 | [p,.ty n]=>if zgC n=true then (tyP p).map fun t=>.bl (kD t n) else none
 | [p,.tup ts]=>(vC ts).bind fun ns=>if ns.all zgC=true then (tyP p).map fun t=>.bl (ns.any fun n=>kD t n) else none
 | _=>none
theorem km(h:tyP p=some t):t ∈ zbs:=by
 cases p<;>cases h<;>simp [zbs]
theorem zbi(h:zgC n=true):n ∈ ["int","bool","str","list","tuple","dict"]:=by
 unfold zgC at h
 exact List.contains_iff_mem.mp h
theorem qC(K:PySem.W.Frag){t:String}(ht:t ∈ zbs):∀ ns:List String,ns.all zgC=true->PySem.W.kitAny K (.type t) (ns.map Value.type)=some (ns.any fun n=>kD t n)
 | [],_=>rfl
 | n::ns,h=>by
  rw [List.all_cons,JR] at h
  rw [Jm]
  unfold PySem.W.kitAny
  rw [zgS K t ht n (zbi h.1),KC]
  cases hs:kD t n with
  | true=>rfl
  | false=>rw [Bool.false_or];exact qC K ht ns h.2
theorem u5{K:PySem.W.Frag}{H:Hp}:∀ {ts:List PV} {ns:List String} {xs:List V} {A:List Addr},vC ts=some ns->Rps K H ts xs A->xs=ns.map V.ty
 | [],ns,xs,A,h,r=>by
  cases h
  rw [r.inv0.1];rfl
 | p::ts,ns,xs,A,h,r=>by
  obtain ⟨v,r',A1,A2,rfl,h2,h3,h4⟩:=r.inv
  cases p<;>first | (simp [vC] at h;done) | skip
  simp only [vC] at h
  cases hq:vC ts with
  | none=>rw [hq] at h;cases h
  | some ms=>
   rw [hq] at h
   have h:_::ms=ns:=Js h
   subst h
   rw [Jm,u5 hq h4,h3.Ty.1]
section
variable {X:Cx}
theorem zfd:CallR X (.builtin "isinstance") (fun xs H Q=>(∃ x n t b,xs=[x,.ty n]/\TyR X.K H x t/\PySem.W.kitOne X.K (.type t) (.type n)=some b/\Q (.bl b) H)∨
  ∃ x p,∃ ns:List String,∃ t b,xs=[x,.ref p]/\SqT X.K H p (ns.map V.ty)/\TyR X.K H x t/\PySem.W.kitAny X.K (.type t) (ns.map Value.type)=some b/\Q (.bl b) H):=cr_isinst1.or zcQ
theorem zfa{K:PySem.W.Frag}:jL K (fun xs H Q=>(∃ x n t b,xs=[x,.ty n]/\TyR K H x t/\PySem.W.kitOne K (.type t) (.type n)=some b/\Q (.bl b) H)∨
  ∃ x p,∃ ns:List String,∃ t b,xs=[x,.ref p]/\SqT K H p (ns.map V.ty)/\TyR K H x t/\PySem.W.kitAny K (.type t) (ns.map Value.type)=some b/\Q (.bl b) H) vA:=by
 intro H ps vs A z Q r e k
 unfold vA at e
 split at e
 ·rename_i p n
  split at e
  case isFalse=>cases e
  rename_i ho
  obtain ⟨v,w,A1,A2,rfl,_,r1,r2⟩:=zcb r
  cases ht:tyP p with
  | none=>rw [ht] at e;cases e
  | some t=>
   rw [ht] at e
   have e:PV.bl (kD t n)=z:=Js e
   subst e
   exact .inl ⟨v,n,t,_,by rw [r2.Ty.1],TyR.of ht r1,zgS K t (km ht) n (zbi ho),k _ H [] (Same.refl _) (.mkB _) .nil (by simp)⟩
 ·rename_i p ts
  obtain ⟨v,w,A1,A2,rfl,_,r1,r2⟩:=zcb r
  replace e:=Ja.mp e;obtain ⟨ns,hn,e⟩:=e
  split at e
  case isFalse=>cases e
  rename_i ho
  cases ht:tyP p with
  | none=>rw [ht] at e;cases e
  | some t=>
   rw [ht] at e
   have e:PV.bl (ns.any fun n=>kD t n)=z:=Js e
   subst e
   obtain ⟨a,xs,rfl,h1,g⟩:=r2.T
   have hx:=u5 hn g
   subst hx
   exact .inr ⟨v,a,ns,t,_,rfl,h1,TyR.of ht r1,qC K (km ht) ns ho,k _ H [] (Same.refl _) (.mkB _) .nil (by simp)⟩
 ·cases e
end
end F
namespace L2
open PySem PySem.Spec PyProof.Rows
noncomputable def ContAt(h:Heap)(b:Bool)(c:Addr)(its:Array Value):Prop:=if b=true then h.IsList c its else h.IsTuple c its
noncomputable def IterAt(h:Heap)(b:Bool)(it c:Addr)(i:Nat):Prop:=if b=true then h.IsListIter it c i else h.IsTupleIter it c i
section
variable {prog:Program} {w:World} {A:Around} {E:Value->Shared->Prop} {s:Shared} {h h₂:Heap} {b:Bool} {it c:Addr} {i:Nat} {its:Array Value}
theorem ContAt.keep(x:ContAt h b c its)(k:∀ o,h.get? c=some o->h₂.get? c=some o):ContAt h₂ b c its:=by
 cases b with
 | true=>obtain ⟨o,ho,r⟩:=x;exact ⟨o,k o ho,r⟩
 | false=>obtain ⟨o,ho,r⟩:=x;exact ⟨o,k o ho,r⟩
theorem IterAt.keep(x:IterAt h b it c i)(k:∀ o,h.get? it=some o->h₂.get? it=some o):IterAt h₂ b it c i:=by
 cases b with
 | true=>obtain ⟨o,ho,r⟩:=x;exact ⟨o,k o ho,r⟩
 | false=>obtain ⟨o,ho,r⟩:=x;exact ⟨o,k o ho,r⟩
theorem IterAt.has(x:IterAt h b it c i):∃ o,h.get? it=some o/\∀ v,o.data≠.cell v:=by
 cases b with
 | true=>obtain ⟨o,ho,_,d⟩:=x;exact ⟨o,ho,fun v z=>by rw [d] at z;cases z⟩
 | false=>obtain ⟨o,ho,_,d⟩:=x;exact ⟨o,ho,fun v z=>by rw [d] at z;cases z⟩
theorem IterAt.lt(x:IterAt h b it c i):it<h.objs.size:=let ⟨_,e,_⟩:=x.has;Jn e
end
noncomputable def Sq(K:PySem.W.Frag)(H:Hp)(b:Bool)(a:Addr)(xs:List V):Prop:=if b=true then SqL K H a xs else SqT K H a xs
section
variable {X:Cx} {pins:List (Addr × Obj)} {σ:St} {H:Hp} {s:Shared}
theorem Sq.at{b:Bool}{a:Addr}{xs:List V}(I:Inv X pins σ H s)(h:Sq X.K H b a xs):∃ its:List Value,Vals xs its/\ContAt s.heap b a its.toArray:=by
 cases b with
 | true=>obtain ⟨its,r,p,_⟩:=I.list h;exact ⟨its,r,p.isList⟩
 | false=>obtain ⟨its,r,p,_⟩:=I.tuple h;exact ⟨its,r,p⟩
theorem Sq.inj{b:Bool}{a:Addr}{xs ys:List V}(I:Inv X pins σ H s)(h:Sq X.K H b a xs)(h':Sq X.K H b a ys):xs=ys:=by
 cases b with
 | true=>exact I.list_inj h h'
 | false=>exact I.tuple_inj h h'
theorem Sq.ne{b:Bool}{a it:Addr}{xs:List V}(I:Inv X pins σ H s)(h:Sq X.K H b a xs)(hf:u0 X pins H it):a≠it:=by
 rintro rfl
 have nb:∀ o,X.K.lookup a=some o->False:=fun o ho=>by
  obtain ⟨u,hu⟩:=I.ok.mod.kin a o ho |> fun e=>(⟨o,e⟩:∃ u,X.base.get? a=some u)
  rcases hf.2.2.2.1 with z | z
  ·exact I.ok.noex a u hu z
  ·exact absurd (JE (Jn hu) (JO I.ok.bsz z)) (KI _)
 cases b with
 | true=>
  rcases h with (h | ⟨u,h⟩) | ⟨o,_,_,h,_⟩
  ·rw [hf.1] at h;cases h
  ·rw [hf.1] at h;cases h
  ·exact nb o h
 | false=>
  rcases h with (h | ⟨u,h⟩) | ⟨o,_,_,h,_⟩
  ·rw [hf.1] at h;cases h
  ·rw [hf.1] at h;cases h
  ·exact nb o h
end
structure ZApart (z TI TO i1 i2:Addr):Prop where
 a1:TI≠z
 a2:TO≠z
 a3:i1≠z
 a4:i2≠z
 a5:TI≠TO
 a6:TI≠i1
 a7:TI≠i2
 a8:TO≠i1
 a9:TO≠i2
 a10:i1≠i2
end L2
namespace F
open PySem L2
noncomputable def zoL(f:FA):FA:=fun env=>(f env).bind fun ps=>match ps with | [p,q]=>(wY p).bind fun xs=>(wY q).bind fun ys=>some ((List.zip xs ys).map fun z=>PV.tup [z.1,z.2]) | _=>none
end F
namespace F
open PySem PySem.Spec PyProof.Rows L2
end F
namespace L2
open PySem PySem.Spec PyProof.Rows
end L2
namespace F
open PySem PySem.Spec PyProof.Rows L2
section
variable {X:Cx} {κ:Nat->Option Nat} {G:Hp} {c:Cat} {a b e:Expr} {fs:FA} {pos:Pos}
noncomputable def znE(f:FA):FE:=fun env=>(f env).bind fun ps=>if ps.length≤100000 then some (.lst ps) else none
end
theorem VI.free{K:PySem.W.Frag}{κ:Nat->Option Nat}{G:Hp}{own:Addr->Option Nat}{env:En}{σ:St}{H:Hp}(I:VI K κ G own env σ H):VI K (ko []) G (fun _=>none) env σ H:=
 ⟨I.len,fun i p e=>let ⟨v,A,h1,h2,_⟩:=I.slot i p e;⟨v,A,h1,h2,fun _ _ _=>rfl,fun l z=>absurd z (by simp [ko])⟩,fun a l e=>(nomatch e),I.same⟩
theorem zdm{K:PySem.W.Frag}{κ:Nat->Option Nat}{G:Hp}{f:FE}{σ:St}{H:Hp}{Q:VK}(h:tV K κ G (.mv []) f σ H Q):tV K (ko []) G (.mv []) f σ H Q:=by
 obtain ⟨own,env,p,I,hf,k⟩:=h
 exact ⟨fun _=>none,env,p,I.free,hf,fun v H' A s r hc=>k v H' A s r ⟨hc.1,fun a ha=>(hc.2 a ha).imp id fun ⟨_,z,_⟩=>nomatch z⟩⟩
theorem zif(h:VE X (ko []) G (.mv []) e f):VE X κ G (.mv []) e f:=h.imp fun σ H Q q=>zdm q
theorem ziy{X:Cx}{κ:Nat->Option Nat}{G:Hp}{st:Stmt}{f:FE}{tg:TG}(h:PS X st (uA (tV X.K (ko []) G (.mv []) f) tg)):PS X st (uA (tV X.K κ G (.mv []) f) tg):=h.imp fun D σ H q=>zdm q
end F
namespace L2
open PySem PySem.Spec PyProof.Rows
end L2
namespace F
open PySem PySem.Spec PyProof.Rows L2
noncomputable def wl:List PV->Option (List Int)
 | []=>some []
 | .int i::r=>(wl r).map fun ns=>i::ns
 | _=>none
theorem qE:∀ {ps:List PV} {ns:List Int},wl ps=some ns->ps=ns.map PV.int
 | [],ns,h=>by cases h;rfl
 | p::r,ns,h=>by
  cases p<;>first | (cases h;done) | skip
  rename_i i
  unfold wl at h
  cases hr:wl r with
  | none=>rw [hr] at h;cases h
  | some ms=>
   rw [hr] at h;cases h
   rw [qE hr];rfl
@[simp] theorem kF:∀ (ns:List Int),wl (ns.map PV.int)=some ns
 | []=>rfl
 | n::ns=>by rw [Jm,wl,kF ns];rfl
theorem zaV{K:PySem.W.Frag}{H:Hp}:∀ {ns:List Int} {xs:List V} {A:List Addr},Rps K H (ns.map PV.int) xs A->xs=ns.map V.int
 | [],_,_,r=>r.inv0.1
 | n::ns,_,_,r=>by
  obtain ⟨v,r',A1,A2,h1,_,h3,h4⟩:=r.inv
  rw [h1,h3.I.1,zaV h4];rfl
end F
namespace L2
open PySem PySem.Spec PyProof.Rows
end L2
namespace F
open PySem PySem.Spec PyProof.Rows L2
noncomputable def zhC:List PV->Option (List Bool)
 | []=>some []
 | .bl b::r=>(zhC r).map fun bs=>b::bs
 | _=>none
@[simp] theorem zfk:∀ (bs:List Bool),zhC (bs.map PV.bl)=some bs
 | []=>rfl
 | b::bs=>by rw [Jm,zhC,zfk bs];rfl
end F
namespace L2
open PySem PySem.Spec PyProof.Rows
end L2
namespace F
open PySem PySem.Spec PyProof.Rows L2
end F
namespace L2
open PySem PySem.Spec PyProof.Rows
theorem v0:∀ {ns:List Int} {us:List Value},IntsAre us ns->Vals (ns.map V.int) us
 | _,_,.nil=>.nil
 | _,_,.cons n t r=>.cons ⟨t,rfl⟩ (v0 r)
end L2
namespace F
open PySem PySem.Spec PyProof.Rows L2
noncomputable def zcK(a:Int):List Int->List Int
 | []=>[a]
 | b::r=>if a≤b then a::b::r else b::zcK a r
noncomputable def jh(ns:List Int):List Int:=ns.foldr zcK []
theorem ut(a:Int):∀ l,(zcK a l).Perm (a::l)
 | []=>.refl _
 | b::r=>by
  unfold zcK
  split
  ·exact .refl _
  ·exact ((ut a r).cons b).trans (.swap a b r)
theorem jG(a:Int):∀ l,l.Pairwise (·≤·)->(zcK a l).Pairwise (·≤·)
 | [],_=>by simp [zcK]
 | b::r,h=>by
  unfold zcK
  have h':=JM.mp h
  split
  ·rename_i c
   refine JM.mpr ⟨fun x hx=>?_,h⟩
   rcases List.mem_cons.mp hx with rfl | hx
   ·exact c
   ·have:=h'.1 x hx;omega
  ·rename_i c
   refine JM.mpr ⟨fun x hx=>?_,jG a r h'.2⟩
   rcases List.mem_cons.mp ((ut a r).mem_iff.mp hx) with rfl | hx
   ·omega
   ·exact h'.1 x hx
theorem x5:∀ ns:List Int,(jh ns).Perm ns
 | []=>.refl _
 | n::ns=>(ut n (jh ns)).trans ((x5 ns).cons n)
theorem uB:∀ ns:List Int,(jh ns).Pairwise (·≤·)
 | []=>.nil
 | n::ns=>jG n _ (uB ns)
theorem ku:∀ {xs ys:List Int},xs.Perm ys->xs.Pairwise (·≤·)->ys.Pairwise (·≤·)->xs=ys
 | [],ys,p,_,_=>(List.nil_perm.mp p).symm
 | x::xs,ys,p,hx,hy=>by
  cases ys with
  | nil=>exact absurd p.length_eq (by simp)
  | cons y ys=>
   have hx':=JM.mp hx
   have hy':=JM.mp hy
   have e:x=y:=by
    have h1:y≤x:=by
     rcases List.mem_cons.mp (p.mem_iff.mp List.mem_cons_self) with z | z
     ·omega
     ·exact hy'.1 x z
    have h2:x≤y:=by
     rcases List.mem_cons.mp (p.mem_iff.mpr List.mem_cons_self) with z | z
     ·omega
     ·exact hx'.1 y z
    omega
   subst e
   rw [ku (List.Perm.cons_inv p) hx'.2 hy'.2]
theorem zbu{K:PySem.W.Frag}{H:Hp}:∀ ns:List Int,Rps K H (ns.map PV.int) (ns.map V.int) []
 | []=>.nil
 | n::ns=>Rps.cons (A:=[]) (.mkI n) (zbu ns)
noncomputable def znt:PV->Option Key | .int i=>some (.inl i) | .str x=>some (.inr x) | _=>none
end F
namespace L2
open PySem PySem.Spec PyProof.Rows
end L2
namespace F
open PySem PySem.Spec PyProof.Rows L2
end F
namespace L2
open PySem PySem.Spec PyProof.Rows
end L2
namespace F
open PySem PySem.Spec PyProof.Rows L2
section
variable {X:Cx} {G:Hp} {c:Cat} {fs:FA} {fk:FE} {O:List Nat} {pos:Pos} {tg elt iter:Expr} {scope:Scope} {xn:Str} {st:Stmt}
theorem Rps.rev{K:PySem.W.Frag}{H:Hp}:∀ {ps:List PV} {xs:List V} {A:List Addr},Rps K H ps xs A->∃ A',Rps K H ps.reverse xs.reverse A'/\A'.Perm A
 | [],_,_,r=>by rw [r.inv0.1,r.inv0.2];exact ⟨[],.nil,.refl _⟩
 | p::ps,_,_,r=>by
  obtain ⟨v,r',A1,A2,rfl,rfl,h3,h4⟩:=r.inv
  obtain ⟨A',g1,g2⟩:=Rps.rev h4
  rw [KW,KW]
  exact ⟨A'++A1,g1.append (Rps.one h3),(List.perm_append_comm).trans (g2.append_left A1)⟩
end
end F
namespace L2
open PySem PySem.Spec PyProof.Rows
theorem zbL:bootBuiltins "set"=some (.type "set"):=by decide +kernel
noncomputable def yV:List Int->Nat
 | []=>0
 | n::r=>if n ∈ r then yV r else yV r+1
theorem zeV(ns:List Int):∀ i,i≤ns.length->∀ k,k ∈ firstMet (fun j=>ns.getD j 0) i ↔ k ∈ ns.take i:=by
 intro i hi k
 have h:=firstMet_any (fun j=>ns.getD j 0) i k
 have e1:((firstMet (fun j=>ns.getD j 0) i).any (· == k)=true) ↔ k ∈ firstMet (fun j=>ns.getD j 0) i:=by
  rw [Kv]
  exact ⟨fun ⟨x,hx,e⟩=>by rw [← (beq_iff_eq.mp e)];exact hx,fun hx=>⟨k,hx,beq_self_eq_true k⟩⟩
 have e2:(((List.range i).map fun j=>ns.getD j 0).any (· == k)=true) ↔ k ∈ ns.take i:=by
  have:((List.range i).map fun j=>ns.getD j 0)=ns.take i:=by
   apply KY
   intro t
   rw [JX,QQ]
   by_cases ht:t<i
   ·rw [List.getElem?_range ht,if_pos ht,Jr (by omega)]
    simp [List.getD,show t<ns.length by omega]
   ·rw [List.getElem?_eq_none (by simpa using ht),if_neg ht];rfl
  rw [this,Kv]
  exact ⟨fun ⟨x,hx,e⟩=>by rw [← (beq_iff_eq.mp e)];exact hx,fun hx=>⟨k,hx,beq_self_eq_true k⟩⟩
 rw [← e1,← e2,h]
theorem wv(val:Nat->Int):∀ i,(firstMet val i).Nodup
 | 0=>by rw [firstMet_zero];exact .nil
 | i+1=>by
  rw [firstMet_succ]
  have ih:=wv val i
  unfold step_dedup
  split
  ·exact ih
  ·rename_i h
   refine List.nodup_append.mpr ⟨ih,by simp,fun a ha b hb e=>?_⟩
   rw [Ji.mp hb] at e
   subst e
   exact h (by rw [Kv];exact ⟨_,ha,beq_self_eq_true _⟩)
theorem uf:∀ ns:List Int,∃ l:List Int,l.Nodup/\(∀ k,k ∈ l ↔ k ∈ ns)/\l.length=yV ns
 | []=>⟨[],.nil,by simp,rfl⟩
 | n::r=>by
  obtain ⟨l,h1,h2,h3⟩:=uf r
  unfold yV
  by_cases h:n ∈ r
  ·rw [if_pos h]
   refine ⟨l,h1,fun k=>?_,h3⟩
   rw [h2 k,Qa]
   exact ⟨.inr,fun z=>z.elim (fun e=>e ▸ h) id⟩
  ·rw [if_neg h]
   refine ⟨n::l,List.nodup_cons.mpr ⟨fun z=>h ((h2 n).mp z),h1⟩,fun k=>?_,by simp [h3]⟩
   rw [Qa,Qa,h2 k]
theorem len_le_of(xs:List Int):∀ ys:List Int,xs.Nodup->(∀ x ∈ xs,x ∈ ys)->xs.length≤ys.length:=by
 induction xs with
 | nil=>intro ys _ _;exact Kb _
 | cons x xs ih=>
  intro ys nd h
  rw [Kh] at nd
  have hx:=h x Jf
  have:=ih (ys.erase x) nd.2 fun y hy=>by
   have hne:y≠x:=fun e=>nd.1 (e ▸ hy)
   exact (List.mem_erase_of_ne hne).mpr (h y (Jg _ hy))
  rw [Qn hx] at this
  have hp:0<ys.length:=QA hx
  simp only [List.length_cons]
  omega
end L2
namespace F
open PySem PySem.Spec PyProof.Rows L2
end F
namespace L2
open PySem PySem.Spec PyProof.Rows
end L2
namespace F
open PySem PySem.Spec PyProof.Rows L2
noncomputable def qt:List Key->Option (List Int)
 | []=>some []
 | .inl n::r=>(qt r).map fun ns=>n::ns
 | _=>none
@[simp] theorem zbt:∀ ns:List Int,qt (ns.map Sum.inl)=some ns
 | []=>rfl
 | n::ns=>by rw [Jm,qt,zbt ns];rfl
end F
namespace L2
open PySem PySem.Spec PyProof.Rows
end L2
namespace F
open PySem PySem.Spec PyProof.Rows L2
section
variable {X:Cx} {κ:Nat->Option Nat} {G:Hp} {O:List Nat} {st:Stmt} {c c1 c2:Cat} {f fk fa fb:FE} {a b e:Expr} {es:List Expr} {pos:Pos}
noncomputable def ExtL(l:Nat)(own:Addr->Option Nat)(H:Hp)(own':Addr->Option Nat)(H':Hp):Prop:=∀ b o,own b≠some l->H b=some o->own' b=own b/\H' b=some o
theorem ExtL.trans(a:ExtL l o1 H1 o2 H2)(b:ExtL l o2 H2 o3 H3):ExtL l o1 H1 o3 H3:=fun x o h e=>by
 obtain ⟨h1,h2⟩:=a x o h e
 obtain ⟨h3,h4⟩:=b x o (by rw [h1];exact h) h2
 exact ⟨h3.trans h1,h4⟩
theorem ExtL.grow(s:Same H H'):ExtL l own H own H':=fun b o _ e=>⟨rfl,s b o e⟩
theorem ExtL.ext(h:ExtL l own H own' H'):Ext own H own' H':=fun b o z e=>by
 obtain ⟨h1,h2⟩:=h b o (by rw [z];exact fun y=>nomatch y) e
 exact ⟨h1.trans z,h2⟩
noncomputable abbrev FM:=En->Option (PV × En)
open Classical in
noncomputable def tVm(K:PySem.W.Frag)(κ:Nat->Option Nat)(G:Hp)(l:Nat)(f:FM):TE:=fun σ H Q=>∃ own env p e',VI K κ G own env σ H/\f env=some (p,e')/\∀ v H' own' C,VI K κ G own' e' σ H'->ExtL l own H own' H'->Rp K H' p v C->C.Nodup->(∀ b ∈ C,H b=none/\own' b=none)->Q v H'
noncomputable def VEm(X:Cx)(κ:Nat->Option Nat)(G:Hp)(l:Nat)(e:Expr)(f:FM):Prop:=PE X e (tVm X.K κ G l f)
noncomputable abbrev FI:=En->Option (Int × En)
noncomputable def tVi(K:PySem.W.Frag)(κ:Nat->Option Nat)(G:Hp)(l:Nat)(f:FI):TE:=fun σ H Q=>∃ own env i e',VI K κ G own env σ H/\f env=some (i,e')/\∀ H' own',VI K κ G own' e' σ H'->ExtL l own H own' H'->Q (.int i) H'
noncomputable def VEi(X:Cx)(κ:Nat->Option Nat)(G:Hp)(l:Nat)(e:Expr)(f:FI):Prop:=PE X e (tVi X.K κ G l f)
theorem tVi.in{K:PySem.W.Frag}{l:Nat}{σ:St}{H:Hp}{Q:VK}{f:FI}{own:Addr->Option Nat}{env e':En}{i:Int}(I:VI K κ G own env σ H)(hf:f env=some (i,e'))(k:∀ H' own',VI K κ G own' e' σ H'->ExtL l own H own' H'->Q (.int i) H'):tVi K κ G l f σ H Q:=⟨own,env,i,e',I,hf,k⟩
theorem tVi.elim{K:PySem.W.Frag}{l:Nat}{σ:St}{H:Hp}{Q:VK}{f:FI}{C:Prop}(h:tVi K κ G l f σ H Q)(k:∀ own env i e',VI K κ G own env σ H->f env=some (i,e')->(∀ H' own',VI K κ G own' e' σ H'->ExtL l own H own' H'->Q (.int i) H')->C):C:=
 let ⟨own,env,i,e',I,hf,q⟩:=h
 k own env i e' I hf q
theorem zot{K:PySem.W.Frag}{l:Nat}{r:R2}{g:PV->PV->Option PV}{fa:FI}{Q:VK}{σ:St}{H:Hp}{own:Addr->Option Nat}{env e':En}{i j:Int}{z:PV}(hv:OpV K r g)(I:VI K κ G own env σ H)(hx:fa env=some (i,e'))(hy:fb e'=some (.int j))(hz:g (.int i) (.int j)=some z)
  (k:∀ v H' own',VI K κ G own' e' σ H'->ExtL l own H own' H'->(∃ C,Rp K H' z v C)->Q v H'):tOp r (tVi K κ G l fa) (tV K κ G c fb) σ H Q:=by
 refine tVi.in I hx fun H1 own1 I1 x1=>.in I1 hy fun v H2 A s1 r1 _=>?_
 obtain ⟨rfl,rfl⟩:=r1.I
 exact hv H2 (.int i) (.int j) _ _ [] [] z Q (.mkI i) (.mkI j) hz fun v H' C s2 r2 nd fr=>k v H' own1 (I1.grow (s1.trans s2)) (x1.trans (ExtL.grow (s1.trans s2))) ⟨C,r2⟩
noncomputable abbrev FB:=En->Option (Bool × En)
noncomputable def zon(K:PySem.W.Frag)(κ:Nat->Option Nat)(G:Hp)(l:Nat)(f:FB):TT:=fun σ H Q=>∃ own env b e',VI K κ G own env σ H/\f env=some (b,e')/\∀ H' own',VI K κ G own' e' σ H'->ExtL l own H own' H'->Q b H'
noncomputable def VTi(X:Cx)(κ:Nat->Option Nat)(G:Hp)(l:Nat)(e:Expr)(f:FB):Prop:=PT X e (zon X.K κ G l f)
noncomputable def zhj(g:PV->PV->Option PV)(fa:FI)(fb:FE):FB:=fun env=>(fa env).bind fun x=>(fb x.2).bind fun y=>match y with
 | .int j=>(g (.int x.1) (.int j)).bind fun z=>match z with | .bl r=>some (r,x.2) | _=>none
 | _=>none
theorem zfq{l:Nat}{op:CmpOp}{r:R2}{g:PV->PV->Option PV}{fa:FI}(ho:OpR X (compareOp op) r)(hv:OpV X.K r g)(ha:VEi X κ G l a fa)(hb:VE X κ G c b fb)(hm:behindInMarks op b=false):VTi X κ G l (.Compare a [op] [b] pos) (zhj g fa fb):=(zdt ho ha hb hm).imp fun σ H Q hq_=>by
 obtain ⟨own,env,z,e',I,hf,k⟩:=hq_
 unfold zhj at hf
 replace hf:=Ja.mp hf;obtain ⟨x,hx,hf⟩:=hf
 replace hf:=Ja.mp hf;obtain ⟨y,hy,hf⟩:=hf
 split at hf
 case h_2=>cases hf
 replace hf:=Ja.mp hf;obtain ⟨w,hw,hf⟩:=hf
 split at hf
 case h_2=>cases hf
 cases hf
 refine zot hv I hx hy hw fun v H' own' I' x' r'=>?_
 obtain ⟨C,r2⟩:=r'
 exact ⟨_,r2.B.1,k H' own' I' x'⟩
end
end F
namespace F
open PySem
namespace Tab
noncomputable def leaps(mask:Nat):Nat->Nat × Nat->Nat × Nat
 | 0,z=>z
 | n+1,z=>leaps mask n (SetTable.leap mask z.1 z.2)
theorem qB(mask:Nat):∀ (a b:Nat) (z:Nat × Nat),leaps mask (a+b) z=leaps mask b (leaps mask a z)
 | 0,b,z=>by rw [KR];rfl
 | a+1,b,z=>by rw [Nat.succ_add];exact qB mask a b _
theorem qA(mask:Nat):∀ (n:Nat) (z:Nat × Nat),(leaps mask n z).2=z.2 / 32 ^ n
 | 0,z=>by simp [leaps]
 | n+1,z=>by
  unfold leaps
  rw [qA mask n]
  show z.2 / 32 / 32 ^ n=_
  rw [Nat.div_div_eq_div_mul,Nat.pow_succ,Nat.mul_comm]
theorem zbq(mask:Nat):∀ (n:Nat) (z:Nat × Nat),z.1≤mask->(leaps mask n z).1≤mask
 | 0,z,h=>h
 | n+1,z,h=>zbq mask n _ (JZ (KS _ (Kj _)))
noncomputable def vU(mask:Nat):Nat->Nat->Nat
 | 0,i=>i
 | n+1,i=>vU mask n ((i * 5+1) % (mask+1))
theorem zaW(mask:Nat):∀ (n i:Nat),leaps mask n (i,0)=(vU mask n i,0)
 | 0,i=>rfl
 | n+1,i=>by
  show leaps mask n ((i * 5+1+0 / 32) % (mask+1),0 / 32)=_
  rw [Nat.zero_div,Nat.add_zero,zaW mask n];rfl
theorem vE(mask:Nat):∀ (a b i:Nat),vU mask (a+b) i=vU mask b (vU mask a i)
 | 0,b,i=>by rw [KR];rfl
 | a+1,b,i=>by rw [Nat.succ_add];exact vE mask a b _
noncomputable def Full(mask:Nat):Prop:=vU mask (mask+1) 0=0/\∀ j,j≤mask->∃ a,a≤mask/\vU mask a 0=j
noncomputable def zgy(mask:Nat):Nat->Nat->List Nat
 | 0,_=>[]
 | n+1,i=>i::zgy mask n ((i * 5+1) % (mask+1))
theorem k7(mask:Nat):∀ (n i j:Nat),j ∈ zgy mask n i->∃ a,a<n/\vU mask a i=j
 | 0,i,j,h=>by cases h
 | n+1,i,j,h=>by
  rcases List.mem_cons.mp h with rfl | h
  ·exact ⟨0,Kj _,rfl⟩
  ·obtain ⟨a,ha,e⟩:=k7 mask n _ j h
   exact ⟨a+1,Nat.succ_lt_succ ha,e⟩
theorem jT(h1:vU mask (mask+1) 0=0)(h2:((List.range (mask+1)).all fun j=>(zgy mask (mask+1) 0).contains j)=true):Full mask:=by
 refine ⟨h1,fun j hj=>?_⟩
 have:=QI.mp h2 j (JA.mpr (Nat.lt_succ_of_le hj))
 obtain ⟨a,ha,e⟩:=k7 mask (mask+1) 0 j (List.contains_iff_mem.mp this)
 exact ⟨a,JZ ha,e⟩
theorem full7:Full 7:=jT (by decide +kernel) (by decide +kernel)
theorem full31:Full 31:=jT (by decide +kernel) (by decide +kernel)
theorem full127:Full 127:=jT (by decide +kernel) (by decide +kernel)
theorem Full.to(F:Full mask)(hi:i≤mask)(hj:j≤mask):∃ m,m≤mask/\vU mask m i=j:=by
 obtain ⟨a,ha,ea⟩:=F.2 i hi
 obtain ⟨b,hb,eb⟩:=F.2 j hj
 by_cases h:a≤b
 ·refine ⟨b - a,by omega,?_⟩
  rw [← ea,← vE,show a+(b - a)=b by omega,eb]
 ·refine ⟨mask+1+b - a,by omega,?_⟩
  rw [← ea,← vE,show a+(mask+1+b - a)=mask+1+b by omega,vE,F.1,eb]
theorem Full.leaps(F:Full mask)(hi:i≤mask)(hp:p<2 ^ 64)(hj:j≤mask):∃ n,n<SetTable.turns mask/\(Tab.leaps mask n (i,p)).1=j:=by
 have hz:(Tab.leaps mask 13 (i,p)).2=0:=by
  rw [qA]
  exact Nat.div_eq_of_lt (JE hp (by decide))
 obtain ⟨m,hm,e⟩:=F.to (zbq mask 13 (i,p) hi) hj
 refine ⟨13+m,by show _<mask+15;omega,?_⟩
 rw [qB]
 have:Tab.leaps mask 13 (i,p)=((Tab.leaps mask 13 (i,p)).1,0):=Prod.ext rfl hz
 rw [this,zaW,e]
theorem zaj(h:Int):SetTable.bits h<2 ^ 64:=by
 unfold SetTable.bits
 have:=JK h (show (0:Int)<2 ^ 64 by decide)
 have:=JQ h (show (2 ^ 64:Int)≠0 by decide)
 omega
theorem y7(hi:i≤mask):i≤SetTable.runEnd mask i/\SetTable.runEnd mask i≤mask/\SetTable.runEnd mask i≤i+9:=by
 unfold SetTable.runEnd
 split<;>omega
theorem zje{owner:Array (Option Nat)}(hj:owner.getD j (some 0)=none):∀ (n fuel i p:Nat),n<fuel->i≤mask->(leaps mask n (i,p)).1=j->∃ j',SetTable.layClean.free mask owner fuel i p=some j'/\j'≤mask/\owner.getD j' (some 0)=none:=by
 intro n
 induction n with
 | zero=>
  intro fuel i p hf hi e
  obtain ⟨f,rfl⟩:=KB (Qd hf)
  have e':i=j:=e
  subst e'
  have hr:=y7 hi
  unfold SetTable.layClean.free
  cases h:(List.range (SetTable.runEnd mask i+1 - i)).find? fun k=>(owner.getD (i+k) (some 0)).isNone with
  | none=>
   have:=List.find?_eq_none.mp h 0 (JA.mpr (by omega))
   rw [Nat.add_zero,hj] at this
   exact absurd rfl this
  | some k=>
   have h1:=JA.mp (QN h)
   have h2:=List.find?_some h
   exact ⟨i+k,rfl,by omega,QO.mp h2⟩
 | succ n ih=>
  intro fuel i p hf hi e
  obtain ⟨f,rfl⟩:=KB (Qd (Qy (Kb _) hf))
  have hr:=y7 hi
  unfold SetTable.layClean.free
  cases h:(List.range (SetTable.runEnd mask i+1 - i)).find? fun k=>(owner.getD (i+k) (some 0)).isNone with
  | some k=>
   have h1:=JA.mp (QN h)
   have h2:=List.find?_some h
   exact ⟨i+k,rfl,by omega,QO.mp h2⟩
  | none=>exact ih f _ _ (by omega) (JZ (KS _ (Kj _))) e
theorem zhg:∀ (l:List (Option Nat)) (j k:Nat),l[j]?=some none->((l.set j (some k)).filterMap id).Perm (k::l.filterMap id)
 | [],j,k,h=>by simp at h
 | x::l,0,k,h=>by
  have:x=none:=by simpa using h
  subst this
  exact .refl _
 | x::l,j+1,k,h=>by
  have ih:=zhg l j k (by simpa using h)
  rw [List.set_cons_succ]
  cases x with
  | none=>simpa using ih
  | some y=>
   simp only [List.filterMap_cons,id]
   exact (ih.cons y).trans (.swap _ _ _)
theorem zdS:∀ (l:List (Option Nat)),(l.filterMap id).length<l.length->∃ j,j<l.length/\l[j]?=some none
 | [],h=>by simp at h
 | none::l,h=>⟨0,by simp,rfl⟩
 | some y::l,h=>by
  obtain ⟨j,h1,h2⟩:=zdS l (by simpa using h)
  exact ⟨j+1,by simpa using h1,by simpa using h2⟩
structure Laid (mask:Nat) (owner:Array (Option Nat)) (k:Nat):Prop where
 size:owner.size=mask+1
 perm:(owner.toList.filterMap id).Perm (List.range k).reverse
theorem wm{owner:Array (Option Nat)}:owner.getD j d=owner.toList[j]?.getD d:=by
 rw [JC,Jp]
theorem zgP{mask:Nat}(F:Full mask):∀ (hs:List Int) (owner:Array (Option Nat)) (k:Nat),Laid mask owner k->k+hs.length≤mask->∃ owner',hs.foldl (fun acc h=>do
 let (owner,k) ← acc
 let j ← SetTable.layClean.free mask owner (SetTable.turns mask) (SetTable.bits h % (mask+1)) (SetTable.bits h)
 pure (owner.setIfInBounds j (some k),k+1)) (some (owner,k))=some (owner',k+hs.length)/\Laid mask owner' (k+hs.length)
 | [],owner,k,L,hk=>⟨owner,rfl,L⟩
 | h::hs,owner,k,L,hk=>by
  rw [JF] at hk
  have hlen:(owner.toList.filterMap id).length=k:=by rw [L.perm.length_eq];simp
  obtain ⟨j0,hj0,hj1⟩:=zdS owner.toList (by rw [hlen,Jd,L.size];omega)
  rw [Jd,L.size] at hj0
  have hi:SetTable.bits h % (mask+1)≤mask:=JZ (KS _ (Kj _))
  obtain ⟨n,hn,e⟩:=F.leaps (j:=j0) hi (zaj h) (by omega)
  obtain ⟨j,f1,f2,f3⟩:=zje (mask:=mask) (owner:=owner) (j:=j0) (by rw [wm,hj1];rfl) n _ _ _ hn hi e
  have hjs:j<owner.size:=by rw [L.size];omega
  have hjn:owner.toList[j]?=some none:=by
   rw [wm] at f3
   cases q:owner.toList[j]? with
   | none=>rw [q] at f3;cases f3
   | some x=>rw [q] at f3;exact congrArg some f3
  have L':Laid mask (owner.setIfInBounds j (some k)) (k+1):=by
   refine ⟨by rw [Array.size_setIfInBounds];exact L.size,?_⟩
   rw [QK,List.range_succ,List.reverse_append]
   exact (zhg _ j k hjn).trans (L.perm.cons k)
  obtain ⟨owner',g1,g2⟩:=zgP F hs _ (k+1) L' (by omega)
  refine ⟨owner',?_,by rw [JF,show k+(hs.length+1)=k+1+hs.length by omega];exact g2⟩
  rw [Qx,JF,show k+(hs.length+1)=k+1+hs.length by omega,← g1]
  congr 1
  show (do let j ← SetTable.layClean.free mask owner _ _ _;pure (owner.setIfInBounds j (some k),k+1))=_
  rw [f1];rfl
theorem zbr(F:Full mask){hashes:Array Int}(hn:hashes.size≤mask):∃ owner,SetTable.layClean mask hashes=some owner/\Laid mask owner hashes.size:=by
 have L0:Laid mask (Array.replicate (mask+1) none) 0:=⟨by simp,by
  have:(Array.replicate (mask+1) (none:Option Nat)).toList.filterMap id=[]:=by
   rw [Array.toList_replicate,List.filterMap_eq_nil_iff]
   intro a ha
   rw [List.eq_of_mem_replicate ha];rfl
  rw [this];exact .refl _⟩
 obtain ⟨owner,h1,h2⟩:=zgP F hashes.toList _ 0 L0 (by rw [Jd];omega)
 rw [KR,Jd] at h1 h2
 refine ⟨owner,?_,h2⟩
 unfold SetTable.layClean
 rw [← Array.foldl_toList,h1];rfl
noncomputable def zar(xs:Array Nat):Prop:=xs.toList.Pairwise (·<·)
structure Good (t:SetTable) (n:Nat) (led:Bool):Prop where
 full:Full t.mask
 size:t.place.size=n
 room:n≤t.mask
 dm:t.dummies=#[]
 rise:zar t.place
 le:∀ j ∈ t.place.toList,j≤t.mask
 led:t.led=led
 plain:t.plain=true
theorem Good.fits{t:SetTable}{n:Nat}{led:Bool}(g:Good t n led):t.fits n=true:=by
 unfold SetTable.fits SetTable.fill
 rw [g.dm,g.size]
 simp [g.room]
theorem zdH{mask finger moves:Nat}{led plain:Bool}{hashes:Array Int}(F:Full mask)(hn:hashes.size≤mask)(hp:plain=true):∃ t order,SetTable.laid mask finger moves led plain hashes=some (t,order)/\order.toList.Perm (List.range hashes.size)/\Good t hashes.size led/\t.mask=mask:=by
 obtain ⟨owner,h1,L⟩:=zbr F hn
 let live:=(List.range (mask+1)).filterMap fun j=>(owner.getD j none).map (j,·)
 have hs:live.map (·.2)=owner.toList.filterMap id:=by
  have e1:live.map (·.2)=(List.range (mask+1)).filterMap fun j=>owner.getD j none:=by
   rw [List.map_filterMap]
   congr 1
   funext j
   cases owner.getD j none<;>rfl
  have e2:owner.toList=(List.range (mask+1)).map fun j=>owner.getD j none:=by
   apply KY
   intro j
   rw [JX]
   by_cases hj:j<mask+1
   ·rw [List.getElem?_range hj,Option.map_some,wm]
    have:j<owner.toList.length:=by rw [Jd,L.size];exact hj
    rw [Jr this];rfl
   ·rw [Qh (by rw [Jd,L.size];omega),Qh (by rw [KZ];omega)];rfl
  rw [e1]
  conv=>rhs;rw [e2,List.filterMap_map]
  rfl
 have hp2:(live.map (·.2)).Perm (List.range hashes.size):=by rw [hs];exact L.perm.trans (List.reverse_perm _)
 have hl:live.length=hashes.size:=by have:=hp2.length_eq;simpa using this
 have hr:(live.map (·.1)).Pairwise (·<·):=by
  rw [JJ]
  refine List.Pairwise.filterMap _ (fun a a' hlt b hb b' hb'=>?_) List.pairwise_lt_range
  obtain ⟨x,_,rfl⟩:=Kc.mp hb
  obtain ⟨y,_,rfl⟩:=Kc.mp hb'
  exact hlt
 have hle:∀ j ∈ live.map (·.1),j≤mask:=fun j hj=>by
  obtain ⟨z,hz,rfl⟩:=Jo.mp hj
  obtain ⟨a,ha,hb⟩:=Qu.mp hz
  obtain ⟨x,_,rfl⟩:=Kc.mp hb
  have:=JA.mp ha
  show a≤mask
  omega
 refine ⟨{ mask,place:=(live.map (·.1)).toArray,dummies:=#[],finger,led,moves,plain },(live.map (·.2)).toArray,?_,by simpa using hp2,⟨F,by simpa using hl,hn,rfl,by unfold zar;simpa using hr,by simpa using hle,rfl,hp⟩,rfl⟩
 unfold SetTable.laid
 rw [h1];rfl
theorem zhD{xs:Array Nat}(hr:zar xs):∀ (fuel lo hi:Nat),lo≤hi->hi≤xs.size->hi - lo≤fuel->(∀ i x,i<lo->xs[i]?=some x->x<j)->(∀ i x,hi≤i->xs[i]?=some x->j≤x)->
  SetTable.below.go xs j fuel lo hi≤xs.size/\(∀ i x,i<SetTable.below.go xs j fuel lo hi->xs[i]?=some x->x<j)/\∀ i x,SetTable.below.go xs j fuel lo hi≤i->xs[i]?=some x->j≤x:=by
 have mono:∀ a b x y,a<b->xs[a]?=some x->xs[b]?=some y->x<y:=fun a b x y hab ha hb=>by
  rw [← Jp] at ha hb
  obtain ⟨h1,e1⟩:=JB.mp ha
  obtain ⟨h2,e2⟩:=JB.mp hb
  rw [← e1,← e2]
  exact JL.mp hr a b h1 h2 hab
 intro fuel
 induction fuel with
 | zero=>
  intro lo hi h1 h2 h3 h4 h5
  unfold SetTable.below.go
  obtain rfl:lo=hi:=by omega
  exact ⟨h2,h4,h5⟩
 | succ fuel ih=>
  intro lo hi h1 h2 h3 h4 h5
  unfold SetTable.below.go
  by_cases hlt:lo<hi
  ·rw [if_pos hlt]
   dsimp only
   have hm:(lo+hi) / 2<xs.size:=by omega
   have hg:xs[(lo+hi) / 2]?=some (xs.getD ((lo+hi) / 2) j):=by
    rw [JC,getElem?_pos xs _ hm];rfl
   generalize hx:xs.getD ((lo+hi) / 2) j=x at hg
   split
   ·rename_i hc
    exact ih _ _ (by omega) h2 (by omega) (fun i y hi' hy=>by
     by_cases e:i=(lo+hi) / 2
     ·rw [e,hg] at hy;cases hy;exact hc
     ·exact Nat.lt_trans (mono i _ y x (by omega) hy hg) hc) h5
   ·rename_i hc
    exact ih _ _ (by omega) (by omega) (by omega) h4 (fun i y hi' hy=>by
     by_cases e:i=(lo+hi) / 2
     ·rw [e,hg] at hy;cases hy;omega
     ·have:=mono _ i x y (by omega) hg hy;omega)
  ·rw [if_neg hlt]
   obtain rfl:lo=hi:=by omega
   exact ⟨h2,h4,h5⟩
theorem below_ok{xs:Array Nat}(hr:zar xs)(j:Nat):SetTable.below xs j≤xs.size/\(∀ i x,i<SetTable.below xs j->xs[i]?=some x->x<j)/\∀ i x,SetTable.below xs j≤i->xs[i]?=some x->j≤x:=
 zhD hr _ 0 xs.size (Kb _) (Jj _) (by omega) (fun i x h=>absurd h (Kk _)) fun i x h e=>by
  rw [getElem?_neg xs i (by omega)] at e;cases e
theorem zbv{xs:Array Nat}(hr:zar xs)(hj:xs[SetTable.below xs j]?≠some j):zar (SetTable.insertAt xs (SetTable.below xs j) j):=by
 obtain ⟨b1,b2,b3⟩:=below_ok hr j
 unfold zar
 rw [SetTable.toList_insertAt,Jz,JM]
 refine ⟨hr.sublist (List.take_sublist _ _),⟨fun y hy=>?_,hr.sublist (List.drop_sublist _ _)⟩,fun x hx y hy=>?_⟩
 ·obtain ⟨i,hi⟩:=Ke.mp hy
  rw [List.getElem?_drop,Jp] at hi
  have h1:=b3 _ _ (Nat.le_add_right _ _) hi
  by_cases e:y=j
  ·subst e
   cases i with
   | zero=>exact absurd hi hj
   | succ i=>
    have hb:SetTable.below xs y<xs.size:=by
     have:=(Jw.mp hi).1;omega
    have h2:=b3 _ _ (Jj _) (getElem?_pos xs _ hb)
    have h3:=JL.mp hr (SetTable.below xs y) (SetTable.below xs y+(i+1)) (by rw [Jd];exact hb) (by rw [Jd];exact (Jw.mp hi).1) (by omega)
    rw [Kw,Kw] at h3
    have h4:=(Jw.mp hi).2
    omega
  ·omega
 ·have hxj:x<j:=by
   obtain ⟨i,hi⟩:=Ke.mp hx
   rw [QQ] at hi
   split at hi
   ·rename_i h;rw [Jp] at hi;exact b2 i x h hi
   ·cases hi
  rcases List.mem_cons.mp hy with rfl | hy
  ·exact hxj
  ·obtain ⟨i,hi⟩:=Ke.mp hy
   rw [List.getElem?_drop,Jp] at hi
   have h1:=b3 _ _ (Nat.le_add_right _ _) hi
   omega
theorem vd{t:SetTable}(hd:t.dummies=#[])(h:j ∉ t.place.toList):t.slot j=.empty:=by
 unfold SetTable.slot
 dsimp only
 rw [if_neg,hd]
 ·rfl
 ·intro e
  have:=beq_iff_eq.mp e
  rw [← Jp] at this
  exact h (Ki this)
theorem zaO{t:SetTable}(h:t.slot j=.empty):t.place[SetTable.below t.place j]?≠some j:=fun e=>by
 unfold SetTable.slot at h
 dsimp only at h
 rw [if_pos (beq_iff_eq.mpr e)] at h
 cases h
theorem xA{t:SetTable}(hd:t.dummies=#[])(j:Nat):t.slot j≠.dummy:=fun h=>by
 unfold SetTable.slot at h
 dsimp only at h
 split at h
 ·cases h
 ·rw [hd] at h;cases h
noncomputable def vF(t:SetTable)(P:SetTable.Probe):SetTable.Probe:={ P with j:=(SetTable.leap t.mask P.i P.perturb).1,more:=SetTable.runEnd t.mask (SetTable.leap t.mask P.i P.perturb).1 - (SetTable.leap t.mask P.i P.perturb).1,i:=(SetTable.leap t.mask P.i P.perturb).1,perturb:=(SetTable.leap t.mask P.i P.perturb).2 }
section
variable {t:SetTable} {hashAt:Nat->Int} {h:Int}
theorem uS(f:Nat)(P:SetTable.Probe):SetTable.probe.go t hashAt h (f+1) P=match t.slot P.j with
  | .empty=>some (.empty P.j P.dummy)
  | .dummy=>SetTable.probe.go t hashAt h f (t.advance { P with dummy:=some P.j })
  | .live i=>if hashAt i == h then some (.candidate P.j i (t.advance P)) else SetTable.probe.go t hashAt h f (t.advance P):=rfl
theorem zkE(hd:t.dummies=#[])(hA:∀ i,(hashAt i == h)=false):∀ (m fuel:Nat) (P:SetTable.Probe),P.more=m->m<fuel->P.j+m≤t.mask->
  (∃ j,SetTable.probe.go t hashAt h fuel P=some (.empty j P.dummy)/\t.slot j=.empty/\j≤t.mask)∨SetTable.probe.go t hashAt h fuel P=SetTable.probe.go t hashAt h (fuel - (m+1)) (vF t P):=by
 intro m
 induction m with
 | zero=>
  intro fuel P hm hf hj
  obtain ⟨f,rfl⟩:=KB (Qd hf)
  rw [Nat.succ_eq_add_one,uS]
  cases hs:t.slot P.j with
  | empty=>exact .inl ⟨P.j,rfl,hs,by omega⟩
  | dummy=>exact absurd hs (xA hd _)
  | live i=>
   right
   dsimp only
   rw [hA i,if_neg Jk]
   have:t.advance P=vF t P:=by
    unfold SetTable.advance
    rw [if_neg (by omega)];rfl
   rw [this];rfl
 | succ m ih=>
  intro fuel P hm hf hj
  obtain ⟨f,rfl⟩:=KB (Qd (Qy (Kb _) hf))
  rw [Nat.succ_eq_add_one,uS]
  cases hs:t.slot P.j with
  | empty=>exact .inl ⟨P.j,rfl,hs,by omega⟩
  | dummy=>exact absurd hs (xA hd _)
  | live i=>
   dsimp only
   rw [hA i,if_neg Jk]
   have:t.advance P={ P with j:=P.j+1,more:=m }:=by
    unfold SetTable.advance
    rw [if_pos (by omega),hm];rfl
   rw [this]
   rcases ih f { P with j:=P.j+1,more:=m } rfl (by omega) (by show P.j+1+m≤t.mask;omega) with h1 | h1
   ·exact .inl h1
   ·right
    rw [h1,show f+1 - (m+1+1)=f - (m+1) by omega];rfl
theorem zaZ(hd:t.dummies=#[])(hA:∀ i,(hashAt i == h)=false)(h0:t.slot j0=.empty):∀ (n fuel:Nat) (P:SetTable.Probe),P.j=P.i->P.more=SetTable.runEnd t.mask P.i - P.i->P.i≤t.mask->10 * n+10≤fuel->(leaps t.mask n (P.i,P.perturb)).1=j0->
  ∃ j,SetTable.probe.go t hashAt h fuel P=some (.empty j P.dummy)/\t.slot j=.empty/\j≤t.mask:=by
 intro n
 induction n with
 | zero=>
  intro fuel P h1 h2 h3 h4 h5
  obtain ⟨f,rfl⟩:=KB (show fuel≠0 by omega)
  have e:P.j=j0:=h1.trans h5
  unfold SetTable.probe.go
  rw [e,h0]
  exact ⟨j0,rfl,h0,by omega⟩
 | succ n ih=>
  intro fuel P h1 h2 h3 h4 h5
  have hr:=y7 h3
  rcases zkE hd hA P.more fuel P rfl (by omega) (by omega) with h6 | h6
  ·exact h6
  ·rw [h6]
   exact ih _ (vF t P) rfl rfl (JZ (KS _ (Kj _))) (by omega) h5
end
theorem znl:∀ (mask:Nat) (l:List Nat),l.Pairwise (·<·)->l.length≤mask->∃ j,j≤mask/\j ∉ l:=by
 intro mask l hr hl
 refine Jx fun hn=>?_
 have sub:∀ j ∈ List.range (mask+1),j ∈ l:=fun j hj=>Jx fun h=>hn ⟨j,JZ (JA.mp hj),h⟩
 have nd:((List.range (mask+1)).map Int.ofNat).Nodup:=by
  rw [JG,JJ]
  exact List.pairwise_lt_range.imp fun h e=>by have:=Int.ofNat.inj e;omega
 have:=L2.len_le_of _ (l.map Int.ofNat) nd fun x hx=>by
  obtain ⟨j,hj,rfl⟩:=Jo.mp hx
  exact Jo.mpr ⟨j,sub j hj,rfl⟩
 rw [Je,Je,KZ] at this
 omega
theorem zbx{t:SetTable}(g:Good t n led)(h:Int):∃ j,t.freeSlot h=some (j,false)/\t.slot j=.empty/\j≤t.mask:=by
 obtain ⟨j0,h0,h1⟩:=znl t.mask t.place.toList g.rise (by rw [Jd,g.size];exact g.room)
 have hi:SetTable.bits h % (t.mask+1)≤t.mask:=JZ (KS _ (Kj _))
 obtain ⟨m,hm,e⟩:=g.full.leaps (j:=j0) hi (zaj h) h0
 obtain ⟨j,e1,e2,e3⟩:=zaZ (t:=t) (hashAt:=fun _=>h+1) (h:=h) g.dm (fun _=>beq_eq_false_iff_ne.mpr (by omega)) (vd g.dm h1) m (10 * SetTable.turns t.mask) (t.probeStart h) rfl rfl hi (by omega) e
 refine ⟨j,?_,e2,e3⟩
 unfold SetTable.freeSlot SetTable.probe
 rw [e1];rfl
theorem zgh{t:SetTable}(g:Good t n led)(hn:n+1≤t.mask)(hs:t.slot j=.empty)(hj:j≤t.mask):Good (t.put j).1 (n+1) led/\(t.put j).1.mask=t.mask:=by
 have hd:(t.put j).1.dummies=#[]:=by
  unfold SetTable.put
  dsimp only
  rw [g.dm];rfl
 refine ⟨⟨g.full,?_,hn,hd,zbv g.rise (zaO hs),fun k hk=>?_,g.led,g.plain⟩,rfl⟩
 ·show (SetTable.insertAt t.place (SetTable.below t.place j) j).size=n+1
  have:=(Qc t.place (SetTable.below t.place j) j).length_eq
  rw [Jd,Jd,JU,g.size] at this
  exact this
 ·have hk':k ∈ (SetTable.insertAt t.place (SetTable.below t.place j) j).toList:=hk
  rw [(Qc t.place (SetTable.below t.place j) j).mem_iff,Kq] at hk'
  rcases List.mem_append.mp hk' with h | h
  ·exact g.le k h
  ·rw [Ji.mp h];exact hj
theorem layNew_ok{t:SetTable}{es:Array (Int × Value)}(g:Good t n led)(hn:n+1≤t.mask)(he:es.size=n)(h:Int)(x:Value):∃ es' t',layNew t es h x=(es',t',false,false)/\Good t' (n+1) led/\t'.mask=t.mask/\es'.toList.Perm (es.push (h,x)).toList:=by
 obtain ⟨j,e1,e2,e3⟩:=zbx g h
 obtain ⟨g',hm⟩:=zgh g hn e2 e3
 have hp:=layNew_perm t es h x
 have hsz:(SetTable.insertAt es (t.put j).2 (h,x)).size=n+1:=by
  have:=(Qc es (t.put j).2 (h,x)).length_eq
  rw [Jd,Jd,JU,he] at this
  exact this
 have hf:=g'.fits
 rw [← hsz] at hf
 have hl:layNew t es h x=(SetTable.insertAt es (t.put j).2 (h,x),(t.put j).1,false,false):=by
  unfold layNew
  rw [e1]
  show (_,SetTable.orStandIn (t.put j).1 (SetTable.insertAt es (t.put j).2 (h,x)).size,false,!(t.put j).1.fits (SetTable.insertAt es (t.put j).2 (h,x)).size)=_
  unfold SetTable.orStandIn
  rw [hf];rfl
 rw [hl] at hp
 exact ⟨_,_,hl,g',hm,hp⟩
theorem relay_ok{t:SetTable}{n wanted:Nat}{led:Bool}{es:Array (Int × Value)}(g:Good t n led)(F:Full (SetTable.sizeAbove wanted - 1))(he:es.size=n)(hn:n≤SetTable.sizeAbove wanted - 1):∃ es' t',relayAll t es wanted=(es',t',false)/\Good t' n led/\t'.mask=SetTable.sizeAbove wanted - 1/\es'.toList.Perm es.toList:=by
 obtain ⟨t',order,h1,h2,h3,h4⟩:=zdH (finger:=t.finger) (moves:=t.movedTo (SetTable.sizeAbove wanted - 1)) (led:=t.led) (plain:=t.plain) (hashes:=es.map (·.1)) F (by rw [Array.size_map,he];exact hn) g.plain
 rw [Array.size_map,he] at h2 h3
 rw [g.led] at h3
 have hp:=relayAll_perm t es wanted
 have hz:(order.filterMap (es[·]?)).size=n:=by
  have e:=(h2.filterMap (es[·]?))
  rw [← he,filterMap_getElem?_range] at e
  have:=e.length_eq
  rw [← he,← Jd,Array.toList_filterMap,this,Jd]
 have hl:relayAll t es wanted=(order.filterMap (es[·]?),t',false):=by
  unfold relayAll SetTable.relaid
  rw [h1]
  dsimp only
  rw [if_pos]
  rw [hz,h3.fits]
  unfold coversAll
  rw [he,List.isPerm_iff.mpr h2];rfl
 rw [hl] at hp
 exact ⟨_,_,hl,h3,h4,hp⟩
end Tab
end F
namespace F
open PySem PySem.Spec PyProof.Rows
noncomputable def elN(e:Int × Value):Int:=numOf e.2
structure SetTb (prog:Program) (w:World) (es:Array (Int × Value)) (t:SetTable) (L:List Int) (led:Bool):Prop where
 el:ElemsOf (intKind prog w) es.toList
 perm:(es.toList.map elN).Perm L
 good:Tab.Good t es.size led
 mask:t.mask=7∨t.mask=31∨t.mask=127
 nf:es.size * 5<t.mask * 3
noncomputable def SetI(prog:Program)(w:World)(h:Heap)(a:Addr)(L:List Int)(led:Bool):Prop:=∃ o es ep t,h.get? a=some o/\o.ExactSet/\o.data=.set es ep t/\SetTb prog w es t L led
section
variable {prog:Program} {w:World} {A:Around} {E:Value->Shared->Prop} {s:Shared}
theorem zgX{e:Int × Value}(h:(∃ k,(intKind prog w).is k e.2=true/\e.1=(intKind prog w).hash k)/\e.2.scannable=true):(intKind prog w).is k e.2=true ↔ elN e=k:=by
 obtain ⟨⟨k',h1,_⟩,_⟩:=h
 obtain ⟨t,e1⟩:=Value.isInt_shape h1
 constructor
 ·intro h2
  obtain ⟨t',e2⟩:=Value.isInt_shape h2
  unfold elN;rw [e2];rfl
 ·intro h2
  unfold elN at h2
  rw [e1] at h2 ⊢
  have:k'=k:=h2
  subst this
  exact intKind_is _ _ _ _
theorem SetTb.size{es:Array (Int × Value)}{L:List Int}(b:SetTb prog w es t L led):es.size=L.length:=by
 have:=b.perm.length_eq
 rw [Je,Jd] at this
 exact this
theorem SetTb.mem{es:Array (Int × Value)}(b:SetTb prog w es t L led)(k:Int):k ∈ L ↔ ∃ e ∈ es.toList,(intKind prog w).is k e.2=true:=by
 rw [← b.perm.mem_iff,Jo]
 exact ⟨fun ⟨e,h1,h2⟩=>⟨e,h1,(zgX (b.el e h1)).mpr h2⟩,fun ⟨e,h1,h2⟩=>⟨e,h1,(zgX (b.el e h1)).mp h2⟩⟩
theorem vD{h:Heap}{o:Obj}(ho:h.get? a=some o)(hd:o.data=.set es ep t):(h.update a (Obj.putSet es' t')).get? a=some { o with data:=.set es' (ep+1) t' }:=by
 have:=JT (Obj.putSet es' t') ho (by rw [putSet_of es' t' hd];rfl)
 rw [putSet_of es' t' hd] at this;exact this
theorem zbS{L:List Int}{Q:Bool->Shared->Prop}(hS:SetI prog w s.heap a L led)(hl:L.length<63)
  (h:∀ h' b,Heap.SameBut a s.heap h'->SetI prog w h' a (if n ∈ L then L else L++[n]) led->Q b { s with heap:=h' }):wpAny (model prog w) A (setAddHashed a (.int n tk) ((intKind prog w).hash n)) Q E s:=by
 obtain ⟨o,es,ep,t,ho,hex,hd,B⟩:=hS
 have hf:=B.good.fits
 have hsz:=B.size
 have hb:es.size<scanBound:=by show es.size<4096;omega
 have hkey:=intKind_is prog w n tk
 unfold setAddHashed setAddHashedIn
 refine wpAny_holding (wpAny_bind (wpAny_setState_of ho hd hf ?_))
 dsimp only
 rw [byScan_of (knd:=intKind prog w) rfl hb B.el]
 simp only [↓reduceIte]
 unfold setAddByScan
 refine wpAny_bind ?_
 refine wpAny_bind (wpAny_rule ?_)
 refine wpAny_bind (wpAny_setScan_of hkey ho hd hf B.el ?_)
 cases hr:List.findIdx? (fun e=>(intKind prog w).is n e.2) es.toList with
 | some j=>
  dsimp only
  obtain ⟨hj,hpj,_⟩:=List.findIdx?_eq_some_iff_getElem.mp hr
  have hn:n ∈ L:=(B.mem n).mpr ⟨_,Kn hj,hpj⟩
  refine wpAny_pure (wpAny_pure ?_)
  have:=h s.heap false (Heap.SameBut.refl a s.heap) (by rw [if_pos hn];exact ⟨o,es,ep,t,ho,hex,hd,B⟩)
  exact this
 | none=>
  dsimp only
  have hn:n ∉ L:=fun z=>by
   obtain ⟨e,he,hp⟩:=(B.mem n).mp z
   have:=List.findIdx?_eq_none_iff.mp hr e he
   rw [hp] at this;exact Bool.noConfusion this
  obtain ⟨es1,t1,e1,g1,m1,p1⟩:=Tab.layNew_ok (es:=es) B.good (by have:=B.nf;rcases B.mask with h | h | h<;>omega) rfl ((intKind prog w).hash n) (.int n tk)
  rw [e1]
  dsimp only
  refine wpAny_bind (wpAny_pure ?_)
  rw [g1.plain,if_pos rfl]
  refine wpAny_bind ?_
  rw [hashByValue_scannable 8 (show (Value.int n tk).scannable=true from rfl)]
  refine wpAny_pure ?_
  simp only [show plainKind (Value.int n tk)=true from rfl,if_true]
  rw [Kq] at p1
  have hz1:es1.size=es.size+1:=by
   have:=p1.length_eq
   rw [Jd,Jh,Jd,Qg] at this
   exact this
  have el1:ElemsOf (intKind prog w) es1.toList:=(B.el.push hkey rfl).perm p1
  have pm1:(es1.toList.map elN).Perm (L++[n]):=(p1.map elN).trans (by rw [Ks];exact B.perm.append_right _)
  have hb1:es1.size<scanBound:=by show es1.size<4096;omega
  show wpAny _ _ (storeSet a es1 t1 >>= _) _ _ _
  refine wpAny_bind (wpAny_storeSet_of ho hd ?_ (fits_of_scanBound hb1))
  have ho1:=vD (es':=es1) (t':=t1) ho hd
  have hsb1:=Kz s.heap a (Obj.putSet es1 t1)
  have hfill:t1.fill=es.size+1:=by unfold SetTable.fill;rw [g1.size,g1.dm];rfl
  have good1:Tab.Good t1 es1.size led:=by rw [hz1];exact g1
  by_cases hT:t1.tooFull=true
  ·have hT':(es.size+1) * 5 ≥ t.mask * 3:=by
    unfold SetTable.tooFull at hT
    rw [hfill,m1] at hT
    exact of_decide_eq_true hT
   have hnf:=B.nf
   obtain ⟨hF,hmk,hn5⟩:Tab.Full (SetTable.sizeAbove (SetTable.grown es1.size) - 1)/\(SetTable.sizeAbove (SetTable.grown es1.size) - 1=7∨SetTable.sizeAbove (SetTable.grown es1.size) - 1=31∨SetTable.sizeAbove (SetTable.grown es1.size) - 1=127)/\es1.size * 5<(SetTable.sizeAbove (SetTable.grown es1.size) - 1) * 3:=by
    rcases B.mask with h7 | h7 | h7
    ·have:es1.size=5:=by omega
     rw [this]
     have e:SetTable.sizeAbove (SetTable.grown 5) - 1=31:=by decide
     rw [e]
     exact ⟨Tab.full31,.inr (.inl rfl),by decide⟩
    ·have:es1.size=19:=by omega
     rw [this]
     have e:SetTable.sizeAbove (SetTable.grown 19) - 1=127:=by decide
     rw [e]
     exact ⟨Tab.full127,.inr (.inr rfl),by decide⟩
    ·omega
   obtain ⟨es2,t2,e2,g2,m2,p2⟩:=Tab.relay_ok good1 hF rfl (by omega)
   rw [hT,e2]
   simp only [Bool.not_false,Bool.and_self,if_true]
   refine wpAny_bind (wpAny_pure ?_)
   have hz2:es2.size=es1.size:=by
    have:=p2.length_eq
    rw [Jd,Jd] at this
    exact this
   refine wpAny_bind (wpAny_storeSet_of ho1 rfl ?_ (fits_of_scanBound (by rw [hz2];exact hb1)))
   refine wpAny_pure ?_
   refine wpAny_pure (h _ true (hsb1.trans (Kz _ a _)) ?_)
   rw [if_neg hn]
   exact ⟨_,es2,_,t2,vD ho1 rfl,hex,rfl,el1.perm p2,(p2.map elN).trans pm1,by rw [hz2];exact g2,by rw [m2];exact hmk,by rw [hz2,m2];exact hn5⟩
  ·have hT':¬ (es.size+1) * 5 ≥ t.mask * 3:=fun z=>hT (by
    unfold SetTable.tooFull
    rw [hfill,m1]
    exact decide_eq_true z)
   rw [Bool.eq_false_iff.mpr hT]
   simp only [Bool.not_false,Bool.and_false,Bool.false_eq_true,if_false]
   refine wpAny_pure ?_
   refine wpAny_pure (h _ true hsb1 ?_)
   rw [if_neg hn]
   exact ⟨_,es1,_,t1,ho1,hex,rfl,el1,pm1,good1,by rw [m1];exact B.mask,by rw [hz1,m1];omega⟩
theorem SetI.keep{h h':Heap}(x:SetI prog w h a L led)(k:∀ o,h.get? a=some o->h'.get? a=some o):SetI prog w h' a L led:=by
 obtain ⟨o,es,ep,t,ho,r⟩:=x
 exact ⟨o,es,ep,t,k o ho,r⟩
theorem SetI.fresh{h:Heap}(ho:h.get? a=some { cls:=.type "set",dict:=none,data:=.set #[] 0 (.fresh 0 0 led) }):SetI prog w h a [] led:=
 ⟨_,#[],0,_,ho,⟨rfl,rfl,rfl⟩,rfl,fun e he=>by simp at he,.refl _,⟨Tab.full7,rfl,Nat.zero_le _,rfl,List.Pairwise.nil,fun j hj=>by simp [SetTable.fresh] at hj,rfl,rfl⟩,.inl rfl,by show 0 * 5<7 * 3;decide⟩
theorem zgG(val:Nat->Int):∀ (n i:Nat),i≤n->(firstMet val i).length≤(firstMet val n).length:=by
 intro n
 induction n with
 | zero=>intro i hi;rw [Nat.le_zero.mp hi];exact Jj _
 | succ n ih=>
  intro i hi
  by_cases e:i=n+1
  ·rw [e];exact Jj _
  ·refine JO (ih i (by omega)) ?_
   rw [firstMet_succ,step_length]
   split<;>omega
theorem qR{R:Result->Shared->Prop}{P:Nat->Value->Prop}{St:Nat->Shared->Prop}(W:WalksS prog w A.in1 I fp wr G n P St)(S:Addr)(hSf:S ∉ fp)
  (val:Nat->Int)(hval:∀ i v,P i v->∃ t,v=.int (val i) t)(hb:(firstMet val n).length<63):
  ∀ (k i:Nat) (s:Shared),n - i=k->i≤n->St i s->SetI prog w s.heap S (firstMet val i) led->
   (∀ s',Moved (S::wr) G s s'->SetI prog w s'.heap S (firstMet val n) led->R (.ok (.ret .none)) s')->
   codeAny (model prog w) A (.builtin "set.update.loop" ⟨[.ref S,.ref I],[]⟩) R s:=by
 have hSw:S ∉ wr:=fun h=>hSf (W.sub _ h)
 have hsub:∀ b ∈ wr,b ∈ S::wr:=fun b hb=>Jg _ hb
 intro k
 induction k with
 | zero=>
  intro i s hk hi hst hS hR
  have hin:i=n:=by omega
  subst hin
  refine codeAny_builtin Qs ?_
  rw [Kl KD _]
  show wpAny _ A.in1 (pyNext (.ref I) >>= _) _ _ s
  refine wpAny_bind (W.done s _ _ hst fun s' hm=>?_)
  show wpAny _ A.in1 (ret Value.none) _ _ s'
  exact wpAny_pure (hR s' (hm.mono hsub) (hS.keep fun o ho=>hm.heap S o hSw ho))
 | succ k ih=>
  intro i s hk hi hst hS hR
  have hlt:i<n:=by omega
  refine codeAny_builtin Qs ?_
  rw [Kl KD _]
  show wpAny _ A.in1 (pyNext (.ref I) >>= _) _ _ s
  refine wpAny_bind (W.item i s _ _ hlt hst fun v s' hP hst' hm=>?_)
  obtain ⟨t,rfl⟩:=hval i v hP
  have hS':=hS.keep fun o ho=>hm.heap S o hSw ho
  show wpAny _ A.in1 (holding [Value.int (val i) t] (setAdd S (.int (val i) t)) >>= _) _ _ s'
  refine wpAny_bind (wpAny_holding ?_)
  unfold setAdd
  refine wpAny_holding ?_
  refine wpAny_bind ((intKind prog w).pyHash (k:=val i) (intKind_is _ _ _ _) ?_)
  have hstep:firstMet val (i+1)=if val i ∈ firstMet val i then firstMet val i else firstMet val i++[val i]:=by
   rw [firstMet_succ]
   unfold step_dedup
   have e:((firstMet val i).any (· == val i)=true) ↔ val i ∈ firstMet val i:=by
    rw [Kv]
    exact ⟨fun ⟨x,hx,e⟩=>by rw [← (beq_iff_eq.mp e)];exact hx,fun hx=>⟨_,hx,beq_self_eq_true _⟩⟩
   by_cases c:val i ∈ firstMet val i
   ·rw [if_pos (e.mpr c),if_pos c]
   ·rw [if_neg (fun z=>c (e.mp z)),if_neg c]
  have hroom:=zgG val n i hi
  refine zbS (s:={ s' with toks:=s'.toks+1 }) hS' (by omega) fun h' _ hsb hS2=>?_
  rw [← hstep] at hS2
  refine wpAny_pure ⟨plainId_quiet KD _,ih (i+1) _ (by omega) hlt (W.frame _ s' _ _ hst' (Nat.le_succ _) fun b hb o e=>?_) hS2 fun s'' hm'' hS''=>?_⟩
  ·rw [hsb.2 b (fun h:b=S=>hSf (by rw [← h];exact hb))];exact e
  ·refine hR s'' (Moved.trans W.gtrans ((hm.mono hsub).then_heap (Nat.le_succ _) fun b o hb e=>?_) hm'') hS''
   rw [hsb.2 b (fun h:b=S=>hb (by rw [h];exact Jf))];exact e
theorem zbl(a:Value){Q₁:Value->Shared->Prop}
  (h:Q₁ (.ref s.heap.objs.size) { s with heap:=s.heap.push { cls:=.type "set",dict:=none,data:=.set #[] 0 (.fresh 0 0 (!w.params.followText "set-order")) } }):
  codeAny (model prog w) A (.call (.builtin "set.__new__") ⟨[.type "set",a],[]⟩) (wants Q₁ E) s:=by
 refine codeAny_of_tree ?_
 show wpAny _ A.in1 (do checkBuiltinCall "set.__new__" ⟨[.type "set",a],[]⟩;again (.builtin "set.__new__" ⟨[.type "set",a],[]⟩)) _ _ s
 refine wpAny_bind (wpAny_of_eq (PySem.F.newCall_set_1 a) (wpAny_pure ⟨plainId_quiet PySem.F.plain_set_new _,codeAny_builtin PySem.F.entry_set_new ?_⟩))
 rw [Kl PySem.F.plain_set_new _]
 unfold Builtin.«set.__new__» Builtin.Frozenset.newClass
 have hsub:=sub_set_self
 obtain ⟨hp,g,d,tk,os⟩:=s
 dsimp only
 wp_walk
 refine wpAny_askSetting (wpAny_pure ?_)
 dsimp only
 simp only [newObj]
 refine wpAny_bind (wpAny_alloc (wpAny_pure ?_))
 exact wpAny_pure h
theorem zfi{items:Array Value}{ns:List Int}{Q:Value->Shared->Prop}
  (hh:A.handled=none)(hl:s.heap.IsList l items)(hi:IntsAre items.toList ns)(hb:(firstMet (fun i=>ns.getD i 0) items.size).length<63)
  (h:∀ (h':Heap) (tk:Nat),SetI prog w h' s.heap.objs.size (firstMet (fun i=>ns.getD i 0) items.size) (!w.params.followText "set-order")->
   (∀ b o,b<s.heap.objs.size->s.heap.get? b=some o->h'.get? b=some o)->Q (.ref s.heap.objs.size) { s with heap:=h',toks:=tk }):
  wpAny (model prog w) A (call (.type "set") [.ref l]) Q E s:=by
 generalize hled:(!w.params.followText "set-order")=led at h
 let o0:Obj:={ cls:=.type "set",dict:=none,data:=.set #[] 0 (.fresh 0 0 led) }
 obtain ⟨c,tl,hmro⟩:=PySem.F.called_set.mro
 have hmade:=PySem.F.called_set.made
 have hsub:=PySem.F.called_set.sub
 refine wpAny_call (codeAny_of_tree ?_)
 show wpAny _ _ (callAny (.type "set") _) _ _ _
 refine wpAny_pure ⟨Code.quiet_builtin _ (by decide +kernel),codeAny_builtin PySem.F.entry_type_call ?_⟩
 rw [Around.under_plain (weight_type_call_type "set" [.ref l] []) rfl]
 have h1:=PySem.F.called_set.notType
 have h2:=PySem.F.called_set.canCreate
 have hct:=PySem.F.typeCall_set_1 (.ref l)
 repeat (any_goals (first | assumption | wp_step))
 refine codeAny_mono (zbl (.ref l) (E:=E) (Q₁:=fun obj s₁=>obj=.ref s.heap.objs.size/\s₁={ s with heap:=s.heap.push o0 }) ⟨rfl,by rw [hled]⟩) fun r s₁ hr=>?_
 cases r with
 | error e=>exact hr
 | ok fl=>
  cases fl with
  | ret obj=>
   obtain ⟨rfl,rfl⟩:=hr
   have hS:(s.heap.push o0).get? s.heap.objs.size=some o0:=Jq _ rfl
   have hT:Shared.TypeIs { s with heap:=s.heap.push o0 } (.ref s.heap.objs.size) "set":=⟨_,hS,rfl⟩
   have hli:=PySem.F.called_set.init.lookup
   have hbi:=PySem.F.called_set.init.bind (.ref s.heap.objs.size)
   repeat (any_goals (first | assumption | wp_step))
   refine codeAny_mono (codeAny_call_builtin (R:=wants (fun r s₂=>r=.none/\∃ h' tk,s₂={ s with heap:=h',toks:=tk }/\
     SetI prog w h' s.heap.objs.size (firstMet (fun i=>ns.getD i 0) items.size) led/\(∀ b o,b<s.heap.objs.size->s.heap.get? b=some o->h'.get? b=some o)) E) PySem.F.called_set.init.plain PySem.F.entry_set_init (check_set_init_1 hT ?_)) fun r₂ s₂ hr₂=>?_
   ·obtain ⟨ol,hol,hcl,nl,hdl⟩:=hl
    obtain ⟨ocls,odict,odata,oslots⟩:=ol
    simp only at hcl hdl
    subst hcl;subst hdl
    have hol':(s.heap.push o0).get? l=some { cls:=.type "list",dict:=odict,data:=.seq items nl,slots:=oslots }:=Jc _ hol
    have hsls:=PySem.F.sub_list_set
    have hslf:=PySem.F.sub_list_frozenset
    have hne:(Value.type "list" == Value.type "dict")=false:=by decide
    have hl1:(s.heap.push o0).IsList l items:=⟨_,hol',rfl,nl,rfl⟩
    unfold Builtin.«set.__init__» noKeywords Builtin.Frozenset.updateFrom
    generalize hPI:pyIter=PI
    wp_walk
    subst hPI
    refine wpAny_pyIter_list hl1 ?_
    refine wpAny_bind (wpAny_runValue ?_)
    have hlS:l<s.heap.objs.size:=Jn hol
    have hh3:A.in1.in1.in1.handled=none:=by simp [hh]
    have hneI:l≠(s.heap.push o0).objs.size:=by
     rw [KM];exact Ju (JY hlS)
    have hSf:s.heap.objs.size ∉ [(s.heap.push o0).objs.size,l]:=by
     rw [Heap.size_push];simp only [List.mem_cons,List.mem_singleton,List.not_mem_nil,or_false,not_or]
     exact ⟨Ju (KJ _),Qd hlS⟩
    have hval:∀ (i:Nat) (v:Value),items[i]?=some v->∃ t,v=.int ((fun i=>ns.getD i 0) i) t:=fun i v hv=>
     IntsAre.int_at hi i v (by rw [Jp];exact hv)
    refine qR ((Walks.list hh3 _ l hneI items).toS) s.heap.objs.size hSf (fun i=>ns.getD i 0) hval hb (items.size - 0) 0 _ (by omega) (Kb _)
     ⟨⟨_,Jq _ rfl,rfl,rfl⟩,(hl1.push _)⟩ (SetI.fresh (Jc _ hS)) ?hR
    case hR=>
     intro s' hm hS'
     obtain ⟨h',g',d',tk',os'⟩:=s'
     have eg:g'=s.gens:=hm.gens
     have ed:d'=s.drawn:=hm.drawn
     have eo:os'=s.os:=hm.os
     subst eg;subst ed;subst eo
     show wpAny _ _ _ _ _ _
     refine wpAny_pure ?_
     show wpAny _ _ (ret Value.none) _ _ _
     refine wpAny_pure ⟨rfl,h',tk',rfl,hS',fun b o hb e=>?_⟩
     have hb1:b≠s.heap.objs.size:=Ju hb
     have hb2:b≠(s.heap.push o0).objs.size:=by
      rw [KM];exact Ju (JY hb)
     exact hm.heap b o (by simp only [List.mem_cons,List.mem_singleton,List.not_mem_nil,or_false,not_or];exact ⟨hb1,hb2⟩) (Heap.get?_push_of_some _ (Heap.get?_push_of_some _ e))
   ·cases r₂ with
    | error e=>exact hr₂
    | ok fl₂=>
     cases fl₂ with
     | ret r=>
      obtain ⟨rfl,h',tk,rfl,hS',hk'⟩:=hr₂
      repeat (any_goals (first | assumption | wp_step))
      exact h _ _ hS' hk'
     | _=>exact hr₂.elim
  | _=>exact hr.elim
end
end F
namespace F
open PySem PySem.Spec PyProof.Rows PySem.W
theorem zx:Slot "set" "__iter__" "set.__iter__":=
 .of (owner:="set") (n:="__iter__") (by rw [typeLookup_type,builtinLookup_eq_fast];kernel_rfl) (by decide +kernel) (by decide +kernel) (by decide +kernel)
  (by first | exact .inl (by decide +kernel) | exact .inr (by decide +kernel)) (by rw [isSubtype_type];kernel_rfl)
theorem xK:entryFor table "set.__iter__"=some Builtin.«frozenset.__iter__»:=entryFor_alias (id':="frozenset.__iter__") (by kernel_rfl) rfl (by decide +kernel) (by kernel_rfl)
theorem xh(a:Value):argsOk "set.__iter__" ⟨[a],[]⟩:=by unfold argsOk;kernel_rfl
theorem slot_si_next:Slot "set_iterator" "__next__" "set_iterator.__next__":=
 .of (owner:="set_iterator") (n:="__next__") (by rw [typeLookup_type,builtinLookup_eq_fast];kernel_rfl) (by decide +kernel) (by decide +kernel) (by decide +kernel)
  (by first | exact .inl (by decide +kernel) | exact .inr (by decide +kernel)) (by rw [isSubtype_type];kernel_rfl)
theorem zy:entryFor table "set_iterator.__next__"=some Builtin.«set_iterator.__next__»:=entryFor_of_tree (by kernel_rfl)
theorem yC(a:Value):argsOk "set_iterator.__next__" ⟨[a],[]⟩:=by unfold argsOk;kernel_rfl
theorem yx:Slot "set_iterator" "__iter__" "set_iterator.__iter__":=
 .of (owner:="set_iterator") (n:="__iter__") (by rw [typeLookup_type,builtinLookup_eq_fast];kernel_rfl) (by decide +kernel) (by decide +kernel) (by decide +kernel)
  (by first | exact .inl (by decide +kernel) | exact .inr (by decide +kernel)) (by rw [isSubtype_type];kernel_rfl)
theorem vX:entryFor table "set_iterator.__iter__"=some Builtin.«dict_keyiterator.__iter__»:=entryFor_alias (id':="dict_keyiterator.__iter__") (by kernel_rfl) rfl (by decide +kernel) (by kernel_rfl)
theorem uY(a:Value):argsOk "set_iterator.__iter__" ⟨[a],[]⟩:=by unfold argsOk;kernel_rfl
noncomputable def IsSI(h:Heap)(it a:Addr)(slot i n ep:Nat):Prop:=∃ o,h.get? it=some o/\o.cls=.type "set_iterator"/\o.data=.fields #[.int slot 0,.int i 0,.ref a,.int n 0,.int ep 0]
noncomputable def SetAt(h:Heap)(a:Addr)(es:Array (Int × Value))(ep:Nat)(t:SetTable):Prop:=∃ o,h.get? a=some o/\o.ExactSet/\o.data=.set es ep t
theorem uz{α:Type}:∀ (l:List α) (k:Nat) (h:k<l.length),(l[k]::l.eraseIdx k).Perm l
 | x::l,0,_=>.refl _
 | x::l,k+1,h=>by
  rw [List.eraseIdx_cons_succ,List.getElem_cons_succ]
  exact (List.Perm.swap x _ _).trans (List.Perm.cons x (uz l k (KH h)))
theorem zdv{α:Type}(next:Nat->Nat):∀ (fuel k:Nat) (left:List α) (out:Array α),left.length=fuel->(pickOrder.go next fuel k left out).toList.Perm (out.toList++left)
 | 0,k,left,out,h=>by
  rw [Qb.mp h,JS]
  exact .refl _
 | fuel+1,k,left,out,h=>by
  have hlt:next k % left.length<left.length:=KS _ (by omega)
  unfold pickOrder.go
  rw [Jr hlt]
  dsimp only
  refine (zdv next fuel (k+1) _ _ (by rw [List.length_eraseIdx_of_lt hlt];omega)).trans ?_
  rw [Kq,Jy]
  refine QE _ ?_
  rw [List.singleton_append]
  exact uz _ _ hlt
theorem zez{α:Type}(next:Nat->Nat)(xs:Array α):(pickOrder next xs).toList.Perm xs.toList:=by
 have:=zdv next xs.size 0 xs.toList #[] (by rw [Jd])
 simpa [pickOrder] using this
section
variable {prog:Program} {w:World} {A:Around} {E:Value->Shared->Prop} {s:Shared} {a:Addr} {es:Array (Int × Value)} {ep:Nat} {t:SetTable}
noncomputable def z9(w:World)(a:Addr)(es:Array (Int × Value))(ep:Nat):Array (Int × Value):=if w.params.followText "set-order"=true then pickOrder (w.params.setOrder a ep) es else es
theorem its_perm:(z9 w a es ep).toList.Perm es.toList:=by
 unfold z9
 split
 ·exact zez _ _
 ·exact .refl _
theorem yg:(z9 w a es ep).size=es.size:=by
 have:=(its_perm (w:=w) (a:=a) (es:=es) (ep:=ep)).length_eq
 rw [Jd,Jd] at this
 exact this
noncomputable def zP(w:World)(t:SetTable):Nat->Nat
 | 0=>0
 | i+1=>if w.params.followText "set-order"=true then 0 else t.place.getD i 0+1
theorem zdb(g:Tab.Good t n led)(hw:¬ w.params.followText "set-order"=true)(hi:i≤n):SetTable.below t.place (zP w t i)=i:=by
 obtain ⟨b1,b2,b3⟩:=Tab.below_ok g.rise (zP w t i)
 have hsz:=g.size
 cases i with
 | zero=>
  refine Nat.le_zero.mp (QF fun h=>?_)
  have h0:0<t.place.size:=by omega
  have:=b2 0 _ h (getElem?_pos t.place 0 h0)
  exact Kk _ this
 | succ i=>
  have e:zP w t (i+1)=t.place.getD i 0+1:=if_neg hw
  have hi':i<t.place.size:=by omega
  have eg:t.place.getD i 0=t.place[i]:=by simp [Array.getD,hi']
  rw [e,eg] at b1 b2 b3 ⊢
  generalize hb:SetTable.below t.place (t.place[i]+1)=b at b1 b2 b3 ⊢
  have h1:i<b:=Nat.lt_of_not_le fun h=>by
   have:=b3 i _ h (getElem?_pos t.place i hi')
   omega
  refine Nat.le_antisymm (QF fun h=>?_) h1
  have hi2:i+1<t.place.size:=by omega
  have h2:=b2 (i+1) _ h (getElem?_pos t.place (i+1) hi2)
  have h3:=JL.mp g.rise i (i+1) (by rw [Jd];exact hi') (by rw [Jd];exact hi2) (KJ i)
  rw [Kw,Kw] at h3
  omega
theorem zbk{Q:Option (Value × Nat)->Shared->Prop}(hl:led=!w.params.followText "set-order")(hA:SetAt s.heap a es ep t)(g:Tab.Good t es.size led)(hi:i≤es.size)
  (h:Q ((z9 w a es ep)[i]?.map fun e=>(e.2,zP w t (i+1))) s):wpAny (model prog w) A (setNext a (zP w t i) i ep) Q E s:=by
 obtain ⟨o,ho,hex,hd⟩:=hA
 unfold setNext
 refine wpAny_bind (wpAny_setState_of ho hd g.fits ?_)
 dsimp only
 unfold setsByText
 refine wpAny_bind (wpAny_bind (wpAny_askSetting (wpAny_pure ?_)))
 show wpAny _ _ (if w.params.followText "set-order"=true then _ else _) _ _ _
 by_cases hw:w.params.followText "set-order"=true
 ·rw [if_pos hw]
  rw [if_neg (by simp)]
  unfold setWalk
  refine wpAny_bind (wpAny_bind (wpAny_setState_of ho hd g.fits ?_))
  dsimp only
  unfold setsByText
  refine wpAny_bind (wpAny_bind (wpAny_askSetting (wpAny_pure ?_)))
  show wpAny _ _ (if w.params.followText "set-order"=true then _ else _) _ _ _
  rw [if_pos hw]
  refine wpAny_bind (wpAny_askSetting (wpAny_pure (wpAny_pure ?_)))
  have e1:z9 w a es ep=pickOrder (w.params.setOrder a ep) es:=if_pos hw
  have e2:zP w t i=zP w t (i+1):=by
   have e3:∀ j,zP w t (j+1)=0:=fun j=>if_pos hw
   cases i with
   | zero=>rw [e3];rfl
   | succ i=>rw [e3,e3]
  rw [e1,← e2] at h
  exact h
 ·rw [if_neg hw]
  have hp:=g.plain
  have hled:t.led=true:=by rw [g.led,hl,Bool.eq_false_iff.mpr hw];rfl
  refine wpAny_ite_split (fun hc=>?_) (fun _=>?_)
  ·have:(!t.plain && decide (es.size > 1))=true:=hc
   rw [hp] at this
   cases this
  ·refine wpAny_bind ?_
   show wpAny _ _ (if (!t.led && !es.isEmpty)=true then unsupported "set:maker-not-led" else pure ()) _ _ _
   rw [hled]
   refine wpAny_pure (wpAny_pure ?_)
   have e1:z9 w a es ep=es:=if_neg hw
   rw [e1] at h
   rw [zdb g hw hi]
   by_cases hlt:i<es.size
   ·have hlt':i<t.place.size:=by rw [g.size];exact hlt
    have e2:zP w t (i+1)=t.place[i]+1:=by
     refine (if_neg hw).trans ?_
     simp [Array.getD,hlt']
    rw [e2] at h
    rw [getElem?_pos es i hlt] at h ⊢
    rw [getElem?_pos t.place i hlt']
    exact h
   ·rw [getElem?_neg es i hlt] at h ⊢
    exact h
theorem IsSI.typeIs(x:IsSI s.heap it a slot i n ep):s.TypeIs (.ref it) "set_iterator":=let ⟨o,ho,hc,_⟩:=x;⟨o,ho,hc⟩
theorem zgV{Q:Value->Shared->Prop}(hl:led=!w.params.followText "set-order")(hA:SetAt s.heap a es ep t)(g:Tab.Good t es.size led)
  (hQ:Q (.ref s.heap.objs.size) { s with heap:=s.heap.push { cls:=.type "set_iterator",data:=.fields #[.int 0 0,.int 0 0,.ref a,.int es.size 0,.int ep 0] } }):
  wpAny (model prog w) A (pyIter (.ref a)) Q E s:=by
 obtain ⟨o,ho,hex,hd⟩:=id hA
 have hT:s.TypeIs (.ref a) "set":=⟨o,ho,hex.1⟩
 refine wpAny_pyIter_slot hT zx (wpAny_call_entry zx hT xK ?_ (xh _))
 unfold Builtin.«frozenset.__iter__» Builtin.Frozenset.slot0 slotArgs
 simp only [List.isEmpty_nil,Bool.not_true,Bool.false_eq_true,↓reduceIte,bind_assoc,List.length_nil,bne_self_eq_false]
 unfold Builtin.Frozenset.addrOf Builtin.Frozenset.sizeOf setEntries setDrawn setsByText
 refine wpAny_bind (wpAny_pure ?_)
 refine wpAny_bind (wpAny_pure ?_)
 refine wpAny_bind (wpAny_bind (wpAny_bind (wpAny_setState_of ho hd g.fits (wpAny_pure (wpAny_pure ?_)))))
 refine wpAny_bind (wpAny_bind (wpAny_setState_of ho hd g.fits ?_))
 dsimp only
 refine wpAny_bind (wpAny_bind (wpAny_askSetting (wpAny_pure (wpAny_pure ?_))))
 refine wpAny_ite_split (fun hc=>?_) (fun _=>?_)
 ·have h2:=(QG.mp hc).2
  have h3:(!t.plain && decide (es.size > 1))=true:=h2
  rw [g.plain] at h3
  cases h3
 ·refine wpAny_bind (wpAny_pure ?_)
  refine wpAny_bind (wpAny_setEpoch_of ho hd g.fits ?_)
  refine wpAny_bind (wpAny_newObj_type (wpAny_pure ⟨_,rfl,"set_iterator",_,⟨_,Jq _ rfl,rfl⟩,slot_si_next.lookup,?_⟩))
  exact hQ
theorem zaR{Q:Value->Shared->Prop}(hit:IsSI s.heap it a slot i n ep)(h:Q (.ref it) s):wpAny (model prog w) A (pyIter (.ref it)) Q E s:=by
 refine wpAny_pyIter_slot hit.typeIs yx (wpAny_call_entry yx hit.typeIs vX ?_ (uY _))
 show wpAny _ _ (ret (.ref it)) _ _ s
 exact wpAny_pure ⟨_,rfl,"set_iterator",_,hit.typeIs,slot_si_next.lookup,h⟩
theorem zgW{Q:Option Value->Shared->Prop}(hl:led=!w.params.followText "set-order")(hit:IsSI s.heap it a (zP w t i) i es.size ep)(hA:SetAt s.heap a es ep t)(g:Tab.Good t es.size led){x:Int × Value}(hx:(z9 w a es ep)[i]?=some x)
  (hQ:∀ h',IsSI h' it a (zP w t (i+1)) (i+1) es.size ep->Heap.SameBut it s.heap h'->Q (some x.2) { s with heap:=h' }):wpAny (model prog w) A (pyNext (.ref it)) Q E s:=by
 obtain ⟨o,ho,hc,hd⟩:=id hit
 obtain ⟨oa,hoa,hexa,hda⟩:=id hA
 have hlt:i<es.size:=by
  rw [← yg (w:=w) (a:=a) (ep:=ep)]
  exact (Jw.mp hx).1
 unfold pyNext
 refine wpAny_bind (wpAny_attempt (wpAny_callSpecial?_slot (name:=Str.ofString "__next__") hit.typeIs slot_si_next
  (wpAny_call_entry slot_si_next hit.typeIs zy ?_ (yC _))))
 unfold Builtin.«set_iterator.__next__»
 refine wpAny_bind (wpAny_pure ?_)
 refine wpAny_bind (wpAny_fieldsOf ho hd ?_)
 dsimp only
 unfold setEntries
 refine wpAny_bind (wpAny_bind (wpAny_setState_of hoa hda g.fits (wpAny_pure ?_)))
 refine wpAny_ite_split (fun hcc=>?_) (fun _=>?_)
 ·simp at hcc
 ·simp only [Int.toNat_natCast]
  refine wpAny_bind (zbk hl hA g (Nat.le_of_lt hlt) ?_)
  rw [hx]
  show wpAny _ _ (setField (.ref it) 0 (rawInt (zP w t (i+1):Nat)) >>= _) _ _ _
  refine wpAny_bind (wpAny_setField ho hd (by simp) ?_)
  have ho1:=JT (Obj.mapFields (·.setIfInBounds 0 (rawInt (zP w t (i+1):Nat)))) ho (KN (Kt hd _))
  have hd1:=Kt hd (·.setIfInBounds 0 (rawInt (zP w t (i+1):Nat)))
  refine wpAny_bind (wpAny_setField (s:={ s with heap:=s.heap.update it (Obj.mapFields (·.setIfInBounds 0 (rawInt (zP w t (i+1):Nat)))) }) ho1 hd1 (by simp) ?_)
  have ho2:=JT (Obj.mapFields (·.setIfInBounds 1 (rawInt ((i:Int)+1)))) ho1 (KN (Kt hd1 _))
  refine wpAny_pure ⟨_,rfl,wpAny_pure (hQ _ ⟨_,ho2,(Obj.cls_mapFields ..).trans ((Obj.cls_mapFields ..).trans hc),by rw [Obj.data_mapFields hd1];simp [rawInt]⟩ ((Heap.SameBut.update ..).trans (Heap.SameBut.update ..)))⟩
theorem zjm{Q:Option Value->Shared->Prop}(hh:A.handled=none)(hl:led=!w.params.followText "set-order")(hit:IsSI s.heap it a (zP w t i) i es.size ep)(hA:SetAt s.heap a es ep t)(g:Tab.Good t es.size led)(hi:i=es.size)
  (hQ:∀ h',Heap.ExtBut it s.heap h'->Q none { s with heap:=h' }):wpAny (model prog w) A (pyNext (.ref it)) Q E s:=by
 obtain ⟨o,ho,hc,hd⟩:=id hit
 obtain ⟨oa,hoa,hexa,hda⟩:=id hA
 unfold pyNext
 refine wpAny_bind (wpAny_attempt (wpAny_callSpecial?_slot (name:=Str.ofString "__next__") hit.typeIs slot_si_next
  (wpAny_call_entry slot_si_next hit.typeIs zy ?_ (yC _))))
 unfold Builtin.«set_iterator.__next__»
 refine wpAny_bind (wpAny_pure ?_)
 refine wpAny_bind (wpAny_fieldsOf ho hd ?_)
 dsimp only
 unfold setEntries
 refine wpAny_bind (wpAny_bind (wpAny_setState_of hoa hda g.fits (wpAny_pure ?_)))
 refine wpAny_ite_split (fun hcc=>?_) (fun _=>?_)
 ·simp at hcc
 ·simp only [Int.toNat_natCast]
  refine wpAny_bind (zbk hl hA g (Nat.le_of_eq hi) ?_)
  rw [getElem?_neg _ i (by rw [yg];omega)]
  show wpAny _ _ (setField (.ref it) 2 .none >>= _) _ _ _
  refine wpAny_bind (wpAny_setField ho hd (by simp) ?_)
  show wpAny _ _ (newExc (.type "StopIteration") [] >>= _) _ _ _
  refine wpAny_bind ?_
  simp only [newExc,newTuple]
  refine wpAny_bind (wpAny_newObj_type ?_ (by size_fits))
  refine wpAny_bind (m:=firstArgMember _ _) (wpAny_of_eq (a:=Value.none) (by first | rfl | (simp only [firstArgMember];rfl)) ?_)
  refine wpAny_newObj_type ?_ (by size_fits)
  simp only [raiseNew]
  refine wpAny_bind (wpAny_handled ?_)
  rw [show A.in1.handled=none from hh]
  refine wpAny_bind (wpAny_pure (wpAny_throw ?_))
  refine wpAny_bind (wpAny_isInstance (T:="StopIteration") (b:=true) ⟨_,Jq _ rfl,rfl⟩ isSubtype_stop ?_)
  exact wpAny_pure (hQ _ (((Kz ..).extBut.push _).push _))
theorem SetAt.at{h h':Heap}(x:SetAt h a es ep t)(e:∀ o,h.get? a=some o->h'.get? a=some o):SetAt h' a es ep t:=let ⟨o,ho,r⟩:=x;⟨o,e _ ho,r⟩
theorem IsSI.at{h h':Heap}(x:IsSI h it a slot i n ep)(e:∀ o,h.get? it=some o->h'.get? it=some o):IsSI h' it a slot i n ep:=let ⟨o,ho,r⟩:=x;⟨o,e _ ho,r⟩
theorem zeh(hh:A.handled=none)(hl:led=!w.params.followText "set-order")(g:Tab.Good t es.size led)(I:Addr)(hne:a≠I):
  PySem.Walks prog w A I [I,a] [I] es.size (fun i v=>∃ x,(z9 w a es ep)[i]?=some x/\v=x.2) (fun i h=>IsSI h I a (zP w t i) i es.size ep/\SetAt h a es ep t) where
 sub:=fun b hb=>by simp at hb;simp [hb]
 frame:=fun _ _ _ st hk=>⟨st.1.at fun o e=>hk I (by simp) o e,st.2.at fun o e=>hk a (by simp) o e⟩
 item:=fun i s Q E hi st hQ=>by
  have hi':i<(z9 w a es ep).size:=by rw [yg];exact hi
  refine zgW hl st.1 st.2 g (getElem?_pos _ i hi') fun h' hit' hs'=>?_
  exact hQ _ h' s.toks ⟨_,getElem?_pos _ i hi',rfl⟩ ⟨hit',st.2.at fun o e=>by rw [hs'.2 a hne];exact e⟩ fun b o hb e=>hs'.extBut b o (fun h=>hb (by simp [h])) e
 done:=fun s Q E st hQ=>zjm hh hl st.1 st.2 g rfl fun h' he'=>hQ h' s.toks fun b o hb e=>he' b o (fun h=>hb (by simp [h])) e
 self:=fun _ _ _ _ st hQ=>zaR st.1 hQ
theorem kG{Q:Bool->Shared->Prop}(hT:s.TypeIs (.ref r) "set")(h:Q false s):wpAny (model prog w) A (Builtin.List.listLengthHint (.ref r)) Q E s:=by
 unfold Builtin.List.listLengthHint
 refine wpAny_bind (wpAny_specialOf hT PySem.F.slot_set_len.lookup ?_)
 generalize hid:("set.__len__":String)=id0
 wp_delta
 rw [show splitId id0=some ("set","__len__") from by subst hid;decide +kernel]
 subst hid
 refine wpAny_bind (wpAny_isInstance (T:="set") (b:=true) hT (by rw [isSubtype_type];kernel_rfl) ?_)
 refine wpAny_ite_split (fun hab=>absurd hab (by decide)) (fun _=>?_)
 refine wpAny_ite_split (fun _=>?_) (fun hab=>absurd (by decide +kernel) hab)
 refine wpAny_bind (wpAny_typeOf hT ?_)
 exact wpAny_pure h
theorem zdp(hl:led=!w.params.followText "set-order")(g:Tab.Good t es.size led):KdlSrc prog w "set" a a es.size (fun i v=>∃ x,(z9 w a es ep)[i]?=some x/\v=x.2) (fun h=>SetAt h a es ep t) where
 type:=fun _ ⟨o,ho,hex,_⟩=>⟨o,ho,hex.1⟩
 there:=fun _ ⟨o,ho,_⟩=>⟨Jn ho,Jn ho⟩
 keep:=fun _ _ hm hk=>hm.at fun o e=>hk a (.inl rfl) o e
 notList:=by decide
 notTuple:=by decide
 hint:=fun _ _ _ _ ⟨o,ho,hex,_⟩ hq=>kG ⟨o,ho,hex.1⟩ hq
 iter:=fun _ s hh hm=>⟨_,_,(fun _ _ hq=>zgV hl hm g hq),zeh hh hl g _ (Ju (let ⟨o,ho,_⟩:=hm;Jn ho)),⟨⟨_,Jq _ rfl,rfl,rfl⟩,hm.at fun o e=>Jc _ e⟩⟩
end
end F
namespace L2
open PySem PySem.Spec PyProof.Rows F
noncomputable def yA:List Int->List Int
 | []=>[]
 | n::r=>if n ∈ r then yA r else n::yA r
theorem mem_dedupL:∀ {ns:List Int} {k:Int},k ∈ yA ns ↔ k ∈ ns
 | [],k=>.rfl
 | n::r,k=>by
  unfold yA
  by_cases h:n ∈ r
  ·rw [if_pos h,mem_dedupL,Qa]
   exact ⟨.inr,fun z=>z.elim (fun e=>e ▸ h) id⟩
  ·rw [if_neg h,Qa,Qa,mem_dedupL]
theorem yQ:∀ ns:List Int,(yA ns).Nodup
 | []=>.nil
 | n::r=>by
  unfold yA
  by_cases h:n ∈ r
  ·rw [if_pos h];exact yQ r
  ·rw [if_neg h];exact Kh.mpr ⟨fun z=>h (mem_dedupL.mp z),yQ r⟩
theorem zgF(ns:List Int):(firstMet (fun j=>ns.getD j 0) ns.length).Perm (yA ns):=by
 refine (QL (wv _ _) (yQ ns)).mpr fun k=>?_
 have:=zeV ns ns.length (Jj _) k
 rw [List.take_length] at this
 rw [this,mem_dedupL]
noncomputable def zfJ(K:PySem.W.Frag)(ta:TA):TE:=fun σ H Q=>ta σ H fun vs H1=>∃ p,∃ ns:List Int,vs=[.ref p]/\SqL K H1 p (ns.map V.int)/\(yA ns).length<63/\∀ (ns':List Int) l,ns'.Perm (yA ns)->ns'.Pairwise (·≤·)->H1 l=none->Q (.ref l) (upd H1 l (.lst (ns'.map V.int)))
theorem zdM{prog:Program}{w:World}:∀ {its:List (Int × Value)},ElemsOf (intKind prog w) its->IntsAre (its.map (·.2)) (its.map elN)
 | [],_=>.nil
 | e::r,h=>by
  obtain ⟨⟨k,h1,_⟩,_⟩:=h.head
  obtain ⟨t,e1⟩:=Value.isInt_shape h1
  have e2:elN e=k:=by unfold elN;rw [e1];rfl
  rw [Jm,Jm,e1,e2]
  exact .cons k t (zdM h.tail)
theorem zcp{X:Cx}(hc:X.calm=true)(hg:Gl X "sorted")(hm:X.mg "sorted"=none)(hg2:Gl X "set")(hm2:X.mg "set"=none)(ha:PA X [e] ta)
  (he:starEach [.Call (.Name "set" p2) [e] [] pos2] X.env=[(false,eval (.Call (.Name "set" p2) [e] [] pos2) X.env)]:=by rfl)(he2:starEach [e] X.env=[(false,eval e X.env)]:=by rfl):
  PE X (.Call (.Name "sorted" p1) [.Call (.Name "set" p2) [e] [] pos2] [] pos) (zfJ X.K ta):=by
 intro pins s σ H Q I h
 refine wpAny_Call_Name_kw (wj I hg hm boot_sorted ?_)
 refine Qw ?_ he rfl
 rw [he]
 show wpAny _ _ (spliced ((false,eval (.Call (.Name "set" p2) [e] [] pos2) X.env)::[])) _ _ s
 refine Calls.spliced_cons ?_
 refine wpAny_Call_Name_kw (wj I hg2 hm2 zbL ?_)
 refine Qe (thn (ha pos2 pins s σ H _ I h) fun us s1 ⟨vs,H1,I1,r1,p,ns,ev,hx,hl,q⟩=>?_) he2 rfl
 subst ev
 cases r1 with
 | cons r rr=>
  cases rr
  cases r
  obtain ⟨its,v1,c1,_⟩:=I1.list hx
  have hia:IntsAre its.toArray.toList ns:=by simpa using zcJ v1
  have hlen:its.length=ns.length:=by have:=v1.length;simpa using this.symm
  have hmp:=zgF ns
  refine zfi (I1.ok.hd hc) c1.isList hia (by rw [Jv,hlen,hmp.length_eq];exact hl) fun h' tk hS kk=>?_
  have esz:its.toArray.size=ns.length:=by rw [Jv,hlen]
  rw [esz] at hS
  refine Calls.spliced_nil ?_
  obtain ⟨o,es,ep,tb,ho,hex,hd,B⟩:=hS
  have I2:Inv X pins σ H1 { s1 with heap:=h',toks:=tk }:=I1.kept (t':=tk) fun b u q=>kk b u (Heap.lt_size q) q
  have hsz:es.size<63:=by rw [B.size,hmp.length_eq];exact hl
  refine Calls.call_function_entry kind_sorted plain_sorted entry_sorted (args_sorted1 _) ?_
  unfold Builtin.«sorted»
  refine wpAny_bind (m:=checkCount "sorted" 1 1 _) (wpAny_pure ?_)
  refine wpAny_bind (PySem.W.kdu_collect (A:=X.A.in1) (s:={ s1 with heap:=h',toks:=tk }) (zdp (ep:=ep) rfl B.good) (I.ok.hd hc) ⟨o,ho,hex,hd⟩ (by rw [sizeLine_eq];omega) fun h2 tk2 acc hk hi=>?_)
  have hacc:acc.toList=(z9 X.w s1.heap.objs.size es ep).toList.map (·.2):=by
   apply KY
   intro j
   rw [JX,Jp,Jp]
   by_cases hj:j<es.size
   ·have hj':j<acc.size:=by rw [hi.1];exact hj
    obtain ⟨x,hx1,hx2⟩:=hi.2 j acc[j] (getElem?_pos acc j hj')
    rw [getElem?_pos acc j hj',hx1,hx2];rfl
   ·rw [getElem?_neg acc j (by rw [hi.1];exact hj),getElem?_neg _ j (by rw [yg];exact hj)];rfl
  have hel:ElemsOf (intKind X.prog X.w) (z9 X.w s1.heap.objs.size es ep).toList:=B.el.perm its_perm
  have hia2:IntsAre acc.toList ((z9 X.w s1.heap.objs.size es ep).toList.map elN):=by rw [hacc];exact zdM hel
  have hpm:((z9 X.w s1.heap.objs.size es ep).toList.map elN).Perm (yA ns):=(its_perm.map elN).trans (B.perm.trans hmp)
  generalize ((z9 X.w s1.heap.objs.size es ep).toList.map elN)=ms at hia2 hpm
  have hal:acc.toList.length<63:=by rw [Jd,hi.1];exact hsz
  refine wpAny_bind (wpAny_newList ?_ (by rw [sizeLine_eq];omega))
  have hoL:(h2.push (seqObj "list" acc.toList.toArray 0)).get? h2.objs.size=some (seqObj "list" acc.toList.toArray 0):=Jq _ rfl
  refine wpAny_bind (wpAny_holding (wpAny_call_entry PyProof.Rows.slot_list_sort (s:={ s1 with heap:=h2.push (seqObj "list" acc.toList.toArray 0),toks:=tk2 }) ⟨_,hoL,rfl⟩ PyProof.Rows.entry_list_sort (list_sort_tree hoL hia2 (by omega) fun out ns' a1 a2 a3=>⟨_,rfl,?_⟩) (PyProof.Rows.args_list_sort _)))
  refine wpAny_pure ⟨_,rfl,?_⟩
  obtain ⟨e',he'⟩:∃ e',(sortedHeap (h2.push (seqObj "list" acc.toList.toArray 0)) h2.objs.size acc.toList out).get? h2.objs.size=some (seqObj "list" out e'):=sortedHeap_at hoL
  have I3:Inv X pins σ H1 { s1 with heap:=h2,toks:=tk2 }:=I2.kept (t':=tk2) hk
  have hn:=I3.hok.fresh (a:=h2.objs.size) (Jj _)
  have hns':ns'.length<63:=by rw [a2.length_eq,hpm.length_eq];exact hl
  refine ⟨.ref h2.objs.size,_,I3.laid (h':=sortedHeap (h2.push (seqObj "list" acc.toList.toArray 0)) h2.objs.size acc.toList out) (o:=.lst (ns'.map V.int)) (t':=tk2) (fun b u hb=>?_) (Nat.le_refl _) ⟨by rw [List.length_map,sizeLine_eq];omega,out.toList,e',v0 a1,by simpa [seqObj] using he'⟩,rfl,q ns' _ (a2.trans hpm) a3 hn⟩
  have hlt:=Jn hb
  rw [sortedHeap_old (Ju hlt) (by rw [size_push'];exact JY hlt)]
  exact Jc _ hb
end L2
namespace F
open PySem PySem.Spec PyProof.Rows L2
noncomputable def xq(f:FA):FE:=fun env=>(f env).bind fun ps=>match ps with | [.lst qs]=>(wl qs).bind fun ns=>if (yA ns).length<63 then some (.lst ((jh (yA ns)).map .int)) else none | _=>none
theorem zbW{X:Cx}(hc:X.calm=true)(hg:Gl X "sorted")(hm:X.mg "sorted"=none)(hg2:Gl X "set")(hm2:X.mg "set"=none)(ha:VA X κ G c [e] fs)
  (he:starEach [.Call (.Name "set" p2) [e] [] pos2] X.env=[(false,eval (.Call (.Name "set" p2) [e] [] pos2) X.env)]:=by rfl)(he2:starEach [e] X.env=[(false,eval e X.env)]:=by rfl):
  VE X κ G (.mv []) (.Call (.Name "sorted" p1) [.Call (.Name "set" p2) [e] [] pos2] [] pos) (xq fs):=(zcp hc hg hm hg2 hm2 ha.1 he he2).imp fun σ H Q hq_=>by
 refine hq_.elim fun own env z I hf k=>?_
 unfold xq at hf
 replace hf:=Ja.mp hf;obtain ⟨qs,hp,hf⟩:=hf
 split at hf
 case h_2=>cases hf
 rename_i ps
 replace hf:=Ja.mp hf;obtain ⟨ns,hn,hf⟩:=hf
 split at hf
 case isFalse=>cases hf
 rename_i hl
 cases hf
 have hps:=qE hn
 subst hps
 refine (.in I hp fun vs H1 A s1 r1 _=>?_)
 obtain ⟨v,rfl,rv⟩:=z8 r1
 obtain ⟨a,xs,B,rfl,h2,_,h4⟩:=rv.L
 have:=zaV h4
 subst this
 refine ⟨a,ns,rfl,SqL.of h2,hl,fun ns' l p1 p2 hn'=>?_⟩
 have es:ns'=jh (yA ns):=ku (p1.trans (x5 _).symm) p2 (uB _)
 subst es
 have hl0:H l=none:=by
  cases hq:H l with
  | none=>rfl
  | some o=>rw [s1 _ _ hq] at hn';cases hn'
 exact k _ _ [l] (s1.trans (zw (Same.refl _) hn')) (.mkL zT (zbu _)) ⟨by simp,by simpa using hl0⟩
end F
namespace L2
open PySem PySem.Spec PyProof.Rows PySem.W
end L2
namespace F
open PySem PySem.Spec PyProof.Rows L2
noncomputable def GC(K:PySem.W.Frag)(mg:Str->Option Value)(x:Str)(p:PV):Prop:=∃ a,mg x=some (.ref a)/\∀ H,Rp K H p (.ref a) []
theorem zml{X:Cx}(hg:Gl X x)(h:GC X.K X.mg x p)(hd:(x == ("__debug__":Str))=false:=by decide):VE X κ G (.mv []) (.Name x pos) (fC p):=by
 obtain ⟨a,hm,hr⟩:=h
 refine (zdx hg hm (v:=.ref a) rfl hd).imp fun σ H Q hq_=>?_
 refine hq_.elim fun own env q I hf k=>?_
 cases hf
 exact k _ H [] (Same.refl _) (hr H) (Cat.nil _ _ _)
end F
namespace HT
open PySem PySem.Spec PyProof.Rows
end HT
namespace L2
open PySem PySem.Spec PyProof.Rows
end L2
namespace F
open PySem PySem.Spec PyProof.Rows L2
section
variable {X:Cx} {κ:Nat->Option Nat} {G:Hp} {O:List Nat} {st:Stmt} {es:List Expr} {pos:Pos}
theorem VI.bare{K:PySem.W.Frag}{σ:St}{H:Hp}{n:Nat}(hn:n=σ.length)(s:Same G H):VI K κ G (fun _=>none) (List.replicate n none) σ H:=
 ⟨by rw [List.length_replicate];exact hn,fun i p e=>(by rw [List.getElem?_replicate] at e;split at e<;>cases e),(fun _ _ z=>nomatch z),s⟩
noncomputable def zdV(O':List Nat)(own:Addr->Option Nat):Addr->Option Nat:=fun a=>(own a).bind fun l=>if l ∈ O' then some l else none
theorem VI.drop{O':List Nat}{K:PySem.W.Frag}{own:Addr->Option Nat}{env:En}{σ:St}{H:Hp}(hO:∀ i ∈ O',i ∈ O)(I:VI K (ko O) G own env σ H):VI K (ko O') G (zdV O' own) env σ H:=by
 refine ⟨I.len,fun i p e=>?_,fun a l e=>?_,I.same⟩
 ·obtain ⟨v,A,h1,h2,h3,h4⟩:=I.slot i p e
  refine ⟨v,A,h1,h2,fun hk a ha=>?_,fun l hk=>?_⟩
  ·have ni:i ∉ O':=fun z=>by rw [kA z] at hk;cases hk
   unfold zdV
   by_cases hi:i ∈ O
   ·rw [(h4 i (kA hi)).2 a ha,Jb,if_neg ni]
   ·rw [h3 (zcE hi) a ha];rfl
  ·have hl:=zdI hk
   subst hl
   have hi:l ∈ O':=by
    unfold ko at hk
    split at hk
    ·assumption
    ·cases hk
   obtain ⟨nd,hA⟩:=h4 l (kA (hO l hi))
   refine ⟨nd,fun a ha=>?_⟩
   unfold zdV
   rw [hA a ha,Jb,if_pos hi]
 ·unfold zdV at e
  obtain ⟨l',h1,h2⟩:=Ja.mp e
  split at h2
  ·cases h2;exact I.own a _ h1
  ·cases h2
end
end F
namespace F
open PySem PySem.Spec PyProof.Rows L2 PySem.W
inductive Df (K:PySem.W.Frag) (x:Str) (st:Stmt):Prop
 | mk {f:Addr} {oc:Value} {od:Option Addr} {kV dc pm:Value} {an:Option Addr} {cd ct:Value} {sl:Array (Option Value)} (a:nsIn K mainGlobals x=some (some (.ref f))) (l:K.lookup f=some ⟨oc,od,.func (fnOf x x (wO st) (y4 st) (zG st) .none kV dc pm an cd ct),sl⟩) (c:codeIn K cd x=true) (k:keepIn K (.ref f)=true):Df K x st
theorem Df.fn{P:Program}{w:World}{K:PySem.W.Frag}{h:Heap}{mg:Str->Option Value}{base:Heap}{x:Str}{st:Stmt}{k:Nat}{ps:List Str}{sp:Sp}(d:Df K x st)(X:K.In h)(G:h.Ns mainGlobals mg)(ok:∀ f fd,Fun K x x st f fd->FnOk P w K mg base CX0 k f fd ps sp)
  (hb:∀ (kV doc pm:Value) (an:Option Addr) (cdv ct:Value) (us:List Value),us.length=ps.length->bindArgs (PySem.W.fnOf x x (wO st) (y4 st) (zG st) .none kV doc pm an cdv ct) ⟨us,[]⟩=pure (ps.zip us)):Fn P w K mg base x k ps sp:=by
 obtain ⟨a,l,c,k⟩:=d
 have F:=zhe (st:=st) l c k
 exact ⟨_,_,ok _ _ F,mg_of X G a,k,F.binds hb⟩
end F
namespace L2
open PySem PySem.Spec PyProof.Rows
theorem zla{X:Cx}(F:Fn X.prog X.w X.K X.mg X.base x k ps sp)(hr:Room k X.A)(hg:Gl X x)(hdb:(x == ("__debug__":Str))=false:=by decide):
  PE X (.Call (.Name x p) [] [] pos) (zdn sp [] E0 zfK):=by
 obtain ⟨f,fd,F,hm,hk,hb⟩:=F.ex
 exact zgv F hr hg hm hk hb .nil zjJ hdb
end L2
namespace F
open PySem PySem.Spec PyProof.Rows L2
theorem zfC{X:Cx}(hF:Fn X.prog X.w X.K X.mg X.base x k ps (spV X.K 0 Φ))(hr:Room k X.A)(hg:Gl X x)(hdb:(x == ("__debug__":Str))=false:=by decide):
  VE X κ G (.mv []) (.Call (.Name x p) [] [] pos) (zE Φ zF):=(zla hF hr hg hdb).imp fun σ H Q hq_=>by
 refine hq_.elim fun own env z I hf k=>?_
 have hf':Φ []=some z:=hf
 exact ⟨[],[],z,by unfold Rps;exact ⟨rfl,rfl⟩,rfl,hf',fun v H' C s2 r2 nd fr=>k v H' C s2 r2 ⟨nd,fun a ha=>.inl (fr a ha)⟩⟩
end F
namespace F
open PySem PySem.W PyProof.Rows
section
variable {O:KeyOrd} {key:Nat->O.α} {n:Nat} {α β:Type}
noncomputable def Ans(key:Nat->O.α)(n:Nat):KasT α->(α->Prop)->Prop
 | .ret a,P=>P a
 | .ask i j k,P=>(i<n/\j<n/\i≠j)/\Ans key n (k (O.blt (key i) (key j))) P
theorem Ans.bind{f:α->KasT β}{P:β->Prop}:∀ {t:KasT α},Ans key n t (fun a=>Ans key n (f a) P)->Ans key n (t.bind f) P
 | .ret _,h=>h
 | .ask i j k,h=>⟨h.1,Ans.bind (t:=k _) h.2⟩
theorem Ans.imp{P Q:α->Prop}:∀ {t:KasT α},Ans key n t P->(∀ a,P a->Q a)->Ans key n t Q
 | .ret _,h,k=>k _ h
 | .ask i j f,h,k=>⟨h.1,Ans.imp (t:=f _) h.2 k⟩
theorem Ans.run{cmp:Nat->Nat->(Bool->Shared->Prop)->Shared->Prop}{R:Shared->Prop}{P:α->Prop}{Q:α->Shared->Prop}(hc:∀ i j C s,i<n->j<n->i≠j->R s->(∀ s',R s'->C (O.blt (key i) (key j)) s')->cmp i j C s)(hq:∀ a s,P a->R s->Q a s):∀ {t:KasT α} {s:Shared},Ans key n t P->R s->t.kasWp cmp Q s
 | .ret a,s,h,r=>hq a s h r
 | .ask i j k,s,h,r=>hc i j _ s h.1.1 h.1.2.1 h.1.2.2 r fun s' r'=>Ans.run hc hq (t:=k _) h.2 r'
noncomputable def Kp(key:Nat->O.α)(p:Array Nat)(i:Nat):O.α:=key (p.getD i 0)
noncomputable def Up(key:Nat->O.α)(p:Array Nat)(k:Nat):Prop:=∀ i j,i≤j->j<k->O.kle (Kp key p i) (Kp key p j)
noncomputable def Dn(key:Nat->O.α)(p:Array Nat)(k:Nat):Prop:=∀ i j,i≤j->j<k->O.kle (Kp key p j) (Kp key p i)
structure Pm (n:Nat) (p:Array Nat):Prop where
 sz:p.size=n
 pm:p.toList.Perm (List.range n)
theorem Pm.lt{p:Array Nat}(h:Pm n p)(hi:i<n):p.getD i 0<n:=by
 have hs:i<p.size:=by rw [h.sz];exact hi
 have e:p.getD i 0=p[i]:=by simp [Array.getD,hs]
 rw [e]
 exact List.mem_range.mp (h.pm.mem_iff.mp (by simp))
theorem Pm.ask{p:Array Nat}(h:Pm n p)(hi:i<n)(hj:j<n)(hne:i≠j):p.getD i 0<n/\p.getD j 0<n/\p.getD i 0≠p.getD j 0:=by
 refine ⟨h.lt hi,h.lt hj,fun e=>hne ?_⟩
 have si:i<p.size:=by rw [h.sz];exact hi
 have sj:j<p.size:=by rw [h.sz];exact hj
 have ei:p.getD i 0=p.toList[i]'(by simpa using si):=by simp [Array.getD,si]
 have ej:p.getD j 0=p.toList[j]'(by simpa using sj):=by simp [Array.getD,sj]
 rw [ei,ej] at e
 have nd:=JL.mp (JG.mp (h.pm.nodup_iff.mpr List.nodup_range))
 rcases Nat.lt_trichotomy i j with z | z | z
 ·exact absurd e (nd i j _ _ z)
 ·exact z
 ·exact absurd e.symm (nd j i _ _ z)
theorem Pm.of{p q:Array Nat}(h:Pm n p)(hp:q.Perm p)(hs:q.size=p.size):Pm n q:=⟨hs.trans h.sz,(Array.perm_iff_toList_perm.mp hp).trans h.pm⟩
theorem Pm.rev(h:Pm n p)(i j:Nat):Pm n (kas_rev p i j):=h.of (mirror_perm _ _ _ _) (mirror_size _ _ _ _)
theorem Up.one{p:Array Nat}:Up key p 1:=fun i j h1 h2=>by
 obtain rfl:i=j:=by omega
 exact Km _
theorem Up.more(h:Up key p k)(h0:1≤k)(hl:O.kle (Kp key p (k - 1)) (Kp key p k)):Up key p (k+1):=fun i j h1 h2=>by
 rcases Nat.lt_or_ge j k with c | c
 ·exact h i j h1 c
 ·obtain rfl:j=k:=by omega
  rcases Nat.lt_or_ge i j with d | d
  ·exact JI (h i (j - 1) (by omega) (by omega)) hl
  ·obtain rfl:i=j:=by omega
   exact Km _
theorem Dn.more(h:Dn key p k)(h0:1≤k)(hl:O.kle (Kp key p k) (Kp key p (k - 1))):Dn key p (k+1):=fun i j h1 h2=>by
 rcases Nat.lt_or_ge j k with c | c
 ·exact h i j h1 c
 ·obtain rfl:j=k:=by omega
  rcases Nat.lt_or_ge i j with d | d
  ·exact JI hl (h i (j - 1) (by omega) (by omega))
  ·obtain rfl:i=j:=by omega
   exact Km _
structure Fall (key:Nat->O.α) (n r:Nat) (x:Array Nat × Nat × Nat):Prop where
 pm:Pm n x.1
 lo:1≤x.2.1
 hi:x.2.1≤r
 dn:Dn key x.1 x.2.1
 q:x.2.2+1≤x.2.1
 eq:∀ i,x.2.1 - (x.2.2+1)≤i->i<x.2.1->Kp key x.1 i=Kp key x.1 (x.2.1 - 1)
theorem Fall.zero(hp:Pm n p)(h1:1≤m)(hm:m≤r)(d:Dn key p m):Fall key n r (p,m,0):=
 ⟨hp,h1,hm,d,h1,fun i a b=>by
  have a':m - 1≤i:=a
  have b':i<m:=b
  obtain rfl:i=m - 1:=by omega
  rfl⟩
end
end F
namespace HT
open PySem PySem.Spec PyProof.Rows
open PySem.AutoSeq1 (wpAny_loadPart')
open PySem.MeetsSeq PySem.MeetsSeq2 PySem.MeetsSeq3
end HT
namespace F
open PySem PySem.Spec PySem.W PyProof.Rows
structure Heads (h:Heap) (a:Addr) (vs:List Value) (hs:List Int):Prop where
 len:vs.length=hs.length
 at':∀ i,i<vs.length->∃ l items t m,vs.getD i Value.none=.ref l/\l≠a/\h.get? l=some { cls:=.type "list",dict:=none,data:=.seq items m,slots:=#[] }/\items[0]?=some (.int (hs.getD i 0) t)
 nd:hs.Nodup
theorem Heads.other{h h':Heap}(x:Heads h a vs hs)(k:∀ l o,l≠a->h.get? l=some o->h'.get? l=some o):Heads h' a vs hs:=
 ⟨x.len,fun i hi=>let ⟨l,its,t,m,e1,e2,e3,e4⟩:=x.at' i hi;⟨l,its,t,m,e1,e2,k l _ e2 e3,e4⟩,x.nd⟩
end F
namespace L2
open PySem PySem.Spec PySem.W PyProof.Rows
structure HeadsV (H:Hp) (xs:List V) (hs:List Int):Prop where
 len:xs.length=hs.length
 at':∀ i,i<xs.length->∃ l r,xs[i]?=some (.ref l)/\H l=some (.lst (.int (hs.getD i 0)::r))
 nd:hs.Nodup
theorem kg{qs:List V}{its:List Value}(r:Vals qs its):∀ o:List Nat,(∀ i ∈ o,i<qs.length)->Vals (o.map fun i=>qs.getD i V.non) (o.map fun i=>its.getD i Value.none)
 | [],_=>.nil
 | i::o,h=>by
  have hi:i<qs.length:=h i Jf
  obtain ⟨u,e,ru⟩:=r.get (Jr hi)
  refine .cons ?_ (kg r o fun j hj=>h j (Jg _ hj))
  show RelV (qs.getD i V.non) (its.getD i Value.none)
  rw [JH,JH,e,Jr hi]
  exact ru
end L2
namespace F
open PySem PySem.Spec PyProof.Rows L2
theorem zaU{K:PySem.W.Frag}{H:Hp}{qs:List PV}{xs:List V}{B:List Addr}(r:Rps K H qs xs B):∀ o:List Nat,(∀ i ∈ o,i<qs.length)->∃ C,Rps K H (o.map fun i=>qs.getD i PV.non) (o.map fun i=>xs.getD i V.non) C/\∀ a ∈ C,a ∈ B
 | [],_=>⟨[],.nil,fun _ h=>nomatch h⟩
 | i::o,h=>by
  have hi:i<qs.length:=h i Jf
  obtain ⟨v,C,e,rv,sub⟩:=r.get (Jr hi)
  obtain ⟨D,rD,hD⟩:=zaU r o fun j hj=>h j (Jg _ hj)
  refine ⟨C++D,.cons ?_ rD,fun a ha=>(Kd.mp ha).elim (fun z=>sub.subset z) (hD a)⟩
  show Rp K H (qs.getD i PV.non) (xs.getD i V.non) C
  rw [JH,JH,e,Jr hi]
  exact rv
end F
namespace HT
open PySem PySem.Spec PySem.W PyProof.Rows
open PySem.AutoSeq1 (wpAny_loadPart')
theorem yN:plainId "dict.update.loop"=true:=by decide +kernel
theorem wz:entryFor table "dict.update.loop"=some Builtin.«dict.update.loop»:=entryFor_of_fast (by kernel_rfl)
section
variable {prog:Program} {w:World} {K:Type} [DecidableEq K]
noncomputable def zlW(knd:KeyKind prog w K)(h:Heap)(it d:Addr)(items:Array Value)(ps:List (K × Value))(j:Nat):Prop:=
 ∃ a o key n k v,items[j]?=some (.ref a)/\a≠it/\a≠d/\h.get? a=some o/\o.cls=.type "tuple"/\o.data=.seq #[key,v] n/\ps[j]?=some (k,v)/\knd.is k key=true
theorem zfD(knd:KeyKind prog w K)(d it l:Addr)(items:Array Value)(ps:List (K × Value))(hlen:items.size=ps.length)(hsz:ps.length≤sizeLine)(hdi:d≠it)(hli:l≠it)(hld:l≠d)(hn:(ps.map (·.1)).Nodup)(m:Nat):
  ∀ i:Nat,items.size - i=m->i≤items.size->MeetsIn prog w (Builtin.«dict.update.loop» ⟨[.ref d,.ref it,rawInt i,.none],[]⟩)
   (fun A R s=>A.handled=none/\s.heap.IsListIter it l i/\s.heap.IsList l items/\s.heap.DictOf knd d (ps.take i)/\(∀ j,j<items.size->zlW knd s.heap it d items ps j)/\
    ∀ h' t',h'.DictOf knd d ps->(∀ b o,b≠it->b≠d->s.heap.get? b=some o->h'.get? b=some o)->R (.ok (.ret .none)) { s with heap:=h',toks:=t' }):=by
 induction m with
 | zero=>
  intro i hk hi A R s h
  obtain ⟨hh,hit,hl,hd,hp,h⟩:=h
  have hi':i=items.size:=by omega
  subst hi'
  unfold Builtin.«dict.update.loop»
  show wpAny _ _ (pyNext (.ref it) >>= _) _ _ s
  refine wpAny_bind (wpAny_pyNext_list_end hh hit hl (by simp) fun h' e=>?_)
  show wpAny _ _ (Builtin.Dict.addKeywords d [] >>= _) _ _ _
  refine wpAny_bind (wpAny_pure (wpAny_pure (h h' s.toks ?_ fun b o hb _ hbo=>e b o hb hbo)))
  rw [hlen,List.take_length] at hd
  exact hd.extBut e hdi
 | succ m ih=>
  intro i hk hi A R s h
  obtain ⟨hh,hit,hl,hd,hp,h⟩:=h
  have hlt:i<items.size:=by omega
  obtain ⟨a,o,key,n,k,v,e1,e2,e3,e4,e5,e6,e7,e8⟩:=hp i hlt
  unfold Builtin.«dict.update.loop»
  show wpAny _ _ (pyNext (.ref it) >>= _) _ _ s
  refine wpAny_bind (wpAny_pyNext_list_item hit hl e1 fun h1 hit1 sb=>?_)
  dsimp only
  have e4':h1.get? a=some o:=(sb.2 a e2).trans e4
  have hd1:h1.DictOf knd d (ps.take i):=hd.sameBut sb hdi
  have hi1:i<ps.length:=by omega
  have hnew:stored (ps.take i) k v=ps.take (i+1):=by
   have e9:ps.take (i+1)=ps.take i++[(k,v)]:=by
    rw [List.take_succ,e7];rfl
   have hno:(ps.take i).any (fun kv=>kv.1=k)=false:=by
    rw [List.any_eq_false]
    intro kv hkv hc
    have hc':kv.1=k:=by simpa using hc
    have hn':=hn
    rw [← Kf (i+1) ps,e9,Ks,Ks] at hn'
    have h3:=(List.nodup_append.mp (List.nodup_append.mp hn').1).2.2 kv.1 (List.mem_map.mpr ⟨kv,hkv,rfl⟩) k (by simp)
    exact h3 hc'
   unfold stored
   rw [hno,e9];rfl
  refine wpAny_bind (wpAny_holding (wpAny_bind (wpAny_tryCatch ?_)))
  unfold Builtin.Dict.pairItems
  refine wpAny_bind (wpAny_typeOf (T:="tuple") ⟨o,e4',e5⟩ ?_)
  rw [if_pos (by decide)]
  refine wpAny_bind (wpAny_seqItems e4' e6 (wpAny_pure ?_))
  show wpAny _ _ (holding [key,v] (dictSet d key v)) _ _ _
  refine wpAny_holding (wpAny_dictSet_pairs e8 hd1 (fun h2 hd2 sb2=>?_) (by rw [JW];omega))
  rw [hnew] at hd2
  have keep:∀ b u,b≠it->b≠d->s.heap.get? b=some u->h2.get? b=some u:=fun b u h1' h2' hb=>(sb2.2 b h2').trans ((sb.2 b h1').trans hb)
  refine wpAny_pure ⟨plainId_quiet yN _,codeAny_builtin wz (by
   rw [Kl yN _]
   have hc:((i:Int)+1)=((i+1:Nat):Int):=by push_cast;rfl
   rw [hc]
   refine ih (i+1) (by omega) hlt A R _ ⟨hh,?_,?_,hd2,fun j hj=>?_,fun h' t' q1 q2=>?_⟩
   ·obtain ⟨o',ho',r⟩:=hit1
    exact ⟨o',(sb2.2 it (Qt hdi)).trans ho',r⟩
   ·obtain ⟨o',ho',r⟩:=hl
    exact ⟨o',keep l o' hli hld ho',r⟩
   ·obtain ⟨a,o,key,n,k,v,e1,e2,e3,e4,r⟩:=hp j hj
    exact ⟨a,o,key,n,k,v,e1,e2,e3,keep _ _ e2 e3 e4,r⟩
   ·exact h h' t' q1 fun b u b1 b2 hb=>q2 b u b1 b2 (keep b u b1 b2 hb))⟩
end
theorem zeH:typeLookup (.type "list") "keys"=pure none:=by rw [typeLookup_type,builtinLookup_eq_fast];kernel_rfl
section
variable {prog:Program} {w:World} {A:Around} {E:Value->Shared->Prop} {s:Shared}
theorem ziP{o:Obj}{Q:Option Value->Shared->Prop}(hx:s.heap.get? a=some o)(hc:o.cls=.type "list")(hdat:o.data=.seq xs k)(hd:o.dict=none)(hA:A.handled=none)
  (h:∀ h' tk,(∀ b u,s.heap.get? b=some u->h'.get? b=some u)->Q none { s with heap:=h',toks:=tk }):wpAny (model prog w) A (getAttr? (.ref a) "keys") Q E s:=by
 obtain ⟨c,dct,dat,sl⟩:=o
 simp only at hc hdat hd
 subst hc hdat hd
 obtain ⟨hp,g,d,tk,os⟩:=s
 have hT:∀ tk',(⟨hp,g,d,tk',os⟩:Shared).TypeIs (.ref a) "list":=fun _=>⟨_,hx,rfl⟩
 have f1:=sub_AttributeError
 have f3:=PySem.F.slot_list_getattribute.lookup
 have f4:=PySem.F.slot_list_getattribute.bind (.ref a)
 have f5:=am_list_getattr_none
 unfold getAttr? getAttrBy? getAttrBy
 repeat (any_goals (first | assumption | exact hT _ | ((with_reducible show wpAny _ _ (call (Value.builtin "list.__getattribute__") _ _) _ _ _);refine call_meets PySem.F.slot_list_getattribute (hT _) am_entry_list_getattribute (PySem.F.args_list_getattribute_2 _ _) (meets_getattribute_miss_list a xs k sl "keys" _ zeH (by decide) (by decide +kernel)) ⟨hx,hA,fun h' tk' e hx'=>?_⟩) | wp_step))
 obtain ⟨t',u',he⟩:=hx'.there
 show wpAny _ _ (getattributeRaised _ _ _ _ _ _ _) _ _ _
 unfold getattributeRaised
 repeat (any_goals (first | assumption | wp_step))
 exact h h' tk' hx'.keeps
end
section
variable {prog:Program} {w:World} {K:Type} [DecidableEq K] {knd:KeyKind prog w K} {A:Around} {E:Value->Shared->Prop} {s:Shared}
noncomputable def zlV(knd:KeyKind prog w K)(h:Heap)(items:Array Value)(ps:List (K × Value))(j:Nat):Prop:=
 ∃ a o key n k v,items[j]?=some (.ref a)/\h.get? a=some o/\o.cls=.type "tuple"/\o.data=.seq #[key,v] n/\ps[j]?=some (k,v)/\knd.is k key=true
theorem dict_pairs{o:Obj}{items:Array Value}{ps:List (K × Value)}{Q:Value->Shared->Prop}(ho:s.heap.get? l=some o)(hc:o.cls=.type "list")(hdat:o.data=.seq items k)(hd:o.dict=none)(hA:A.handled=none)
  (hlen:items.size=ps.length)(hsz:ps.length≤sizeLine)(hn:(ps.map (·.1)).Nodup)(hp:∀ j,j<items.size->zlV knd s.heap items ps j)
  (h:∀ h' t',h'.DictOf knd s.heap.objs.size ps->(∀ b u,s.heap.get? b=some u->h'.get? b=some u)->Q (.ref s.heap.objs.size) { s with heap:=h',toks:=t' }):
  wpAny (model prog w) A (call (.type "dict") [.ref l]) Q E s:=by
 refine callType_codes (Q₁:=fun obj s₁=>obj=.ref s.heap.objs.size/\s₁={ s with heap:=s.heap.push { cls:=.type "dict",data:=.dict #[] } }) PySem.F.kt_called_dict (PySem.F.kt_typeCall_dict_1 _) PySem.F.entry_dict_init (kt_code_dict_new _ ⟨rfl,rfl⟩) ?_
 rintro obj s₁ ⟨rfl,rfl⟩
 have hnew:(s.heap.push { cls:=.type "dict",data:=.dict #[] }).DictOf knd s.heap.objs.size []:=Heap.DictOf.new s.heap
 have keep0:∀ b u,s.heap.get? b=some u->(s.heap.push { cls:=.type "dict",data:=.dict #[] }).get? b=some u:=fun b u e=>Jc _ e
 refine ⟨hnew.typeIs,PySem.F.args_dict_init_2 _ _,?_⟩
 unfold Builtin.«dict.__init__»
 refine wpAny_bind ?_
 unfold Builtin.Dict.selfAndRest
 refine wpAny_bind (wpAny_notOrdered_dict hnew.typeIs ?_)
 show wpAny _ _ (pure (s.heap.objs.size,[Value.ref l])) _ _ _
 refine wpAny_pure ?_
 show wpAny _ _ (Builtin.Dict.updateFrom "dict.__init__" s.heap.objs.size (.ref l) [] .none) _ _ _
 unfold Builtin.Dict.updateFrom
 refine wpAny_bind (wpAny_typeOf (T:="list") ⟨o,keep0 _ _ ho,hc⟩ ?_)
 rw [if_pos (by decide)]
 refine wpAny_bind (ziP (keep0 _ _ ho) hc hdat hd hA fun h1 tk1 keep1=>?_)
 rw [if_pos (show (none:Option Value).isNone=true from rfl)]
 have hl1:h1.IsList l items:=⟨o,keep1 _ _ (keep0 _ _ ho),hc,k,hdat⟩
 refine wpAny_bind (wpAny_rule (wpAny_bind (wpAny_pyIter_list hl1 ?_)))
 obtain ⟨od,es,ep,hod,rd⟩:=hnew
 have hd1:h1.get? s.heap.objs.size=some od:=keep1 _ _ hod
 have old:∀ b u,s.heap.get? b=some u->b≠h1.objs.size/\b≠s.heap.objs.size:=fun b u e=>⟨Ju (Jn (keep1 _ _ (keep0 _ _ e))),Ju (Jn e)⟩
 refine wpAny_pure ⟨plainId_quiet yN _,codeAny_builtin wz (by
  rw [Kl yN _]
  refine zfD knd s.heap.objs.size h1.objs.size l items ps hlen hsz (Ju (Jn hd1)) (old _ _ ho).1 (old _ _ ho).2 hn items.size 0 rfl (Kb _) A.in1 _ _ ⟨hA,?_,?_,?_,fun j hj=>?_,fun h' t' q1 q2=>?_⟩
  ·exact ⟨_,Jq _ rfl,rfl,rfl⟩
  ·obtain ⟨o',ho',r⟩:=hl1
   exact ⟨o',Jc _ ho',r⟩
  ·exact ⟨od,es,ep,Jc _ hd1,rd⟩
  ·obtain ⟨a,o,key,n,k,v,e1,e2,r⟩:=hp j hj
   exact ⟨a,o,key,n,k,v,e1,(old _ _ e2).1,(old _ _ e2).2,Jc _ (keep1 _ _ (keep0 _ _ e2)),r⟩
  ·exact ⟨rfl,h h' t' q1 fun b u e=>q2 b u (old _ _ e).1 (old _ _ e).2 (Jc _ (keep1 _ _ (keep0 _ _ e)))⟩)⟩
end
end HT
namespace L2
open PySem PySem.Spec PySem.W PyProof.Rows
section
variable {X:Cx} {pins:List (Addr × Obj)} {σ:St} {H:Hp} {s:Shared}
theorem zbc(I:Inv X pins σ H s):∀ (kvs:List (Key × V)) {qs:List V} {its:List Value},Vals qs its->qs.length=kvs.length->(∀ (j:Nat) (kv:Key × V),kvs[j]?=some kv->∃ a,qs[j]?=some (V.ref a)/\SqT X.K H a [kV kv.1,kv.2])->
  ∃ vs:List (Key × Value),KV kvs vs/\∀ j,j<its.length->∃ a o key n k v,its[j]?=some (Value.ref a)/\s.heap.get? a=some o/\o.cls=.type "tuple"/\o.data=.seq #[key,v] n/\vs[j]?=some (k,v)/\(zC X.prog X.w).is k key=true
 | [],qs,its,r,e,_=>⟨[],.nil,fun j hj=>by rw [← r.length,e] at hj;cases hj⟩
 | kv::kvs,[],its,r,e,_=>nomatch e
 | kv::kvs,q::qs,its,r,e,h=>by
  cases r with
  | cons rq rr=>
   obtain ⟨a,e1,e2⟩:=h 0 kv rfl
   cases (Option.some.inj e1)
   obtain ⟨is,ri,⟨o,ho,hc,n,hd⟩,_⟩:=I.tuple e2
   cases rq
   cases ri with
   | cons rk rr2=>
    cases rr2 with
    | cons rv rr3=>
     cases rr3
     obtain ⟨vs,g1,g2⟩:=zbc I kvs rr (QR e) fun j kv hj=>h (j+1) kv hj
     refine ⟨(kv.1,_)::vs,.cons ⟨rfl,rv⟩ g1,fun j hj=>?_⟩
     cases j with
     | zero=>exact ⟨a,o,_,n,kv.1,_,rfl,ho,hc,hd,rfl,qD rk⟩
     | succ j=>exact g2 j (KH hj)
theorem zcY(hc:X.calm=true):CallR X (.type "dict") (fun xs H Q=>∃ p,∃ (qs:List V) (kvs:List (Key × V)),xs=[.ref p]/\SqL X.K H p qs/\qs.length=kvs.length/\kvs.length≤1000/\(kvs.map (·.1)).Nodup/\(∀ (j:Nat) (kv:Key × V),kvs[j]?=some kv->∃ a,qs[j]?=some (V.ref a)/\SqT X.K H a [kV kv.1,kv.2])/\
  ∀ l,H l=none->Q (.ref l) (upd H l (.dK kvs))):=by
 intro pins s σ H vs us Q I r q
 obtain ⟨p,qs,kvs,e,hq,hl,hz,hn,hp,q⟩:=q
 subst e
 cases r with
 | cons r rr=>
  cases rr
  cases r
  obtain ⟨its,rv,⟨o,n,ho,h1,h2,h3⟩,_⟩:=I.list hq
  obtain ⟨ws,g1,g2⟩:=zbc I kvs rv hl hp
  have hlw:kvs.length=ws.length:=Paired.length g1
  have hkey:ws.map (·.1)=kvs.map (·.1):=by
   clear g2 hlw hn hz hl hp q
   induction g1 with
   | nil=>rfl
   | cons r _ ih=>rw [Jm,Jm,r.1,ih]
  refine HT.dict_pairs (knd:=zC X.prog X.w) (ps:=ws) ho h1 h3 h2 (I.ok.hd hc) (by rw [Jv,← rv.length,hl,hlw]) (by rw [← hlw,sizeLine_eq];omega) (by rw [hkey];exact hn) (fun j hj=>?_) fun h' t' q1 q2=>?_
  ·obtain ⟨a,o,key,n,k,v,e1,r⟩:=g2 j (by simpa using hj)
   exact ⟨a,o,key,n,k,v,by simpa using e1,r⟩
  ·exact ⟨.ref s.heap.objs.size,_,I.laid (a:=s.heap.objs.size) (o:=.dK kvs) (t':=t') q2 (Jj _) (zhn (by rw [sizeLine_eq];omega) (beq_eq_false_iff_ne.mpr (Qt (Ju I.big))) g1 q1),rfl,q _ (I.hok.fresh (Jj _))⟩
end
end L2
namespace F
open PySem PySem.Spec PyProof.Rows L2
noncomputable def pairsOf:List PV->Option (List (Int × PV))
 | []=>some []
 | p::ps=>match p with
  | .tup [.int k,q]=>if zQ q=true then (pairsOf ps).map ((k,q)::·) else none
  | _=>none
noncomputable def vZ:List PV->Option PV
 | [.lst ps]=>(pairsOf ps).bind fun L=>if (L.map (·.1)).Nodup/\L.length≤1000 then some (.dct (L.map fun z=>Sum.inl z.1) (L.map (·.2))) else none
 | _=>none
theorem kz{K:PySem.W.Frag}{H:Hp}:∀ {ps:List PV} {L:List (Int × PV)} {xs:List V} {B:List Addr},pairsOf ps=some L->Rps K H ps xs B->
  ∃ ws:List V,Rps K H (L.map (·.2)) ws []/\xs.length=L.length/\∀ (j:Nat) (kw:Key × V),((L.map fun z=>(Sum.inl z.1:Key)).zip ws)[j]?=some kw->∃ a,xs[j]?=some (V.ref a)/\SqT K H a [kV kw.1,kw.2]
 | [],L,xs,B,e,r=>by
  cases e
  obtain ⟨rfl,_⟩:=r.inv0
  exact ⟨[],.nil,rfl,fun j kw h=>by cases h⟩
 | p::ps,L,xs,B,e,r=>by
  unfold pairsOf at e
  split at e
  case h_2=>cases e
  rename_i k q
  split at e
  case isFalse=>cases e
  rename_i hq
  cases hL:pairsOf ps with
  | none=>rw [hL] at e;cases e
  | some L'=>
   rw [hL] at e
   cases e
   obtain ⟨v,xs',A1,A2,rfl,_,r1,r2⟩:=r.inv
   obtain ⟨a,ys,rfl,hT,r3⟩:=r1.T
   obtain ⟨y1,y2,C1,C2,rfl,_,r4,r5⟩:=zcb r3
   obtain ⟨rfl,_⟩:=r4.I
   have hC:=Rp.data _ hq r5
   subst hC
   obtain ⟨ws,g1,g2,g3⟩:=kz hL r2
   refine ⟨y2::ws,Rps.cons (A:=[]) r5 g1,by rw [JF,g2];rfl,fun j kw h=>?_⟩
   cases j with
   | zero=>cases h;exact ⟨a,rfl,hT⟩
   | succ j=>exact g3 j kw h
theorem zhw{K:PySem.W.Frag}:jL K (fun xs H Q=>∃ p,∃ (qs:List V) (kvs:List (Key × V)),xs=[.ref p]/\SqL K H p qs/\qs.length=kvs.length/\kvs.length≤1000/\(kvs.map (·.1)).Nodup/\(∀ (j:Nat) (kv:Key × V),kvs[j]?=some kv->∃ a,qs[j]?=some (V.ref a)/\SqT K H a [kV kv.1,kv.2])/\
  ∀ l,H l=none->Q (.ref l) (upd H l (.dK kvs))) vZ:=by
 intro H ps vs A z Q r e k
 unfold vZ at e
 split at e
 case h_2=>cases e
 rename_i qs
 replace e:=Ja.mp e;obtain ⟨L,hL,e⟩:=e
 split at e
 case isFalse=>cases e
 rename_i hh
 cases e
 obtain ⟨v,rfl,rv⟩:=z8 r
 obtain ⟨a,ys,B,rfl,h1,_,g⟩:=rv.L
 obtain ⟨ws,g1,g2,g3⟩:=kz hL g
 have hw:L.length=ws.length:=by have:=g1.length;rwa [Je] at this
 have hz:((L.map fun z=>(Sum.inl z.1:Key)).zip ws).length=L.length:=by rw [List.length_zip,Je,← hw,Nat.min_self]
 refine ⟨a,ys,(L.map fun z=>(Sum.inl z.1:Key)).zip ws,rfl,SqL.of h1,by rw [hz,g2],by rw [hz];exact hh.2,?_,g3,fun l hn=>?_⟩
 ·rw [show (((L.map fun z=>(Sum.inl z.1:Key)).zip ws).map (·.1))=L.map fun z=>(Sum.inl z.1:Key) from List.map_fst_zip (by rw [Je,hw];exact Jj _)]
  have:=hh.1
  rw [JG,JJ] at this ⊢
  exact this.imp fun h e=>h (Sum.inl.inj e)
 ·have s1:Same H (upd H l (.dK ((L.map fun z=>(Sum.inl z.1:Key)).zip ws))):=zw (Same.refl _) hn
  exact k _ _ [l] s1 (.mkD zT (by rw [List.length_map,List.length_map]) (Rps.same s1 _ g1)) (by simp) (by simpa using hn)
end F
namespace L2
open PySem PySem.Spec PySem.W PyProof.Rows
end L2
namespace F
open PySem PySem.Spec PyProof.Rows L2
end F
namespace F
open PySem PySem.Spec PyProof.Rows
namespace Tab
noncomputable def adv(t:SetTable):Nat->SetTable.Probe->SetTable.Probe
 | 0,P=>P
 | n+1,P=>adv t n (t.advance P)
noncomputable def In(t:SetTable)(P:SetTable.Probe):Prop:=P.j+P.more≤t.mask/\P.dummy=none
theorem In.next{t:SetTable}(h:In t P):In t (t.advance P):=by
 unfold SetTable.advance
 split
 ·rename_i hm
  exact ⟨by show P.j+1+(P.more - 1)≤t.mask;have:=h.1;omega,h.2⟩
 ·have hi:(SetTable.leap t.mask P.i P.perturb).1≤t.mask:=JZ (KS _ (Kj _))
  have hr:=y7 hi
  exact ⟨by show (SetTable.leap t.mask P.i P.perturb).1+(SetTable.runEnd t.mask (SetTable.leap t.mask P.i P.perturb).1 - (SetTable.leap t.mask P.i P.perturb).1)≤t.mask;omega,h.2⟩
theorem In.start(t:SetTable)(h:Int):In t (t.probeStart h):=by
 have hi:SetTable.bits h % (t.mask+1)≤t.mask:=JZ (KS _ (Kj _))
 have hr:=y7 hi
 exact ⟨by show SetTable.bits h % (t.mask+1)+(SetTable.runEnd t.mask (SetTable.bits h % (t.mask+1)) - SetTable.bits h % (t.mask+1))≤t.mask;omega,rfl⟩
section
variable {t:SetTable} {h:Int}
theorem zdC{hashAt:Nat->Int}(hd:t.dummies=#[]):∀ (fuel:Nat) (P:SetTable.Probe) {j:Nat} {d:Option Nat},SetTable.probe.go t hashAt h fuel P=some (.empty j d)->∃ m,m<fuel/\t.slot (adv t m P).j=.empty
 | 0,P,j,d,e=>nomatch e
 | f+1,P,j,d,e=>by
  rw [uS] at e
  cases hs:t.slot P.j with
  | empty=>exact ⟨0,Kj _,hs⟩
  | dummy=>exact absurd hs (xA hd _)
  | live i=>
   rw [hs] at e
   dsimp only at e
   split at e
   ·cases e
   ·obtain ⟨m,h1,h2⟩:=zdC hd f _ e
    exact ⟨m+1,Nat.succ_lt_succ h1,h2⟩
theorem ziQ(g:Good t n led)(h:Int):∃ m,m<10 * SetTable.turns t.mask/\t.slot (adv t m (t.probeStart h)).j=.empty:=by
 obtain ⟨j0,h0,h1⟩:=znl t.mask t.place.toList g.rise (by rw [Jd,g.size];exact g.room)
 have hi:SetTable.bits h % (t.mask+1)≤t.mask:=JZ (KS _ (Kj _))
 obtain ⟨m,hm,e⟩:=g.full.leaps (j:=j0) hi (zaj h) h0
 obtain ⟨j,e1,e2,e3⟩:=zaZ (t:=t) (hashAt:=fun _=>h+1) (h:=h) g.dm (fun _=>beq_eq_false_iff_ne.mpr (by omega)) (vd g.dm h1) m (10 * SetTable.turns t.mask) (t.probeStart h) rfl rfl hi (by omega) e
 exact zdC g.dm _ _ e1
inductive Meet (t:SetTable) (m:Nat) (P:SetTable.Probe):Option SetTable.Met->Prop
 | empty (j:Nat):t.slot j=.empty->j≤t.mask->Meet t m P (some (.empty j none))
 | cand (j i k:Nat) (next:SetTable.Probe):t.slot j=.live i->k<m->In t next->t.slot (adv t k next).j=.empty->Meet t m P (some (.candidate j i next))
theorem zdQ{hashAt:Nat->Int}(hd:t.dummies=#[]):∀ (m fuel:Nat) (P:SetTable.Probe),m<fuel->In t P->t.slot (adv t m P).j=.empty->Meet t m P (SetTable.probe.go t hashAt h fuel P)
 | m,0,P,hf,_,_=>absurd hf (Kk _)
 | m,f+1,P,hf,hi,hm=>by
  rw [uS]
  cases hs:t.slot P.j with
  | empty=>
   dsimp only
   rw [hi.2]
   exact .empty P.j hs (by have:=hi.1;omega)
  | dummy=>exact absurd hs (xA hd _)
  | live i=>
   dsimp only
   cases m with
   | zero=>
    have:t.slot P.j=.empty:=hm
    rw [hs] at this;cases this
   | succ m=>
    split
    ·exact .cand P.j i m _ hs (KJ _) hi.next hm
    ·have:=zdQ (hashAt:=hashAt) hd m f (t.advance P) (KH hf) hi.next hm
     generalize SetTable.probe.go t hashAt h f (t.advance P)=r at this
     cases this with
     | empty j h1 h2=>exact .empty j h1 h2
     | cand j i k next h1 h2 h3 h4=>exact .cand j i k next h1 (by omega) h3 h4
theorem zcm(hd:t.dummies=#[])(e:t.probe hashAt h P=r)(hm:m<10 * SetTable.turns t.mask)(hi:In t P)(hs:t.slot (adv t m P).j=.empty):Meet t m P r:=by
 rw [← e]
 exact zdQ hd m _ P hm hi hs
theorem probe_some(hd:t.dummies=#[])(hm:m<10 * SetTable.turns t.mask)(hi:In t P)(hs:t.slot (adv t m P).j=.empty):∃ met,t.probe hashAt h P=some met:=by
 have:=zcm (h:=h) (hashAt:=hashAt) hd rfl hm hi hs
 generalize t.probe hashAt h P=r at this
 cases this with
 | empty j h1 h2=>exact ⟨_,rfl⟩
 | cand j i k next h1 h2 h3 h4=>exact ⟨_,rfl⟩
theorem zev(g:Good t n led)(h:t.slot j=.live i):i<n:=by
 unfold SetTable.slot at h
 dsimp only at h
 split at h
 ·rename_i hc
  cases h
  have e:=beq_iff_eq.mp hc
  obtain ⟨h1,_⟩:=Jw.mp e
  rw [← g.size];exact h1
 ·split at h<;>cases h
end
end Tab
noncomputable def ElT(prog:Program)(w:World)(h:Heap)(e:Int × Value):Prop:=∃ b k,e.2=.ref b/\IsTupleKey (intKind prog w) h k b/\e.1=tupleKeyHash (intKind prog w) k
structure SetTt (prog:Program) (w:World) (h:Heap) (es:Array (Int × Value)) (t:SetTable) (L:List Value) (led:Bool):Prop where
 el:∀ e ∈ es.toList,ElT prog w h e
 perm:(es.toList.map (·.2)).Perm L
 good:Tab.Good t es.size led
 mask:t.mask=7∨t.mask=31∨t.mask=127
 nf:es.size * 5<t.mask * 3
noncomputable def SetV(prog:Program)(w:World)(h:Heap)(a:Addr)(L:List Value)(led:Bool):Prop:=∃ o es ep t,h.get? a=some o/\o.ExactSet/\o.data=.set es ep t/\SetTt prog w h es t L led
section
variable {prog:Program} {w:World} {A:Around} {E:Value->Shared->Prop} {s:Shared}
theorem SetTt.size{es:Array (Int × Value)}{L:List Value}(b:SetTt prog w h es t L led):es.size=L.length:=by
 have:=b.perm.length_eq
 rw [Je,Jd] at this
 exact this
theorem zfF{h h':Heap}(hk:IsTupleKey (intKind prog w) h k b)(e:∀ o,h.get? b=some o->h'.get? b=some o):IsTupleKey (intKind prog w) h' k b:=by
 obtain ⟨o,items,n,ho,r⟩:=hk
 exact ⟨o,items,n,e o ho,r⟩
theorem SetV.keep{h h':Heap}(x:SetV prog w h a L led)(k:∀ o,h.get? a=some o->h'.get? a=some o)(kk:∀ b,Value.ref b ∈ L->∀ o,h.get? b=some o->h'.get? b=some o):SetV prog w h' a L led:=by
 obtain ⟨o,es,ep,t,ho,hx,hd,B⟩:=x
 refine ⟨o,es,ep,t,k o ho,hx,hd,fun e he=>?_,B.perm,B.good,B.mask,B.nf⟩
 obtain ⟨b,c,e1,e2,e3⟩:=B.el e he
 exact ⟨b,c,e1,zfF e2 (kk b (by rw [← e1];exact B.perm.mem_iff.mp (Jo.mpr ⟨e,he,rfl⟩))),e3⟩
theorem SetV.fresh{h:Heap}(ho:h.get? a=some { cls:=.type "set",dict:=none,data:=.set #[] 0 (.fresh 0 0 led) }):SetV prog w h a [] led:=
 ⟨_,#[],0,_,ho,⟨rfl,rfl,rfl⟩,rfl,fun e he=>by simp at he,.refl _,⟨Tab.full7,rfl,Nat.zero_le _,rfl,List.Pairwise.nil,fun j hj=>by simp [SetTable.fresh] at hj,rfl,rfl⟩,.inl rfl,by show 0 * 5<7 * 3;decide⟩
structure Tups (prog:Program) (w:World) (h0:Heap) (n:Nat) (ad:Nat->Addr) (key:Nat->List Int) (wr:List Addr):Prop where
 at':∀ i,i<n->IsTupleKey (intKind prog w) h0 (key i) (ad i)
 out:∀ i,i<n->ad i ∉ wr
 ne:∀ i j,i<j->j<n->key i≠key j
noncomputable def tl(ad:Nat->Addr)(n:Nat):List Value:=(List.range n).map fun j=>.ref (ad j)
end
end F
namespace F
open PySem PySem.Spec PySem.W PyProof.Rows
noncomputable def plt(a b:Int × Int):Prop:=a.1<b.1∨a.1=b.1/\a.2<b.2
instance (a b:Int × Int):Decidable (plt a b):=by unfold plt;infer_instance
structure PairsAt (h:Heap) (a:Addr) (vs:List Value) (ks:List (Int × Int)):Prop where
 len:vs.length=ks.length
 at':∀ i,i<vs.length->∃ l o items m t u,vs.getD i Value.none=.ref l/\l≠a/\h.get? l=some o/\o.cls=.type "tuple"/\o.data=.seq items m/\items.toList=[.int (ks.getD i (0,0)).1 t,.int (ks.getD i (0,0)).2 u]
 nd:ks.Nodup
theorem PairsAt.other{h h':Heap}(x:PairsAt h a vs ks)(k:∀ l o,l≠a->h.get? l=some o->h'.get? l=some o):PairsAt h' a vs ks:=
 ⟨x.len,fun i hi=>let ⟨l,o,its,m,t,u,e1,e2,e3,e4⟩:=x.at' i hi;⟨l,o,its,m,t,u,e1,e2,k l _ e2 e3,e4⟩,x.nd⟩
end F
namespace F
theorem zaX{α:Type}(d:α)(ks:List α):(List.range ks.length).map (ks.getD · d)=ks:=by
 apply List.ext_getElem
 ·simp
 ·intro i h1 h2
  simp [List.getD,h2]
end F
namespace L2
open PySem PySem.Spec PySem.W PyProof.Rows F
theorem zdg:∀ {xs:List V} {its:List Value},Vals xs its->∀ i,i<xs.length->RelV (xs.getD i .non) (its.getD i Value.none)
 | _,_,.nil,i,h=>absurd h (Kk _)
 | _::_,_::_,.cons r _,0,_=>r
 | _::xs,_::us,.cons _ t,i+1,h=>zdg (xs:=xs) (its:=us) t i (KH h)
noncomputable def adV(xs:List V)(i:Nat):Addr:=match xs.getD i .non with | .ref a=>a | _=>0
end L2
namespace F
open PySem PySem.Spec PyProof.Rows L2
namespace Tab
noncomputable def GoodN(t:SetTable)(n:Nat)(led:Bool):Prop:=Good { t with plain:=true } n led
section
variable {t:SetTable} {n:Nat} {led:Bool}
theorem GoodN.fits(g:GoodN t n led):t.fits n=true:=Good.fits (t:={ t with plain:=true }) g
theorem GoodN.dm(g:GoodN t n led):t.dummies=#[]:=Good.dm (t:={ t with plain:=true }) g
theorem GoodN.ledd(g:GoodN t n l):t.led=l:=Good.led (t:={ t with plain:=true }) g
theorem GoodN.size(g:GoodN t n led):t.place.size=n:=Good.size (t:={ t with plain:=true }) g
theorem GoodN.live(g:GoodN t n led)(h:t.slot j=.live i):i<n:=zev (t:={ t with plain:=true }) g h
theorem qO:∀ (m:Nat) (P:SetTable.Probe),adv { t with plain:=true } m P=adv t m P
 | 0,P=>rfl
 | m+1,P=>qO m (t.advance P)
theorem GoodN.near(g:GoodN t n led)(h:Int):∃ m,m<10 * SetTable.turns t.mask/\t.slot (adv t m (t.probeStart h)).j=.empty:=by
 obtain ⟨m,h1,h2⟩:=ziQ g h
 rw [qO] at h2
 exact ⟨m,h1,h2⟩
theorem GoodN.put(g:GoodN t n led)(hn:n+1≤t.mask)(hs:t.slot j=.empty)(hj:j≤t.mask):GoodN (t.put j).1 (n+1) led/\(t.put j).1.mask=t.mask:=zgh (t:={ t with plain:=true }) g hn hs hj
theorem laid_any{mask finger moves:Nat}{led plain:Bool}{hashes:Array Int}(F:Full mask)(hn:hashes.size≤mask):∃ t order,SetTable.laid mask finger moves led plain hashes=some (t,order)/\order.toList.Perm (List.range hashes.size)/\GoodN t hashes.size led/\t.mask=mask:=by
 obtain ⟨t,order,h1,h2,h3,h4⟩:=zdH (finger:=finger) (moves:=moves) (led:=led) (plain:=true) F hn rfl
 refine ⟨{ t with plain:=plain },order,?_,h2,?_,h4⟩
 ·unfold SetTable.laid at h1 ⊢
  cases hc:SetTable.layClean mask hashes with
  | none=>rw [hc] at h1;cases h1
  | some owner=>
   rw [hc] at h1
   cases h1
   rfl
 ·have e:t.plain=true:=h3.plain
  unfold GoodN
  have:({ ({ t with plain:=plain }:SetTable) with plain:=true }:SetTable)=t:=by
   cases t;simp only at e;subst e;rfl
  rw [this];exact h3
end
end Tab
noncomputable def ElM(prog:Program)(w:World)(h:Heap)(e:Int × Value):Prop:=∃ b k,e.2=.ref b/\IsTupleKey (zC prog w) h k b/\e.1=tupleKeyHash (zC prog w) k
noncomputable def NoM(prog:Program)(w:World)(h:Heap)(k:List Key)(v:Value):Prop:=∀ b' k',v=.ref b'->IsTupleKey (zC prog w) h k' b'->k'≠k
section
variable {prog:Program} {w:World} {A:Around} {E:Value->Shared->Prop} {s:Shared}
theorem k6(h:ItemsAre (zC prog w) k vs):∀ v ∈ vs,(∃ n t,v=Value.int n t)∨∃ x t,v=Value.str x t:=by
 induction h with
 | nil=>intro v hv;cases hv
 | @cons n v ks vs h1 _ ih=>
  intro u hu
  rcases List.mem_cons.mp hu with rfl | hu
  ·rcases zH h1 with ⟨i,t,_,e⟩ | ⟨y,t,_,e⟩
   ·exact .inl ⟨i,t,e⟩
   ·exact .inr ⟨y,t,e⟩
  ·exact ih u hu
theorem kd{Q:Bool->Shared->Prop}(hk:IsTupleKey (zC prog w) s.heap k b)(h:∀ c,Q c s):wpAny (model prog w) A (hashByValue 8 (.ref b)) Q E s:=by
 have hT:=hk.typeIs
 obtain ⟨o,items,n,ho,_,hd,hi⟩:=hk
 unfold hashByValue
 refine wpAny_bind (wpAny_specialOf hT PySem.F.slot_tuple_hash.lookup ?_)
 show wpAny _ _ (seqItems? (.ref b) >>= _) _ _ s
 refine wpAny_bind ?_
 unfold seqItems?
 refine wpAny_bind (wpAny_load ho ?_)
 rw [hd]
 refine wpAny_pure ?_
 refine wpAny_bind ?_
 show wpAny _ _ (forIn items _ _) _ _ s
 rw [← Array.forIn_toList]
 refine wpAny_forIn_list _ (fun zg r s'=>r.1=none/\s'=s/\∀ v ∈ zg,(∃ n t,v=Value.int n t)∨∃ x t,v=Value.str x t) _ ?_ ?_ _ _ ⟨rfl,rfl,k6 hi⟩
 ·rintro v zg r s' ⟨hr,rfl,hall⟩
  rcases hall v List.mem_cons_self with ⟨n,t,rfl⟩ | ⟨n,t,rfl⟩
  ·rw [show hashByValue 7 (Value.int n t)=pure true from rfl]
   refine wpAny_bind (wpAny_pure ?_)
   simp only [Bool.not_true,Bool.false_eq_true,if_false]
   exact wpAny_pure ⟨rfl,rfl,fun u hu'=>hall u (Jg _ hu')⟩
  ·rw [show hashByValue 7 (Value.str n t)=pure false from rfl]
   refine wpAny_bind (wpAny_pure ?_)
   simp only [Bool.not_false,if_true]
   exact wpAny_pure (wpAny_pure (h false))
 ·rintro ⟨r1,r2⟩ s' ⟨hr,rfl,_⟩
  simp only at hr
  subst hr
  exact wpAny_pure (h true)
theorem k4{Q:Bool->Shared->Prop}(hk:IsTupleKey (zC prog w) s.heap k b)(h:Q false s):wpAny (model prog w) A (ofAClassStatement 8 (.ref b)) Q E s:=by
 have hT:=hk.typeIs
 obtain ⟨o,items,n,ho,_,hd,hi⟩:=hk
 unfold ofAClassStatement
 refine wpAny_bind (wpAny_typeOf hT ?_)
 dsimp only
 rw [if_pos (by decide)]
 refine wpAny_bind (wpAny_pure ?_)
 simp only [Bool.not_true,Bool.false_eq_true,if_false]
 show wpAny _ _ (seqItems? (.ref b) >>= _) _ _ s
 refine wpAny_bind ?_
 unfold seqItems?
 refine wpAny_bind (wpAny_load ho ?_)
 rw [hd]
 refine wpAny_pure ?_
 dsimp only
 refine wpAny_bind ?_
 show wpAny _ _ (forIn items _ _) _ _ s
 rw [← Array.forIn_toList]
 refine wpAny_forIn_list _ (fun zg r s'=>r.1=none/\s'=s/\∀ v ∈ zg,(∃ n t,v=Value.int n t)∨∃ x t,v=Value.str x t) _ ?_ ?_ _ _ ⟨rfl,rfl,k6 hi⟩
 ·rintro v zg r s' ⟨hr,rfl,hall⟩
  have hv:ofAClassStatement 7 v=pure false:=by rcases hall v List.mem_cons_self with ⟨n,t,rfl⟩ | ⟨n,t,rfl⟩<;>rfl
  rw [hv]
  refine wpAny_bind (wpAny_pure ?_)
  simp only [Bool.false_eq_true,if_false]
  exact wpAny_pure ⟨rfl,rfl,fun u hu'=>hall u (Jg _ hu')⟩
 ·rintro ⟨r1,r2⟩ s' ⟨hr,rfl,_⟩
  simp only at hr
  subst hr
  exact wpAny_pure h
theorem zeG{Q:Bool->Shared->Prop}(hk:IsTupleKey (zC prog w) s.heap k b)(hy:∀ y ∈ ys,∃ b' k',y=.ref b'/\IsTupleKey (zC prog w) s.heap k' b')(h:Q false s):wpAny (model prog w) A (searchCouldBeSeen (.ref b) ys) Q E s:=by
 unfold searchCouldBeSeen
 refine wpAny_bind ?_
 refine wpAny_forIn_list _ (fun zg r s'=>r.1=none/\s'=s/\∀ y ∈ zg,∃ b' k',y=.ref b'/\IsTupleKey (zC prog w) s.heap k' b') _ ?_ ?_ _ _ ⟨rfl,rfl,hy⟩
 ·rintro y zg r s' ⟨hr,rfl,hall⟩
  obtain ⟨b',k',rfl,hk'⟩:=hall y Jf
  have hn:∀ u ∈ zg,∃ b' k',u=.ref b'/\IsTupleKey (zC prog w) s'.heap k' b':=fun u hu=>hall u (Jg _ hu)
  dsimp only
  split
  ·exact wpAny_pure ⟨rfl,rfl,hn⟩
  ·refine wpAny_bind (wpAny_eqIsQuiet_tuple hk ?_)
   simp only [Bool.not_true,Bool.false_eq_true,if_false]
   refine wpAny_bind (wpAny_eqIsQuiet_tuple hk' ?_)
   simp only [Bool.not_true,Bool.false_eq_true,if_false]
   refine wpAny_bind (k4 hk ?_)
   simp only [Bool.false_eq_true,if_false]
   refine wpAny_bind (k4 hk' ?_)
   simp only [Bool.false_eq_true,if_false]
   exact wpAny_pure ⟨rfl,rfl,hn⟩
 ·rintro ⟨r1,r2⟩ s' ⟨hr,rfl,_⟩
  simp only at hr
  subst hr
  exact wpAny_pure h
structure SetTm (prog:Program) (w:World) (h:Heap) (es:Array (Int × Value)) (t:SetTable) (L:List Value) (led:Bool):Prop where
 el:∀ e ∈ es.toList,ElM prog w h e
 perm:(es.toList.map (·.2)).Perm L
 good:Tab.GoodN t es.size led
 mask:t.mask=7∨t.mask=31∨t.mask=127
 nf:es.size * 5<t.mask * 3
noncomputable def SetM(prog:Program)(w:World)(h:Heap)(a:Addr)(L:List Value)(led:Bool):Prop:=∃ o es ep t,h.get? a=some o/\o.ExactSet/\o.data=.set es ep t/\SetTm prog w h es t L led
theorem SetTm.size{es:Array (Int × Value)}{L:List Value}(b:SetTm prog w h es t L led):es.size=L.length:=by
 have:=b.perm.length_eq
 rw [Je,Jd] at this
 exact this
theorem zij{h:Heap}{o:Obj}(hk:IsTupleKey (zC prog w) h k b)(ho:h.get? a=some o)(hd:o.data=.set es ep t):b≠a:=by
 rintro rfl
 obtain ⟨o',items,n,ho',_,hd',_⟩:=hk
 obtain rfl:o'=o:=Js (ho'.symm.trans ho)
 rw [hd] at hd';exact nomatch hd'
theorem xi{h h':Heap}(hk:IsTupleKey (zC prog w) h k b)(e:∀ o,h.get? b=some o->h'.get? b=some o):IsTupleKey (zC prog w) h' k b:=by
 obtain ⟨o,items,n,ho,r⟩:=hk
 exact ⟨o,items,n,e o ho,r⟩
theorem SetM.keep{h h':Heap}(x:SetM prog w h a L led)(k:∀ o,h.get? a=some o->h'.get? a=some o)(kk:∀ b,Value.ref b ∈ L->∀ o,h.get? b=some o->h'.get? b=some o):SetM prog w h' a L led:=by
 obtain ⟨o,es,ep,t,ho,hx,hd,B⟩:=x
 refine ⟨o,es,ep,t,k o ho,hx,hd,fun e he=>?_,B.perm,B.good,B.mask,B.nf⟩
 obtain ⟨b,c,e1,e2,e3⟩:=B.el e he
 exact ⟨b,c,e1,xi e2 (kk b (by rw [← e1];exact B.perm.mem_iff.mp (Jo.mpr ⟨e,he,rfl⟩))),e3⟩
theorem SetM.fresh{h:Heap}(ho:h.get? a=some { cls:=.type "set",dict:=none,data:=.set #[] 0 (.fresh 0 0 led) }):SetM prog w h a [] led:=
 ⟨_,#[],0,_,ho,⟨rfl,rfl,rfl⟩,rfl,fun e he=>by simp at he,.refl _,⟨Tab.full7,rfl,Nat.zero_le _,rfl,List.Pairwise.nil,fun j hj=>by simp [SetTable.fresh] at hj,rfl,rfl⟩,.inl rfl,by show 0 * 5<7 * 3;decide⟩
structure TupsM (prog:Program) (w:World) (h0:Heap) (n:Nat) (ad:Nat->Addr) (key:Nat->List Key) (wr:List Addr):Prop where
 at':∀ i,i<n->IsTupleKey (zC prog w) h0 (key i) (ad i)
 out:∀ i,i<n->ad i ∉ wr
 ne:∀ i j,i<j->j<n->key i≠key j
end
end F
namespace F
open PySem PySem.Spec PyProof.Rows PySem.W
section
variable {prog:Program} {w:World} {A:Around} {E:Value->Shared->Prop} {s:Shared} {a:Addr} {es:Array (Int × Value)} {ep:Nat} {t:SetTable}
theorem qQ{Q:Nat->Shared->Prop}(hn:n≠0)(h:∀ i d,i<n->Q i { s with drawn:=d }):wpAny (model prog w) A (choose src n) Q E s:=fun Γ p hΓ=>by
 unfold choose
 rw [Sem.wp_choose]
 refine ⟨hn,?_⟩
 have:=h ((model prog w).w.draws src (s.drawn.get src) % n) (s.drawn.bump src) (KS _ (Nat.pos_of_ne_zero hn))
 simpa using this
theorem w4{α:Type}:∀ (n:Nat) (xs:List α) {s:Shared} {Q:List α->Shared->Prop},xs.length=n->(∀ ys d,ys.Perm xs->Q ys { s with drawn:=d })->wpAny (model prog w) A (drawOrder n xs) Q E s
 | 0,xs,s,Q,hl,h=>by
  obtain rfl:=Qb.mp hl
  unfold drawOrder
  exact wpAny_pure (h [] s.drawn (.refl _))
 | n+1,[],s,Q,hl,h=>nomatch hl
 | n+1,x::xs,s,Q,hl,h=>by
  unfold drawOrder
  refine wpAny_bind (qQ (by rw [hl];omega) fun i d hi=>?_)
  rw [Jr hi]
  dsimp only
  refine wpAny_bind (w4 n ((x::xs).eraseIdx i) (s:={ s with drawn:=d }) (by rw [List.length_eraseIdx_of_lt hi,hl];omega) fun ys d' hp=>?_)
  exact wpAny_pure (h _ d' ((hp.cons _).trans (uz _ _ hi)))
noncomputable def IsSD(h:Heap)(it tp a:Addr)(i n ep:Nat):Prop:=∃ o,h.get? it=some o/\o.cls=.type "set_iterator"/\o.data=.fields #[.ref tp,.int i 0,.ref a,.int n 0,.int ep 0]
noncomputable def OrdAt(h:Heap)(tp:Addr)(ord:List Nat):Prop:=∃ o k,h.get? tp=some o/\o.data=.seq (ord.map fun (i:Nat)=>rawInt i).toArray k
theorem IsSD.typeIs(x:IsSD s.heap it tp a i n ep):s.TypeIs (.ref it) "set_iterator":=let ⟨o,ho,hc,_⟩:=x;⟨o,ho,hc⟩
theorem IsSD.at{h h':Heap}(x:IsSD h it tp a i n ep)(e:∀ o,h.get? it=some o->h'.get? it=some o):IsSD h' it tp a i n ep:=let ⟨o,ho,r⟩:=x;⟨o,e _ ho,r⟩
theorem OrdAt.at{h h':Heap}(x:OrdAt h tp ord)(e:∀ o,h.get? tp=some o->h'.get? tp=some o):OrdAt h' tp ord:=let ⟨o,k,ho,r⟩:=x;⟨o,k,e _ ho,r⟩
theorem ziq{Q:Value->Shared->Prop}(hit:IsSD s.heap it tp a i n ep)(h:Q (.ref it) s):wpAny (model prog w) A (pyIter (.ref it)) Q E s:=by
 refine wpAny_pyIter_slot hit.typeIs yx (wpAny_call_entry yx hit.typeIs vX ?_ (uY _))
 show wpAny _ _ (ret (.ref it)) _ _ s
 exact wpAny_pure ⟨_,rfl,"set_iterator",_,hit.typeIs,slot_si_next.lookup,h⟩
theorem zja{ord:List Nat}{x:Int × Value}{Q:Option Value->Shared->Prop}(hit:IsSD s.heap it tp a i es.size ep)(hO:OrdAt s.heap tp ord)(hA:SetAt s.heap a es ep t)(hf:t.fits es.size=true)(hj:ord[i]?=some j)(hx:es[j]?=some x)
  (hQ:∀ h',IsSD h' it tp a (i+1) es.size ep->Heap.SameBut it s.heap h'->Q (some x.2) { s with heap:=h' }):wpAny (model prog w) A (pyNext (.ref it)) Q E s:=by
 obtain ⟨o,ho,hc,hd⟩:=id hit
 obtain ⟨ot,kt,hot,hdt⟩:=hO
 obtain ⟨oa,hoa,hexa,hda⟩:=id hA
 unfold pyNext
 refine wpAny_bind (wpAny_attempt (wpAny_callSpecial?_slot (name:=Str.ofString "__next__") hit.typeIs slot_si_next
  (wpAny_call_entry slot_si_next hit.typeIs zy ?_ (yC _))))
 unfold Builtin.«set_iterator.__next__»
 refine wpAny_bind (wpAny_pure ?_)
 refine wpAny_bind (wpAny_fieldsOf ho hd ?_)
 dsimp only
 unfold setEntries
 refine wpAny_bind (wpAny_bind (wpAny_setState_of hoa hda hf (wpAny_pure ?_)))
 refine wpAny_ite_split (fun hcc=>?_) (fun _=>?_)
 ·simp at hcc
 ·simp only [Int.toNat_natCast]
  refine wpAny_bind ?_
  unfold seqItems?
  refine wpAny_bind (wpAny_load hot ?_)
  rw [hdt]
  refine wpAny_pure ?_
  dsimp only
  have e1:(ord.map fun (i:Nat)=>rawInt i).toArray[i]?=some (.int (j:Int) 0):=by
   rw [List.getElem?_toArray,JX,hj];rfl
  rw [e1]
  dsimp only
  refine wpAny_bind ?_
  unfold setNextDrawn
  refine wpAny_bind (wpAny_setState_of hoa hda hf ?_)
  dsimp only
  rw [if_neg (by simp),Int.toNat_natCast,hx]
  refine wpAny_pure ?_
  refine wpAny_bind (wpAny_setField ho hd (by simp) ?_)
  have ho1:=JT (Obj.mapFields (·.setIfInBounds 1 (rawInt ((i:Int)+1)))) ho (KN (Kt hd _))
  refine wpAny_pure ⟨_,rfl,wpAny_pure (hQ _ ⟨_,ho1,(Obj.cls_mapFields ..).trans hc,by rw [Obj.data_mapFields hd];simp [rawInt]⟩ (Heap.SameBut.update ..))⟩
theorem zlG{ord:List Nat}{Q:Option Value->Shared->Prop}(hh:A.handled=none)(hit:IsSD s.heap it tp a i es.size ep)(hO:OrdAt s.heap tp ord)(hA:SetAt s.heap a es ep t)(hf:t.fits es.size=true)(hi:ord.length≤i)
  (hQ:∀ h',Heap.ExtBut it s.heap h'->Q none { s with heap:=h' }):wpAny (model prog w) A (pyNext (.ref it)) Q E s:=by
 obtain ⟨o,ho,hc,hd⟩:=id hit
 obtain ⟨ot,kt,hot,hdt⟩:=hO
 obtain ⟨oa,hoa,hexa,hda⟩:=id hA
 unfold pyNext
 refine wpAny_bind (wpAny_attempt (wpAny_callSpecial?_slot (name:=Str.ofString "__next__") hit.typeIs slot_si_next
  (wpAny_call_entry slot_si_next hit.typeIs zy ?_ (yC _))))
 unfold Builtin.«set_iterator.__next__»
 refine wpAny_bind (wpAny_pure ?_)
 refine wpAny_bind (wpAny_fieldsOf ho hd ?_)
 dsimp only
 unfold setEntries
 refine wpAny_bind (wpAny_bind (wpAny_setState_of hoa hda hf (wpAny_pure ?_)))
 refine wpAny_ite_split (fun hcc=>?_) (fun _=>?_)
 ·simp at hcc
 ·simp only [Int.toNat_natCast]
  refine wpAny_bind ?_
  unfold seqItems?
  refine wpAny_bind (wpAny_load hot ?_)
  rw [hdt]
  refine wpAny_pure ?_
  dsimp only
  have e1:(ord.map fun (i:Nat)=>rawInt i).toArray[i]?=none:=by
   rw [List.getElem?_toArray,JX,Qh hi];rfl
  rw [e1]
  dsimp only
  refine wpAny_bind (wpAny_setField ho hd (by simp) ?_)
  have ho1:=JT (Obj.mapFields (·.setIfInBounds 0 (rawInt 0))) ho (KN (Kt hd _))
  have hd1:=Kt hd (·.setIfInBounds 0 (rawInt 0))
  refine wpAny_bind (wpAny_setField (s:={ s with heap:=s.heap.update it (Obj.mapFields (·.setIfInBounds 0 (rawInt 0))) }) ho1 hd1 (by simp) ?_)
  show wpAny _ _ (newExc (.type "StopIteration") [] >>= _) _ _ _
  refine wpAny_bind ?_
  simp only [newExc,newTuple]
  refine wpAny_bind (wpAny_newObj_type ?_ (by size_fits))
  refine wpAny_bind (m:=firstArgMember _ _) (wpAny_of_eq (a:=Value.none) (by first | rfl | (simp only [firstArgMember];rfl)) ?_)
  refine wpAny_newObj_type ?_ (by size_fits)
  simp only [raiseNew]
  refine wpAny_bind (wpAny_handled ?_)
  rw [show A.in1.handled=none from hh]
  refine wpAny_bind (wpAny_pure (wpAny_throw ?_))
  refine wpAny_bind (wpAny_isInstance (T:="StopIteration") (b:=true) ⟨_,Jq _ rfl,rfl⟩ isSubtype_stop ?_)
  exact wpAny_pure (hQ _ ((((Kz ..).trans (Kz ..)).extBut.push _).push _))
theorem ziY{Q:Value->Shared->Prop}(hb:¬ w.params.followText "set-order"=true)(hdr:(!t.plain && decide (es.size > 1))=true)(hA:SetAt s.heap a es ep t)(hf:t.fits es.size=true)(hz:es.size≤1000)
  (hQ:∀ (ord:List Nat) d,ord.Perm (List.range es.size)->Q (.ref (s.heap.objs.size+1)) { s with heap:=(s.heap.push { cls:=.type "tuple",data:=.seq (ord.map fun (i:Nat)=>rawInt i).toArray }).push { cls:=.type "set_iterator",data:=.fields #[.ref s.heap.objs.size,.int 0 0,.ref a,.int es.size 0,.int ep 0] },drawn:=d }):
  wpAny (model prog w) A (pyIter (.ref a)) Q E s:=by
 obtain ⟨o,ho,hex,hd⟩:=id hA
 have hT:s.TypeIs (.ref a) "set":=⟨o,ho,hex.1⟩
 refine wpAny_pyIter_slot hT zx (wpAny_call_entry zx hT xK ?_ (xh _))
 unfold Builtin.«frozenset.__iter__» Builtin.Frozenset.slot0 slotArgs
 simp only [List.isEmpty_nil,Bool.not_true,Bool.false_eq_true,↓reduceIte,bind_assoc,List.length_nil,bne_self_eq_false]
 unfold Builtin.Frozenset.addrOf Builtin.Frozenset.sizeOf setEntries setDrawn setsByText
 refine wpAny_bind (wpAny_pure ?_)
 refine wpAny_bind (wpAny_pure ?_)
 refine wpAny_bind (wpAny_bind (wpAny_bind (wpAny_setState_of ho hd hf (wpAny_pure (wpAny_pure ?_)))))
 refine wpAny_bind (wpAny_bind (wpAny_setState_of ho hd hf ?_))
 dsimp only
 refine wpAny_bind (wpAny_bind (wpAny_askSetting (wpAny_pure (wpAny_pure ?_))))
 refine wpAny_ite_split (fun _=>?_) (fun hc=>?_)
 ·refine wpAny_bind (w4 es.size (List.range es.size) KZ fun ord d hp=>?_)
  refine wpAny_bind (wpAny_newTuple ?_ (by rw [Je,hp.length_eq,KZ,sizeLine_eq];omega))
  refine wpAny_bind (wpAny_setEpoch_of (Jc _ ho) hd hf ?_)
  refine wpAny_bind (wpAny_newObj_type (wpAny_pure ⟨_,rfl,"set_iterator",_,⟨_,Jq _ rfl,rfl⟩,slot_si_next.lookup,?_⟩))
  have:=hQ ord d hp
  simpa [Heap.size_push,rawInt] using this
 ·refine absurd (QG.mpr ⟨?_,hdr⟩) hc
  show (!w.params.followText "set-order")=true
  rw [Bool.eq_false_iff.mpr hb];rfl
theorem zfp{ord:List Nat}(hh:A.handled=none)(hf:t.fits es.size=true)(hl:ord.length=es.size)(ho:∀ j ∈ ord,j<es.size)(I tp:Addr)(h1:a≠I)(h2:tp≠I):
  PySem.Walks prog w A I [I,tp,a] [I] es.size (fun i v=>∃ j x,ord[i]?=some j/\es[j]?=some x/\v=x.2) (fun i h=>IsSD h I tp a i es.size ep/\OrdAt h tp ord/\SetAt h a es ep t) where
 sub:=fun b hb=>by simp at hb;simp [hb]
 frame:=fun _ _ _ st hk=>⟨st.1.at fun o e=>hk I (by simp) o e,st.2.1.at fun o e=>hk tp (by simp) o e,st.2.2.at fun o e=>hk a (by simp) o e⟩
 item:=fun i s Q E hi st hQ=>by
  have hi':i<ord.length:=by omega
  have hj:=Jr hi'
  have hx:=getElem?_pos es ord[i] (ho _ (Kn hi'))
  refine zja st.1 st.2.1 st.2.2 hf hj hx fun h' hit' hs'=>?_
  exact hQ _ h' s.toks ⟨_,_,hj,hx,rfl⟩ ⟨hit',st.2.1.at fun o e=>by rw [hs'.2 tp h2];exact e,st.2.2.at fun o e=>by rw [hs'.2 a h1];exact e⟩ fun b o hb e=>hs'.extBut b o (fun h=>hb (by simp [h])) e
 done:=fun s Q E st hQ=>zlG hh st.1 st.2.1 st.2.2 hf (by omega) fun h' he'=>hQ h' s.toks fun b o hb e=>he' b o (fun h=>hb (by simp [h])) e
 self:=fun _ _ _ _ st hQ=>ziq st.1 hQ
theorem zeT{R:Result->Shared->Prop}(hh:A.handled=none)(hb:¬ w.params.followText "set-order"=true)(hdr:(!t.plain && decide (es.size > 1))=true)(hA:SetAt s.heap a es ep t)(hf:t.fits es.size=true)(hz:es.size≤1000)(S:Addr)(hSa:S≠a)(res:Value)(c₀:Nat)(hS:s.heap.get? S=some { cls:=.type "list",data:=.seq #[] c₀ })
  (hR:∀ h' tk d acc' c' (ord:List Nat),ord.Perm (List.range es.size)->(∀ b o,b≠S->s.heap.get? b=some o->h'.get? b=some o)->h'.get? S=some { cls:=.type "list",dict:=none,data:=.seq acc' c',slots:=#[] }->ItemsOf (fun i v=>∃ j x,ord[i]?=some j/\es[j]?=some x/\v=x.2) acc' es.size->R (.ok (.ret res)) { s with heap:=h',toks:=tk,drawn:=d }):
  wpAny (model prog w) A.in1 (Builtin.List.listExtendWith (.ref S) (.ref a) res)
   (fun fin s'=>match fin with | .done f=>R (.ok f) s' | .again c'=>c'.quiet=true/\codeAny (model prog w) A c' R s') (fun e s'=>R (.error e) s') s:=by
 obtain ⟨oa,hoa,hexa,hda⟩:=id hA
 have hT:s.TypeIs (.ref a) "set":=⟨oa,hoa,hexa.1⟩
 have hSl:=Jn hS
 have hal:=Jn hoa
 unfold Builtin.List.listExtendWith
 refine wpAny_bind (wpAny_typeOf (T:="set") hT ?_)
 have h1:Builtin.List.listSameRef (.ref S) (.ref a)=false:=by simp [Builtin.List.listSameRef,hSa]
 have n1:(Value.type "set" == Value.type "list")=false:=by decide
 have n2:(Value.type "set" == Value.type "tuple")=false:=by decide
 simp only [h1,n1,n2,Bool.or_false,Bool.false_eq_true,if_false]
 refine wpAny_bind (ziY hb hdr hA hf hz fun ord d hp=>?_)
 have hol:ord.length=es.size:=by rw [hp.length_eq,KZ]
 have hoj:∀ j ∈ ord,j<es.size:=fun j hj=>JA.mp (hp.mem_iff.mp hj)
 generalize hh1:(s.heap.push { cls:=.type "tuple",data:=.seq (ord.map fun (i:Nat)=>rawInt i).toArray })=h1'
 have hsz1:h1'.objs.size=s.heap.objs.size+1:=by rw [← hh1];exact KM ..
 have keep1:∀ b o,s.heap.get? b=some o->(h1'.push { cls:=.type "set_iterator",data:=.fields #[.ref s.heap.objs.size,.int 0 0,.ref a,.int es.size 0,.int ep 0] }).get? b=some o:=fun b o e=>Jc _ (by rw [← hh1];exact Jc _ e)
 have st:IsSD (h1'.push { cls:=.type "set_iterator",data:=.fields #[.ref s.heap.objs.size,.int 0 0,.ref a,.int es.size 0,.int ep 0] }) (s.heap.objs.size+1) s.heap.objs.size a 0 es.size ep/\OrdAt (h1'.push { cls:=.type "set_iterator",data:=.fields #[.ref s.heap.objs.size,.int 0 0,.ref a,.int es.size 0,.int ep 0] }) s.heap.objs.size ord/\SetAt (h1'.push { cls:=.type "set_iterator",data:=.fields #[.ref s.heap.objs.size,.int 0 0,.ref a,.int es.size 0,.int ep 0] }) a es ep t:=by
  refine ⟨⟨_,by rw [← hsz1];exact Jq _ rfl,rfl,rfl⟩,⟨_,_,Jc _ (by rw [← hh1];exact Jq _ rfl),rfl⟩,hA.at fun o e=>keep1 a o e⟩
 have W:=zfp (prog:=prog) (w:=w) (A:=A.in1) (a:=a) (es:=es) (ep:=ep) (t:=t) hh hf hol hoj (s.heap.objs.size+1) s.heap.objs.size (Ju (JY hal)) (Ju (KJ _))
 have hSf:S ∉ [s.heap.objs.size+1,s.heap.objs.size,a]:=by
  simp only [List.mem_cons,List.not_mem_nil,or_false,not_or]
  exact ⟨Ju (JY hSl),Ju hSl,hSa⟩
 have key:∀ (h:Heap) (c₁ tk:Nat),IsSD h (s.heap.objs.size+1) s.heap.objs.size a 0 es.size ep/\OrdAt h s.heap.objs.size ord/\SetAt h a es ep t->(∀ b o,b≠S->s.heap.get? b=some o->h.get? b=some o)->
   h.get? S=some { cls:=.type "list",data:=.seq #[] c₁ }->codeAny (model prog w) A (.builtin "list.extend.loop" ⟨[.ref S,.ref (s.heap.objs.size+1),res],[]⟩) R { s with heap:=h,toks:=tk,drawn:=d }:=by
  intro h c₁ tk hst hk hS₁
  refine codeAny_extend_loopS W.toS (by rw [sizeLine_eq];omega) S hSf res es.size 0 _ #[] c₁ rfl (Kb _) hst hS₁ (ItemsOf.nil _) fun s' acc' c' hm hS' hacc=>?_
  rw [Moved.eq_with hm]
  refine hR s'.heap s'.toks d acc' c' ord hp (fun b o hb e=>hm.heap b o (fun hmem=>?_) (hk b o hb e)) hS' hacc
  rcases List.mem_cons.mp hmem with e' | hmem
  ·exact hb e'
  ·have:=Jn e
   rw [Ji.mp hmem] at this
   exact absurd this (by simp)
 have hS₁:=keep1 S _ hS
 refine wpAny_bind (wpAny_holding (kG (st.2.2.elim fun o z=>⟨o,z.1,z.2.1.1⟩) ?_))
 refine wpAny_ite_split (fun _=>?_) (fun _=>wpAny_pure ⟨plainId_quiet PySem.F.plain_extend_loop _,key _ c₀ _ st (fun b o _ e=>keep1 b o e) hS₁⟩)
 refine wpAny_bind (wpAny_rule ?_)
 refine wpAny_bind ?_
 show wpAny _ _ (updateSeq S (·.push .none) >>= fun _=>updateSeq S (·.pop)) _ _ _
 refine wpAny_bind (wpAny_updateSeq hS₁ rfl ?_)
 have hS₂:=JT (Obj.mapSeq (·.push Value.none)) hS₁ rfl
 refine wpAny_updateSeq (hz:=by seq_fits) hS₂ rfl ?_
 have hS₃:=JT (Obj.mapSeq (·.pop)) hS₂ rfl
 refine wpAny_pure ⟨plainId_quiet PySem.F.plain_extend_loop _,key _ _ _ ?_ (fun b o hb e=>?_) hS₃⟩
 ·refine W.frame 0 _ _ st fun b hb o e=>?_
  have hbS:b≠S:=fun h=>hSf (h ▸ hb)
  exact (KG _ _ (Qt hbS)).trans ((KG _ _ (Qt hbS)).trans e)
 ·exact (KG _ _ (Qt hb)).trans ((KG _ _ (Qt hb)).trans (keep1 b o e))
theorem zdB{Q:Option (Value × Nat)->Shared->Prop}(hw:w.params.followText "set-order"=true)(hA:SetAt s.heap a es ep t)(hf:t.fits es.size=true)(hi:i≤es.size)
  (h:Q ((z9 w a es ep)[i]?.map fun e=>(e.2,zP w t (i+1))) s):wpAny (model prog w) A (setNext a (zP w t i) i ep) Q E s:=by
 obtain ⟨o,ho,hex,hd⟩:=hA
 unfold setNext
 refine wpAny_bind (wpAny_setState_of ho hd hf ?_)
 dsimp only
 unfold setsByText
 refine wpAny_bind (wpAny_bind (wpAny_askSetting (wpAny_pure ?_)))
 show wpAny _ _ (if w.params.followText "set-order"=true then _ else _) _ _ _
 rw [if_pos hw]
 rw [if_neg (by simp)]
 unfold setWalk
 refine wpAny_bind (wpAny_bind (wpAny_setState_of ho hd hf ?_))
 dsimp only
 unfold setsByText
 refine wpAny_bind (wpAny_bind (wpAny_askSetting (wpAny_pure ?_)))
 show wpAny _ _ (if w.params.followText "set-order"=true then _ else _) _ _ _
 rw [if_pos hw]
 refine wpAny_bind (wpAny_askSetting (wpAny_pure (wpAny_pure ?_)))
 have e1:z9 w a es ep=pickOrder (w.params.setOrder a ep) es:=if_pos hw
 have e2:zP w t i=zP w t (i+1):=by
  have e3:∀ j,zP w t (j+1)=0:=fun j=>if_pos hw
  cases i with
  | zero=>rw [e3];rfl
  | succ i=>rw [e3,e3]
 rw [e1,← e2] at h
 exact h
theorem ziX{Q:Value->Shared->Prop}(hw:w.params.followText "set-order"=true)(hA:SetAt s.heap a es ep t)(hf:t.fits es.size=true)
  (hQ:Q (.ref s.heap.objs.size) { s with heap:=s.heap.push { cls:=.type "set_iterator",data:=.fields #[.int 0 0,.int 0 0,.ref a,.int es.size 0,.int ep 0] } }):
  wpAny (model prog w) A (pyIter (.ref a)) Q E s:=by
 obtain ⟨o,ho,hex,hd⟩:=id hA
 have hT:s.TypeIs (.ref a) "set":=⟨o,ho,hex.1⟩
 refine wpAny_pyIter_slot hT zx (wpAny_call_entry zx hT xK ?_ (xh _))
 unfold Builtin.«frozenset.__iter__» Builtin.Frozenset.slot0 slotArgs
 simp only [List.isEmpty_nil,Bool.not_true,Bool.false_eq_true,↓reduceIte,bind_assoc,List.length_nil,bne_self_eq_false]
 unfold Builtin.Frozenset.addrOf Builtin.Frozenset.sizeOf setEntries setDrawn setsByText
 refine wpAny_bind (wpAny_pure ?_)
 refine wpAny_bind (wpAny_pure ?_)
 refine wpAny_bind (wpAny_bind (wpAny_bind (wpAny_setState_of ho hd hf (wpAny_pure (wpAny_pure ?_)))))
 refine wpAny_bind (wpAny_bind (wpAny_setState_of ho hd hf ?_))
 dsimp only
 refine wpAny_bind (wpAny_bind (wpAny_askSetting (wpAny_pure (wpAny_pure ?_))))
 refine wpAny_ite_split (fun hc=>?_) (fun _=>?_)
 ·have h2:=(QG.mp hc).1
  have h3:(!w.params.followText "set-order")=true:=h2
  rw [hw] at h3
  cases h3
 ·refine wpAny_bind (wpAny_pure ?_)
  refine wpAny_bind (wpAny_setEpoch_of ho hd hf ?_)
  refine wpAny_bind (wpAny_newObj_type (wpAny_pure ⟨_,rfl,"set_iterator",_,⟨_,Jq _ rfl,rfl⟩,slot_si_next.lookup,?_⟩))
  exact hQ
theorem ziZ{Q:Option Value->Shared->Prop}(hw:w.params.followText "set-order"=true)(hit:IsSI s.heap it a (zP w t i) i es.size ep)(hA:SetAt s.heap a es ep t)(hf:t.fits es.size=true){x:Int × Value}(hx:(z9 w a es ep)[i]?=some x)
  (hQ:∀ h',IsSI h' it a (zP w t (i+1)) (i+1) es.size ep->Heap.SameBut it s.heap h'->Q (some x.2) { s with heap:=h' }):wpAny (model prog w) A (pyNext (.ref it)) Q E s:=by
 obtain ⟨o,ho,hc,hd⟩:=id hit
 obtain ⟨oa,hoa,hexa,hda⟩:=id hA
 have hlt:i<es.size:=by
  rw [← yg (w:=w) (a:=a) (ep:=ep)]
  exact (Jw.mp hx).1
 unfold pyNext
 refine wpAny_bind (wpAny_attempt (wpAny_callSpecial?_slot (name:=Str.ofString "__next__") hit.typeIs slot_si_next
  (wpAny_call_entry slot_si_next hit.typeIs zy ?_ (yC _))))
 unfold Builtin.«set_iterator.__next__»
 refine wpAny_bind (wpAny_pure ?_)
 refine wpAny_bind (wpAny_fieldsOf ho hd ?_)
 dsimp only
 unfold setEntries
 refine wpAny_bind (wpAny_bind (wpAny_setState_of hoa hda hf (wpAny_pure ?_)))
 refine wpAny_ite_split (fun hcc=>?_) (fun _=>?_)
 ·simp at hcc
 ·simp only [Int.toNat_natCast]
  refine wpAny_bind (zdB hw hA hf (Nat.le_of_lt hlt) ?_)
  rw [hx]
  show wpAny _ _ (setField (.ref it) 0 (rawInt (zP w t (i+1):Nat)) >>= _) _ _ _
  refine wpAny_bind (wpAny_setField ho hd (by simp) ?_)
  have ho1:=JT (Obj.mapFields (·.setIfInBounds 0 (rawInt (zP w t (i+1):Nat)))) ho (KN (Kt hd _))
  have hd1:=Kt hd (·.setIfInBounds 0 (rawInt (zP w t (i+1):Nat)))
  refine wpAny_bind (wpAny_setField (s:={ s with heap:=s.heap.update it (Obj.mapFields (·.setIfInBounds 0 (rawInt (zP w t (i+1):Nat)))) }) ho1 hd1 (by simp) ?_)
  have ho2:=JT (Obj.mapFields (·.setIfInBounds 1 (rawInt ((i:Int)+1)))) ho1 (KN (Kt hd1 _))
  refine wpAny_pure ⟨_,rfl,wpAny_pure (hQ _ ⟨_,ho2,(Obj.cls_mapFields ..).trans ((Obj.cls_mapFields ..).trans hc),by rw [Obj.data_mapFields hd1];simp [rawInt]⟩ ((Heap.SameBut.update ..).trans (Heap.SameBut.update ..)))⟩
theorem zlF{Q:Option Value->Shared->Prop}(hh:A.handled=none)(hw:w.params.followText "set-order"=true)(hit:IsSI s.heap it a (zP w t i) i es.size ep)(hA:SetAt s.heap a es ep t)(hf:t.fits es.size=true)(hi:i=es.size)
  (hQ:∀ h',Heap.ExtBut it s.heap h'->Q none { s with heap:=h' }):wpAny (model prog w) A (pyNext (.ref it)) Q E s:=by
 obtain ⟨o,ho,hc,hd⟩:=id hit
 obtain ⟨oa,hoa,hexa,hda⟩:=id hA
 unfold pyNext
 refine wpAny_bind (wpAny_attempt (wpAny_callSpecial?_slot (name:=Str.ofString "__next__") hit.typeIs slot_si_next
  (wpAny_call_entry slot_si_next hit.typeIs zy ?_ (yC _))))
 unfold Builtin.«set_iterator.__next__»
 refine wpAny_bind (wpAny_pure ?_)
 refine wpAny_bind (wpAny_fieldsOf ho hd ?_)
 dsimp only
 unfold setEntries
 refine wpAny_bind (wpAny_bind (wpAny_setState_of hoa hda hf (wpAny_pure ?_)))
 refine wpAny_ite_split (fun hcc=>?_) (fun _=>?_)
 ·simp at hcc
 ·simp only [Int.toNat_natCast]
  refine wpAny_bind (zdB hw hA hf (Nat.le_of_eq hi) ?_)
  rw [getElem?_neg _ i (by rw [yg];omega)]
  show wpAny _ _ (setField (.ref it) 2 .none >>= _) _ _ _
  refine wpAny_bind (wpAny_setField ho hd (by simp) ?_)
  show wpAny _ _ (newExc (.type "StopIteration") [] >>= _) _ _ _
  refine wpAny_bind ?_
  simp only [newExc,newTuple]
  refine wpAny_bind (wpAny_newObj_type ?_ (by size_fits))
  refine wpAny_bind (m:=firstArgMember _ _) (wpAny_of_eq (a:=Value.none) (by first | rfl | (simp only [firstArgMember];rfl)) ?_)
  refine wpAny_newObj_type ?_ (by size_fits)
  simp only [raiseNew]
  refine wpAny_bind (wpAny_handled ?_)
  rw [show A.in1.handled=none from hh]
  refine wpAny_bind (wpAny_pure (wpAny_throw ?_))
  refine wpAny_bind (wpAny_isInstance (T:="StopIteration") (b:=true) ⟨_,Jq _ rfl,rfl⟩ isSubtype_stop ?_)
  exact wpAny_pure (hQ _ (((Kz ..).extBut.push _).push _))
theorem zfo(hh:A.handled=none)(hw:w.params.followText "set-order"=true)(hf:t.fits es.size=true)(I:Addr)(hne:a≠I):
  PySem.Walks prog w A I [I,a] [I] es.size (fun i v=>∃ x,(z9 w a es ep)[i]?=some x/\v=x.2) (fun i h=>IsSI h I a (zP w t i) i es.size ep/\SetAt h a es ep t) where
 sub:=fun b hb=>by simp at hb;simp [hb]
 frame:=fun _ _ _ st hk=>⟨st.1.at fun o e=>hk I (by simp) o e,st.2.at fun o e=>hk a (by simp) o e⟩
 item:=fun i s Q E hi st hQ=>by
  have hi':i<(z9 w a es ep).size:=by rw [yg];exact hi
  refine ziZ hw st.1 st.2 hf (getElem?_pos _ i hi') fun h' hit' hs'=>?_
  exact hQ _ h' s.toks ⟨_,getElem?_pos _ i hi',rfl⟩ ⟨hit',st.2.at fun o e=>by rw [hs'.2 a hne];exact e⟩ fun b o hb e=>hs'.extBut b o (fun h=>hb (by simp [h])) e
 done:=fun s Q E st hQ=>zlF hh hw st.1 st.2 hf rfl fun h' he'=>hQ h' s.toks fun b o hb e=>he' b o (fun h=>hb (by simp [h])) e
 self:=fun _ _ _ _ st hQ=>zaR st.1 hQ
theorem zkB(hw:w.params.followText "set-order"=true)(hf:t.fits es.size=true):KdlSrc prog w "set" a a es.size (fun i v=>∃ x,(z9 w a es ep)[i]?=some x/\v=x.2) (fun h=>SetAt h a es ep t) where
 type:=fun _ ⟨o,ho,hex,_⟩=>⟨o,ho,hex.1⟩
 there:=fun _ ⟨o,ho,_⟩=>⟨Jn ho,Jn ho⟩
 keep:=fun _ _ hm hk=>hm.at fun o e=>hk a (.inl rfl) o e
 notList:=by decide
 notTuple:=by decide
 hint:=fun _ _ _ _ ⟨o,ho,hex,_⟩ hq=>kG ⟨o,ho,hex.1⟩ hq
 iter:=fun _ s hh hm=>⟨_,_,(fun _ _ hq=>ziX hw hm hf hq),zfo hh hw hf _ (Ju (let ⟨o,ho,_⟩:=hm;Jn ho)),⟨⟨_,Jq _ rfl,rfl,rfl⟩,hm.at fun o e=>Jc _ e⟩⟩
end
end F
namespace F
open PySem PySem.Spec PySem.W PyProof.Rows
noncomputable def dS:Str:=⟨#[]⟩
noncomputable def qlt(a b:Int × Str):Prop:=a.1<b.1∨a.1=b.1/\a.2.cps.toList<b.2.cps.toList
instance (a b:Int × Str):Decidable (qlt a b):=by unfold qlt;infer_instance
structure PairsQ (h:Heap) (a:Addr) (vs:List Value) (ks:List (Int × Str)):Prop where
 len:vs.length=ks.length
 at':∀ i,i<vs.length->∃ l o items m t u,vs.getD i Value.none=.ref l/\l≠a/\h.get? l=some o/\o.cls=.type "tuple"/\o.data=.seq items m/\items.toList=[.int (ks.getD i (0,dS)).1 t,.str (ks.getD i (0,dS)).2 u]
 nd:ks.Nodup
theorem PairsQ.other{h h':Heap}(x:PairsQ h a vs ks)(k:∀ l o,l≠a->h.get? l=some o->h'.get? l=some o):PairsQ h' a vs ks:=
 ⟨x.len,fun i hi=>let ⟨l,o,its,m,t,u,e1,e2,e3,e4⟩:=x.at' i hi;⟨l,o,its,m,t,u,e1,e2,k l _ e2 e3,e4⟩,x.nd⟩
end F
namespace F
open PySem PySem.Spec PyProof.Rows L2
end F
namespace F
open PySem PySem.Spec PyProof.Rows PySem.W
section
variable {prog:Program} {w:World} {A:Around} {E:Value->Shared->Prop} {s:Shared} {a:Addr} {es:Array (Int × Value)} {ep:Nat} {t:SetTable}
theorem zcU{R:List Value->Shared->Prop}(hh:A.handled=none)(hb:¬ w.params.followText "set-order"=true)(hdr:(!t.plain && decide (es.size > 1))=true)(hA:SetAt s.heap a es ep t)(hf:t.fits es.size=true)(hz:es.size≤1000)
  (h:∀ (h':Heap) (tk:Nat) d (acc:Array Value) (ord:List Nat),ord.Perm (List.range es.size)->(∀ b o,s.heap.get? b=some o->h'.get? b=some o)->ItemsOf (fun i v=>∃ j x,ord[i]?=some j/\es[j]?=some x/\v=x.2) acc es.size->R acc.toList { s with heap:=h',toks:=tk,drawn:=d }):
  wpAny (model prog w) A (collect (.ref a)) R E s:=by
 obtain ⟨oa,hoa,_⟩:=id hA
 have hlt:=Jn hoa
 unfold collect
 refine wpAny_bind (wpAny_runValue (codeAny_builtin entry_proto_collect' ?_))
 rw [Kl PySem.F.plain_proto_collect _]
 show wpAny _ A.in1 (newList [] >>= fun l=>again (.builtin "list.__iadd__" ⟨[l,.ref a],[]⟩)) _ _ s
 refine wpAny_bind (wpAny_newObj_type ?_)
 refine wpAny_pure ⟨plainId_quiet PySem.F.plain_list_iadd _,codeAny_builtin entry_list_iadd' ?_⟩
 rw [Kl PySem.F.plain_list_iadd _]
 have hS₁:(s.heap.push { cls:=.type "list",data:=.seq ([]:List Value).toArray }).get? s.heap.objs.size=some { cls:=.type "list",data:=.seq #[] }:=Jq _ rfl
 show wpAny _ A.in1 (Builtin.List.listExtendWith (.ref s.heap.objs.size) (.ref a) (.ref s.heap.objs.size)) _ _ _
 have key:=zeT (prog:=prog) (A:=A) (s:={ s with heap:=s.heap.push { cls:=.type "list",data:=.seq ([]:List Value).toArray } })
  (R:=fun (q:Result) (s':Shared)=>∃ (h':Heap) (tk:Nat) (d:Drawn) (acc':Array Value) (c':Nat) (ord:List Nat),q=.ok (.ret (.ref s.heap.objs.size))/\s'={ s with heap:=h',toks:=tk,drawn:=d }/\ord.Perm (List.range es.size)/\
   (∀ b o,s.heap.get? b=some o->h'.get? b=some o)/\h'.get? s.heap.objs.size=some { cls:=.type "list",dict:=none,data:=.seq acc' c',slots:=#[] }/\ItemsOf (fun i v=>∃ j x,ord[i]?=some j/\es[j]?=some x/\v=x.2) acc' es.size)
  hh hb hdr (hA.at fun o e=>Jc _ e) hf hz s.heap.objs.size (Qd hlt) (.ref s.heap.objs.size) 0 hS₁
  (fun h' tk d acc' c' ord hp hk hS' hacc=>⟨h',tk,d,acc',c',ord,rfl,rfl,hp,fun b o e=>hk b o (Ju (Jn e)) (Jc _ e),hS',hacc⟩)
 refine wpAny_mono key (fun fin s' x=>?_) fun e s' x=>?_
 ·cases fin with
  | done f=>
   obtain ⟨h',tk,d,acc',c',ord,e,rfl,hp,hk,hS',hacc⟩:=x
   cases e
   show wpAny _ A (load s.heap.objs.size >>= _) _ _ _
   refine wpAny_bind (wpAny_load hS' ?_)
   exact wpAny_pure (h h' tk d acc' ord hp hk hacc)
  | again c₁=>
   refine ⟨x.1,codeAny_mono x.2 fun q s₂ y=>?_⟩
   obtain ⟨h',tk,d,acc',c',ord,rfl,rfl,hp,hk,hS',hacc⟩:=y
   show wpAny _ A (load s.heap.objs.size >>= _) _ _ _
   refine wpAny_bind (wpAny_load hS' ?_)
   exact wpAny_pure (h h' tk d acc' ord hp hk hacc)
 ·obtain ⟨_,_,_,_,_,_,e',_⟩:=x
  cases e'
theorem zcH{acc:Array Value}{ord:List Nat}(hp:ord.Perm (List.range es.size))(hi:ItemsOf (fun i v=>∃ j x,ord[i]?=some j/\es[j]?=some x/\v=x.2) acc es.size):acc.toList.Perm (es.toList.map (·.2)):=by
 have e:acc.toList=ord.map fun j=>(es.toList.map (·.2)).getD j Value.none:=by
  apply KY
  intro i
  rw [JX,Jp]
  by_cases hj:i<es.size
  ·have hj':i<acc.size:=by rw [hi.1];exact hj
   obtain ⟨j,x,h1,h2,h3⟩:=hi.2 i acc[i] (getElem?_pos acc i hj')
   rw [getElem?_pos acc i hj',h1,h3,Option.map_some,JH,JX,Jp,h2];rfl
  ·rw [getElem?_neg acc i (by rw [hi.1];exact hj),Qh (by rw [hp.length_eq,KZ];omega)];rfl
 rw [e]
 have:=hp.map fun j=>(es.toList.map (·.2)).getD j Value.none
 have e2:=zaX Value.none (es.toList.map (·.2))
 rw [Je,Jd] at e2
 rwa [e2] at this
theorem zfh{R:List Value->Shared->Prop}(hh:A.handled=none)(hl:led=!w.params.followText "set-order")(hA:SetAt s.heap a es ep t)(g:Tab.GoodN t es.size led)(h2:2≤es.size)(hz:es.size≤1000)
  (h:∀ (h':Heap) (tk:Nat) d (acc:Array Value),(∀ b o,s.heap.get? b=some o->h'.get? b=some o)->acc.toList.Perm (es.toList.map (·.2))->R acc.toList { s with heap:=h',toks:=tk,drawn:=d }):
  wpAny (model prog w) A (collect (.ref a)) R E s:=by
 have fin:∀ (h':Heap) (tk:Nat) (acc:Array Value),(∀ b o,s.heap.get? b=some o->h'.get? b=some o)->ItemsOf (fun i v=>∃ x,(z9 w a es ep)[i]?=some x/\v=x.2) acc es.size->R acc.toList { s with heap:=h',toks:=tk }:=fun h' tk acc hk hi=>by
  refine h h' tk s.drawn acc hk ?_
  have hacc:acc.toList=(z9 w a es ep).toList.map (·.2):=by
   apply KY
   intro j
   rw [JX,Jp,Jp]
   by_cases hj:j<es.size
   ·have hj':j<acc.size:=by rw [hi.1];exact hj
    obtain ⟨x,hx1,hx2⟩:=hi.2 j acc[j] (getElem?_pos acc j hj')
    rw [getElem?_pos acc j hj',hx1,hx2];rfl
   ·rw [getElem?_neg acc j (by rw [hi.1];exact hj),getElem?_neg _ j (by rw [yg];exact hj)];rfl
  rw [hacc]
  exact its_perm.map _
 by_cases hw:w.params.followText "set-order"=true
 ·exact PySem.W.kdu_collect (zkB (ep:=ep) hw g.fits) hh hA (by rw [sizeLine_eq];omega) fin
 ·cases hp:t.plain with
  | true=>
   have g':Tab.Good t es.size led:=by
    have e:({ t with plain:=true }:SetTable)=t:=by cases t;simp only at hp;subst hp;rfl
    have:=g
    unfold Tab.GoodN at this
    rwa [e] at this
   exact PySem.W.kdu_collect (zdp (ep:=ep) hl g') hh hA (by rw [sizeLine_eq];omega) fin
  | false=>
   exact zcU hh hw (by rw [hp];simp;omega) hA g.fits hz fun h' tk d acc ord hp hk hi=>h h' tk d acc hk (zcH hp hi)
end
end F
namespace F
end F
namespace L2
open PySem PySem.Spec PySem.W PyProof.Rows F
theorem Inv.drew{s:Shared}(I:Inv X pins σ H s):Inv X pins σ H { s with drawn:=d }:=⟨I.ok,I.os,I.bare,I.base,I.loc,I.cell,I.free,I.freeC,I.pin,I.hok,I.len⟩
end L2
namespace F
open PySem PySem.Spec PyProof.Rows L2
end F
namespace L2
open PySem PySem.Spec PySem.W PyProof.Rows F
end L2
namespace F
open PySem PySem.Spec PyProof.Rows L2
end F
namespace TS
open PySem PyProof.Rows
noncomputable def qx:Bool->Keyed->Array Keyed->Nat->Nat->Nat->StateT SortSt Sem (Option Nat):=sortPriv% PySem.Builtin.gallop
noncomputable def zgH:Array Keyed->Array Keyed->StateT SortSt Sem (Array Keyed):=sortPriv% PySem.Builtin.mergeLo
noncomputable def zgI:Array Keyed->Array Keyed->StateT SortSt Sem (Array Keyed):=sortPriv% PySem.Builtin.mergeHi
noncomputable def zio:Nat->StateT SortSt Sem Unit:=sortPriv% PySem.Builtin.setMinGallop
section
variable {prog:Program} {w:World} {A:Around} {E:Value->Shared->Prop} {s:Shared} {O:KeyOrd} {key:Keyed->O.α} {L:List Keyed} {κ:SortKind} {st:SortSt}
noncomputable def Asks(prog:Program)(w:World)(A:Around)(s:Shared)(κ:SortKind)(L:List Keyed)(key:Keyed->O.α):Prop:=
 ∀ x y (Q:Bool->Shared->Prop),x ∈ L->y ∈ L->Q (O.blt (key x) (key y)) s->wpAny (model prog w) A (keyLt' κ x.1 y.1) Q (fun _ _=>False) s
theorem ja{Q:Option Bool->SortSt->Prop}(hA:Asks prog w A s κ L key)(hk:kindOf st=κ)(hx:x ∈ L)(hy:y ∈ L)(h:Q (some (O.blt (key x) (key y))) st):wpS (model prog w) A E s (lt' x y) Q st:=by
 rw [lt'_eq]
 refine wpS_bind (wpS_get ?_)
 rw [hk]
 refine wpS_bind (wpS_lift (wpAny_attempt (wpAny_mono (hA x y (fun b s'=>s'=s/\b=O.blt (key x) (key y)) hx hy ⟨rfl,rfl⟩) (fun b s' hb=>?_) fun _ _ z=>z.elim)))
 obtain ⟨rfl,rfl⟩:=hb
 exact ⟨rfl,wpS_pure h⟩
theorem zL{xs:Array Keyed}{Q:Keyed->SortSt->Prop}(hx:xs[i]?=some x)(h:Q x st):wpS (model prog w) A E s (elem' xs i) Q st:=by
 rw [elem'_eq,hx];exact wpS_pure h
noncomputable def bey(l:Bool)(k x:O.α):Bool:=if l=true then O.blt x k else !O.blt k x
theorem zhN{xs:Array Keyed}{Q:Option Bool->SortSt->Prop}(hA:Asks prog w A s κ L key)(hk:kindOf st=κ)(hi:xs[i]?=some x)(hx:x ∈ L)(h0:k0 ∈ L)(h:Q (some (bey l (key k0) (key x))) st):
  wpS (model prog w) A E s (do let x ← elem' xs i;if l=true then lt' x k0 else do { let r ← lt' k0 x;pure (r.map fun x=>!x) }) Q st:=by
 refine wpS_bind (zL hi ?_)
 cases l with
 | true=>exact ja hA hk hx h0 h
 | false=>exact wpS_bind (ja hA hk h0 hx (wpS_pure h))
noncomputable def Step(p:Nat->Bool)(n:Nat):Prop:=∀ i j,i≤j->j<n->p j=true->p i=true
theorem Step.no{p:Nat->Bool}(h:Step p n)(hij:i≤j)(hj:j<n)(e:p i=false):p j=false:=by
 cases c:p j with
 | false=>rfl
 | true=>rw [h i j hij hj c] at e;cases e
noncomputable def Cut(p:Nat->Bool)(n k:Nat):Prop:=k≤n/\(∀ i,i<k->p i=true)/\∀ i,k≤i->i<n->p i=false
theorem zbM{n:Nat}{p:Nat->Bool}{f:Nat->StateT SortSt Sem (Option Bool)}(hf:∀ i (Q:Option Bool->SortSt->Prop),i<n->Q (some (p i)) st->wpS (model prog w) A E s (f i) Q st)(hp:Step p n){lo hi:Nat}(h1:lo≤hi)(h2:hi≤n)(a:∀ i,i<lo->p i=true)(b:∀ i,hi≤i->i<n->p i=false){Q:Option (Option Nat) × Nat × Nat->SortSt->Prop}(h:∀ k,Cut p n k->Q (none,k,k) st):
 wpS (model prog w) A E s (forIn [:n] ((none,lo,hi):Option (Option Nat) × Nat × Nat) fun _ c=>
  if c.2.1 ≥ c.2.2 then pure (.done (none,c.2.1,c.2.2)) else do
   let x ← f (c.2.1+(c.2.2 - c.2.1) / 2)
   match x with
   | some m=>if m=true then pure (.yield (none,c.2.1+(c.2.2 - c.2.1) / 2+1,c.2.2)) else pure (.yield (none,c.2.1,c.2.1+(c.2.2 - c.2.1) / 2))
   | _=>pure (.done (some none,c.2.1,c.2.2))) Q st:=by
 refine wpS_forRange (I:=fun x c st'=>st'=st/\∃ lo hi,c=(none,lo,hi)/\lo≤hi/\hi≤n/\hi - lo≤n - x/\(∀ i,i<lo->p i=true)/\∀ i,hi≤i->i<n->p i=false) ?_ ?_ ⟨rfl,lo,hi,rfl,h1,h2,by omega,a,b⟩
 ·rintro x c st' _ hx ⟨rfl,lo,hi,rfl,h1,h2,h3,a,b⟩
  dsimp only
  by_cases hg:lo ≥ hi
  ·rw [if_pos hg]
   obtain rfl:lo=hi:=by omega
   exact wpS_pure (h lo ⟨h2,a,b⟩)
  ·rw [if_neg hg]
   refine wpS_bind (hf _ _ (by omega) ?_)
   cases c:p (lo+(hi - lo) / 2) with
   | true=>exact wpS_pure ⟨rfl,_,_,rfl,by omega,h2,by omega,fun i hi'=>hp i _ (by omega) (by omega) c,b⟩
   | false=>exact wpS_pure ⟨rfl,_,_,rfl,by omega,by omega,by omega,a,fun i h4 h5=>hp.no h4 h5 c⟩
 ·rintro c st' ⟨rfl,lo,hi,rfl,h1,h2,h3,a,b⟩
  obtain rfl:lo=hi:=by omega
  exact h lo ⟨h2,a,b⟩
theorem jb{xs:Array Keyed}{Q:Option Nat->SortSt->Prop}(hA:Asks prog w A s κ L key)(hk:kindOf st=κ)(h0:k0 ∈ L){g:Nat->Keyed}(hx:∀ i,i<n->xs[base+i]?=some (g i)/\g i ∈ L)
  (hp:Step (fun i=>bey l (key k0) (key (g i))) n)(hh:hint<n)(h:∀ k,Cut (fun i=>bey l (key k0) (key (g i))) n k->Q (some k) st):wpS (model prog w) A E s (qx l k0 xs base n hint) Q st:=by
 have hf:∀ i (Q:Option Bool->SortSt->Prop),i<n->Q (some (bey l (key k0) (key (g i)))) st->wpS (model prog w) A E s (do let x ← elem' xs (base+i);if l=true then lt' x k0 else do { let r ← lt' k0 x;pure (r.map fun x=>!x) }) Q st:=fun i Q hi hq=>zhN hA hk (hx i hi).1 (hx i hi).2 h0 hq
 generalize hpp:(fun i=>bey l (key k0) (key (g i)))=p at *
 have hpi:∀ i,bey l (key k0) (key (g i))=p i:=fun i=>by rw [← hpp]
 refine wpS_bind (hf hint _ hh ?_)
 rw [hpi]
 cases c:p hint with
 | true=>
  dsimp only
  rw [if_pos rfl]
  refine wpS_bind (wpS_mono (wpS_forRange (I:=fun x c st'=>st'=st/\∃ la of,c=(none,la,of)/\la<of/\x+1≤of/\hint+la<n/\p (hint+la)=true) (Q:=fun c st'=>st'=st/\∃ la of,c=(none,la,of)/\la<of/\hint+la<n/\p (hint+la)=true/\(n - hint≤of∨hint+of<n/\p (hint+of)=false)) ?_ ?_ ⟨rfl,0,1,rfl,by omega,by omega,by omega,c⟩) ?_)
  ·rintro x c st' _ hx ⟨rfl,la,of,rfl,h1,h2,h3,h4⟩
   dsimp only
   by_cases hg:of ≥ n - hint
   ·rw [if_pos hg]
    exact wpS_pure ⟨rfl,la,of,rfl,h1,h3,h4,.inl hg⟩
   ·rw [if_neg hg]
    refine wpS_bind (hf (hint+of) _ (by omega) ?_)
    rw [hpi]
    cases d:p (hint+of) with
    | true=>exact wpS_pure ⟨rfl,of,2 * of+1,rfl,by omega,by omega,by omega,d⟩
    | false=>exact wpS_pure ⟨rfl,la,of,rfl,h1,h3,h4,.inr ⟨by omega,d⟩⟩
  ·rintro c st' ⟨rfl,la,of,rfl,h1,h2,h3,h4⟩
   exact ⟨rfl,la,of,rfl,h1,h3,h4,.inl (by omega)⟩
  ·rintro c st' ⟨rfl,la,of,rfl,h1,h3,h4,h5⟩
   dsimp only
   refine wpS_bind (zbM (p:=p) (fun i Q hi hq=>hf i Q hi (by rw [hpi];exact hq)) hp (by omega) (by omega) (fun i hi=>hp i _ (by omega) h3 h4) (fun i h6 h7=>?_) fun k hc=>wpS_pure (h k hc))
   rcases h5 with h5 | ⟨h5,h8⟩
   ·omega
   ·exact hp.no (by omega) h7 h8
 | false=>
  dsimp only
  rw [if_neg Jk]
  refine wpS_bind (wpS_mono (wpS_forRange (I:=fun x c st'=>st'=st/\∃ la of,c=(none,la,of)/\la<of/\x+1≤of/\la≤hint/\p (hint - la)=false) (Q:=fun c st'=>st'=st/\∃ la of,c=(none,la,of)/\la<of/\la≤hint/\p (hint - la)=false/\(hint+1≤of∨of≤hint/\p (hint - of)=true)) ?_ ?_ ⟨rfl,0,1,rfl,by omega,by omega,by omega,c⟩) ?_)
  ·rintro x c st' _ hx ⟨rfl,la,of,rfl,h1,h2,h3,h4⟩
   dsimp only
   by_cases hg:of ≥ hint+1
   ·rw [if_pos hg]
    exact wpS_pure ⟨rfl,la,of,rfl,h1,h3,h4,.inl hg⟩
   ·rw [if_neg hg]
    refine wpS_bind (hf (hint - of) _ (by omega) ?_)
    rw [hpi]
    cases d:p (hint - of) with
    | false=>exact wpS_pure ⟨rfl,of,2 * of+1,rfl,by omega,by omega,by omega,d⟩
    | true=>exact wpS_pure ⟨rfl,la,of,rfl,h1,h3,h4,.inr ⟨by omega,d⟩⟩
  ·rintro c st' ⟨rfl,la,of,rfl,h1,h2,h3,h4⟩
   exact ⟨rfl,la,of,rfl,h1,h3,h4,.inl (by omega)⟩
  ·rintro c st' ⟨rfl,la,of,rfl,h1,h3,h4,h5⟩
   dsimp only
   refine wpS_bind (zbM (p:=p) (fun i Q hi hq=>hf i Q hi (by rw [hpi];exact hq)) hp (by omega) (by omega) (fun i hi=>?_) (fun i h6 h7=>hp.no h6 h7 h4) fun k hc=>wpS_pure (h k hc))
   rcases h5 with h5 | ⟨h5,h8⟩
   ·omega
   ·exact hp i _ (by omega) (by omega) h8
end
section
variable {prog:Program} {w:World} {A:Around} {E:Value->Shared->Prop} {s:Shared} {O:KeyOrd} {key:Keyed->O.α} {L T out X Y X1 X2:List Keyed} {κ:SortKind} {st st' st'':SortSt}
noncomputable def Srt(key:Keyed->O.α)(l:List Keyed):Prop:=l.Pairwise fun x y=>O.kle (key x) (key y)
structure Inv (key:Keyed->O.α) (T out X Y:List Keyed):Prop where
 perm:(out++(X++Y)).Perm T
 srt:Srt key out
 cut:∀ x ∈ out,∀ y ∈ X++Y,O.kle (key x) (key y)
theorem Inv.swap(h:Inv key T out X Y):Inv key T out Y X:=
 ⟨(QE out List.perm_append_comm).trans h.perm,h.srt,fun x hx y hy=>h.cut x hx y (Kd.mpr (Kd.mp hy).symm)⟩
theorem Inv.move(h:Inv key T out (X1++X2) Y)(hs:Srt key (X1++X2))(hc:∀ x ∈ X1,∀ y ∈ Y,O.kle (key x) (key y)):Inv key T (out++X1) X2 Y:=by
 obtain ⟨s1,s2,s3⟩:=Jz.mp hs
 refine ⟨?_,List.pairwise_append.mpr ⟨h.srt,s1,fun x hx y hy=>h.cut x hx y (by simp [hy])⟩,fun x hx y hy=>?_⟩
 ·have:=h.perm
  rw [Jy] at this ⊢
  exact this
 ·rcases List.mem_append.mp hx with hx | hx
  ·exact h.cut x hx y (by rcases List.mem_append.mp hy with hy | hy<;>simp [hy])
  ·rcases List.mem_append.mp hy with hy | hy
   ·exact s3 x hx y hy
   ·exact hc x hx y hy
theorem Inv.fin(h:Inv key T out X Y)(h1:Srt key X)(h2:Srt key Y)(hc:∀ x ∈ X,∀ y ∈ Y,O.kle (key x) (key y)):(out++X++Y).Perm T/\Srt key (out++X++Y):=by
 rw [Jy]
 exact ⟨h.perm,Jz.mpr ⟨h.srt,Jz.mpr ⟨h1,h2,hc⟩,h.cut⟩⟩
noncomputable def Sm(st st':SortSt):Prop:=∃ g,st'=SortSt.mk' (kindOf st) (arrOf st) (pendingOf st) g (failedOf st)
theorem Sm.refl(st:SortSt):Sm st st:=⟨gallopOf st,rfl⟩
theorem Sm.trans(h:Sm st st')(k:Sm st' st''):Sm st st'':=by
 obtain ⟨g,rfl⟩:=h;obtain ⟨g',rfl⟩:=k;exact ⟨g',rfl⟩
theorem Sm.kind(h:Sm st st'):kindOf st'=kindOf st:=by obtain ⟨g,rfl⟩:=h;rfl
theorem xw{Q:Unit->SortSt->Prop}(h:∀ st',Sm st st'->Q () st'):wpS (model prog w) A E s (zio g) Q st:=
 wpS_modify (h _ ⟨g,rfl⟩)
theorem uW(a:Array Keyed)(i:Nat):(a.extract i).toList=a.toList.drop i:=by
 rw [Array.toList_extract,List.extract];exact List.take_of_length_le (by simp)
theorem zdT(a:Array Keyed)(i k:Nat):(a.extract i (i+k)).toList=(a.toList.drop i).take k:=by simp [List.extract]
theorem yc{a:Array Keyed}(h:i<a.size):∃ x,a[i]?=some x/\x ∈ a.toList/\a.toList.drop i=x::a.toList.drop (i+1):=by
 refine ⟨a[i],by simp [h],by simp,?_⟩
 rw [List.drop_eq_getElem_cons (by simpa using h)];simp
theorem Srt.drop(h:Srt key X)(i:Nat):Srt key (X.drop i):=List.Pairwise.sublist (List.drop_sublist i X) h
theorem Srt.head(h:Srt key (x::X)):∀ y ∈ X,O.kle (key x) (key y):=(JM.mp h).1
theorem Srt.at{a:Array Keyed}(h:Srt key a.toList){i j:Nat}{x y:Keyed}(hi:a[i]?=some x)(hj:a[j]?=some y)(hij:i≤j):O.kle (key x) (key y):=by
 rcases Nat.lt_or_ge i j with c | c
 ·obtain ⟨hi',ei⟩:=Jw.mp hi
  obtain ⟨hj',ej⟩:=Jw.mp hj
  have:=List.pairwise_iff_getElem.mp h i j (by simpa using hi') (by simpa using hj') c
  simpa [ei,ej] using this
 ·obtain rfl:i=j:=by omega
  rw [hi] at hj;cases hj;exact KeyOrd.kle_refl _
theorem gal{l:Bool}{k0:Keyed}{a:Array Keyed}{i:Nat}{Q:Option Nat->SortSt->Prop}(hA:Asks prog w A s κ L key)(hk:kindOf st=κ)(h0:k0 ∈ L)(ha:∀ x ∈ a.toList,x ∈ L)(hs:Srt key a.toList){n hint:Nat}(hn:i+n≤a.size)(hh:hint<n)
  (h:∀ k,k≤n->(∀ j x,j<k->a[i+j]?=some x->bey l (key k0) (key x)=true)->(∀ j x,k≤j->j<n->a[i+j]?=some x->bey l (key k0) (key x)=false)->Q (some k) st):wpS (model prog w) A E s (qx l k0 a i n hint) Q st:=by
 have hg:∀ j,j<n->a[i+j]?=some (a.getD (i+j) (Value.none,Value.none))/\a.getD (i+j) (Value.none,Value.none) ∈ L:=fun j hj=>by
  have:i+j<a.size:=by omega
  have e:a.getD (i+j) (Value.none,Value.none)=a[i+j]:=by simp [Array.getD,this]
  rw [e]
  exact ⟨by simp [this],ha _ (by simp)⟩
 refine jb hA hk h0 hg (fun j j' hj hj' e=>?_) hh fun k hc=>h k hc.1 (fun j x hj e=>?_) fun j x hj hj' e=>?_
 ·have:=hs.at (hg j (by omega)).1 (hg j' hj').1 (by omega)
  cases l with
  | true=>exact KeyOrd.klt_of_kle_of_klt this e
  | false=>
   have e':O.blt (key k0) (key (a.getD (i+j') (Value.none,Value.none)))=false:=by simpa [bey] using e
   have:O.blt (key k0) (key (a.getD (i+j) (Value.none,Value.none)))=false:=JI this e'
   show (!O.blt _ _)=true
   rw [this];rfl
 ·have:=hc.2.1 j hj
  rw [(hg j (by have:=hc.1;omega)).1] at e
  cases e;exact this
 ·have:=hc.2.2 j hj hj'
  rw [(hg j hj').1] at e
  cases e;exact this
noncomputable def Fin(key:Keyed->O.α)(st:SortSt)(T:List Keyed)(r:Array Keyed)(st':SortSt):Prop:=Sm st st'/\r.toList.Perm T/\Srt key r.toList
structure Lo (key:Keyed->O.α) (st:SortSt) (a b:Array Keyed) (m:Nat) (out:Array Keyed) (ia ib:Nat) (st':SortSt):Prop where
 sm:Sm st st'
 inv:Inv key (a.toList++b.toList) out.toList (a.toList.drop ia) (b.toList.drop ib)
 ha:ia+2≤a.size
 hb:ib+1≤b.size
 hm:m≤out.size
noncomputable def LoQ(key:Keyed->O.α)(st:SortSt)(a b:Array Keyed)(m:Nat)(r:ForInStep (Option (Array Keyed) × Array Keyed × Nat × Nat × Nat × Nat × Nat))(st':SortSt):Prop:=match r with
 | .done c=>(∃ r,c.1=some r/\Fin key st (a.toList++b.toList) r st')∨∃ out ia ib mg ac bc,c=(none,out,ia,ib,mg,ac,bc)/\Lo key st a b m out ia ib st'
 | .yield c=>∃ out ia ib mg ac bc,c=(none,out,ia,ib,mg,ac,bc)/\Lo key st a b m out ia ib st'
theorem xo{a:Array Keyed}(h:x ∈ a.toList.drop i):∃ j,i+j<a.size/\a[i+j]?=some x:=by
 obtain ⟨j,hj,e⟩:=JV h
 rw [KL,Jd] at hj
 refine ⟨j,by omega,?_⟩
 rw [List.getElem_drop] at e
 rw [KO (by omega),← Kw,e]
theorem uM{a:Array Keyed}(h:x ∈ (a.toList.drop i).take k):∃ j,j<k/\a[i+j]?=some x:=by
 obtain ⟨j,hj,e⟩:=JV h
 rw [JW,KL,Jd] at hj
 refine ⟨j,by omega,?_⟩
 rw [List.getElem_take,List.getElem_drop] at e
 rw [KO (by omega),← Kw,e]
theorem Inv.moveX{a out:Array Keyed}(h:Inv key T out.toList (a.toList.drop i) Y)(hs:Srt key a.toList)(hc:∀ x ∈ (a.toList.drop i).take k,∀ y ∈ Y,O.kle (key x) (key y)):Inv key T (out++a.extract i (i+k)).toList (a.toList.drop (i+k)) Y:=by
 rw [JP,zdT,← List.drop_drop]
 exact Inv.move (by rw [Kf];exact h) (by rw [Kf];exact hs.drop i) hc
theorem uP{a:Array Keyed}{i j:Nat}{y z x:Keyed}(hs:Srt key a.toList)(hz:a[i]?=some z)(hj:a[i+j]?=some x)(hy:O.kle (key y) (key z)):O.kle (key y) (key x):=JI hy (hs.at hz hj (by omega))
theorem zav{a b:Array Keyed}{Q:Array Keyed->SortSt->Prop}(hA:Asks prog w A s κ L key)(hk:kindOf st=κ)(ha:∀ x ∈ a.toList,x ∈ L)(hb:∀ x ∈ b.toList,x ∈ L)(sa:Srt key a.toList)(sb:Srt key b.toList)(a1:1≤a.size)(b1:1≤b.size)
  (hf:∀ x y,b[0]?=some x->a[0]?=some y->O.kle (key x) (key y))(hl:∀ x ∈ b.toList,∀ y,a[a.size - 1]?=some y->O.kle (key x) (key y))(h:∀ r st',Fin key st (a.toList++b.toList) r st'->Q r st'):wpS (model prog w) A E s (zgH a b) Q st:=by
 -- the ends
 have done1:∀ {out:Array Keyed} {ia ib st'},Sm st st'->Inv key (a.toList++b.toList) out.toList (a.toList.drop ia) (b.toList.drop ib)->(a.size≤ia∨b.size≤ib)->Fin key st (a.toList++b.toList) (out++a.extract ia++b.extract ib) st':=fun {out ia ib st'} sm I hz=>by
  obtain ⟨f1,f2⟩:=I.fin (sa.drop _) (sb.drop _) (by
   rcases hz with hz | hz
   ·rw [List.drop_of_length_le (by simpa using hz)];simp
   ·rw [List.drop_of_length_le (l:=b.toList) (by simpa using hz)];simp)
  refine ⟨sm,?_⟩
  rw [JP,JP,uW,uW]
  exact ⟨f1,f2⟩
 have done2:∀ {out:Array Keyed} {ia ib st'},Sm st st'->Inv key (a.toList++b.toList) out.toList (a.toList.drop ia) (b.toList.drop ib)->ia+1=a.size->Fin key st (a.toList++b.toList) (out++b.extract ib++a.extract ia) st':=fun {out ia ib st'} sm I hz=>by
  obtain ⟨z,z1,z2,z3⟩:=yc (a:=a) (i:=ia) (by omega)
  obtain ⟨f1,f2⟩:=I.swap.fin (sb.drop _) (sa.drop _) (by
   rw [z3,List.drop_of_length_le (l:=a.toList) (by simp;omega)]
   intro x hx y hy
   rw [Ji.mp hy]
   exact hl x (Ql hx) z (by rw [← hz];exact z1))
  refine ⟨sm,?_⟩
  rw [JP,JP,uW,uW]
  exact ⟨f1,f2⟩
 -- one of b,one of a
 have pushB:∀ {out:Array Keyed} {ia ib y},Inv key (a.toList++b.toList) out.toList (a.toList.drop ia) (b.toList.drop ib)->b[ib]?=some y->(∀ x ∈ a.toList.drop ia,O.kle (key y) (key x))->Inv key (a.toList++b.toList) (out.push y).toList (a.toList.drop ia) (b.toList.drop (ib+1)):=fun {out ia ib y} I hy hc=>by
  obtain ⟨hlt,_⟩:=Jw.mp hy
  obtain ⟨z,z1,z2,z3⟩:=yc hlt
  rw [hy] at z1;cases z1
  rw [z3] at I
  rw [Kq]
  refine (Inv.move (X1:=[y]) I.swap ?_ (by simpa using hc)).swap
  rw [List.singleton_append,← z3];exact sb.drop _
 have pushA:∀ {out:Array Keyed} {ia ib y},Inv key (a.toList++b.toList) out.toList (a.toList.drop ia) (b.toList.drop ib)->a[ia]?=some y->(∀ x ∈ b.toList.drop ib,O.kle (key y) (key x))->Inv key (a.toList++b.toList) (out.push y).toList (a.toList.drop (ia+1)) (b.toList.drop ib):=fun {out ia ib y} I hy hc=>by
  obtain ⟨hlt,_⟩:=Jw.mp hy
  obtain ⟨z,z1,z2,z3⟩:=yc hlt
  rw [hy] at z1;cases z1
  rw [z3] at I
  rw [Kq]
  refine Inv.move (X1:=[y]) I ?_ (by simpa using hc)
  rw [List.singleton_append,← z3];exact sa.drop _
 refine wpS_bind (wpS_lift (wpAny_rule ⟨rfl,?_⟩))
 extract_lets -underBinder total done lastA
 obtain ⟨y0,y1,y2,y3⟩:=yc (a:=b) (i:=0) (by omega)
 obtain ⟨x0,x1,x2,x3⟩:=yc (a:=a) (i:=0) (by omega)
 refine wpS_bind (zL y1 ?_)
 extract_lets -underBinder out0 ia0 ib0
 have I0:Inv key (a.toList++b.toList) out0.toList (a.toList.drop 0) (b.toList.drop 1):=by
  have:=pushB (out:=#[]) (ia:=0) (ib:=0) (y:=y0) ⟨List.Perm.refl _,.nil,by simp⟩ y1 (fun x hx=>by
   rw [x3] at hx
   rcases List.mem_cons.mp hx with rfl | hx
   ·exact hf _ _ y1 x1
   ·refine JI (hf _ _ y1 x1) ?_
    have:=sa
    rw [← List.drop_zero (l:=a.toList),x3] at this
    exact this.head x hx)
  exact this
 by_cases hb1:1=b.size
 ·rw [if_pos (beq_iff_eq.mpr hb1)]
  exact wpS_pure (h _ _ (done1 (Sm.refl _) I0 (.inr (by omega))))
 rw [if_neg (fun z=>hb1 (beq_iff_eq.mp z))]
 by_cases ha1:0+1=a.size
 ·rw [if_pos (beq_iff_eq.mpr ha1)]
  exact wpS_pure (h _ _ (done2 (Sm.refl _) I0 ha1))
 rw [if_neg (fun z=>ha1 (beq_iff_eq.mp z))]
 refine wpS_bind (wpS_get ?_)
 extract_lets -underBinder mg0
 have len:∀ {out:Array Keyed} {ia ib},Inv key (a.toList++b.toList) out.toList (a.toList.drop ia) (b.toList.drop ib)->out.size+(a.size - ia+(b.size - ib))=total:=fun {out ia ib} I=>by
  have:=I.perm.length_eq
  simpa using this
 refine wpS_bind (wpS_mono (wpS_forRange (I:=fun x c st'=>∃ out ia ib mg,c=(none,out,ia,ib,mg)/\Lo key st a b (x+1) out ia ib st') (Q:=fun c st'=>∃ r,c.1=some r/\Fin key st (a.toList++b.toList) r st') ?_ ?_ ⟨out0,ia0,ib0,mg0,rfl,⟨Sm.refl _,I0,by show 0+2≤_;omega,by show 1+1≤_;omega,by show 0+1≤1;omega⟩⟩) ?_)
 ·rintro x c st1 _ hx ⟨out,ia,ib,mg,rfl,V⟩
  extract_lets -underBinder
  refine wpS_bind (wpS_mono (wpS_forRange (I:=fun x1 c st'=>∃ out ia ib ac bc,c=(none,out,ia,ib,ac,bc)/\Lo key st a b (x+1+x1) out ia ib st') (Q:=fun c st'=>(∃ r,c.1=some r/\Fin key st (a.toList++b.toList) r st')∨∃ out ia ib ac bc,c=(none,out,ia,ib,ac,bc)/\Lo key st a b (x+2) out ia ib st') ?_ ?_ ⟨out,ia,ib,0,0,rfl,V⟩) ?_)
  ·rintro x1 c st2 _ hx1 ⟨out,ia,ib,ac,bc,rfl,V⟩
   have vm:=V.hm
   have va:=V.ha
   have vb:=V.hb
   dsimp only
   obtain ⟨y,y1,y2,y3⟩:=yc (a:=b) (i:=ib) (by omega)
   obtain ⟨z,z1,z2,z3⟩:=yc (a:=a) (i:=ia) (by omega)
   refine wpS_bind (zL y1 (wpS_bind (zL z1 (wpS_bind (ja hA (V.sm.kind.trans hk) (hb y y2) (ha z z2) ?_)))))
   cases c:O.blt (key y) (key z) with
   | true=>
    dsimp only
    rw [if_pos rfl]
    have I1:=pushB V.inv y1 fun x hx=>by
     obtain ⟨j,_,hj⟩:=xo hx
     exact uP sa z1 hj (Ka c)
    refine wpS_bind (zL y1 ?_)
    by_cases hz:ib+1=b.size
    ·rw [if_pos (beq_iff_eq.mpr hz)]
     exact wpS_pure (.inl ⟨_,rfl,done1 V.sm I1 (.inr (by omega))⟩)
    rw [if_neg (fun z=>hz (beq_iff_eq.mp z))]
    split
    ·exact wpS_pure (.inr ⟨_,_,_,_,_,rfl,⟨V.sm,I1,va,by omega,by rw [JU];omega⟩⟩)
    ·exact wpS_pure ⟨_,_,_,_,_,rfl,⟨V.sm,I1,va,by omega,by rw [JU];omega⟩⟩
   | false=>
    dsimp only
    rw [if_neg Jk]
    have I1:=pushA V.inv z1 fun x hx=>by
     obtain ⟨j,_,hj⟩:=xo hx
     exact uP sb y1 hj c
    refine wpS_bind (zL z1 ?_)
    by_cases hz:ia+1+1=a.size
    ·rw [if_pos (beq_iff_eq.mpr hz)]
     exact wpS_pure (.inl ⟨_,rfl,done2 V.sm I1 hz⟩)
    rw [if_neg (fun z=>hz (beq_iff_eq.mp z))]
    split
    ·exact wpS_pure (.inr ⟨_,_,_,_,_,rfl,⟨V.sm,I1,by omega,vb,by rw [JU];omega⟩⟩)
    ·exact wpS_pure ⟨_,_,_,_,_,rfl,⟨V.sm,I1,by omega,vb,by rw [JU];omega⟩⟩
  ·rintro c st2 ⟨out,ia,ib,ac,bc,rfl,V⟩
   have:=V.hm
   have ht:1≤total:=by show 1≤a.size+b.size;omega
   exact .inr ⟨_,_,_,_,_,rfl,⟨V.sm,V.inv,V.ha,V.hb,by omega⟩⟩
  rintro c st2 (⟨r,hr,F⟩ | ⟨out,ia,ib,ac,bc,rfl,V⟩)
  ·extract_lets -underBinder rr
   have:rr=some r:=hr
   rw [this]
   exact wpS_pure ⟨r,rfl,F⟩
  refine wpS_bind (wpS_lift (wpAny_rule ⟨rfl,?_⟩))
  extract_lets -underBinder mg1
  refine wpS_bind (wpS_mono (wpS_forRange (I:=fun _ c st'=>∃ out ia ib mg ac bc,c=(none,out,ia,ib,mg,ac,bc)/\Lo key st a b (x+2) out ia ib st') (Q:=fun c st'=>(∃ r,c.1=some r/\Fin key st (a.toList++b.toList) r st')∨∃ out ia ib mg ac bc,c=(none,out,ia,ib,mg,ac,bc)/\Lo key st a b (x+2) out ia ib st') ?_ ?_ ⟨out,ia,ib,_,ac,bc,rfl,V⟩) ?_)
  ·rintro x2 c st3 _ hx2 ⟨out,ia,ib,mg,ac,bc,rfl,V⟩
   have vm:=V.hm
   have va:=V.ha
   have vb:=V.hb
   obtain ⟨y,y1,y2,y3⟩:=yc (a:=b) (i:=ib) (by omega)
   extract_lets -underBinder _ o _ i _ j _ m _ ac bc jp
   have hjp:∀ u g,wpS (model prog w) A E s (jp u g) (LoQ key st a b (x+2)) st3:=by
    intro u g
    refine wpS_bind (xw fun st4 sm4=>?_)
    have sm:=V.sm.trans sm4
    refine wpS_bind (zL y1 (wpS_bind (gal (a:=a) (i:=ia) hA (sm.kind.trans hk) (hb y y2) ha sa (by show ia+(a.size - ia)≤_;omega) (by show 0<a.size - ia;omega) fun k k1 klo khi=>?_)))
    dsimp (config:={zeta:=false,zetaHave:=false}) only
    extract_lets -underBinder ac1 jp2 o3 ia3
    have hj2:∀ u (o:Array Keyed) i,Inv key (a.toList++b.toList) o.toList (a.toList.drop i) (b.toList.drop ib)->i+2≤a.size->(∀ x ∈ a.toList.drop i,O.kle (key y) (key x))->x+2≤o.size->wpS (model prog w) A E s (jp2 u o i) (LoQ key st a b (x+2)) st4:=by
     intro u o i I hi hc ho
     refine wpS_bind (zL y1 ?_)
     extract_lets -underBinder o2 ib2
     have I1:Inv key (a.toList++b.toList) o2.toList (a.toList.drop i) (b.toList.drop ib2):=pushB I y1 hc
     have ho2:x+2≤o2.size:=by show _≤(o.push y).size;rw [JU];omega
     by_cases hz:ib2=b.size
     ·rw [if_pos (beq_iff_eq.mpr hz)]
      exact wpS_pure (.inl ⟨_,rfl,done1 sm I1 (.inr (by omega))⟩)
     rw [if_neg (fun z=>hz (beq_iff_eq.mp z))]
     have hib2:ib2+1≤b.size:=by have:ib2=ib+1:=rfl;omega
     clear_value o2 ib2
     obtain ⟨z,z1,z2,z3⟩:=yc (a:=a) (i:=i) (by omega)
     refine wpS_bind (zL z1 (wpS_bind (gal (a:=b) (i:=ib2) hA (sm.kind.trans hk) (ha z z2) hb sb (by show ib2+(b.size - ib2)≤_;omega) (by show 0<b.size - ib2;omega) fun k k1 klo khi=>?_)))
     dsimp (config:={zeta:=false,zetaHave:=false}) only
     extract_lets -underBinder bc1 jp3 o3 ib3
     have hj3:∀ u (o:Array Keyed) j,Inv key (a.toList++b.toList) o.toList (a.toList.drop i) (b.toList.drop j)->j+1≤b.size->(∀ x ∈ b.toList.drop j,O.kle (key z) (key x))->x+2≤o.size->wpS (model prog w) A E s (jp3 u o j) (LoQ key st a b (x+2)) st4:=by
      intro u o j I hj hc ho
      refine wpS_bind (zL z1 ?_)
      have I1:=pushA I z1 hc
      dsimp only
      by_cases hz:i+1+1=a.size
      ·rw [if_pos (beq_iff_eq.mpr hz)]
       exact wpS_pure (.inl ⟨_,rfl,done2 sm I1 hz⟩)
      rw [if_neg (fun z=>hz (beq_iff_eq.mp z))]
      have W:Lo key st a b (x+2) (o.push z) (i+1) j st4:=⟨sm,I1,by omega,hj,by rw [JU];omega⟩
      split
      ·exact wpS_pure (.inr ⟨_,_,_,_,_,_,rfl,W⟩)
      ·exact wpS_pure ⟨_,_,_,_,_,_,rfl,W⟩
     clear_value jp3
     have hrest:∀ x ∈ b.toList.drop (ib2+k),O.kle (key z) (key x):=fun x hx=>by
      obtain ⟨j,j1,j2⟩:=xo hx
      rw [Nat.add_assoc] at j2
      exact khi (k+j) x (by omega) (by omega) j2
     by_cases hk0:k > 0
     ·rw [if_pos hk0]
      have I2:Inv key (a.toList++b.toList) o3.toList (a.toList.drop i) (b.toList.drop ib3):=(Inv.moveX (k:=k) I1.swap sb fun y' hy' x' hx'=>by
       obtain ⟨j,j1,j2⟩:=uM hy'
       obtain ⟨j',j3,j4⟩:=xo hx'
       exact uP sa z1 j4 (Ka (klo j y' j1 j2))).swap
      by_cases hz:ib3=b.size
      ·rw [if_pos (beq_iff_eq.mpr hz)]
       exact wpS_pure (.inl ⟨_,rfl,done1 sm I2 (.inr (by omega))⟩)
      rw [if_neg (fun z=>hz (beq_iff_eq.mp z))]
      refine hj3 _ _ _ I2 (by have:ib3=ib2+k:=rfl;omega) hrest (by show _≤(o2++_).size;rw [QD];omega)
     ·rw [if_neg hk0]
      obtain rfl:k=0:=by omega
      exact hj3 _ _ _ I1 hib2 hrest ho2
    clear_value jp2
    have hrest:∀ x ∈ a.toList.drop (ia+k),O.kle (key y) (key x):=fun x hx=>by
     obtain ⟨j,j1,j2⟩:=xo hx
     rw [Nat.add_assoc] at j2
     have k1:k≤a.size - ia:=k1
     have:=khi (k+j) x (by omega) (show k+j<a.size - ia by omega) j2
     have e:O.blt (key y) (key x)=true:=by simpa [bey] using this
     exact Ka e
    by_cases hk0:k > 0
    ·rw [if_pos hk0]
     have I2:Inv key (a.toList++b.toList) o3.toList (a.toList.drop ia3) (b.toList.drop ib):=Inv.moveX (k:=k) V.inv sa fun y' hy' x' hx'=>by
      obtain ⟨j,j1,j2⟩:=uM hy'
      obtain ⟨j',j3,j4⟩:=xo hx'
      have:=klo j y' j1 j2
      have e:O.blt (key y) (key y')=false:=by simpa [bey] using this
      exact uP sb y1 j4 e
     by_cases hz:ia3+1=a.size
     ·rw [if_pos (beq_iff_eq.mpr hz)]
      exact wpS_pure (.inl ⟨_,rfl,done2 sm I2 hz⟩)
     rw [if_neg (fun z=>hz (beq_iff_eq.mp z))]
     by_cases hz2:ia3=a.size
     ·rw [if_pos (beq_iff_eq.mpr hz2)]
      exact wpS_pure (.inl ⟨_,rfl,done1 sm I2 (.inl (by omega))⟩)
     rw [if_neg (fun z=>hz2 (beq_iff_eq.mp z))]
     exact hj2 _ _ _ I2 (by have:ia3=ia+k:=rfl;omega) hrest (by show _≤(out++_).size;rw [QD];omega)
    ·rw [if_neg hk0]
     obtain rfl:k=0:=by omega
     exact hj2 _ _ _ V.inv va hrest vm
   clear_value jp
   split
   ·exact wpS_mono (hjp _ _) fun r st' h=>by cases r<;>exact h
   ·exact wpS_mono (hjp _ _) fun r st' h=>by cases r<;>exact h
  ·rintro c st3 ⟨out,ia,ib,mg,ac,bc,rfl,V⟩
   exact .inr ⟨_,_,_,_,_,_,rfl,V⟩
  rintro c st3 (⟨r,hr,F⟩ | ⟨out,ia,ib,mg,ac,bc,rfl,V⟩)
  ·extract_lets -underBinder rr
   have:rr=some r:=hr
   rw [this]
   exact wpS_pure ⟨r,rfl,F⟩
  dsimp only
  refine wpS_bind (xw fun st4 sm4=>wpS_pure ⟨_,_,_,_,rfl,⟨V.sm.trans sm4,V.inv,V.ha,V.hb,V.hm⟩⟩)
 ·rintro c st1 ⟨out,ia,ib,mg,rfl,V⟩
  have:=len V.inv
  have:=V.hm
  omega
 ·rintro c st1 ⟨r,hr,F⟩
  extract_lets -underBinder rr
  have:rr=some r:=hr
  rw [this]
  exact wpS_pure (h r st1 F)
end
section
variable {prog:Program} {w:World} {A:Around} {E:Value->Shared->Prop} {s:Shared} {O:KeyOrd} {key:Keyed->O.α} {L T R X Y X1 X2:List Keyed} {κ:SortKind} {st st' st'':SortSt}
structure InvH (key:Keyed->O.α) (T R X Y:List Keyed):Prop where
 perm:(X++Y++R).Perm T
 srt:Srt key R
 cut:∀ x ∈ X++Y,∀ y ∈ R,O.kle (key x) (key y)
theorem InvH.swap(h:InvH key T R X Y):InvH key T R Y X:=
 ⟨(List.Perm.append_right R List.perm_append_comm).trans h.perm,h.srt,fun x hx y hy=>h.cut x (Kd.mpr (Kd.mp hx).symm) y hy⟩
theorem InvH.move(h:InvH key T R Y (X1++X2))(hs:Srt key (X1++X2))(hc:∀ x ∈ X2,∀ y ∈ Y,O.kle (key y) (key x)):InvH key T (X2++R) Y X1:=by
 obtain ⟨s1,s2,s3⟩:=Jz.mp hs
 refine ⟨?_,List.pairwise_append.mpr ⟨s2,h.srt,fun x hx y hy=>h.cut x (by simp [hx]) y hy⟩,fun x hx y hy=>?_⟩
 ·have:=h.perm
  rw [Jy] at this ⊢
  rw [Jy] at this
  exact this
 ·rcases List.mem_append.mp hy with hy | hy
  ·rcases List.mem_append.mp hx with hx | hx
   ·exact hc y hy x hx
   ·exact s3 x hx y hy
  ·exact h.cut x (by rcases List.mem_append.mp hx with hx | hx<;>simp [hx]) y hy
theorem InvH.fin(h:InvH key T R X Y)(h1:Srt key X)(h2:Srt key Y)(hc:∀ x ∈ X,∀ y ∈ Y,O.kle (key x) (key y)):(X++Y++R).Perm T/\Srt key (X++Y++R):=
 ⟨h.perm,Jz.mpr ⟨Jz.mpr ⟨h1,h2,hc⟩,h.srt,h.cut⟩⟩
theorem uV(a:Array Keyed)(n:Nat):(a.extract 0 n).toList=a.toList.take n:=by rw [Array.toList_extract,List.extract];simp
theorem kL(a:Array Keyed)(i n:Nat):(a.extract i n).toList=(a.toList.take n).drop i:=by rw [Array.toList_extract,List.extract,List.drop_take]
theorem Srt.take(h:Srt key X)(i:Nat):Srt key (X.take i):=List.Pairwise.sublist (List.take_sublist i X) h
theorem xm{a:Array Keyed}(h:x ∈ a.toList.take n):∃ j,j<n/\a[j]?=some x:=by
 obtain ⟨j,j1,j2⟩:=uM (i:=0) (by rw [List.drop_zero];exact h)
 exact ⟨j,j1,by rw [KR] at j2;exact j2⟩
theorem zdE{a:Array Keyed}(h:x ∈ (a.toList.take n).drop i):∃ j,i≤j/\j<n/\a[j]?=some x:=by
 rw [List.drop_take] at h
 obtain ⟨j,j1,j2⟩:=uM h
 exact ⟨i+j,by omega,by omega,j2⟩
theorem xz{a:Array Keyed}(h1:1≤n)(h:n≤a.size):∃ x,a[n - 1]?=some x/\x ∈ a.toList/\(a.toList.take n).drop (n - 1)=[x]:=by
 obtain ⟨x,x1,x2,x3⟩:=yc (a:=a) (i:=n - 1) (by omega)
 refine ⟨x,x1,x2,?_⟩
 rw [List.drop_take,x3,show n - (n - 1)=1 by omega];rfl
theorem InvH.moveX{a out:Array Keyed}(h:InvH key T out.toList.reverse Y (a.toList.take n))(hin:i≤n)(hs:Srt key a.toList)(hc:∀ x ∈ (a.toList.take n).drop i,∀ y ∈ Y,O.kle (key y) (key x)):InvH key T (out++(a.extract i n).reverse).toList.reverse Y (a.toList.take i):=by
 rw [JP,List.reverse_append,Qm,List.reverse_reverse,kL]
 have e:(a.toList.take n).take i++(a.toList.take n).drop i=a.toList.take n:=Kf _ _
 rw [List.take_take,Nat.min_eq_left hin] at e
 exact InvH.move (by rw [e];exact h) (by rw [e];exact hs.take n) hc
structure Hi (key:Keyed->O.α) (st:SortSt) (a b:Array Keyed) (m:Nat) (out:Array Keyed) (na nb:Nat) (st':SortSt):Prop where
 sm:Sm st st'
 inv:InvH key (a.toList++b.toList) out.toList.reverse (a.toList.take na) (b.toList.take nb)
 ha:1≤na/\na≤a.size
 hb:2≤nb/\nb≤b.size
 hm:m≤out.size
noncomputable def HiQ(key:Keyed->O.α)(st:SortSt)(a b:Array Keyed)(m:Nat)(r:ForInStep (Option (Array Keyed) × Nat × Nat × Array Keyed × Nat × Nat × Nat))(st':SortSt):Prop:=match r with
 | .done c=>(∃ r,c.1=some r/\Fin key st (a.toList++b.toList) r st')∨∃ na nb out mg ac bc,c=(none,na,nb,out,mg,ac,bc)/\Hi key st a b m out na nb st'
 | .yield c=>∃ na nb out mg ac bc,c=(none,na,nb,out,mg,ac,bc)/\Hi key st a b m out na nb st'
theorem zaw{a b:Array Keyed}{Q:Array Keyed->SortSt->Prop}(hA:Asks prog w A s κ L key)(hk:kindOf st=κ)(ha:∀ x ∈ a.toList,x ∈ L)(hb:∀ x ∈ b.toList,x ∈ L)(sa:Srt key a.toList)(sb:Srt key b.toList)(a1:1≤a.size)(b1:1≤b.size)
  (hf:∀ x ∈ a.toList,∀ y,b[0]?=some y->O.kle (key y) (key x))(hl:∀ x ∈ b.toList,∀ y,a[a.size - 1]?=some y->O.kle (key x) (key y))(h:∀ r st',Fin key st (a.toList++b.toList) r st'->Q r st'):wpS (model prog w) A E s (zgI a b) Q st:=by
 have done1:∀ {out:Array Keyed} {na nb st'},Sm st st'->InvH key (a.toList++b.toList) out.toList.reverse (a.toList.take na) (b.toList.take nb)->(na=0∨nb=0)->Fin key st (a.toList++b.toList) (a.extract 0 na++b.extract 0 nb++out.reverse) st':=fun {out na nb st'} sm I hz=>by
  obtain ⟨f1,f2⟩:=I.fin (sa.take _) (sb.take _) (by
   rcases hz with rfl | rfl
   ·simp
   ·simp)
  refine ⟨sm,?_⟩
  rw [JP,JP,uV,uV,Qm]
  exact ⟨f1,f2⟩
 have done2:∀ {out:Array Keyed} {na nb st'},Sm st st'->InvH key (a.toList++b.toList) out.toList.reverse (a.toList.take na) (b.toList.take nb)->nb=1->Fin key st (a.toList++b.toList) (b.extract 0 nb++a.extract 0 na++out.reverse) st':=fun {out na nb st'} sm I hz=>by
  subst hz
  obtain ⟨f1,f2⟩:=I.swap.fin (sb.take _) (sa.take _) (fun x hx y hy=>by
   obtain ⟨j,j1,j2⟩:=xm hx
   obtain rfl:j=0:=by omega
   exact hf y (QH hy) x j2)
  refine ⟨sm,?_⟩
  rw [JP,JP,uV,uV,Qm]
  exact ⟨f1,f2⟩
 have pushB:∀ {out:Array Keyed} {na nb y},1≤nb->nb≤b.size->InvH key (a.toList++b.toList) out.toList.reverse (a.toList.take na) (b.toList.take nb)->b[nb - 1]?=some y->(∀ x ∈ a.toList.take na,O.kle (key x) (key y))->InvH key (a.toList++b.toList) (out.push y).toList.reverse (a.toList.take na) (b.toList.take (nb - 1)):=fun {out na nb y} h1 h2 I hy hc=>by
  obtain ⟨z,z1,z2,z3⟩:=xz h1 h2
  rw [hy] at z1;cases z1
  have:=InvH.moveX (i:=nb - 1) I (by omega) sb (by rw [z3];simpa using hc)
  have e:(b.extract (nb - 1) nb).toList=[y]:=by rw [kL,z3]
  rw [JP,Qm,e] at this
  rw [Kq];exact this
 have pushA:∀ {out:Array Keyed} {na nb y},1≤na->na≤a.size->InvH key (a.toList++b.toList) out.toList.reverse (a.toList.take na) (b.toList.take nb)->a[na - 1]?=some y->(∀ x ∈ b.toList.take nb,O.kle (key x) (key y))->InvH key (a.toList++b.toList) (out.push y).toList.reverse (a.toList.take (na - 1)) (b.toList.take nb):=fun {out na nb y} h1 h2 I hy hc=>by
  obtain ⟨z,z1,z2,z3⟩:=xz h1 h2
  rw [hy] at z1;cases z1
  have:=(InvH.moveX (i:=na - 1) I.swap (by omega) sa (by rw [z3];simpa using hc)).swap
  have e:(a.extract (na - 1) na).toList=[y]:=by rw [kL,z3]
  rw [JP,Qm,e] at this
  rw [Kq];exact this
 have topB:∀ {n:Nat} {y x:Keyed},b[n - 1]?=some y->x ∈ b.toList.take n->O.kle (key x) (key y):=fun {n y x} hy hx=>by
  obtain ⟨j,j1,j2⟩:=xm hx
  exact sb.at j2 hy (by omega)
 have topA:∀ {n:Nat} {y x:Keyed},a[n - 1]?=some y->x ∈ a.toList.take n->O.kle (key x) (key y):=fun {n y x} hy hx=>by
  obtain ⟨j,j1,j2⟩:=xm hx
  exact sa.at j2 hy (by omega)
 refine wpS_bind (wpS_lift (wpAny_rule ⟨rfl,?_⟩))
 extract_lets -underBinder total done firstB na0 nb0
 obtain ⟨z0,z1,z2,z3⟩:=xz (a:=a) a1 (Jj _)
 refine wpS_bind (zL z1 ?_)
 extract_lets -underBinder out0
 have I0:InvH key (a.toList++b.toList) out0.toList.reverse (a.toList.take na0) (b.toList.take nb0):=by
  have eA:a.toList.take a.size=a.toList:=List.take_of_length_le (by simp)
  have eB:b.toList.take b.size=b.toList:=List.take_of_length_le (by simp)
  exact pushA (out:=#[]) (nb:=b.size) a1 (Nat.le_refl _) ⟨by rw [eA,eB];simp,.nil,by simp⟩ z1 (fun x hx=>hl x (List.mem_of_mem_take hx) z0 z1)
 by_cases ha1:na0=0
 ·rw [if_pos (beq_iff_eq.mpr ha1)]
  exact wpS_pure (h _ _ (done1 (Sm.refl _) I0 (.inl ha1)))
 rw [if_neg (fun z=>ha1 (beq_iff_eq.mp z))]
 by_cases hb1:nb0=1
 ·rw [if_pos (beq_iff_eq.mpr hb1)]
  exact wpS_pure (h _ _ (done2 (Sm.refl _) I0 hb1))
 rw [if_neg (fun z=>hb1 (beq_iff_eq.mp z))]
 refine wpS_bind (wpS_get ?_)
 extract_lets -underBinder mg0
 have len:∀ {out:Array Keyed} {na nb},na≤a.size->nb≤b.size->InvH key (a.toList++b.toList) out.toList.reverse (a.toList.take na) (b.toList.take nb)->out.size+(na+nb)=total:=fun {out na nb} h1 h2 I=>by
  have:=I.perm.length_eq
  simp only [List.length_append,List.length_take,List.length_reverse,Array.length_toList] at this
  show _=a.size+b.size
  omega
 refine wpS_bind (wpS_mono (wpS_forRange (I:=fun x c st'=>∃ na nb out mg,c=(none,na,nb,out,mg)/\Hi key st a b (x+1) out na nb st') (Q:=fun c st'=>∃ r,c.1=some r/\Fin key st (a.toList++b.toList) r st') ?_ ?_ ⟨na0,nb0,out0,mg0,rfl,⟨Sm.refl _,I0,⟨by omega,by show a.size - 1≤_;omega⟩,⟨by have:nb0=b.size:=rfl;omega,Jj _⟩,by show 0+1≤1;omega⟩⟩) ?_)
 ·rintro x c st1 _ hx ⟨na,nb,out,mg,rfl,V⟩
  extract_lets -underBinder
  refine wpS_bind (wpS_mono (wpS_forRange (I:=fun x1 c st'=>∃ na nb out ac bc,c=(none,na,nb,out,ac,bc)/\Hi key st a b (x+1+x1) out na nb st') (Q:=fun c st'=>(∃ r,c.1=some r/\Fin key st (a.toList++b.toList) r st')∨∃ na nb out ac bc,c=(none,na,nb,out,ac,bc)/\Hi key st a b (x+2) out na nb st') ?_ ?_ ⟨na,nb,out,0,0,rfl,V⟩) ?_)
  ·rintro x1 c st2 _ hx1 ⟨na,nb,out,ac,bc,rfl,V⟩
   have vm:=V.hm
   have va:=V.ha
   have vb:=V.hb
   dsimp only
   obtain ⟨y,y1,y2,y3⟩:=xz (a:=b) (n:=nb) (by omega) (by omega)
   obtain ⟨z,z1,z2,z3⟩:=xz (a:=a) (n:=na) (by omega) (by omega)
   refine wpS_bind (zL y1 (wpS_bind (zL z1 (wpS_bind (ja hA (V.sm.kind.trans hk) (hb y y2) (ha z z2) ?_)))))
   cases c:O.blt (key y) (key z) with
   | true=>
    dsimp only
    rw [if_pos rfl]
    have I1:=pushA va.1 va.2 V.inv z1 fun x hx=>JI (topB y1 hx) (Ka c)
    refine wpS_bind (zL z1 ?_)
    by_cases hz:na - 1=0
    ·rw [if_pos (beq_iff_eq.mpr hz)]
     exact wpS_pure (.inl ⟨_,rfl,done1 V.sm I1 (.inl hz)⟩)
    rw [if_neg (fun z=>hz (beq_iff_eq.mp z))]
    split
    ·exact wpS_pure (.inr ⟨_,_,_,_,_,rfl,⟨V.sm,I1,by omega,vb,by rw [JU];omega⟩⟩)
    ·exact wpS_pure ⟨_,_,_,_,_,rfl,⟨V.sm,I1,by omega,vb,by rw [JU];omega⟩⟩
   | false=>
    dsimp only
    rw [if_neg Jk]
    have I1:=pushB (by omega) vb.2 V.inv y1 fun x hx=>JI (topA z1 hx) c
    refine wpS_bind (zL y1 ?_)
    by_cases hz:nb - 1=1
    ·rw [if_pos (beq_iff_eq.mpr hz)]
     exact wpS_pure (.inl ⟨_,rfl,done2 V.sm I1 hz⟩)
    rw [if_neg (fun z=>hz (beq_iff_eq.mp z))]
    split
    ·exact wpS_pure (.inr ⟨_,_,_,_,_,rfl,⟨V.sm,I1,va,by omega,by rw [JU];omega⟩⟩)
    ·exact wpS_pure ⟨_,_,_,_,_,rfl,⟨V.sm,I1,va,by omega,by rw [JU];omega⟩⟩
  ·rintro c st2 ⟨na,nb,out,ac,bc,rfl,V⟩
   have:=V.hm
   have ht:1≤total:=by show 1≤a.size+b.size;omega
   exact .inr ⟨_,_,_,_,_,rfl,⟨V.sm,V.inv,V.ha,V.hb,by omega⟩⟩
  rintro c st2 (⟨r,hr,F⟩ | ⟨na,nb,out,ac,bc,rfl,V⟩)
  ·extract_lets -underBinder rr
   have:rr=some r:=hr
   rw [this]
   exact wpS_pure ⟨r,rfl,F⟩
  refine wpS_bind (wpS_lift (wpAny_rule ⟨rfl,?_⟩))
  extract_lets -underBinder mg1
  refine wpS_bind (wpS_mono (wpS_forRange (I:=fun _ c st'=>∃ na nb out mg ac bc,c=(none,na,nb,out,mg,ac,bc)/\Hi key st a b (x+2) out na nb st') (Q:=fun c st'=>(∃ r,c.1=some r/\Fin key st (a.toList++b.toList) r st')∨∃ na nb out mg ac bc,c=(none,na,nb,out,mg,ac,bc)/\Hi key st a b (x+2) out na nb st') ?_ ?_ ⟨na,nb,out,_,ac,bc,rfl,V⟩) ?_)
  ·rintro x2 c st3 _ hx2 ⟨na,nb,out,mg,ac,bc,rfl,V⟩
   have vm:=V.hm
   have va:=V.ha
   have vb:=V.hb
   obtain ⟨y,y1,y2,y3⟩:=xz (a:=b) (n:=nb) (by omega) (by omega)
   extract_lets -underBinder _ i _ j _ o _ m _ ac bc jp
   have hjp:∀ u g,wpS (model prog w) A E s (jp u g) (HiQ key st a b (x+2)) st3:=by
    intro u g
    refine wpS_bind (xw fun st4 sm4=>?_)
    have sm:=V.sm.trans sm4
    refine wpS_bind (zL y1 (wpS_bind (gal (a:=a) (i:=0) hA (sm.kind.trans hk) (hb y y2) ha sa (by show 0+na≤_;omega) (by show na - 1<na;omega) fun k k1 klo khi=>?_)))
    have k1:k≤na:=k1
    dsimp (config:={zeta:=false,zetaHave:=false}) only
    extract_lets -underBinder kk ac1 jp2 o3 na3
    have hj2:∀ u (na:Nat) (o:Array Keyed),InvH key (a.toList++b.toList) o.toList.reverse (a.toList.take na) (b.toList.take nb)->1≤na->na≤a.size->(∀ x ∈ a.toList.take na,O.kle (key x) (key y))->x+2≤o.size->wpS (model prog w) A E s (jp2 u na o) (HiQ key st a b (x+2)) st4:=by
     intro u na o I hi hi2 hc ho
     refine wpS_bind (zL y1 ?_)
     extract_lets -underBinder o2
     have I1:InvH key (a.toList++b.toList) o2.toList.reverse (a.toList.take na) (b.toList.take (nb - 1)):=pushB (by omega) vb.2 I y1 hc
     have ho2:x+2≤o2.size:=by show _≤(o.push y).size;rw [JU];omega
     by_cases hz:nb - 1=1
     ·rw [if_pos (beq_iff_eq.mpr hz)]
      exact wpS_pure (.inl ⟨_,rfl,done2 sm I1 hz⟩)
     rw [if_neg (fun z=>hz (beq_iff_eq.mp z))]
     clear_value o2
     obtain ⟨z,z1,z2,z3⟩:=xz (a:=a) (n:=na) (by omega) (by omega)
     refine wpS_bind (zL z1 (wpS_bind (gal (a:=b) (i:=0) hA (sm.kind.trans hk) (ha z z2) hb sb (by show 0+(nb - 1)≤_;omega) (by show nb - 1 - 1<nb - 1;omega) fun k k1 klo khi=>?_)))
     have k1:k≤nb - 1:=k1
     dsimp (config:={zeta:=false,zetaHave:=false}) only
     extract_lets -underBinder kk bc1 jp3 o3 nb3
     have hj3:∀ u (nb:Nat) (o:Array Keyed),InvH key (a.toList++b.toList) o.toList.reverse (a.toList.take na) (b.toList.take nb)->2≤nb->nb≤b.size->(∀ x ∈ b.toList.take nb,O.kle (key x) (key z))->x+2≤o.size->wpS (model prog w) A E s (jp3 u nb o) (HiQ key st a b (x+2)) st4:=by
      intro u nb o I hj hj2 hc ho
      refine wpS_bind (zL z1 ?_)
      have I1:=pushA hi hi2 I z1 hc
      dsimp only
      by_cases hz:na - 1=0
      ·rw [if_pos (beq_iff_eq.mpr hz)]
       exact wpS_pure (.inl ⟨_,rfl,done1 sm I1 (.inl hz)⟩)
      rw [if_neg (fun z=>hz (beq_iff_eq.mp z))]
      have W:Hi key st a b (x+2) (o.push z) (na - 1) nb st4:=⟨sm,I1,by omega,⟨hj,hj2⟩,by rw [JU];omega⟩
      split
      ·exact wpS_pure (.inr ⟨_,_,_,_,_,_,rfl,W⟩)
      ·exact wpS_pure ⟨_,_,_,_,_,_,rfl,W⟩
     clear_value jp3
     have hrest:∀ x ∈ b.toList.take k,O.kle (key x) (key z):=fun x hx=>by
      obtain ⟨j,j1,j2⟩:=xm hx
      exact Ka (klo j x j1 (by rw [KR];exact j2))
     by_cases hk0:kk > 0
     ·rw [if_pos hk0]
      have I2:InvH key (a.toList++b.toList) o3.toList.reverse (a.toList.take na) (b.toList.take nb3):=InvH.moveX I1 (by omega) sb fun y' hy' x' hx'=>by
       obtain ⟨j,j1,j2,j3⟩:=zdE hy'
       exact JI (topA z1 hx') (khi j y' j1 j2 (by rw [KR];exact j3))
      by_cases hz:nb3=1
      ·rw [if_pos (beq_iff_eq.mpr hz)]
       exact wpS_pure (.inl ⟨_,rfl,done2 sm I2 hz⟩)
      rw [if_neg (fun z=>hz (beq_iff_eq.mp z))]
      by_cases hz2:nb3=0
      ·rw [if_pos (beq_iff_eq.mpr hz2)]
       exact wpS_pure (.inl ⟨_,rfl,done1 sm I2 (.inr hz2)⟩)
      rw [if_neg (fun z=>hz2 (beq_iff_eq.mp z))]
      exact hj3 _ _ _ I2 (by omega) (by show k≤_;omega) hrest (by show _≤(o2++_).size;rw [QD];omega)
     ·rw [if_neg hk0]
      obtain rfl:k=nb - 1:=by have:kk=nb - 1 - k:=rfl;omega
      exact hj3 _ _ _ I1 (by omega) (by omega) hrest ho2
    clear_value jp2
    have hrest:∀ x ∈ a.toList.take k,O.kle (key x) (key y):=fun x hx=>by
     obtain ⟨j,j1,j2⟩:=xm hx
     have:=klo j x j1 (by rw [KR];exact j2)
     have e:O.blt (key y) (key x)=false:=by simpa [bey] using this
     exact e
    by_cases hk0:kk > 0
    ·rw [if_pos hk0]
     have I2:InvH key (a.toList++b.toList) o3.toList.reverse (a.toList.take na3) (b.toList.take nb):=(InvH.moveX V.inv.swap (show k≤na from k1) sa fun y' hy' x' hx'=>by
      obtain ⟨j,j1,j2,j3⟩:=zdE hy'
      have:=khi j y' j1 j2 (by rw [KR];exact j3)
      have e:O.blt (key y) (key y')=true:=by simpa [bey] using this
      exact JI (topB y1 hx') (Ka e)).swap
     by_cases hz:na3=0
     ·rw [if_pos (beq_iff_eq.mpr hz)]
      exact wpS_pure (.inl ⟨_,rfl,done1 sm I2 (.inl hz)⟩)
     rw [if_neg (fun z=>hz (beq_iff_eq.mp z))]
     exact hj2 _ _ _ I2 (by omega) (by show k≤_;omega) hrest (by show _≤(out++_).size;rw [QD];omega)
    ·rw [if_neg hk0]
     obtain rfl:k=na:=by have:kk=na - k:=rfl;omega
     exact hj2 _ _ _ V.inv va.1 va.2 hrest vm
   clear_value jp
   split
   ·exact wpS_mono (hjp _ _) fun r st' h=>by cases r<;>exact h
   ·exact wpS_mono (hjp _ _) fun r st' h=>by cases r<;>exact h
  ·rintro c st3 ⟨na,nb,out,mg,ac,bc,rfl,V⟩
   exact .inr ⟨_,_,_,_,_,_,rfl,V⟩
  rintro c st3 (⟨r,hr,F⟩ | ⟨na,nb,out,mg,ac,bc,rfl,V⟩)
  ·extract_lets -underBinder rr
   have:rr=some r:=hr
   rw [this]
   exact wpS_pure ⟨r,rfl,F⟩
  dsimp only
  refine wpS_bind (xw fun st4 sm4=>wpS_pure ⟨_,_,_,_,rfl,⟨V.sm.trans sm4,V.inv,V.ha,V.hb,V.hm⟩⟩)
 ·rintro c st1 ⟨na,nb,out,mg,rfl,V⟩
  have:=len V.ha.2 V.hb.2 V.inv
  have:=V.hm
  omega
 ·rintro c st1 ⟨r,hr,F⟩
  extract_lets -underBinder rr
  have:rr=some r:=hr
  rw [this]
  exact wpS_pure (h r st1 F)
end
section
variable {prog:Program} {w:World} {A:Around} {E:Value->Shared->Prop} {s:Shared} {O:KeyOrd} {key:Keyed->O.α} {L P X Y S:List Keyed} {κ:SortKind} {st st' st'':SortSt}
theorem jS{xs:Array Keyed}(e:xs.toList=P++X++S)(hi:i<X.length):xs[P.length+i]?=some X[i]:=by
 rw [← Jp,e,Jy,QJ (by omega),Nat.add_sub_cancel_left,Qk hi,Jr hi]
theorem znz{xs:Array Keyed}{Q:Option Nat->SortSt->Prop}(hA:Asks prog w A s κ L key)(hk:kindOf st=κ)(h0:k0 ∈ L)(e:xs.toList=P++X++S)(hX:∀ x ∈ X,x ∈ L)(hs:Srt key X)(hb:base=P.length)(hn:n=X.length)(hh:hint<n)
  (h:∀ k,k≤X.length->(∀ x ∈ X.take k,bey l (key k0) (key x)=true)->(∀ x ∈ X.drop k,bey l (key k0) (key x)=false)->Q (some k) st):wpS (model prog w) A E s (qx l k0 xs base n hint) Q st:=by
 subst hb hn
 have hg:∀ j (hj:j<X.length),X.getD j (Value.none,Value.none)=X[j]:=fun j hj=>by simp [List.getD,hj]
 refine jb (g:=fun j=>X.getD j (Value.none,Value.none)) hA hk h0 (fun j hj=>?_) (fun j j' hj hj' c=>?_) hh fun k hc=>h k hc.1 (fun x hx=>?_) fun x hx=>?_
 ·show xs[P.length+j]?=some (X.getD j _)/\X.getD j _ ∈ L
  rw [hg j hj]
  exact ⟨jS e hj,hX _ (Kn hj)⟩
 ·dsimp only at c ⊢
  rw [hg j' hj'] at c
  rw [hg j (by omega)]
  rcases Nat.lt_or_ge j j' with d | d
  ·have:=JL.mp hs j j' (by omega) hj' d
   cases l with
   | true=>exact KeyOrd.klt_of_kle_of_klt this c
   | false=>
    have e':O.blt (key k0) (key X[j'])=false:=by simpa [bey] using c
    have:O.blt (key k0) (key X[j])=false:=JI this e'
    show (!O.blt _ _)=true
    rw [this];rfl
  ·obtain rfl:j=j':=by omega
   exact c
 ·obtain ⟨j,hj,rfl⟩:=JV hx
  rw [JW] at hj
  have:=hc.2.1 j (by omega)
  dsimp only at this
  rw [hg j (by omega)] at this
  rw [List.getElem_take];exact this
 ·obtain ⟨j,hj,rfl⟩:=JV hx
  rw [KL] at hj
  have:=hc.2.2 (k+j) (by omega) (by omega)
  dsimp only at this
  rw [hg (k+j) (by omega)] at this
  rw [List.getElem_drop];exact this
theorem jZ(off:Nat):∀ (M:List Keyed) (xs:Array Keyed) (P M0 S:List Keyed) (j:Nat),xs.toList=P++M0++S->M0.length=M.length->P.length=off+j->((M.zipIdx j).foldl (fun a x=>a.setIfInBounds (off+x.snd) x.fst) xs).toList=P++M++S
 | [],xs,P,M0,S,j,e,hl,hp=>by
  have:M0=[]:=Qb.mp hl
  subst this
  exact e
 | m::M,xs,P,M0,S,j,e,hl,hp=>by
  match M0,hl with
  | m0::M0,hl=>
   rw [List.zipIdx_cons,Qx,jZ off M _ (P++[m]) M0 S (j+1) ?_ (QR hl) (by rw [Jh,hp];rfl)]
   ·simp
   ·rw [QK,e]
    dsimp only
    rw [Jy,List.set_append_right _ _ (by omega),hp,Nat.sub_self]
    simp
theorem zet{A1 A2 M B1 B2:List Keyed}{b0 z:Keyed}(hX:Srt key (A1++A2))(hY:Srt key (B1++B2))(hM:Srt key M)(pm:M.Perm (A2++B1))(h1:∀ x ∈ A1,∀ y ∈ B1++B2,O.kle (key x) (key y))(h2:∀ x ∈ A2,∀ y ∈ B2,O.kle (key x) (key y)):Srt key (A1++M++B2):=by
 obtain ⟨a1,a2,a3⟩:=Jz.mp hX
 obtain ⟨b1,b2,b3⟩:=Jz.mp hY
 refine Jz.mpr ⟨Jz.mpr ⟨a1,hM,fun x hx y hy=>?_⟩,b2,fun x hx y hy=>?_⟩
 ·rcases List.mem_append.mp (pm.mem_iff.mp hy) with hy | hy
  ·exact a3 x hx y hy
  ·exact h1 x hx y (Jt _ hy)
 ·rcases List.mem_append.mp hx with hx | hx
  ·exact h1 x hx y (Jl _ hy)
  ·rcases List.mem_append.mp (pm.mem_iff.mp hx) with hx | hx
   ·exact h2 x hx y hy
   ·exact b3 x hx y hy
theorem ext_of{xs:Array Keyed}{P X S:List Keyed}(e:xs.toList=P++X++S)(hi:i=P.length)(hj:j=P.length+X.length):(xs.extract i j).toList=X:=by
 subst hi hj
 rw [zdT,e,Jy,List.drop_left',List.take_left']
 all_goals rfl
theorem zau{Q:PUnit->SortSt->Prop}(h:∀ st1,st2=st1->Q ⟨⟩ st1):wpS (model prog w) A E s (set st2:StateT SortSt Sem PUnit) Q st:=by
 unfold wpS;exact wpAny_pure ⟨rfl,h _ rfl⟩
theorem zax{p1 p2:List (Nat × Nat × Nat)}{Q:Bool->SortSt->Prop}(hA:Asks prog w A s κ L key)(hk:kindOf st=κ)(hL:∀ x ∈ (arrOf st).toList,x ∈ L)(e:(arrOf st).toList=P++X++Y++S)(nX:X≠[])(nY:Y≠[])(sX:Srt key X)(sY:Srt key Y)
  (hp:(pendingOf st).toList=p1++(P.length,X.length,pw)::(P.length+X.length,Y.length,pw2)::p2)(hi:i=p1.length)(hf:failedOf st=none)
  (h:∀ Z st',Z.Perm (X++Y)->Srt key Z->(arrOf st').toList=P++Z++S->(pendingOf st').toList=p1++(P.length,X.length+Y.length,pw)::p2->kindOf st'=κ->failedOf st'=none->Q true st'):wpS (model prog w) A E s (mergeAt' i) Q st:=by
 subst hi
 have g1:(pendingOf st)[p1.length]?=some (P.length,X.length,pw):=by rw [← Array.getElem?_toList,hp];simp
 have g2:(pendingOf st)[p1.length+1]?=some (P.length+X.length,Y.length,pw2):=by
  rw [← Jp,hp,QJ (by omega),Nat.add_sub_cancel_left];rfl
 have er:(((pendingOf st).setIfInBounds p1.length (P.length,X.length+Y.length,pw)).eraseIdxIfInBounds (p1.length+1)).toList=p1++(P.length,X.length+Y.length,pw)::p2:=by
  rw [Array.toList_eraseIdxIfInBounds,QK,hp,List.set_append_right _ _ (Jj _),Nat.sub_self,List.set_cons_zero,List.eraseIdx_append_of_length_le (by omega),Nat.add_sub_cancel_left];rfl
 have eX:(arrOf st).toList=P++X++(Y++S):=by rw [e];simp
 have eY:(arrOf st).toList=(P++X)++Y++S:=e
 have hXL:∀ x ∈ X,x ∈ L:=fun x hx=>hL x (by rw [e];simp [hx])
 have hYL:∀ x ∈ Y,x ∈ L:=fun x hx=>hL x (by rw [e];simp [hx])
 have lX:0<X.length:=List.length_pos_iff.mpr nX
 have lY:0<Y.length:=List.length_pos_iff.mpr nY
 refine wpS_bind (wpS_get ?_)
 extract_lets -underBinder
 rw [g1,g2]
 dsimp (config:={zeta:=false,zetaHave:=false}) only
 refine wpS_bind (zau fun st1 hst1=>?_)
 have k1:kindOf st1=κ:=by rw [← hst1];exact hk
 have f1:failedOf st1=none:=by rw [← hst1];exact hf
 have ar1:arrOf st1=arrOf st:=by rw [← hst1]
 have pe1:(pendingOf st1).toList=p1++(P.length,X.length+Y.length,pw)::p2:=by rw [← hst1];exact er
 have y0:(arrOf st)[P.length+X.length]?=some Y[0]:=by
  have:=jS eY (i:=0) lY
  rw [Jh] at this;exact this
 have hY0:∀ y ∈ Y,O.kle (key Y[0]) (key y):=fun y hy=>by
  obtain ⟨j,hj,rfl⟩:=JV hy
  rcases Nat.eq_zero_or_pos j with rfl | c
  ·exact Km _
  ·exact JL.mp sY 0 j lY hj c
 have same:Srt key (X++Y)->wpS (model prog w) A E s (pure true) Q st1:=fun hs=>wpS_pure (h (X++Y) st1 (List.Perm.refl _) hs (by rw [ar1,e];simp) pe1 k1 f1)
 refine wpS_bind (zL y0 (wpS_bind (znz (P:=P) (X:=X) (S:=Y++S) hA k1 (hYL _ (Kn lY)) eX hXL sX rfl rfl lX fun k hk1 klo khi=>?_)))
 dsimp (config:={zeta:=false,zetaHave:=false}) only
 have kl:∀ x ∈ X.take k,∀ y ∈ Y,O.kle (key x) (key y):=fun x hx y hy=>by
  have:=klo x hx
  have e:O.blt (key Y[0]) (key x)=false:=by simpa [bey] using this
  exact JI (show O.kle (key x) (key Y[0]) from e) (hY0 y hy)
 have kh:∀ x ∈ X.drop k,O.kle (key Y[0]) (key x):=fun x hx=>by
  have:=khi x hx
  have e:O.blt (key Y[0]) (key x)=true:=by simpa [bey] using this
  exact Ka e
 by_cases hz:X.length - k=0
 ·rw [if_pos (beq_iff_eq.mpr hz)]
  refine same (Jz.mpr ⟨sX,sY,fun x hx y hy=>kl x ?_ y hy⟩)
  rw [List.take_of_length_le (by omega)];exact hx
 rw [if_neg (fun z=>hz (beq_iff_eq.mp z))]
 have zl:X.length - 1<X.length:=by omega
 have z0:(arrOf st)[P.length+k+(X.length - k) - 1]?=some X[X.length - 1]:=by
  have:=jS eX zl
  rwa [show P.length+(X.length - 1)=P.length+k+(X.length - k) - 1 by omega] at this
 have hZ:∀ x ∈ X,O.kle (key x) (key X[X.length - 1]):=fun x hx=>by
  obtain ⟨j,hj,rfl⟩:=JV hx
  rcases Nat.lt_or_ge j (X.length - 1) with c | c
  ·exact JL.mp sX j _ hj zl c
  ·have:j=X.length - 1:=by omega
   subst this;exact Km _
 generalize hzz:X[X.length - 1]=z at *
 have zX:z ∈ X:=by rw [← hzz];exact Kn zl
 refine wpS_bind (zL z0 (wpS_bind (znz (P:=P++X) (X:=Y) (S:=S) hA k1 (hXL _ zX) eY hYL sY (by rw [Jh]) rfl (by omega) fun m hm1 mlo mhi=>?_)))
 dsimp (config:={zeta:=false,zetaHave:=false}) only
 have mh:∀ x ∈ X,∀ y ∈ Y.drop m,O.kle (key x) (key y):=fun x hx y hy=>JI (hZ x hx) (mhi y hy)
 by_cases hz2:m=0
 ·rw [if_pos (beq_iff_eq.mpr hz2)]
  subst hz2
  exact same (Jz.mpr ⟨sX,sY,fun x hx y hy=>mh x hx y hy⟩)
 rw [if_neg (fun z=>hz2 (beq_iff_eq.mp z))]
 extract_lets -underBinder xa yb jp
 have tdX:X.take k++X.drop k=X:=Kf k X
 have tdY:Y.take m++Y.drop m=Y:=Kf m Y
 have exa:xa.toList=X.drop k:=ext_of (P:=P++X.take k) (S:=Y++S) (by rw [Jy P,tdX];exact eX) (by rw [Jh,JW];omega) (by rw [Jh,JW,KL];omega)
 have eyb:yb.toList=Y.take m:=ext_of (P:=P++X) (S:=Y.drop m++S) (eY.trans (by rw [show P++X++Y.take m++(Y.drop m++S)=P++X++(Y.take m++Y.drop m)++S by simp only [List.append_assoc],tdY])) (by rw [List.length_append]) (by rw [List.length_append,List.length_take];omega)
 have sxa:xa.size=X.length - k:=by rw [← Jd,exa,KL]
 have syb:yb.size=m:=by rw [← Jd,eyb,JW];omega
 have a1:1≤xa.size:=by omega
 have b1:1≤yb.size:=by omega
 have la:∀ x ∈ xa.toList,x ∈ L:=fun x hx=>hXL x (Ql (exa ▸ hx))
 have lb:∀ x ∈ yb.toList,x ∈ L:=fun x hx=>hYL x (QH (eyb ▸ hx))
 have sa:Srt key xa.toList:=by rw [exa];exact sX.drop k
 have sb:Srt key yb.toList:=by rw [eyb];exact sY.take m
 have hb0:∀ y,yb[0]?=some y->y=Y[0]:=fun y hy=>by
  rw [← Jp,eyb,QQ,if_pos (by omega),Jr lY] at hy
  exact (Js hy).symm
 have hal:∀ y,xa[xa.size - 1]?=some y->y=z:=fun y hy=>by
  rw [← Jp,exa,List.getElem?_drop,Jr (by omega)] at hy
  have:=Js hy
  rw [← this,← hzz]
  congr 1
  omega
 have hl:∀ x ∈ yb.toList,∀ y,xa[xa.size - 1]?=some y->O.kle (key x) (key y):=fun x hx y hy=>by
  rw [hal y hy]
  exact Ka (mlo x (eyb ▸ hx))
 have hjp:∀ (r:Array Keyed) st2,Fin key st1 (xa.toList++yb.toList) r st2->wpS (model prog w) A E s (jp r) Q st2:=by
  intro r st2 F
  obtain ⟨⟨g,rfl⟩,pm,sr⟩:=F
  rw [exa,eyb] at pm
  refine wpS_bind (wpS_modify (wpS_bind (wpS_get ?_)))
  have wb:=jZ (P.length+k) r.toList (arrOf st1) (P++X.take k) (X.drop k++Y.take m) (Y.drop m++S) 0 (by
   rw [ar1,e]
   conv=>lhs;rw [← tdX,← tdY]
   simp only [List.append_assoc]) pm.length_eq.symm (by rw [List.length_append,List.length_take];omega)
  have hfn:(failedOf st1).isNone=true:=by rw [f1];rfl
  refine (show ∀ b:Bool,b=true->wpS (model prog w) A E s (pure b) Q _ from fun b hb=>wpS_pure ?_) _ hfn
  rw [hb]
  refine h (X.take k++r.toList++Y.drop m) _ ?_ (zet (b0:=z) (z:=z) (by rw [tdX];exact sX) (by rw [tdY];exact sY) sr pm (fun x hx y hy=>kl x hx y (by rw [tdY] at hy;exact hy)) fun x hx y hy=>mh x (Ql hx) y hy) ?_ pe1 k1 f1
  ·have:(X.take k++r.toList++Y.drop m).Perm (X.take k++(X.drop k++Y.take m)++Y.drop m):=List.Perm.append_right _ (QE _ pm)
   rw [← Jy,tdX,Jy X,tdY] at this
   exact this
  ·refine wb.trans ?_
   simp only [List.append_assoc]
 clear_value jp
 split
 ·exact wpS_bind (zav hA k1 la lb sa sb a1 b1 (fun x y hx hy=>by
   rw [hb0 x hx]
   exact kh y (by
    rw [← exa]
    obtain ⟨_,e2⟩:=Jw.mp hy
    rw [← e2];simp)) hl hjp)
 ·exact wpS_bind (zaw hA k1 la lb sa sb a1 b1 (fun x hx y hy=>by
   rw [hb0 y hy]
   exact kh x (exa ▸ hx)) hl hjp)
end
section
variable {prog:Program} {w:World} {A:Around} {E:Value->Shared->Prop} {s:Shared} {O:KeyOrd} {key:Keyed->O.α} {L:List Keyed} {κ:SortKind} {st st' st'':SortSt} {xs ys zs:Array Keyed} {lo n m:Nat}
noncomputable def Kx(key:Keyed->O.α)(xs:Array Keyed)(i:Nat):O.α:=key (xs.getD i (Value.none,Value.none))
theorem zbR(h:xs[i]?=ys[j]?):Kx key xs i=Kx key ys j:=by
 unfold Kx
 rw [JC,JC,h]
structure Ch (lo:Nat) (xs ys:Array Keyed):Prop where
 pm:ys.Perm xs
 fx:∀ i,i<lo->ys[i]?=xs[i]?
theorem Ch.refl(lo:Nat)(xs:Array Keyed):Ch lo xs xs:=⟨.refl _,fun _ _=>rfl⟩
theorem Ch.trans(h:Ch lo xs ys)(k:Ch lo ys zs):Ch lo xs zs:=⟨k.pm.trans h.pm,fun i hi=>(k.fx i hi).trans (h.fx i hi)⟩
theorem Ch.size(h:Ch lo xs ys):ys.size=xs.size:=h.pm.size_eq
theorem Ch.mirror(hi:lo≤i)(hj:j≤xs.size):Ch lo xs (mirror xs i j ((j - i) / 2)):=⟨mirror_perm _ _ _ _,fun k hk=>by
 rw [getElem?_mirror_all hj,if_neg (by omega)]⟩
theorem Ch.bubble(hi:lo≤i - d)(hd:d≤i)(hj:i<xs.size):Ch lo xs (bubble xs i d):=⟨bubble_perm _ _ _,fun k hk=>by
 rw [getElem?_bubble hj d hd k,if_neg (by omega),if_neg (by omega)]⟩
structure Cs (κ:SortKind) (L:List Keyed) (lo:Nat) (st st':SortSt):Prop where
 k:kindOf st'=κ
 f:failedOf st'=none
 p:pendingOf st'=pendingOf st
 c:Ch lo (arrOf st) (arrOf st')
 l:∀ x ∈ (arrOf st').toList,x ∈ L
theorem Cs.arr(h:Cs κ L lo st st')(c:Ch lo (arrOf st') xs):Cs κ L lo st (setArr st' xs):=⟨h.k,h.f,h.p,h.c.trans c,fun x hx=>h.l x (by
 have:=c.pm.mem_iff (a:=x)
 rw [← Array.mem_def] at hx ⊢
 exact this.mp hx)⟩
theorem Cs.size(h:Cs κ L lo st st'):(arrOf st').size=(arrOf st).size:=h.c.size
theorem jc{Q:Option Bool->SortSt->Prop}(hA:Asks prog w A s κ L key)(h:Cs κ L lo st st')(hi:i<(arrOf st).size)(hj:j<(arrOf st).size)(hq:Q (some (O.blt (Kx key (arrOf st') i) (Kx key (arrOf st') j))) st'):wpS (model prog w) A E s (ltAt' i j) Q st':=by
 have g:∀ i,i<(arrOf st).size->(arrOf st')[i]?=some ((arrOf st').getD i (Value.none,Value.none))/\(arrOf st').getD i (Value.none,Value.none) ∈ L:=fun i hi=>by
  have hi':i<(arrOf st').size:=by rw [h.size];exact hi
  have e:(arrOf st').getD i (Value.none,Value.none)=(arrOf st')[i]:=by simp [Array.getD,hi']
  rw [e]
  exact ⟨by simp [hi'],h.l _ (by simp)⟩
 rw [ltAt'_eq]
 exact wpS_bind (wpS_get (wpS_bind (zL (g i hi).1 (wpS_bind (zL (g j hj).1 (ja hA h.k (g i hi).2 (g j hj).2 hq))))))
theorem xx{Q:Unit->SortSt->Prop}(h:Cs κ L lo st st')(hi:lo≤i)(hj:j≤(arrOf st).size)(hq:∀ st2,Cs κ L lo st st2->arrOf st2=mirror (arrOf st') i j ((j - i) / 2)->Q () st2):wpS (model prog w) A E s (reverseSlice' i j) Q st':=by
 rw [reverseSlice'_eq]
 exact wpS_modify (hq _ (h.arr (.mirror hi (by rw [h.size];exact hj))) rfl)
noncomputable def Up(key:Keyed->O.α)(xs:Array Keyed)(lo n:Nat):Prop:=∀ i j,i≤j->j<n->O.kle (Kx key xs (lo+i)) (Kx key xs (lo+j))
noncomputable def Dn(key:Keyed->O.α)(xs:Array Keyed)(lo n:Nat):Prop:=∀ i j,i≤j->j<n->O.kle (Kx key xs (lo+j)) (Kx key xs (lo+i))
theorem Up.one:Up key xs lo 1:=fun i j h1 h2=>by
 obtain rfl:i=j:=by omega
 exact Km _
theorem Up.more(h:Up key xs lo n)(h0:1≤n)(hl:O.kle (Kx key xs (lo+n - 1)) (Kx key xs (lo+n))):Up key xs lo (n+1):=fun i j h1 h2=>by
 rcases Nat.lt_or_ge j n with c | c
 ·exact h i j h1 c
 ·obtain rfl:j=n:=by omega
  rcases Nat.lt_or_ge i j with d | d
  ·have:=h i (j - 1) (by omega) (by omega)
   rw [show lo+(j - 1)=lo+j - 1 by omega] at this
   exact JI this hl
  ·obtain rfl:i=j:=by omega
   exact Km _
theorem Dn.more(h:Dn key xs lo n)(h0:1≤n)(hl:O.kle (Kx key xs (lo+n)) (Kx key xs (lo+n - 1))):Dn key xs lo (n+1):=fun i j h1 h2=>by
 rcases Nat.lt_or_ge j n with c | c
 ·exact h i j h1 c
 ·obtain rfl:j=n:=by omega
  rcases Nat.lt_or_ge i j with d | d
  ·have:=h i (j - 1) (by omega) (by omega)
   rw [show lo+(j - 1)=lo+j - 1 by omega] at this
   exact JI hl this
  ·obtain rfl:i=j:=by omega
   exact Km _
theorem zdd(hj:j≤xs.size)(k:Nat):Kx key (mirror xs i j ((j - i) / 2)) k=if i≤k/\k<j then Kx key xs (i+j - 1 - k) else Kx key xs k:=by
 have e:=getElem?_mirror_all (xs:=xs) (i:=i) hj k
 by_cases h:i≤k/\k<j
 ·rw [if_pos h] at e ⊢;exact zbR e
 ·rw [if_neg h] at e ⊢;exact zbR e
theorem xu(hj:j≤xs.size)(he:∀ k,i≤k->k<j->Kx key xs k=Kx key xs (j - 1))(k:Nat):Kx key (mirror xs i j ((j - i) / 2)) k=Kx key xs k:=by
 rw [zdd hj]
 by_cases h:i≤k/\k<j
 ·rw [if_pos h,he (i+j - 1 - k) (by omega) (by omega),he k h.1 h.2]
 ·rw [if_neg h]
theorem zbP{a nrem:Nat}{Q:Option (Option Nat) × Nat->SortSt->Prop}(hA:Asks prog w A s κ L key)(h:Cs κ L lo st st')(hn:lo+nrem≤(arrOf st).size)(h1:1≤a)(h2:a≤nrem)(u:Up key (arrOf st') lo a)
  (hq:∀ n,a≤n->n≤nrem->Up key (arrOf st') lo n->(n=nrem∨O.klt (Kx key (arrOf st') (lo+n)) (Kx key (arrOf st') (lo+n - 1)))->Q (none,n) st'):
  wpS (model prog w) A E s (forIn [a:nrem] ((none,a):Option (Option Nat) × Nat) fun _ c=>do
   let x ← ltAt' (lo+c.2) (lo+c.2 - 1)
   match x with
   | some m=>if m=true then pure (.done (none,c.2)) else pure (.yield (none,c.2+1))
   | _=>pure (.done (some none,c.2))) Q st':=by
 refine wpS_forRange (I:=fun x c st2=>st2=st'/\c=(none,x)/\Up key (arrOf st') lo x) ?_ ?_ ⟨rfl,rfl,u⟩
 ·rintro x c st2 a1 a2 ⟨rfl,rfl,u⟩
  dsimp only
  refine wpS_bind (jc hA h (by omega) (by omega) ?_)
  cases c:O.blt (Kx key (arrOf st2) (lo+x)) (Kx key (arrOf st2) (lo+x - 1)) with
  | true=>exact wpS_pure (hq x a1 (by omega) u (.inr c))
  | false=>exact wpS_pure ⟨rfl,rfl,u.more (by omega) c⟩
 ·rintro c st2 ⟨rfl,rfl,u⟩
  rw [show max a nrem=nrem by omega] at u ⊢
  exact hq nrem h2 (Jj _) u (.inl rfl)
structure Fall (κ:SortKind) (L:List Keyed) (key:Keyed->O.α) (st:SortSt) (lo nrem m q:Nat) (st':SortSt):Prop where
 cs:Cs κ L lo st st'
 hm:m≤nrem
 dn:Dn key (arrOf st') lo m
 hq:q+1≤m
 eq:∀ i,lo+m - (q+1)≤i->i<lo+m->Kx key (arrOf st') i=Kx key (arrOf st') (lo+m - 1)
theorem Fall.zero(h:Cs κ L lo st st')(hm:m≤nrem)(h1:1≤m)(d:Dn key (arrOf st') lo m):Fall κ L key st lo nrem m 0 st':=
 ⟨h,hm,d,h1,fun i a b=>by rw [show i=lo+m - 1 by omega]⟩
theorem zeg{Q:Option Nat->SortSt->Prop}(hA:Asks prog w A s κ L key)(h:Cs κ L lo st st)(hn:lo+nrem≤(arrOf st).size)(h1:1≤nrem)(hq:∀ n st',Cs κ L lo st st'->1≤n->n≤nrem->Up key (arrOf st') lo n->Q (some n) st'):wpS (model prog w) A E s (countRun' lo nrem) Q st:=by
 refine wpS_bind (zbP hA h hn (Jj 1) h1 .one fun n n1 n2 u o=>?_)
 extract_lets -underBinder r0 m0
 show wpS _ _ _ _ (if (n == nrem)=true then _ else _) _ _
 by_cases hz:n=nrem
 ·rw [if_pos (beq_iff_eq.mpr hz)]
  exact wpS_pure (hq n st h n1 n2 u)
 rw [if_neg (fun z=>hz (beq_iff_eq.mp z))]
 have lt:O.klt (Kx key (arrOf st) (lo+n)) (Kx key (arrOf st) (lo+n - 1)):=o.resolve_left hz
 extract_lets -underBinder jp
 have hjp:∀ u st1,Cs κ L lo st st1->Dn key (arrOf st1) lo (n+1)->wpS (model prog w) A E s (jp u) Q st1:=by
  intro u st1 c1 d1
  refine wpS_bind (wpS_lift (wpAny_rule ⟨rfl,?_⟩))
  extract_lets -underBinder n2 q0
  refine wpS_bind (wpS_mono (wpS_forRange (I:=fun x c st2=>∃ q,c=(none,x,q)/\Fall κ L key st lo nrem x q st2) (Q:=fun c st2=>∃ m q,c=(none,m,q)/\Fall κ L key st lo nrem m q st2) ?_ ?_ ⟨0,rfl,.zero c1 (show n+1≤nrem by omega) (show 1≤n+1 by omega) d1⟩) ?_)
  ·rintro x c st2 a1 a2 ⟨q,rfl,F⟩
   dsimp only
   have fq:=F.hq
   have hs2:lo+x≤(arrOf st2).size:=by rw [F.cs.size];omega
   refine wpS_bind (jc hA F.cs (by omega) (by omega) ?_)
   cases c:O.blt (Kx key (arrOf st2) (lo+x)) (Kx key (arrOf st2) (lo+x - 1)) with
   | true=>
    have d2:=F.dn.more (by omega) (Ka c)
    dsimp only
    rw [if_pos rfl]
    by_cases hz:q > 0
    ·rw [if_pos hz]
     refine wpS_bind (xx F.cs (by omega) (by omega) fun st3 c3 e3=>wpS_pure ⟨0,rfl,.zero c3 a2 (by omega) fun i j a b=>?_⟩)
     rw [e3,xu hs2 F.eq,xu hs2 F.eq]
     exact d2 i j a b
    ·rw [if_neg hz]
     exact wpS_pure ⟨0,rfl,.zero F.cs a2 (by omega) d2⟩
   | false=>
    dsimp only
    rw [if_neg Jk]
    refine wpS_bind (jc hA F.cs (by omega) (by omega) ?_)
    cases c2:O.blt (Kx key (arrOf st2) (lo+x - 1)) (Kx key (arrOf st2) (lo+x)) with
    | true=>exact wpS_pure ⟨x,q,rfl,F⟩
    | false=>
     have ex:Kx key (arrOf st2) (lo+x)=Kx key (arrOf st2) (lo+x - 1):=KeyOrd.kle_antisymm c2 c
     refine wpS_pure ⟨q+1,rfl,⟨F.cs,a2,F.dn.more (by omega) (by rw [ex];exact Km _),by omega,fun i b1 b2=>?_⟩⟩
     rw [show lo+(x+1) - 1=lo+x by omega]
     rcases Nat.lt_or_ge i (lo+x) with d | d
     ·rw [ex];exact F.eq i (by omega) d
     ·rw [show i=lo+x by omega]
  ·rintro c st2 ⟨q,rfl,F⟩
   exact ⟨_,q,rfl,F⟩
  rintro c st2 ⟨m,q,rfl,F⟩
  have fq:=F.hq
  have fm:=F.hm
  have hs2:lo+m≤(arrOf st2).size:=by rw [F.cs.size];omega
  extract_lets -underBinder r3 s3 m3 q3
  have er3:r3=none:=rfl
  rw [er3]
  dsimp (config:={zeta:=false,zetaHave:=false}) only
  extract_lets -underBinder jp3
  have hj3:∀ u st3,Cs κ L lo st st3->Dn key (arrOf st3) lo m->wpS (model prog w) A E s (jp3 u) Q st3:=by
   intro u st3 c3 d3
   have hs3:lo+m≤(arrOf st3).size:=by rw [c3.size];omega
   refine wpS_bind (xx c3 (Jj _) (show lo+m≤_ by omega) fun st4 c4 e4=>?_)
   refine wpS_bind (zbP hA c4 hn (show 1≤m by omega) fm (fun i j a b=>?_) fun k k1 k2 u4 _=>wpS_pure (hq k st4 c4 (by have:m≤k:=k1;omega) k2 u4))
   have e4:arrOf st4=mirror (arrOf st3) lo (lo+m) ((lo+m - lo) / 2):=e4
   have b:j<m:=b
   rw [e4,zdd hs3,zdd hs3,if_pos (by omega),if_pos (by omega)]
   have:=d3 (m - 1 - j) (m - 1 - i) (by omega) (by omega)
   rw [show lo+(m - 1 - j)=lo+(lo+m) - 1 - (lo+j) by omega,show lo+(m - 1 - i)=lo+(lo+m) - 1 - (lo+i) by omega] at this
   exact this
  clear_value jp3
  show wpS _ _ _ _ (if q > 0 then _ else _) _ _
  by_cases hz:q > 0
  ·rw [if_pos hz]
   refine wpS_bind (xx F.cs (show lo≤lo+m - (q+1) by omega) (show lo+m≤_ by omega) fun st3 c3 e3=>hj3 _ st3 c3 fun i j a b=>?_)
   have e3:arrOf st3=mirror (arrOf st2) (lo+m - (q+1)) (lo+m) ((lo+m - (lo+m - (q+1))) / 2):=e3
   rw [e3,xu hs2 F.eq,xu hs2 F.eq]
   exact F.dn i j a b
  ·rw [if_neg hz]
   exact hj3 _ st2 F.cs F.dn
 clear_value jp
 show wpS _ _ _ _ (if n > 1 then _ else _) _ _
 have hs:lo+n≤(arrOf st).size:=by omega
 by_cases hg:n > 1
 ·rw [if_pos hg]
  refine wpS_bind (jc hA h (show lo<_ by omega) (show lo+n - 1<_ by omega) ?_)
  show wpS _ _ _ _ (if O.blt (Kx key (arrOf st) lo) (Kx key (arrOf st) (lo+n - 1))=true then _ else _) _ _
  cases c:O.blt (Kx key (arrOf st) lo) (Kx key (arrOf st) (lo+n - 1)) with
  | true=>
   rw [if_pos rfl]
   exact wpS_pure (hq n st h n1 n2 u)
  | false=>
   rw [if_neg Jk]
   have al:∀ i,lo≤i->i<lo+n->Kx key (arrOf st) i=Kx key (arrOf st) (lo+n - 1):=fun i i1 i2=>by
    have a1:=u 0 (i - lo) (by omega) (by omega)
    have a2:=u (i - lo) (n - 1) (by omega) (by omega)
    rw [show lo+(i - lo)=i by omega,show lo+0=lo by omega] at a1
    rw [show lo+(i - lo)=i by omega,show lo+(n - 1)=lo+n - 1 by omega] at a2
    exact KeyOrd.kle_antisymm a2 (JI (show O.kle (Kx key (arrOf st) (lo+n - 1)) (Kx key (arrOf st) lo) from c) a1)
   refine wpS_bind (xx h (Jj _) (show lo+n≤_ by omega) fun st2 c2 e2=>hjp _ st2 c2 ?_)
   have e2:arrOf st2=mirror (arrOf st) lo (lo+n) ((lo+n - lo) / 2):=e2
   have d0:Dn key (arrOf st) lo n:=fun i j a b=>by rw [al (lo+i) (by omega) (by omega),al (lo+j) (by omega) (by omega)];exact Km _
   have d1:=d0.more (by omega) (Ka lt)
   exact fun i j a b=>by rw [e2,xu hs al,xu hs al];exact d1 i j a b
 ·rw [if_neg hg]
  obtain rfl:n=1:=by omega
  have d0:Dn key (arrOf st) lo 1:=fun i j a b=>by
   obtain rfl:i=j:=by omega
   exact Km _
  exact hjp _ st h (d0.more (Jj _) (Ka lt))
end
section
variable {prog:Program} {w:World} {A:Around} {E:Value->Shared->Prop} {s:Shared} {O:KeyOrd} {key:Keyed->O.α} {L T V:List Keyed} {κ:SortKind} {st st' st'':SortSt} {xs ys zs:Array Keyed} {lo n m:Nat}
theorem zhM{Q:Bool->SortSt->Prop}(hA:Asks prog w A s κ L key)(h:Cs κ L lo st st')(hn:lo+n≤(arrOf st).size)(h1:1≤ok)(h2:ok≤n)(u:Up key (arrOf st') lo ok)(hq:∀ st2,Cs κ L lo st st2->Up key (arrOf st2) lo n->Q true st2):wpS (model prog w) A E s (binarySort' lo n ok) Q st':=by
 have e1:max ok 1=ok:=by omega
 refine wpS_bind (wpS_mono (wpS_forRange (I:=fun x c st2=>c=(none,())/\Cs κ L lo st st2/\Up key (arrOf st2) lo x) (Q:=fun c st2=>c=(none,())/\Cs κ L lo st st2/\Up key (arrOf st2) lo n) ?_ ?_ ⟨rfl,h,by rw [e1];exact u⟩) ?_)
 ·rintro k c st2 k1 k2 ⟨rfl,c2,u2⟩
  dsimp only
  refine wpS_bind (wpS_mono (wpS_forRange (I:=fun x c st3=>st3=st2/\∃ l r,c=(none,l,r)/\l≤r/\r≤k/\r - l≤k - x/\(∀ i,i<l->O.kle (Kx key (arrOf st2) (lo+i)) (Kx key (arrOf st2) (lo+k)))/\∀ i,r≤i->i<k->O.klt (Kx key (arrOf st2) (lo+k)) (Kx key (arrOf st2) (lo+i)))
   (Q:=fun c st3=>st3=st2/\∃ l,c=(none,l,l)/\l≤k/\(∀ i,i<l->O.kle (Kx key (arrOf st2) (lo+i)) (Kx key (arrOf st2) (lo+k)))/\∀ i,l≤i->i<k->O.klt (Kx key (arrOf st2) (lo+k)) (Kx key (arrOf st2) (lo+i))) ?_ ?_ ⟨rfl,0,k,rfl,by omega,by omega,by omega,fun i hi=>absurd hi (by omega),fun i a b=>absurd a (by omega)⟩) ?_)
  ·rintro x c st3 _ hx ⟨rfl,l,r,rfl,a1,a2,a3,a4,a5⟩
   dsimp only
   by_cases hg:l ≥ r
   ·rw [if_pos hg]
    obtain rfl:l=r:=by omega
    exact wpS_pure ⟨rfl,l,rfl,a2,a4,a5⟩
   ·rw [if_neg hg]
    refine wpS_bind (jc hA c2 (by omega) (by omega) ?_)
    cases c:O.blt (Kx key (arrOf st3) (lo+k)) (Kx key (arrOf st3) (lo+(l+r) / 2)) with
    | true=>exact wpS_pure ⟨rfl,l,(l+r) / 2,rfl,by omega,by omega,by omega,a4,fun i b1 b2=>KeyOrd.klt_of_klt_of_kle c (u2 _ i b1 b2)⟩
    | false=>exact wpS_pure ⟨rfl,(l+r) / 2+1,r,rfl,by omega,a2,by omega,fun i b1=>JI (u2 i ((l+r) / 2) (by omega) (by omega)) c,a5⟩
  ·rintro c st3 ⟨rfl,l,r,rfl,a1,a2,a3,a4,a5⟩
   obtain rfl:l=r:=by omega
   exact ⟨rfl,l,rfl,a2,a4,a5⟩
  rintro c st3 ⟨rfl,l,rfl,a2,a4,a5⟩
  dsimp only
  have hsz:lo+k<(arrOf st3).size:=by rw [c2.size];omega
  refine wpS_bind (wpS_modify (wpS_pure ⟨rfl,c2.arr (.bubble (by omega) (by omega) hsz),?_⟩))
  have kb:∀ i,Kx key (bubble (arrOf st3) (lo+k) (lo+k - (lo+l))) i=if i=lo+l then Kx key (arrOf st3) (lo+k) else if lo+l<i/\i≤lo+k then Kx key (arrOf st3) (i - 1) else Kx key (arrOf st3) i:=fun i=>by
   have e:=getElem?_bubble hsz (lo+k - (lo+l)) (by omega) i
   rw [show lo+k - (lo+k - (lo+l))=lo+l by omega] at e
   by_cases b1:i=lo+l
   ·rw [if_pos b1] at e ⊢;exact zbR e
   ·rw [if_neg b1] at e ⊢
    by_cases b2:lo+l<i/\i≤lo+k
    ·rw [if_pos b2] at e ⊢;exact zbR e
    ·rw [if_neg b2] at e ⊢;exact zbR e
  intro i j i1 i2
  show O.kle (Kx key (bubble (arrOf st3) (lo+k) (lo+k - (lo+l))) (lo+i)) (Kx key (bubble (arrOf st3) (lo+k) (lo+k - (lo+l))) (lo+j))
  rw [kb,kb]
  by_cases b1:i=l
  ·rw [if_pos (by omega)]
   by_cases b2:j=l
   ·rw [if_pos (by omega)];exact Km _
   ·rw [if_neg (by omega),if_pos (by omega),show lo+j - 1=lo+(j - 1) by omega]
    exact Ka (a5 _ (by omega) (by omega))
  ·rw [if_neg (by omega)]
   by_cases b3:l<i
   ·rw [if_pos (by omega),if_neg (by omega),if_pos (by omega),show lo+i - 1=lo+(i - 1) by omega,show lo+j - 1=lo+(j - 1) by omega]
    exact u2 _ _ (by omega) (by omega)
   ·rw [if_neg (by omega)]
    by_cases b2:j=l
    ·rw [if_pos (by omega)];exact a4 i (by omega)
    ·rw [if_neg (by omega)]
     by_cases b4:l<j
     ·rw [if_pos (by omega),show lo+j - 1=lo+(j - 1) by omega];exact u2 _ _ (by omega) (by omega)
     ·rw [if_neg (by omega)];exact u2 _ _ i1 (by omega)
 ·rintro c st2 ⟨rfl,c2,u2⟩
  rw [show max (max ok 1) n=n by omega] at u2
  exact ⟨rfl,c2,u2⟩
 ·rintro c st2 ⟨rfl,c2,u2⟩
  exact wpS_pure (hq st2 c2 u2)
noncomputable def Runs(key:Keyed->O.α):List (Nat × Nat × Nat)->Nat->List Keyed->Prop
 | [],_,U=>U=[]
 | t::r,off,U=>t.1=off/\1≤t.2.1/\∃ X V,U=X++V/\X.length=t.2.1/\Srt key X/\Runs key r (off+t.2.1) V
theorem Runs.split:∀ {p q:List (Nat × Nat × Nat)} {off:Nat} {U:List Keyed},Runs key (p++q) off U->∃ U1 U2,U=U1++U2/\Runs key p off U1/\Runs key q (off+U1.length) U2
 | [],q,off,U,h=>⟨[],U,rfl,rfl,h⟩
 | t::p,q,off,U,h=>by
  obtain ⟨h1,h0,X,V,rfl,h3,h4,h5⟩:=h
  obtain ⟨U1,U2,rfl,g1,g2⟩:=Runs.split h5
  refine ⟨X++U1,U2,by simp,⟨h1,h0,X,U1,rfl,h3,h4,g1⟩,?_⟩
  rw [Jh,h3,← Nat.add_assoc];exact g2
theorem Runs.join:∀ {p q:List (Nat × Nat × Nat)} {off:Nat} {U1 U2:List Keyed},Runs key p off U1->Runs key q (off+U1.length) U2->Runs key (p++q) off (U1++U2)
 | [],q,off,U1,U2,h,k=>by
  have:U1=[]:=h
  subst this;exact k
 | t::p,q,off,U1,U2,h,k=>by
  obtain ⟨h1,h0,X,V,rfl,h3,h4,h5⟩:=h
  refine ⟨h1,h0,X,V++U2,by simp,h3,h4,Runs.join h5 ?_⟩
  rw [Jh,h3,← Nat.add_assoc] at k;exact k
theorem Runs.len:∀ {p:List (Nat × Nat × Nat)} {off:Nat} {U:List Keyed},Runs key p off U->p.length≤U.length
 | [],off,U,h=>Kb _
 | t::p,off,U,h=>by
  obtain ⟨h1,h0,X,V,rfl,h3,h4,h5⟩:=h
  have:=Runs.len h5
  rw [Jh,JF];omega
structure RI (κ:SortKind) (L:List Keyed) (key:Keyed->O.α) (T V:List Keyed) (st:SortSt):Prop where
 k:kindOf st=κ
 f:failedOf st=none
 l:∀ x ∈ (arrOf st).toList,x ∈ L
 pm:(arrOf st).toList.Perm T
 r:∃ U,(arrOf st).toList=U++V/\Runs key (pendingOf st).toList 0 U
theorem jy{Q:Bool->SortSt->Prop}(hA:Asks prog w A s κ L key)(R:RI κ L key T V st)(hi:i+1<(pendingOf st).size)(hq:∀ st',RI κ L key T V st'->(pendingOf st').size+1=(pendingOf st).size->Q true st'):wpS (model prog w) A E s (mergeAt' i) Q st:=by
 obtain ⟨U,e,hr⟩:=R.r
 generalize hp:(pendingOf st).toList=p at hr
 have hl:p.length=(pendingOf st).size:=by rw [← hp,Jd]
 have d1:p=p.take i++p[i]'(by omega)::p[i+1]'(by omega)::p.drop (i+2):=by
  conv=>lhs;rw [← Kf i p,Qj (show i<p.length by omega),Qj (show i+1<p.length by omega)]
 have li:i=(p.take i).length:=by rw [JW];omega
 generalize p.take i=p1 at *
 generalize p.drop (i+2)=p2 at *
 generalize p[i]'(by omega)=ta at *
 generalize p[i+1]'(by omega)=tb at *
 subst d1
 obtain ⟨U1,W,rfl,r1,a1,a0,X,W1,rfl,a3,a4,b1,b0,Y,W2,rfl,b3,b4,r2⟩:=Runs.split hr
 rw [KR] at a1 b1 r2
 obtain ⟨ta1,ta2,pw⟩:=ta
 obtain ⟨tb1,tb2,pw2⟩:=tb
 dsimp only at a1 a0 a3 b1 b0 b3 r2
 subst a1 a3 b1 b3
 refine zax (P:=U1) (X:=X) (Y:=Y) (S:=W2++V) hA R.k R.l (by rw [e];simp) (fun z=>by rw [z] at a0;cases a0) (fun z=>by rw [z] at b0;cases b0) a4 b4 hp li R.f fun Z st' z1 z2 z3 z4 z5 z6=>?_
 have zl:Z.length=X.length+Y.length:=by rw [z1.length_eq,Jh]
 have pmz:(arrOf st').toList.Perm (arrOf st).toList:=by
  rw [z3,e]
  have:(U1++Z++(W2++V)).Perm (U1++(X++Y)++(W2++V)):=List.Perm.append_right _ (QE _ z1)
  simpa using this
 refine hq st' ⟨z5,z6,fun x hx=>R.l x (pmz.mem_iff.mp hx),pmz.trans R.pm,U1++Z++W2,by rw [z3];simp,?_⟩ ?_
 ·rw [z4,Jy]
  refine Runs.join r1 ⟨by show U1.length=_;omega,by show 1≤X.length+Y.length;omega,Z,W2,rfl,zl,z2,?_⟩
  show Runs key p2 (0+U1.length+(X.length+Y.length)) W2
  rw [show 0+U1.length+(X.length+Y.length)=U1.length+X.length+Y.length by omega];exact r2
 ·have l1:(pendingOf st').size=(pendingOf st').toList.length:=Array.length_toList.symm
  have l2:(pendingOf st).size=(pendingOf st).toList.length:=Array.length_toList.symm
  rw [l1,l2,z4,hp]
  simp only [List.length_append,List.length_cons];omega
theorem zkr{U R V:List Keyed}(e:xs.toList=U++R++V)(u:Up key xs U.length R.length):Srt key R:=by
 rw [Srt,JL]
 intro i j hi hj hij
 have g:∀ i (hi:i<R.length),Kx key xs (U.length+i)=key R[i]:=fun i hi=>by
  unfold Kx
  rw [JC,jS e hi];rfl
 have:=u i j (by omega) hj
 rwa [g i hi,g j hj] at this
theorem Runs.like:∀ {p q:List (Nat × Nat × Nat)} {off:Nat} {U:List Keyed},q.map (fun t=>(t.1,t.2.1))=p.map (fun t=>(t.1,t.2.1))->Runs key p off U->Runs key q off U
 | [],[],off,U,e,h=>h
 | [],_::_,off,U,e,h=>by cases e
 | _::_,[],off,U,e,h=>by cases e
 | t::p,t'::q,off,U,e,h=>by
  rw [Jm,Jm,KU,Prod.mk.injEq] at e
  obtain ⟨⟨e1,e2⟩,e3⟩:=e
  obtain ⟨h1,h0,X,V,h2,h3,h4,h5⟩:=h
  exact ⟨by rw [e1];exact h1,by rw [e2];exact h0,X,V,h2,by rw [e2];exact h3,h4,Runs.like e3 (by rw [e2];exact h5)⟩
theorem zbp{f:Nat × Nat × Nat->Nat × Nat × Nat}(hf:∀ t,((f t).1,(f t).2.1)=(t.1,t.2.1)):∀ (p:List (Nat × Nat × Nat)) (i:Nat),(p.modify i f).map (fun t=>(t.1,t.2.1))=p.map (fun t=>(t.1,t.2.1))
 | [],i=>by cases i<;>rfl
 | t::p,0=>by
  exact congrArg (·::p.map fun t=>(t.1,t.2.1)) (hf t)
 | t::p,i+1=>by
  show _::(p.modify i f).map _=_::_
  rw [zbp hf p i]
theorem RI.len(R:RI κ L key T V st):∀ {U:List Keyed},(arrOf st).toList=U++V->U.length+V.length=T.length:=fun {U} e=>by
 rw [← R.pm.length_eq,e,Jh]
noncomputable def RQ(κ:SortKind)(L:List Keyed)(key:Keyed->O.α)(T:List Keyed)(x:Nat)(r:ForInStep (Option Unit × Nat))(st:SortSt):Prop:=match r with
 | .done c=>c.1=none/\RI κ L key T [] st
 | .yield c=>∃ lo V,c=(none,lo)/\RI κ L key T V st/\lo+V.length=T.length/\x+1≤lo
theorem wpS_runs{Q:Unit->SortSt->Prop}(hA:Asks prog w A s κ L key)(hk:kindOf st=κ)(hf:failedOf st=none)(hp:pendingOf st=#[])(hl:∀ x ∈ (arrOf st).toList,x ∈ L)
  (h:∀ st',(arrOf st').toList.Perm (arrOf st).toList->Srt key (arrOf st').toList->failedOf st'=none->Q () st'):wpS (model prog w) A E s sortRuns' Q st:=by
 generalize hT:(arrOf st).toList=T at h
 have hTs:(arrOf st).size=T.length:=by rw [← hT,Jd]
 have R0:RI κ L key T T st:=⟨hk,hf,hl,by rw [hT],[],by rw [hT];rfl,by rw [hp];rfl⟩
 refine wpS_bind (wpS_get ?_)
 extract_lets -underBinder size minrun lo
 have hsize:size=T.length:=hTs
 clear_value size minrun
 subst hsize
 refine wpS_bind (wpS_mono (wpS_forRange (I:=fun x c st'=>∃ lo V,c=(none,lo)/\RI κ L key T V st'/\lo+V.length=T.length/\x≤lo) (Q:=fun c st'=>c.1=none/\RI κ L key T [] st') ?_ ?_ ⟨0,T,rfl,R0,by omega,by omega⟩) ?_)
 ·rintro x c st1 _ hx ⟨lo,V,rfl,R,hV,hxl⟩
  extract_lets -underBinder lo'
  show wpS _ _ _ _ (if lo ≥ T.length then _ else _) _ _
  by_cases hz:lo ≥ T.length
  ·rw [if_pos hz]
   have:V=[]:=Qb.mp (by omega)
   subst this
   exact wpS_pure ⟨rfl,R⟩
  rw [if_neg hz]
  have sz1:(arrOf st1).size=T.length:=by rw [← Jd,R.pm.length_eq]
  have C0:Cs κ L lo st1 st1:=⟨R.k,R.f,rfl,.refl _ _,R.l⟩
  obtain ⟨U,e,hr⟩:=R.r
  have hU:U.length=lo:=by have:=R.len e;omega
  refine wpS_bind (zeg hA C0 (show lo+(T.length - lo)≤_ by omega) (show 1≤T.length - lo by omega) fun n st2 c2 n1 n2 u2=>?_)
  have n2:n≤T.length - lo:=n2
  dsimp (config:={zeta:=false,zetaHave:=false}) only
  extract_lets -underBinder n0 jp
  have hjp:∀ u n st2,Cs κ L lo st1 st2->1≤n->n≤T.length - lo->Up key (arrOf st2) lo n->wpS (model prog w) A E s (jp u n) (RQ κ L key T x) st2:=by
   intro u n st2 c2 n1 n2 u2
   have sz2:(arrOf st2).toList.length=T.length:=by rw [Jd,c2.size,sz1]
   have eU:(arrOf st2).toList.take lo=U:=by
    apply KY
    intro i
    rw [QQ]
    by_cases hi:i<lo
    ·rw [if_pos hi,Jp,c2.c.fx i hi,← Jp,e,Qk (by omega)]
    ·rw [if_neg hi,Qh (by omega)]
   have e2:(arrOf st2).toList=U++(((arrOf st2).toList.drop lo).take n++(arrOf st2).toList.drop (lo+n)):=by
    conv=>lhs;rw [← Kf lo (arrOf st2).toList,eU,← Kf n ((arrOf st2).toList.drop lo),List.drop_drop]
   generalize hX:((arrOf st2).toList.drop lo).take n=X at e2
   generalize (arrOf st2).toList.drop (lo+n)=W at e2
   have lX:X.length=n:=by rw [← hX,JW,KL];omega
   have sX:Srt key X:=zkr (U:=U) (V:=W) (by rw [e2];simp) (by rw [hU,lX];exact u2)
   have R2:RI κ L key T (X++W) st2:=⟨c2.k,c2.f,c2.l,(Array.perm_iff_toList_perm.mp c2.c.pm).trans R.pm,U,e2,by rw [c2.p];exact hr⟩
   refine wpS_bind (wpS_get ?_)
   extract_lets -underBinder jp2
   have hj2:∀ u st3,RI κ L key T (X++W) st3->wpS (model prog w) A E s (jp2 u) (RQ κ L key T x) st3:=by
    intro u st3 R3
    obtain ⟨U3,e3,r3⟩:=R3.r
    have l3:U3.length=lo:=by
     have:=R3.len e3
     have:=R2.len e2
     omega
    have lW:=R3.len e3
    rw [Jh] at lW
    refine wpS_bind (wpS_modify (wpS_pure ⟨lo+n,W,rfl,⟨R3.k,R3.f,R3.l,R3.pm,U3++X,by show (arrOf st3).toList=_;rw [e3];simp,?_⟩,by omega,by omega⟩))
    show Runs key ((pendingOf st3).push (lo,n,0)).toList 0 (U3++X)
    rw [Kq]
    exact Runs.join r3 ⟨by show lo=_;omega,n1,X,[],by simp,lX,sX,rfl⟩
   clear_value jp2
   split
   ·rename_i s1 n1' pz hb
    extract_lets -underBinder pw
    refine wpS_bind (wpS_mono (wpS_forRange (I:=fun _ c st3=>c=(none,())/\RI κ L key T (X++W) st3) (Q:=fun c st3=>c=(none,())/\RI κ L key T (X++W) st3) ?_ (fun c st3 hc=>hc) ⟨rfl,R2⟩) ?_)
    ·rintro x3 c st3 _ _ ⟨rfl,R3⟩
     refine wpS_bind (wpS_get ?_)
     extract_lets -underBinder p
     split
     ·rename_i older hb3
      split
      ·exact wpS_pure ⟨rfl,R3⟩
      ·have hps:p.size > 1:=by
        by_cases hg:p.size > 1
        ·exact hg
        ·rw [if_neg hg] at hb3;cases hb3
       refine wpS_bind (jy hA R3 (show p.size - 2+1<p.size by omega) fun st4 R4 _=>?_)
       exact wpS_pure ⟨rfl,R4⟩
     ·exact wpS_pure ⟨rfl,R3⟩
    ·rintro c st3 ⟨rfl,R3⟩
     refine wpS_bind (wpS_modify (hj2 _ _ ⟨R3.k,R3.f,R3.l,R3.pm,?_⟩))
     obtain ⟨U3,e3,r3⟩:=R3.r
     refine ⟨U3,e3,Runs.like ?_ r3⟩
     show ((pendingOf st3).modify _ _).toList.map _=_
     rw [Array.toList_modify]
     exact zbp (f:=fun x=>(x.1,x.2.1,pw)) (fun t=>rfl) _ _
   ·exact hj2 _ _ R2
  clear_value jp
  split
  ·rename_i hlt
   refine wpS_bind (wpS_lift (wpAny_rule ⟨rfl,?_⟩))
   extract_lets -underBinder force
   have hforce:force=min (T.length - lo) minrun:=rfl
   have hlt:n<minrun:=hlt
   refine wpS_bind (zhM hA c2 (show lo+force≤_ by omega) n1 (by show n≤force;omega) u2 fun st3 c3 u3=>?_)
   exact wpS_mono (hjp _ _ _ c3 (by omega) (by omega) u3) fun r st' h=>by cases r<;>exact h
  ·exact wpS_mono (hjp _ _ _ c2 n1 n2 u2) fun r st' h=>by cases r<;>exact h
 ·rintro c st1 ⟨lo,V,rfl,R,hV,hxl⟩
  have:V=[]:=Qb.mp (by omega)
  subst this
  exact ⟨rfl,R⟩
 rintro c st1 ⟨hc,R⟩
 extract_lets -underBinder r1 lo1
 have er1:r1=none:=hc
 rw [er1]
 dsimp (config:={zeta:=false,zetaHave:=false}) only
 refine wpS_bind (wpS_mono (wpS_forRange (I:=fun x c st'=>c=(none,())/\RI κ L key T [] st'/\(pendingOf st').size≤max 1 (T.length - x)) (Q:=fun c st'=>c=(none,())/\RI κ L key T [] st'/\(pendingOf st').size≤1) ?_ ?_ ⟨rfl,R,?_⟩) ?_)
 ·rintro x c st2 _ hx ⟨rfl,R2,hs⟩
  extract_lets -underBinder r2
  refine wpS_bind (wpS_get ?_)
  extract_lets -underBinder p i before i2
  have ep:p.size=(pendingOf st2).size:=rfl
  show wpS _ _ _ _ (if p.size≤1 then _ else _) _ _
  by_cases hz:p.size≤1
  ·rw [if_pos hz]
   exact wpS_pure ⟨rfl,R2,hz⟩
  rw [if_neg hz]
  have hi2:i2≤p.size - 2:=by
   show (if _ then _ else _)≤_
   split
   ·show p.size - 2 - 1≤_;omega
   ·exact Jj _
  clear_value i2
  refine wpS_bind (jy hA R2 (show i2+1<(pendingOf st2).size by omega) fun st3 R3 h3=>?_)
  exact wpS_pure ⟨rfl,R3,by omega⟩
 ·rintro c st2 ⟨rfl,R2,hs⟩
  exact ⟨rfl,R2,by omega⟩
 ·obtain ⟨U,e,hr⟩:=R.r
  have h1:=Runs.len hr
  have h2:=R.len e
  rw [Jd] at h1
  simp only [List.length_nil] at h2
  omega
 ·rintro c st2 ⟨rfl,R2,hs⟩
  refine wpS_pure (h st2 R2.pm ?_ R2.f)
  obtain ⟨U,e,hr⟩:=R2.r
  rw [e,JS]
  have hl:(pendingOf st2).toList.length≤1:=by rw [Jd];exact hs
  generalize (pendingOf st2).toList=p at hr hl
  match p,hr,hl with
  | [],hr,_=>
   have:U=[]:=hr
   subst this;exact .nil
  | [t],hr,_=>
   obtain ⟨h1,h0,X,V,rfl,h3,h4,h5⟩:=hr
   have:V=[]:=h5
   subst this
   rw [JS];exact h4
end
end TS
namespace F
open PySem PySem.Spec PySem.W PyProof.Rows L2
noncomputable def ke:Key->List Int
 | .inl n=>[n]
 | .inr x=>x.cps.toList.map Int.ofNat++[-1]
noncomputable def enc:List Key->List Int
 | []=>[]
 | k::r=>ke k++enc r
noncomputable def shp(k:List Key):List Bool:=k.map Sum.isLeft
noncomputable def znq:KeyOrd where
 α:=List Int
 blt a b:=decide (a<b)
 irrefl a:=decide_eq_false (List.lt_irrefl a)
 trans a b c h k:=decide_eq_true (List.lt_trans (of_decide_eq_true h) (of_decide_eq_true k))
 negTrans a b c h:=by
  by_cases z:a<b
  ·exact .inl (decide_eq_true z)
  ·exact .inr (decide_eq_true (List.lt_of_le_of_lt (QB.mp z) (of_decide_eq_true h)))
 total a b h k:=List.le_antisymm (QB.mp (of_decide_eq_false k)) (QB.mp (of_decide_eq_false h))
theorem zcn:∀ (l a b:List Int),(l++a<l++b) ↔ a<b
 | [],a,b=>Iff.rfl
 | x::l,a,b=>by
  rw [List.cons_append,List.cons_append,KA,← zcn l a b]
  exact ⟨fun h=>h.elim (fun z=>absurd z (Int.lt_irrefl x)) (·.2),fun h=>.inr ⟨rfl,h⟩⟩
theorem jf:∀ (x y:List Nat) (a b:List Int),x≠y->((x.map Int.ofNat++[-1])++a<(y.map Int.ofNat++[-1])++b ↔ x<y)
 | [],[],a,b,h=>absurd rfl h
 | [],y::ys,a,b,_=>by
  refine ⟨fun _=>List.nil_lt_cons _ _,fun _=>?_⟩
  show (-1:Int)::a<Int.ofNat y::_
  rw [KA]
  exact .inl (by have:=Int.natCast_nonneg y;show (-1:Int)<(y:Int);omega)
 | x::xs,[],a,b,_=>by
  refine ⟨fun h=>?_,fun h=>absurd h (List.not_lt_nil _)⟩
  have h:Int.ofNat x::(xs.map Int.ofNat++[-1]++a)<(-1:Int)::b:=h
  rw [KA] at h
  exfalso
  have e:Int.ofNat x=(x:Int):=rfl
  rw [e] at h
  omega
 | x::xs,y::ys,a,b,h=>by
  show Int.ofNat x::(xs.map Int.ofNat++[-1]++a)<Int.ofNat y::(ys.map Int.ofNat++[-1]++b) ↔ _
  rw [KA,KA]
  have e1:Int.ofNat x<Int.ofNat y ↔ x<y:=Int.ofNat_lt
  have e2:Int.ofNat x=Int.ofNat y ↔ x=y:=⟨fun z=>Int.ofNat.inj z,fun z=>by rw [z]⟩
  rw [e1,e2]
  by_cases z:x=y
  ·subst z
   rw [jf xs ys a b fun q=>h (by rw [q])]
  ·simp [z]
theorem zcR{x y:Str}(h:x≠y):x.cps.toList≠y.cps.toList:=fun z=>h (by
 obtain ⟨⟨xl⟩⟩:=x
 obtain ⟨⟨yl⟩⟩:=y
 simp only at z
 rw [z])
theorem zad:∀ {k k':List Key},shp k=shp k'->enc k=enc k'->k=k'
 | [],[],_,_=>rfl
 | [],_::_,h,_=>by cases h
 | _::_,[],h,_=>by cases h
 | .inl a::k,.inl b::k',h,e=>by
  have e:a::enc k=b::enc k':=e
  have h:true::shp k=true::shp k':=h
  rw [KU] at e h
  rw [e.1,zad h.2 e.2]
 | .inl a::k,.inr b::k',h,e=>by cases h
 | .inr a::k,.inl b::k',h,e=>by cases h
 | .inr x::k,.inr y::k',h,e=>by
  have h2:false::shp k=false::shp k':=h
  rw [KU] at h2
  have e:(x.cps.toList.map Int.ofNat++[-1])++enc k=(y.cps.toList.map Int.ofNat++[-1])++enc k':=e
  by_cases z:x=y
  ·subst z
   rw [zad h2.2 (List.append_cancel_left e)]
  ·exfalso
   have n:=zcR z
   have l1:=jf _ _ (enc k) (enc k') n
   have l2:=jf _ _ (enc k') (enc k) n.symm
   rw [e] at l1
   rw [← e] at l2
   have a1:¬ x.cps.toList<y.cps.toList:=fun q=>List.lt_irrefl _ (l1.mpr q)
   have a2:¬ y.cps.toList<x.cps.toList:=fun q=>List.lt_irrefl _ (l2.mpr q)
   exact n (List.le_antisymm (QB.mp a2) (QB.mp a1))
section
variable {prog:Program} {w:World} {A:Around} {E:Value->Shared->Prop} {s:Shared} {Q:Bool->Shared->Prop}
theorem zdK{fin:Bool}(hf:fin=false):∀ {k k':List Key} {us vs:List Value} {i:Nat},PySem.ItemsAre (zC prog w) k us->PySem.ItemsAre (zC prog w) k' vs->shp k=shp k'->Q (decide (enc k<enc k')) s->KatLex prog w A true fin Q (us.zip vs) i s
 | _,_,_,_,i,.nil,.nil,_,h=>kat_nil (by rw [hf];exact h)
 | _,_,_,_,i,.nil,.cons _ _,e,_=>by cases e
 | _,_,_,_,i,.cons _ _,.nil,e,_=>by cases e
 | _,_,_,_,i,.cons (k:=a) (v:=u) (ks:=k) h1 r1,.cons (k:=b) (v:=v) (ks:=k') h2 r2,e,h=>by
  have e':a.isLeft=b.isLeft/\shp k=shp k':=by
   have e:a.isLeft::shp k=b.isLeft::shp k':=e
   rwa [KU] at e
  refine kat_cons ((zC prog w).eqBool h1 h2 (kat_go (fun z=>kat_yes (zdK hf r1 r2 e'.2 ?_)) (fun z=>kat_no ?_)))
  ·have:=of_decide_eq_true z
   subst this
   have q:decide (enc (a::k)<enc (a::k'))=decide (enc k<enc k'):=by
    rw [decide_eq_decide];exact zcn _ _ _
   rw [← q];exact h
  ·have ne:=of_decide_eq_false z
   rcases zH h1 with ⟨n,t,rfl,rfl⟩ | ⟨x,t,rfl,rfl⟩
   ·rcases zH h2 with ⟨m,t',rfl,rfl⟩ | ⟨y,t',rfl,rfl⟩
    ·have q:decide (enc (.inl n::k)<enc (.inl m::k'))=decide (n<m):=by
      rw [decide_eq_decide]
      show n::enc k<m::enc k' ↔ _
      rw [KA]
      exact ⟨fun z=>z.elim id fun z=>absurd (by rw [z.1]) ne,.inl⟩
     rw [q] at h
     cases i with
     | zero=>exact oneLt_int h
     | succ i=>exact kat_one _ _ (lt_int h)
    ·cases e'.1
   ·rcases zH h2 with ⟨m,t',rfl,rfl⟩ | ⟨y,t',rfl,rfl⟩
    ·cases e'.1
    ·have q:decide (enc (.inr x::k)<enc (.inr y::k'))=decide (x.cps.toList<y.cps.toList):=by
      rw [decide_eq_decide]
      exact jf _ _ _ _ (zcR fun z=>ne (by rw [z]))
     rw [q] at h
     cases i with
     | zero=>exact oneLt_str h
     | succ i=>exact kat_one _ _ (lt_str h)
theorem ItemsM.len{k:List Key}{vs:List Value}(h:PySem.ItemsAre (zC prog w) k vs):vs.length=k.length:=by
 induction h with
 | nil=>rfl
 | cons _ _ ih=>rw [JF,JF,ih]
theorem ziW(h1:IsTupleKey (zC prog w) s.heap k l)(h2:IsTupleKey (zC prog w) s.heap k' b)(e:shp k=shp k')(h:Q (decide (enc k<enc k')) s):wpAny (model prog w) A (keyLt' (tuples' true) (.ref l) (.ref b)) Q E s:=by
 obtain ⟨o,its,n,g1,_,g3,g4⟩:=h1
 obtain ⟨o',its',n',g1',_,g3',g4'⟩:=h2
 refine kat_lt g1 g3 g1' g3' (zdK ?_ g4 g4' e h)
 have l1:=ItemsM.len g4
 have l2:=ItemsM.len g4'
 have l3:k.length=k'.length:=by have:=congrArg List.length e;simpa [shp] using this
 rw [Jd] at l1 l2
 exact decide_eq_false (by omega)
open Classical in
noncomputable def rdK(prog:Program)(w:World)(h:Heap)(v:Value):List Key:=if H:∃ k l,v=.ref l/\IsTupleKey (zC prog w) h k l then H.choose else []
theorem qc(hk:IsTupleKey (zC prog w) h k l):rdK prog w h (.ref l)=k:=by
 have H:∃ k l',Value.ref l=.ref l'/\IsTupleKey (zC prog w) h k l':=⟨k,l,rfl,hk⟩
 unfold rdK
 rw [dif_pos H]
 obtain ⟨l',e,hk'⟩:=H.choose_spec
 cases e
 obtain ⟨o,its,n,g1,_,g3,g4⟩:=hk
 obtain ⟨o',its',n',g1',_,g3',g4'⟩:=hk'
 rw [g1] at g1';cases g1'
 rw [g3] at g3';cases g3'
 exact PySem.ItemsAre.inj g4' g4
structure TupsX (prog:Program) (w:World) (h:Heap) (a:Addr) (vs:List Value) (ks:List (List Key)):Prop where
 len:vs.length=ks.length
 at':∀ i,i<vs.length->∃ l,vs.getD i Value.none=.ref l/\l≠a/\IsTupleKey (zC prog w) h (ks.getD i []) l
 alike:∀ i j,i<ks.length->j<ks.length->shp (ks.getD i [])=shp (ks.getD j [])
 ne:∀ i,i<ks.length->ks.getD i []≠[]
theorem TupsX.other{h h':Heap}(x:TupsX prog w h a vs ks)(k:∀ l o,l≠a->h.get? l=some o->h'.get? l=some o):TupsX prog w h' a vs ks:=
 ⟨x.len,fun i hi=>let ⟨l,e1,e2,e3⟩:=x.at' i hi;⟨l,e1,e2,xi e3 fun o ho=>k l o e2 ho⟩,x.alike,x.ne⟩
theorem u6{h:Heap}:∀ {vs:List Value} {ks:List (List Key)},vs.length=ks.length->(∀ i,i<vs.length->∃ l,vs.getD i Value.none=.ref l/\IsTupleKey (zC prog w) h (ks.getD i []) l)->(∀ k ∈ ks,k≠[])->∃ fs,KatTups h vs fs/\fs.length=vs.length/\∀ v ∈ fs,∃ k r,k::r ∈ ks/\vW k v=true
 | [],ks,_,_,_=>⟨[],.nil,rfl,fun v hv=>nomatch hv⟩
 | v::vs,[],e,_,_=>nomatch e
 | v::vs,k::ks,e,hh,hn=>by
  obtain ⟨fs,g1,g2,g3⟩:=u6 (vs:=vs) (ks:=ks) (QR e) (fun i hi=>hh (i+1) (Nat.succ_lt_succ hi)) fun k hk=>hn k (Jg _ hk)
  obtain ⟨l,e1,o,its,n,a1,a2,a3,a4⟩:=hh 0 (Kj _)
  have e1':v=.ref l:=e1
  subst e1'
  have a4':PySem.ItemsAre (zC prog w) k its.toList:=a4
  cases hk:k with
  | nil=>exact absurd hk (hn k Jf)
  | cons x r=>
   rw [hk] at a4'
   generalize hi:its.toList=L at a4'
   cases a4' with
   | cons h1 h2=>
    rename_i u us
    refine ⟨u::fs,.cons a1 a2 a3 (by rw [← Jp,hi];rfl) g1,by rw [JF,JF,g2],fun v hv=>?_⟩
    rcases List.mem_cons.mp hv with rfl | hv
    ·exact ⟨x,r,Jf,h1⟩
    ·obtain ⟨y,r',y1,y2⟩:=g3 v hv
     exact ⟨y,r',Jg _ y1,y2⟩
theorem zjH{α β:Type}(f:α->β):∀ {l' l:List β},l'.Perm l->∀ q:List α,l=q.map f->∃ p:List α,p.Perm q/\l'=p.map f:=by
 intro l' l h
 induction h with
 | nil=>intro q e;exact ⟨[],by rw [List.map_eq_nil_iff.mp e.symm],rfl⟩
 | cons x _ ih=>
  intro q e
  cases q with
  | nil=>cases e
  | cons y q=>
   rw [Jm,KU] at e
   obtain ⟨p,p1,p2⟩:=ih q e.2
   exact ⟨y::p,p1.cons y,by rw [Jm,e.1,p2]⟩
 | swap x y l=>
  intro q e
  cases q with
  | nil=>cases e
  | cons a q=>
   cases q with
   | nil=>cases e
   | cons b q=>
    rw [Jm,Jm,KU,KU] at e
    exact ⟨b::a::q,.swap _ _ _,by rw [Jm,Jm,e.1,e.2.1,e.2.2]⟩
 | trans _ _ ih1 ih2=>
  intro q e
  obtain ⟨p,p1,p2⟩:=ih2 q e
  obtain ⟨p',p3,p4⟩:=ih1 p p2
  exact ⟨p',p3.trans p1,p4⟩
end
section
variable {prog:Program} {w:World} {A:Around} {E:Value->Shared->Prop} {s:Shared}
theorem zeu{vs:List Value}{ks:List (List Key)}{P:PySem.Fin->Shared->Prop}(ho:s.heap.get? a=some (seqObj "list" vs.toArray n))(hH:TupsX prog w s.heap a vs ks)(h64:vs.length≤1000)
  (h:∀ p:List Nat,p.Perm (List.range vs.length)->(p.map (ks.getD · [])).Pairwise (fun x y=>¬ enc y<enc x)->P (.done (.ret .none)) { s with heap:=sortedHeap s.heap a vs (p.map fun i=>vs.getD i Value.none).toArray }):
  wpAny (model prog w) A (Builtin.«list.sort» ⟨[.ref a],[]⟩) P E s:=by
 have hz:vs.toArray.size≤sizeLine:=by rw [Jv,sizeLine_eq];omega
 obtain ⟨e1,ho1⟩:∃ e1,(s.heap.update a (Obj.mapSeq fun _=>(#[]:Array Value))).get? a=some (seqObj "list" #[] e1):=⟨_,get?_update_seq ho fun _=>#[]⟩
 rw [list_sort_plain]
 refine wpAny_bind (listItems_at ho rfl (wpAny_bind (listUpdate_at ho rfl ?_ hz (Kb _))))
 refine wpAny_bind (seqEpoch_at ho1 rfl (wpAny_bind (wpAny_newTuple ?_ (by show vs.length≤_;rw [sizeLine_eq];omega))))
 refine wpAny_bind (wpAny_newList (wpAny_holding ?_) (Kb _))
 generalize hh3:((s.heap.update a (Obj.mapSeq fun _=>(#[]:Array Value))).push (seqObj "tuple" vs.toArray 0)).push (seqObj "list" #[] 0)=h3
 have hsh:∀ out,sortedHeap s.heap a vs out=h3.update a (Obj.mapSeq fun _=>out):=fun out=>by rw [← hh3];rfl
 have ho3:h3.get? a=some (seqObj "list" #[] e1):=by rw [← hh3];exact Jc _ (Jc _ ho1)
 have hH3:TupsX prog w h3 a vs ks:=hH.other fun l o hl e=>by
  rw [← hh3]
  exact Jc _ (Jc _ ((Heap.get?_update_ne _ _ _ _ hl).trans e))
 show wpAny (model prog w) A _ P E { s with heap:=h3 }
 dsimp only
 let f:Nat->Keyed:=fun i=>(vs.getD i Value.none,vs.getD i Value.none)
 have eT:(vs.toArray.zip vs.toArray).toList=(List.range vs.length).map f:=by
  rw [Array.toList_zip]
  apply List.ext_getElem
  ·simp
  ·intro i h1 h2
   have hi:i<vs.length:=by simpa using h1
   simp [f,hi]
 have fin:∀ (st:SortSt) (p:List Nat),p.Perm (List.range vs.length)->(p.map (ks.getD · [])).Pairwise (fun x y=>¬ enc y<enc x)->(arrOf st).toList=p.map f->failedOf st=none->
   wpAny (model prog w) A (do
    let sorted:=(arrOf st).map (·.2)
    let touched:=(← seqEpoch a) != e1
    Builtin.List.listUpdate (.ref a) fun _=>sorted
    if let some e:=failedOf st then rule "list.sort.comparison-raised";throw e
    if touched then rule "list.sort.modified";raiseError "ValueError" "list modified during sort"
    ret .none) P E { s with heap:=h3 }:=by
  intro st p hp hs' hout hf
  have hout:(arrOf st).map (·.2)=(p.map fun i=>vs.getD i Value.none).toArray:=by
   apply Array.toList_inj.mp
   rw [Array.toList_map,hout,Kr];rfl
  dsimp only
  rw [hout]
  refine wpAny_bind (seqEpoch_at ho3 rfl (wpAny_bind (listUpdate_at ho3 rfl ?_ (Kb _) ?_)))
  ·rw [hf]
   simp only [bne_self_eq_false,Bool.false_eq_true,if_false]
   refine wpAny_pure ?_
   have:=h p hp hs'
   rw [hsh] at this
   exact this
  ·rw [Jv,Je,hp.length_eq,KZ,sizeLine_eq];omega
 by_cases h2:vs.toArray.size<2
 ·rw [if_pos h2,if_pos h2]
  refine wpAny_bind (wpAny_pure (wpAny_bind (wpAny_pure ?_)))
  rw [Jv] at h2
  refine fin _ (List.range vs.length) (List.Perm.refl _) ?_ eT rfl
  match hv:vs.length,h2 with
  | 0,_=>exact .nil
  | 1,_=>exact .cons (by simp) .nil
 ·rw [if_neg h2,if_neg h2]
  have h2':2≤vs.length:=by rw [Jv] at h2;omega
  have hkl:=hH3.len
  obtain ⟨fs,k1,k2,k3⟩:=u6 (prog:=prog) (w:=w) (h:=h3) hkl (fun i hi=>let ⟨l,a1,_,a3⟩:=hH3.at' i hi;⟨l,a1,a3⟩) (fun k hk=>by
   obtain ⟨i,hi,rfl⟩:=JV hk
   have:=hH3.ne i hi
   simpa [List.getD,hi] using this)
  have sh:∀ k ∈ ks,shp k=shp (ks.getD 0 []):=fun k hk=>by
   obtain ⟨i,hi,rfl⟩:=JV hk
   have:=hH3.alike i 0 hi (by omega)
   simpa [List.getD,hi] using this
  obtain ⟨T,hT1,hT2,hT3⟩:∃ T:Value,(∀ v ∈ fs,Looks (model prog w) h3 (typeOf v) T)/\(T == T)=true/\(T != Value.type "tuple")=true:=by
   cases hk0:(shp (ks.getD 0 [])) with
   | nil=>exact absurd (List.map_eq_nil_iff.mp hk0) (hH3.ne 0 (by omega))
   | cons b r=>
    have key:∀ v ∈ fs,∃ k,vW k v=true/\k.isLeft=b:=fun v hv=>by
     obtain ⟨k,r',m1,m2⟩:=k3 v hv
     have:=sh _ m1
     rw [hk0] at this
     have:k.isLeft::shp r'=b::r:=this
     rw [KU] at this
     exact ⟨k,m2,this.1⟩
    cases b with
    | true=>
     refine ⟨.type "int",fun v hv=>?_,rfl,rfl⟩
     obtain ⟨k,m1,m2⟩:=key v hv
     rcases zH m1 with ⟨i,t,rfl,rfl⟩ | ⟨x,t,rfl,rfl⟩
     ·exact .now
     ·cases m2
    | false=>
     refine ⟨.type "str",fun v hv=>?_,rfl,rfl⟩
     obtain ⟨k,m1,m2⟩:=key v hv
     rcases zH m1 with ⟨i,t,rfl,rfl⟩ | ⟨x,t,rfl,rfl⟩
     ·cases m2
     ·exact .now
  refine wpAny_bind (kat_kind k1 (by omega) hT1 hT2 ?_)
  rw [hT3]
  have hA:TS.Asks (O:=znq) prog w A { s with heap:=h3 } (tuples' true) ((List.range vs.length).map f) (fun x=>enc (rdK prog w h3 x.1)):=fun x y Q hx hy hq=>by
   obtain ⟨i,hi,rfl⟩:=Jo.mp hx
   obtain ⟨j,hj,rfl⟩:=Jo.mp hy
   obtain ⟨l,a1,_,a3⟩:=hH3.at' i (JA.mp hi)
   obtain ⟨l',b1,_,b3⟩:=hH3.at' j (JA.mp hj)
   have hq:Q (decide (enc (rdK prog w h3 (vs.getD i Value.none))<enc (rdK prog w h3 (vs.getD j Value.none)))) { s with heap:=h3 }:=hq
   show wpAny _ _ (keyLt' _ (vs.getD i Value.none) (vs.getD j Value.none)) _ _ _
   rw [a1,b1] at hq ⊢
   rw [qc a3,qc b3] at hq
   exact ziW a3 b3 (hH3.alike i j (by rw [← hkl];exact JA.mp hi) (by rw [← hkl];exact JA.mp hj)) hq
  have run:=TS.wpS_runs (prog:=prog) (w:=w) (A:=A) (E:=E) (s:={ s with heap:=h3 }) (st:=SortSt.mk' (tuples' true) (vs.toArray.zip vs.toArray) #[] 7 none) (Q:=fun _ st'=>(arrOf st').toList.Perm ((List.range vs.length).map f)/\TS.Srt (O:=znq) (fun x=>enc (rdK prog w h3 x.1)) (arrOf st').toList/\failedOf st'=none) hA rfl rfl rfl (fun x hx=>by rw [← eT];exact hx) (fun st' q1 q2 q3=>⟨by rw [← eT];exact q1,q2,q3⟩)
  unfold wpS at run
  refine wpAny_bind (wpAny_mono run ?_ fun _ _ e=>e)
  rintro ⟨⟨⟩,st⟩ s' ⟨rfl,c1,c2,c3⟩
  obtain ⟨p,p1,p2⟩:=zjH f c1 _ rfl
  refine fin st p p1 ?_ p2 c3
  rw [p2] at c2
  have c2:=JJ.mp c2
  rw [JJ]
  refine c2.imp_of_mem fun {i j} hi hj z=>?_
  obtain ⟨l,a1,_,a3⟩:=hH3.at' i (JA.mp (p1.mem_iff.mp hi))
  obtain ⟨l',b1,_,b3⟩:=hH3.at' j (JA.mp (p1.mem_iff.mp hj))
  have z:decide (enc (rdK prog w h3 (vs.getD j Value.none))<enc (rdK prog w h3 (vs.getD i Value.none)))=false:=z
  rw [a1,b1,qc a3,qc b3] at z
  exact of_decide_eq_false z
end
end F
namespace L2
open PySem PySem.Spec PySem.W PyProof.Rows F
section
variable {X:Cx}
noncomputable def TuL(K:PySem.W.Frag)(H:Hp)(xs:List V)(ks:List (List Key)):Prop:=xs.length=ks.length/\∀ i,i<xs.length->∃ a,xs.getD i .non=.ref a/\SqT K H a ((ks.getD i []).map kV)
theorem zmr{s:Shared}(I:Inv X pins σ H s){xs:List V}{its:List Value}{ks:List (List Key)}(v1:Vals xs its)(h:TuL X.K H xs ks):∀ i,i<ks.length->∃ l,its.getD i Value.none=.ref l/\xs.getD i .non=.ref l/\PySem.IsTupleKey (zC X.prog X.w) s.heap (ks.getD i []) l:=fun i hi=>by
 obtain ⟨hlk,hpr⟩:=h
 obtain ⟨a,e1,e2⟩:=hpr i (by omega)
 have r:=zdg v1 i (by omega)
 rw [e1] at r
 have r':its.getD i Value.none=Value.ref a:=r
 obtain ⟨is,ri,⟨o,ho,hc,n,hd⟩,_⟩:=I.tuple e2
 exact ⟨a,r',e1,o,_,n,ho,hc,hd,uq ri⟩
noncomputable def okM(ks:List (List Key)):Bool:=ks.all fun k=>!k.isEmpty && (shp k == shp (ks.headD []))
theorem zcv{ks:List (List Key)}(h:okM ks=true)(hi:i<ks.length):ks.getD i []≠[]/\shp (ks.getD i [])=shp (ks.headD []):=by
 have:=QI.mp h ks[i] (Kn hi)
 rw [JR] at this
 have e:ks.getD i []=ks[i]:=by simp [List.getD,hi]
 rw [e]
 exact ⟨fun z=>by rw [z] at this;simp at this,beq_iff_eq.mp this.2⟩
end
end L2
namespace F
open PySem PySem.Spec PyProof.Rows L2
noncomputable def zeO(a:List Key):List (List Key)->List (List Key)
 | []=>[a]
 | b::r=>if enc b<enc a then b::zeO a r else a::b::r
noncomputable def vP(ks:List (List Key)):List (List Key):=ks.foldr zeO []
theorem ur(a:List Key):∀ r:List (List Key),(zeO a r).Perm (a::r)
 | []=>.refl _
 | b::r=>by
  unfold zeO
  split
  ·exact ((ur a r).cons b).trans (.swap a b r)
  ·exact .refl _
theorem vc:∀ ks:List (List Key),(vP ks).Perm ks
 | []=>.refl _
 | k::ks=>(ur k (vP ks)).trans ((vc ks).cons k)
theorem jF(a:List Key):∀ r:List (List Key),r.Pairwise (fun x y=>¬ enc y<enc x)->(zeO a r).Pairwise fun x y=>¬ enc y<enc x
 | [],_=>List.pairwise_singleton _ _
 | b::r,h=>by
  unfold zeO
  split
  ·rename_i hb
   refine JM.mpr ⟨fun y hy=>?_,jF a r (JM.mp h).2⟩
   rcases List.mem_cons.mp ((ur a r).mem_iff.mp hy) with rfl | hy
   ·exact fun z=>List.lt_irrefl _ (List.lt_trans hb z)
   ·exact (JM.mp h).1 y hy
  ·rename_i hb
   refine JM.mpr ⟨fun y hy=>?_,h⟩
   rcases List.mem_cons.mp hy with rfl | hy
   ·exact hb
   ·exact fun z=>hb (List.lt_of_le_of_lt (QB.mp ((JM.mp h).1 y hy)) z)
theorem uC:∀ ks:List (List Key),(vP ks).Pairwise fun x y=>¬ enc y<enc x
 | []=>.nil
 | k::ks=>jF k _ (uC ks)
theorem zaL{xs ks:List (List Key)}(hs:∀ k ∈ ks,shp k=b)(p:xs.Perm ks)(h:xs.Pairwise fun x y=>¬ enc y<enc x):vP ks=xs:=
 List.Perm.eq_of_pairwise (le:=fun x y=>¬ enc y<enc x) (fun x y hx hy h1 h2=>zad ((hs x ((vc ks).mem_iff.mp hx)).trans (hs y (p.mem_iff.mp hy)).symm) (List.le_antisymm (QB.mp h1) (QB.mp h2))) (uC ks) h ((vc ks).trans p.symm)
noncomputable def zdJ:Key->PV
 | .inl i=>.int i
 | .inr x=>.str x
noncomputable def tPV(k:List Key):PV:=.tup (k.map zdJ)
noncomputable def tkI:List PV->Option (List Key)
 | []=>some []
 | p::ps=>(znt p).bind fun k=>(tkI ps).map (k::·)
noncomputable def zcf:List PV->Option (List (List Key))
 | []=>some []
 | p::ps=>match p with
  | .tup qs=>(tkI qs).bind fun k=>(zcf ps).map (k::·)
  | _=>none
theorem zfH:∀ {ps:List PV} {k:List Key},tkI ps=some k->ps=k.map zdJ
 | [],k,e=>by cases e;rfl
 | p::ps,k,e=>by
  unfold tkI at e
  replace e:=Ja.mp e;obtain ⟨x,hx,e⟩:=e
  obtain ⟨r,hr,rfl⟩:=Kc.mp e
  rw [Jm,← zfH hr]
  cases p<;>cases hx<;>rfl
theorem zdk:∀ {qs:List PV} {ks:List (List Key)},zcf qs=some ks->qs=ks.map tPV
 | [],ks,e=>by cases e;rfl
 | q::qs,ks,e=>by
  unfold zcf at e
  split at e
  case h_2=>cases e
  replace e:=Ja.mp e;obtain ⟨x,hx,e⟩:=e
  obtain ⟨r,hr,rfl⟩:=Kc.mp e
  rw [Jm,← zdk hr,tPV,← zfH hx]
theorem zdl:∀ k:List Key,tkI (k.map zdJ)=some k
 | []=>rfl
 | k::r=>by
  rw [Jm]
  unfold tkI
  rw [zdl r]
  cases k<;>rfl
theorem zaH:∀ ks:List (List Key),zcf (ks.map tPV)=some ks
 | []=>rfl
 | k::r=>by
  rw [Jm]
  unfold zcf
  rw [zaH r]
  dsimp only [tPV]
  rw [zdl];rfl
theorem zgT{K:PySem.W.Frag}{H:Hp}:∀ {k:List Key} {xs:List V} {B:List Addr},Rps K H (k.map zdJ) xs B->B=[]/\xs=k.map kV
 | [],xs,B,r=>by
  obtain ⟨rfl,rfl⟩:=r.inv0
  exact ⟨rfl,rfl⟩
 | k::ks,xs,B,r=>by
  obtain ⟨v,xs',A1,A2,rfl,rfl,r1,r2⟩:=r.inv
  obtain ⟨rfl,rfl⟩:=zgT r2
  cases k with
  | inl i=>obtain ⟨rfl,rfl⟩:=r1.I;exact ⟨rfl,rfl⟩
  | inr x=>obtain ⟨rfl,rfl⟩:=r1.S;exact ⟨rfl,rfl⟩
theorem zdj{K:PySem.W.Frag}{H:Hp}:∀ {ks:List (List Key)} {xs:List V} {B:List Addr},Rps K H (ks.map tPV) xs B->B=[]/\TuL K H xs ks
 | [],xs,B,r=>by
  obtain ⟨rfl,rfl⟩:=r.inv0
  exact ⟨rfl,rfl,fun i hi=>absurd hi (Kk _)⟩
 | k::ks,xs,B,r=>by
  obtain ⟨v,xs',A1,A2,rfl,rfl,r1,r2⟩:=r.inv
  obtain ⟨ad,ys,rfl,hT,r3⟩:=Rp.T r1
  obtain ⟨rfl,rfl⟩:=zgT r3
  obtain ⟨rfl,g1,g2⟩:=zdj r2
  refine ⟨rfl,by rw [JF,JF,g1],fun i hi=>?_⟩
  cases i with
  | zero=>exact ⟨ad,rfl,hT⟩
  | succ i=>exact g2 i (KH hi)
section
variable {X:Cx} {κ:Nat->Option Nat} {G:Hp} {c:Cat} {e:Expr} {fs:FA} {pos p1:Pos}
theorem ziN{ks:List (List Key)}(h:okM ks=true):∀ k ∈ ks,shp k=shp (ks.headD []):=fun k hk=>by
 have:=QI.mp h k hk
 rw [JR] at this
 exact beq_iff_eq.mp this.2
end
end F
namespace L2
open PySem PySem.Spec PySem.W PyProof.Rows F
end L2
namespace F
open PySem PySem.Spec PyProof.Rows L2
end F
namespace F
open PySem PySem.Spec PySem.W PyProof.Rows PySem.Calls
end F
namespace L2
open PySem PySem.Spec PySem.W PyProof.Rows F
end L2
namespace F
open PySem PySem.Spec PyProof.Rows L2
section
variable {X:Cx} {κ:Nat->Option Nat} {G:Hp} {c1:Cat} {e:Expr} {f:FE} {pos:Pos}
theorem psI(i:Nat)(hN:X.N.Nodup)(he:PE X e te)(hi:X.N[i]?=some x:=by rfl)(hx:Loc X.env.scope x:=by first | exact .inl rfl | exact .inr rfl)(hs:swapsWith e (some (.Name x pos')) pos.line X.env=pure false:=by rfl)(hf:X.fn x=true∨X.env.scope.names.lookup x=some .local:=by first | exact .inl rfl | exact .inr rfl | assumption):
  PS X (.Assign [.Name x pos'] e pos) (uA te (wt i)):=zkL hN hi hx he hs hf
theorem vgI(i:Nat)(hN:X.N.Nodup)(hk:κ i=none:=by rfl)(hi:X.N[i]?=some x:=by rfl)(hx:Loc X.env.scope x:=by first | exact .inl rfl | exact .inr rfl)(hf:X.fn x=true∨X.env.scope.names.lookup x=some .local:=by first | exact .inl rfl | exact .inr rfl | assumption):VG X κ G [i] (.Name x pos) (zJ i):=zie i hk (zdw hN hi hx hf)
theorem vx(i:Nat)(h:PE X (.Name x pos) (jM i))(hk:κ i=none:=by rfl):VE X κ G .sh (.Name x pos) (zA i):=zmf i hk h
end
section
noncomputable def zol:Expr->List Str
 | .Name x _=>[x]
 | _=>[]
noncomputable def zok:Expr->List Str
 | .Name x _=>[x]
 | .Tuple es _ _=>es.flatMap zol
 | _=>[]
noncomputable def tgN:Expr->List Str
 | .Name x _=>[x]
 | .Tuple es _ _=>es.flatMap zok
 | _=>[]
variable {X:Cx} {κ:Nat->Option Nat} {G:Hp} {c c1:Cat} {e:Expr} {es:List Expr} {f:FE} {fs:FA} {pos:Pos}
theorem zhX(he:VE X κ G (.mv L) e f)(h0:0 ∉ L):VS X κ G (.Return (some e) pos) (yI f):=zjW he h0
theorem zko(h:VE X κ G (.mv L1) e f)(hr:VA X κ G (.mv L2) es fs)(hL:∀ l ∈ L1,l ∉ L2)(hs:starEach (e::es) X.env=(false,eval e X.env)::starEach es X.env:=by rfl):VA X κ G (.mv (L1++L2)) (e::es) (zB f fs):=zjC h hr hL hs
noncomputable def OpT(X:Cx)(op:CmpOp)(g:PV->PV->Option PV):Prop:=∃ r,OpR X (compareOp op) r/\OpV X.K r g
noncomputable def OpB(X:Cx)(op:Operator)(g:PV->PV->Option PV):Prop:=∃ r,OpR X (binaryOp op) r/\OpV X.K r g
variable {a b d:Expr} {fa fb fd:FE} {c2 c3:Cat} {g g':PV->PV->Option PV}
theorem zkf(h:OpB X op g)(ha:VE X κ G c1 a fa)(hb:VE X κ G c2 b fb):VE X κ G (.mv []) (.BinOp a op b pos) (fOp g fa fb):=h.elim fun _ h=>zmh h.1 h.2 ha hb
theorem zig(h:OpT X op g)(ha:VE X κ G c1 a fa)(hb:VE X κ G c2 b fb)(hm:behindInMarks op b=false:=by first | exact zcx _ | with_unfolding_all rfl):VE X κ G (.mv []) (.Compare a [op] [b] pos) (fOp g fa fb):=h.elim fun _ h=>zkm h.1 h.2 ha hb hm
theorem zhT(h:OpT X op g)(ha:VE X κ G c1 a fa)(hb:VE X κ G c2 b fb)(hm:behindInMarks op b=false:=by first | exact zcx _ | with_unfolding_all rfl):VT X κ G (.Compare a [op] [b] pos) (fT (fOp g fa fb)):=h.elim fun _ h=>zjV h.1 h.2 ha hb hm
theorem zej(h:OpT X op g)(h':OpT X op' g')(ha:VE X κ G c1 a fa)(hb:VE X κ G c2 b fb)(hd:VE X κ G c3 d fd)(hm:lastMarks [op,op'] [b,d]=false:=by rfl):VT X κ G (.Compare a [op,op'] [b,d] pos) (fT (yY g g' fa fb fd)):=h.elim fun _ h=>h'.elim fun _ h'=>zfs h.1 h'.1 h.2 h'.2 ha hb hd hm
theorem zel(h:OpT X op g)(h':OpT X op' g')(ha:VE X κ G c1 a fa)(hb:VE X κ G c2 b fb)(hd:VE X κ G c3 d fd)(hm:lastMarks [op,op'] [b,d]=false:=by rfl):VE X κ G (.mv []) (.Compare a [op,op'] [b,d] pos) (yY g g' fa fb fd):=h.elim fun _ h=>h'.elim fun _ h'=>zfA h.1 h'.1 h.2 h'.2 ha hb hd hm
theorem zei{l:Nat}{op:CmpOp}{fa:FI}(h:OpT X op g)(ha:VEi X κ G l a fa)(hb:VE X κ G c b fb)(hm:behindInMarks op b=false:=by exact zcx _):VTi X κ G l (.Compare a [op] [b] pos) (zhj g fa fb):=h.elim fun _ h=>zfq h.1 h.2 ha hb hm
variable {n:Nat} {js Bs:List Nat} {scope:Scope} {elt tg iter:Expr} {ifs:List Expr} {bnd:PV->En->Option En} {t:FT}
theorem zkk(hi:VIt X (ko []) G false tg iter fs)(hg:∀ C s₀ H₀ fp,VG (zb X (tgN tg) js scope C s₀ H₀ fp) (cK n js (ko [])) G Bs tg bnd)(ht:∀ C s₀ H₀ fp,VTs (zb X (tgN tg) js scope C s₀ H₀ fp) (cK n js (ko [])) G ifs t)
  (he:∀ C s₀ H₀ fp,VE (zb X (tgN tg) js scope C s₀ H₀ fp) (cK n js (ko [])) G (.mv []) elt f)(hB:∀ i ∈ Bs,i<n)(hn:(tgN tg).length=n:=by rfl)(hc:X.calm=true:=by rfl)(ok:jK js scope X.env.kindOf X.N=true:=by first | rfl | decide +kernel)(hs:∀ x,foldedSetIterable iter X.env x=pure x:=by intro _;rfl):
  VE X κ G (.mv []) (.ListComp elt [⟨tg,iter,ifs,0⟩] scope pos) (fLC fs n js bnd t f):=by
 subst hn
 exact zif (zmj (.mv []) (.inl rfl) hB hc hi hg ht he ok hs)
theorem zgn{py spos:Pos}(hN:X.N.Nodup)(hi:VIt X (ko []) G false tg iter fs)(hg:∀ C s₀ H₀ fp,VG (zb X (tgN tg) js scope C s₀ H₀ fp) (cK n js (ko [])) G Bs tg bnd)(ht:∀ C s₀ H₀ fp,VTs (zb X (tgN tg) js scope C s₀ H₀ fp) (cK n js (ko [])) G ifs t)
  (he:∀ C s₀ H₀ fp,VE (zb X (tgN tg) js scope C s₀ H₀ fp) (cK n js (ko [])) G (.mv []) elt f)(hB:∀ i ∈ Bs,i<n)(hi':X.N[i]?=some y:=by rfl)(hx:Loc X.env.scope y:=by first | exact .inl rfl | exact .inr rfl)(hn:(tgN tg).length=n:=by rfl)(hc:X.calm=true:=by rfl)(ok:jK js scope X.env.kindOf X.N=true:=by first | rfl | decide +kernel)(hs:∀ x,foldedSetIterable iter X.env x=pure x:=by intro _;rfl)
  (hsw:swapsWith (.ListComp elt [⟨tg,iter,ifs,0⟩] scope pos) (some (.Name y py)) spos.line X.env=pure true:=by rfl)(hf:X.fn y=true∨X.env.scope.names.lookup y=some .local:=by first | exact .inl rfl | exact .inr rfl | assumption):
  PS X (.Assign [.Name y py] (.ListComp elt [⟨tg,iter,ifs,0⟩] scope pos) spos) (uA (tV X.K κ G (.mv []) (fLC fs n js bnd t f)) (wt i)):=by
 subst hn
 exact ziy (zmL (.mv []) hN hi' hx (.inl rfl) hB hc hi hg ht he ok hs hsw hf)
variable {O:List Nat} {st:Stmt}
end
namespace Tab
noncomputable def Way(t:SetTable)(h:Int)(p:Nat):Prop:=∃ c,(adv t c (t.probeStart h)).j=p/\∀ m,m<c->t.slot (adv t m (t.probeStart h)).j≠.empty
section
variable {t t':SetTable} {h:Int}
theorem kS(e:t.mask=t'.mask):∀ (m:Nat) (P:SetTable.Probe),adv t m P=adv t' m P
 | 0,P=>rfl
 | m+1,P=>by
  have:t.advance P=t'.advance P:=by unfold SetTable.advance;rw [e]
  show adv t m (t.advance P)=adv t' m (t'.advance P)
  rw [this];exact kS e m _
theorem jg(e:t.mask=t'.mask)(h:Int):t.probeStart h=t'.probeStart h:=by unfold SetTable.probeStart;rw [e]
theorem zbQ:∀ (m:Nat) (P:SetTable.Probe),adv t (m+1) P=t.advance (adv t m P)
 | 0,P=>rfl
 | m+1,P=>zbQ m (t.advance P)
theorem adv_add:∀ (a b:Nat) (P:SetTable.Probe),adv t (a+b) P=adv t b (adv t a P)
 | 0,b,P=>by rw [KR];rfl
 | a+1,b,P=>by rw [Nat.succ_add];exact adv_add a b _
theorem Way.mono{p:Nat}(w:Way t h p)(e:t.mask=t'.mask)(ne:∀ j,t.slot j≠.empty->t'.slot j≠.empty):Way t' h p:=by
 obtain ⟨c,h1,h2⟩:=w
 refine ⟨c,by rw [← h1,← jg e,← kS e],fun m hm=>?_⟩
 rw [← jg e,← kS e]
 exact ne _ (h2 m hm)
inductive Met3 (t:SetTable) (hashAt:Nat->Int) (h:Int) (m:Nat) (P:SetTable.Probe):Option SetTable.Met->Prop
 | empty (k:Nat):k≤m->t.slot (adv t k P).j=.empty->(adv t k P).j≤t.mask->(∀ m',m'<k->∃ i,t.slot (adv t m' P).j=.live i/\hashAt i≠h)->Met3 t hashAt h m P (some (.empty (adv t k P).j none))
 | cand (k i:Nat):k<m->t.slot (adv t k P).j=.live i->(∀ m',m'<k->∃ i,t.slot (adv t m' P).j=.live i/\hashAt i≠h)->Met3 t hashAt h m P (some (.candidate (adv t k P).j i (adv t (k+1) P)))
theorem zdP{hashAt:Nat->Int}(hd:t.dummies=#[]):∀ (m fuel:Nat) (P:SetTable.Probe),m<fuel->In t P->t.slot (adv t m P).j=.empty->Met3 t hashAt h m P (SetTable.probe.go t hashAt h fuel P)
 | m,0,P,hf,_,_=>absurd hf (Kk _)
 | m,f+1,P,hf,hi,hm=>by
  rw [uS]
  cases hs:t.slot P.j with
  | empty=>
   dsimp only
   rw [hi.2]
   exact .empty 0 (Kb _) hs (by show P.j≤_;have:=hi.1;omega) fun _ z=>absurd z (Kk _)
  | dummy=>exact absurd hs (xA hd _)
  | live i=>
   dsimp only
   cases m with
   | zero=>
    have:t.slot P.j=.empty:=hm
    rw [hs] at this;cases this
   | succ m=>
    split
    ·exact .cand 0 i (Kj _) hs fun _ z=>absurd z (Kk _)
    ·rename_i hne
     have hne':hashAt i≠h:=fun e=>hne (beq_iff_eq.mpr e)
     have first:∀ k,(∀ m',m'<k->∃ i,t.slot (adv t m' (t.advance P)).j=.live i/\hashAt i≠h)->∀ m',m'<k+1->∃ i,t.slot (adv t m' P).j=.live i/\hashAt i≠h:=fun k hk m' hm'=>by
      cases m' with
      | zero=>exact ⟨i,hs,hne'⟩
      | succ m'=>exact hk m' (by omega)
     have:=zdP (hashAt:=hashAt) hd m f (t.advance P) (KH hf) hi.next hm
     generalize SetTable.probe.go t hashAt h f (t.advance P)=r at this
     cases this with
     | empty k h1 h2 h3 h4=>exact .empty (k+1) (by omega) h2 h3 (first k h4)
     | cand k i h1 h2 h4=>exact .cand (k+1) i (by omega) h2 (first k h4)
theorem probe_met3{hashAt:Nat->Int}{m:Nat}{P:SetTable.Probe}{r:Option SetTable.Met}(hd:t.dummies=#[])(e:t.probe hashAt h P=r)(hm:m<10 * SetTable.turns t.mask)(hi:In t P)(hs:t.slot (adv t m P).j=.empty):Met3 t hashAt h m P r:=by
 rw [← e]
 exact zdP hd m _ P hm hi hs
theorem In.advs:∀ (m:Nat) {P:SetTable.Probe},In t P->In t (adv t m P)
 | 0,P,h=>h
 | m+1,P,h=>In.advs m h.next
theorem uH:∀ (k:Nat) (P:SetTable.Probe),k≤P.more->adv t k P={ P with j:=P.j+k,more:=P.more - k }
 | 0,P,_=>rfl
 | k+1,P,hk=>by
  have e:t.advance P={ P with j:=P.j+1,more:=P.more - 1 }:=by unfold SetTable.advance;rw [if_pos (by omega)]
  show adv t k (t.advance P)=_
  rw [e,uH k _ (by show k≤P.more - 1;omega)]
  simp only [SetTable.Probe.mk.injEq,and_true,true_and]
  omega
theorem zbw{owner:Array (Option Nat)}:∀ (fuel i p:Nat) (P:SetTable.Probe),i≤t.mask->P.j=i->P.i=i->P.perturb=p->P.more=SetTable.runEnd t.mask i - i->∀ {j:Nat},SetTable.layClean.free t.mask owner fuel i p=some j->owner.getD j (some 0)=none/\∃ c,(adv t c P).j=j/\∀ m,m<c->(adv t m P).j≤t.mask/\owner.getD (adv t m P).j (some 0)≠none
 | 0,i,p,P,_,_,_,_,_,j,e=>nomatch e
 | f+1,i,p,P,hi,h1,h2,h3,h4,j,e=>by
  have hr:=y7 hi
  unfold SetTable.layClean.free at e
  cases hc:(List.range (SetTable.runEnd t.mask i+1 - i)).find? fun k=>(owner.getD (i+k) (some 0)).isNone with
  | some k=>
   rw [hc] at e
   cases e
   have hk:=JA.mp (QN hc)
   refine ⟨QO.mp (List.find?_some (p:=fun k=>(owner.getD (i+k) (some 0)).isNone) hc),k,by rw [uH k P (by omega),h1],fun m hm=>?_⟩
   rw [uH m P (by omega),h1]
   refine ⟨by show i+m≤_;omega,fun z=>?_⟩
   obtain ⟨_,as,bs,eq,hb⟩:=List.find?_eq_some_iff_append.mp hc
   have hmem:m ∈ as:=by
    have hlen:as=List.range k:=by
     have e1:(as++k::bs).take as.length=as:=List.take_left
     have e2:(as++k::bs)[as.length]?=some k:=by simp
     rw [← eq] at e1 e2
     obtain ⟨e3,e4⟩:=JB.mp e2
     rw [List.getElem_range] at e4
     rw [e4,List.take_range] at e1
     rw [← e1];congr 1;omega
    rw [hlen];exact JA.mpr hm
   have:=hb m hmem
   rw [z] at this
   cases this
  | none=>
   rw [hc] at e
   have hall:=List.find?_eq_none.mp hc
   have hadv:adv t (P.more+1) P=vF t P:=by
    rw [zbQ,uH _ P (Jj _)]
    unfold SetTable.advance vF
    rw [if_neg (by show ¬ (P.more - P.more > 0);omega)]
   obtain ⟨c0,c,c1,c2⟩:=zbw f (SetTable.leap t.mask i p).1 (SetTable.leap t.mask i p).2 (vF t P) (JZ (KS _ (Kj _))) (by rw [← h2,← h3];rfl) (by rw [← h2,← h3];rfl) (by rw [← h2,← h3];rfl) (by rw [← h2,← h3];rfl) e
   refine ⟨c0,P.more+1+c,by rw [adv_add,hadv,c1],fun m hm=>?_⟩
   by_cases hq:m≤P.more
   ·rw [uH m P hq,h1]
    refine ⟨by show i+m≤_;omega,fun z=>?_⟩
    have:=hall m (JA.mpr (by omega))
    rw [z] at this
    exact this rfl
   ·obtain ⟨d,rfl⟩:∃ d,m=P.more+1+d:=⟨m - (P.more+1),by omega⟩
    rw [adv_add,hadv]
    exact c2 d (by omega)
noncomputable def WO(t:SetTable)(owner:Array (Option Nat))(hs:List Int):Prop:=∀ j k,owner.getD j none=some k->∃ h,hs[k]?=some h/\∃ c,(adv t c (t.probeStart h)).j=j/\∀ m,m<c->(adv t m (t.probeStart h)).j≤t.mask/\owner.getD (adv t m (t.probeStart h)).j (some 0)≠none
theorem qr{step:Option (Array (Option Nat) × Nat)->Int->Option (Array (Option Nat) × Nat)}(hstep:step=fun acc h=>do
 let (owner,k) ← acc
 let j ← SetTable.layClean.free t.mask owner (SetTable.turns t.mask) (SetTable.bits h % (t.mask+1)) (SetTable.bits h)
 pure (owner.setIfInBounds j (some k),k+1)):∀ (hs pre:List Int) (owner:Array (Option Nat)) (r:Array (Option Nat) × Nat),owner.size=t.mask+1->WO t owner pre->hs.foldl step (some (owner,pre.length))=some r->r.1.size=t.mask+1/\WO t r.1 (pre++hs)
 | [],pre,owner,r,hz,W,e=>by
  cases e
  rw [JS];exact ⟨hz,W⟩
 | h::hs,pre,owner,r,hz,W,e=>by
  have none_fold:∀ l:List Int,l.foldl step none=none:=fun l=>by
   induction l with
   | nil=>rfl
   | cons x l ih=>rw [Qx,show step none x=none by rw [hstep];rfl];exact ih
  rw [Qx] at e
  cases hf:SetTable.layClean.free t.mask owner (SetTable.turns t.mask) (SetTable.bits h % (t.mask+1)) (SetTable.bits h) with
  | none=>
   have:step (some (owner,pre.length)) h=none:=by
    rw [hstep]
    show (SetTable.layClean.free t.mask owner (SetTable.turns t.mask) (SetTable.bits h % (t.mask+1)) (SetTable.bits h)).bind _=none
    rw [hf];rfl
   rw [this,none_fold] at e
   cases e
  | some j=>
   have:step (some (owner,pre.length)) h=some (owner.setIfInBounds j (some pre.length),(pre++[h]).length):=by
    rw [hstep,Jh]
    show (SetTable.layClean.free t.mask owner (SetTable.turns t.mask) (SetTable.bits h % (t.mask+1)) (SetTable.bits h)).bind _=_
    rw [hf];rfl
   rw [this] at e
   obtain ⟨f0,c,f1,f2⟩:=zbw (t:=t) (owner:=owner) _ _ _ (t.probeStart h) (JZ (KS _ (Kj _))) rfl rfl rfl rfl hf
   have hjs:j<owner.size:=Jx fun z=>by
    rw [JC,Array.getElem?_eq_none (by omega)] at f0
    cases f0
   have get:∀ j' d,j'≠j->(owner.setIfInBounds j (some pre.length)).getD j' d=owner.getD j' d:=fun j' d hne=>by
    rw [JC,JC,Array.getElem?_setIfInBounds_ne (Qt hne)]
   have getj:∀ d,(owner.setIfInBounds j (some pre.length)).getD j d=some pre.length:=fun d=>by
    rw [JC,Array.getElem?_setIfInBounds_self_of_lt hjs];rfl
   have keep:∀ j',owner.getD j' (some 0)≠none->(owner.setIfInBounds j (some pre.length)).getD j' (some 0)≠none:=fun j' hne=>by
    by_cases z:j'=j
    ·rw [z,getj];exact Option.some_ne_none _
    ·rw [get j' _ z];exact hne
   have W':WO t (owner.setIfInBounds j (some pre.length)) (pre++[h]):=fun j' k' e'=>by
    by_cases z:j'=j
    ·subst z
     rw [getj] at e'
     cases e'
     exact ⟨h,by simp,c,f1,fun m hm=>⟨(f2 m hm).1,keep _ (f2 m hm).2⟩⟩
    ·rw [get j' _ z] at e'
     obtain ⟨h',e1,c',e2,e3⟩:=W j' k' e'
     exact ⟨h',by rw [Qk (JB.mp e1).1];exact e1,c',e2,fun m hm=>⟨(e3 m hm).1,keep _ (e3 m hm).2⟩⟩
   have:=qr hstep hs (pre++[h]) _ r (by rw [Array.size_setIfInBounds];exact hz) W' e
   rw [Jy] at this
   exact this
theorem slot_in{j:Nat}(hr:zar t.place)(hj:j ∈ t.place.toList):t.slot j≠.empty:=fun e=>by
 obtain ⟨i,hi⟩:=Ke.mp hj
 rw [Jp] at hi
 obtain ⟨b1,b2,b3⟩:=below_ok hr j
 have hout:=zaO e
 have hib:¬ i<SetTable.below t.place j:=fun z=>KI _ (b2 i j z hi)
 have hne:i≠SetTable.below t.place j:=fun z=>hout (by rw [← z];exact hi)
 have hlt:SetTable.below t.place j<t.place.size:=by have:=(Jw.mp hi).1;omega
 have h1:=b3 _ _ (Jj _) (getElem?_pos t.place _ hlt)
 have h2:=JL.mp hr (SetTable.below t.place j) i (by rw [Jd];exact hlt) (by rw [Jd];exact (Jw.mp hi).1) (by omega)
 rw [Kw,Kw,(Jw.mp hi).2] at h2
 omega
noncomputable def Ways(t:SetTable)(es:Array (Int × Value)):Prop:=∀ q ∈ es.toList.zip t.place.toList,Way t q.1.1 q.2
theorem zat{es:Array (Int × Value)}:∀ (l:List (Nat × Nat)),(∀ z ∈ l,z.2<es.size)->∀ q ∈ ((l.map (·.2)).filterMap (es[·]?)).zip (l.map (·.1)),∃ z ∈ l,es[z.2]?=some q.1/\q.2=z.1
 | [],_,q,hq=>by simp at hq
 | z::l,hz,q,hq=>by
  have hlt:=hz z Jf
  rw [Jm,Jm,List.filterMap_cons,getElem?_pos es _ hlt] at hq
  simp only [List.zip_cons_cons] at hq
  rcases List.mem_cons.mp hq with rfl | hq
  ·exact ⟨z,Jf,getElem?_pos es _ hlt,rfl⟩
  ·obtain ⟨z',h1,h2,h3⟩:=zat l (fun y hy=>hz y (Jg _ hy)) q hq
   exact ⟨z',Jg _ h1,h2,h3⟩
theorem laid_ways{mask finger moves:Nat}{led plain:Bool}{es:Array (Int × Value)}{order:Array Nat}{n:Nat}{l:Bool}(e:SetTable.laid mask finger moves led plain (es.map (·.1))=some (t,order))(g:GoodN t n l)(hm:t.mask=mask)(hp:order.toList.Perm (List.range es.size)):Ways t (order.filterMap (es[·]?)):=by
 subst hm
 unfold SetTable.laid at e
 cases hc:SetTable.layClean t.mask (es.map (·.1)) with
 | none=>rw [hc] at e;cases e
 | some owner=>
  rw [hc] at e
  have e:=Js e
  have e1:t.place=(((List.range (t.mask+1)).filterMap fun j=>(owner.getD j none).map (j,·)).map (·.1)).toArray:=(congrArg (fun z=>z.1.place) e).symm
  have e2:order=(((List.range (t.mask+1)).filterMap fun j=>(owner.getD j none).map (j,·)).map (·.2)).toArray:=(congrArg Prod.snd e).symm
  have W:WO t owner (es.map (·.1)).toList:=by
   unfold SetTable.layClean at hc
   rw [← Array.foldl_toList] at hc
   obtain ⟨r,hr,hr2⟩:=Kc.mp hc
   have:=(qr (t:=t) rfl (es.map (·.1)).toList [] (Array.replicate (t.mask+1) none) r (by simp) (fun j k z=>by
    rw [JC,Array.getElem?_replicate] at z
    split at z<;>cases z) hr).2
   rw [hr2,List.nil_append] at this
   exact this
  have hrise:zar t.place:=Good.rise (t:={ t with plain:=true }) g
  intro q hq
  rw [Array.toList_filterMap,e1,e2] at hq
  obtain ⟨z,hz,hz1,hz2⟩:=zat _ (fun z hz=>by
   have:z.2 ∈ order.toList:=by rw [e2];exact Jo.mpr ⟨z,hz,rfl⟩
   exact JA.mp (hp.mem_iff.mp this)) q hq
  obtain ⟨j,_,hj⟩:=Qu.mp hz
  obtain ⟨k,hk,rfl⟩:=Kc.mp hj
  obtain ⟨h,w1,c,w2,w3⟩:=W j k hk
  have hh:h=q.1.1:=by
   rw [Array.toList_map,JX,Jp,hz1] at w1
   exact (Js w1).symm
  subst hh
  refine ⟨c,by rw [w2];exact hz2.symm,fun m hm=>?_⟩
  obtain ⟨v1,v2⟩:=w3 m hm
  refine slot_in hrise ?_
  generalize (adv t m (t.probeStart q.1.1)).j=y at *
  cases ho:owner.getD y none with
  | none=>
   have:owner.getD y (some 0)=none∨owner.size≤y:=by
    rw [JC] at ho ⊢
    cases hx:owner[y]? with
    | none=>exact .inr (by simpa using hx)
    | some x=>rw [hx] at ho;exact .inl ho
   rcases this with z | z
   ·exact absurd z v2
   ·unfold SetTable.layClean at hc
    rw [← Array.foldl_toList] at hc
    obtain ⟨r,hr,hr2⟩:=Kc.mp hc
    have:=(qr (t:=t) rfl (es.map (·.1)).toList [] (Array.replicate (t.mask+1) none) r (by simp) (fun j k z=>by
     rw [JC,Array.getElem?_replicate] at z
     split at z<;>cases z) hr).1
    rw [hr2] at this
    omega
  | some x=>
   rw [e1]
   exact Jo.mpr ⟨(y,x),Qu.mpr ⟨y,JA.mpr (by omega),by rw [ho];rfl⟩,rfl⟩
theorem zgg{n:Nat}{led:Bool}(g:GoodN t n led)(hn:n+1≤t.mask){j:Nat}(hs:t.slot j=.empty)(hj:j≤t.mask):∀ i,t.slot i≠.empty->(t.put j).1.slot i≠.empty:=fun i hi=>by
 obtain ⟨g',_⟩:=g.put hn hs hj
 refine slot_in (Good.rise (t:={ (t.put j).1 with plain:=true }) g') ?_
 show i ∈ (SetTable.insertAt t.place (SetTable.below t.place j) j).toList
 rw [(Qc t.place (SetTable.below t.place j) j).mem_iff,Kq]
 exact Jt _ (Jx fun z=>hi (vd g.dm z))
theorem put_ways{n:Nat}{led:Bool}{es:Array (Int × Value)}{x:Value}(g:GoodN t n led)(hz:es.size=n)(hn:n+1≤t.mask){j:Nat}(hs:t.slot j=.empty)(hj:j≤t.mask)(W:Ways t es)(w:Way t h j):Ways (t.put j).1 (SetTable.insertAt es (t.put j).2 (h,x)):=by
 have mono:∀ {h p},Way t h p->Way (t.put j).1 h p:=fun w=>w.mono rfl (zgg g hn hs hj)
 intro q hq
 have hb:SetTable.below t.place j≤t.place.size:=(below_ok (Good.rise (t:={ t with plain:=true }) g) j).1
 have hl:es.toList.length=t.place.toList.length:=by rw [Jd,Jd,hz,g.size]
 have e:(SetTable.insertAt es (t.put j).2 (h,x)).toList.zip (t.put j).1.place.toList=(es.toList.take (SetTable.below t.place j)).zip (t.place.toList.take (SetTable.below t.place j))++((h,x),j)::(es.toList.drop (SetTable.below t.place j)).zip (t.place.toList.drop (SetTable.below t.place j)):=by
  show (SetTable.insertAt es (SetTable.below t.place j) (h,x)).toList.zip (SetTable.insertAt t.place (SetTable.below t.place j) j).toList=_
  rw [SetTable.toList_insertAt,SetTable.toList_insertAt,List.zip_append (by rw [JW,JW,hl]),Qf]
 rw [e] at hq
 rcases List.mem_append.mp hq with hq | hq
 ·have hq:q ∈ (es.toList.zip t.place.toList).take (SetTable.below t.place j):=by unfold List.zip;rw [List.take_zipWith];exact hq
  exact mono (W q (QH hq))
 ·rcases List.mem_cons.mp hq with rfl | hq
  ·exact mono w
  ·have hq:q ∈ (es.toList.zip t.place.toList).drop (SetTable.below t.place j):=by unfold List.zip;rw [List.drop_zipWith];exact hq
   exact mono (W q (Ql hq))
end
theorem full511:Full 511:=jT (by decide +kernel) (by decide +kernel)
end Tab
section
variable {prog:Program} {w:World} {A:Around} {E:Value->Shared->Prop} {s:Shared}
theorem zeF{t:SetTable}(h:t.mask=7∨t.mask=31∨t.mask=127∨t.mask=511):t.gaveWay=false:=by
 unfold SetTable.gaveWay
 rcases h with h | h | h | h<;>(rw [h];rfl)
noncomputable def zhL(prog:Program)(w:World)(h:Heap)(k:List Key)(es:Array (Int × Value))(t:SetTable)(hh:Int)(c:Nat):Prop:=∀ m,m<c->∃ i e,t.slot (Tab.adv t m (t.probeStart hh)).j=.live i/\es[i]?=some e/\NoM prog w h k e.2
theorem zfX{a b:Addr}{o:Obj}{es:Array (Int × Value)}{ep:Nat}{t:SetTable}{led:Bool}{k:List Key}{Q:SetFound->Shared->Prop}(ho:s.heap.get? a=some o)(hd:o.data=.set es ep t)(g:Tab.GoodN t es.size led)(hm7:t.mask=7∨t.mask=31∨t.mask=127∨t.mask=511)(hel:∀ e ∈ es.toList,ElM prog w s.heap e)(hk:IsTupleKey (zC prog w) s.heap k b)(hu:A.units<cLine)
  (hq1:(∃ e ∈ es.toList,¬ NoM prog w s.heap k e.2)->Q (.there none) s)
  (hq:∀ j c,t.slot j=.empty->j≤t.mask->(Tab.adv t c (t.probeStart (tupleKeyHash (zC prog w) k))).j=j->zhL prog w s.heap k es t (tupleKeyHash (zC prog w) k) c->Q (.free j false) s):
  ∀ (m fuel c:Nat) (st:Option SetTable.Probe),m<fuel->m<10 * SetTable.turns t.mask->st.getD (t.probeStart (tupleKeyHash (zC prog w) k))=Tab.adv t c (t.probeStart (tupleKeyHash (zC prog w) k))->zhL prog w s.heap k es t (tupleKeyHash (zC prog w) k) c->t.slot (Tab.adv t m (st.getD (t.probeStart (tupleKeyHash (zC prog w) k)))).j=.empty->wpAny (model prog w) A (setSearchFrom a (.ref b) (tupleKeyHash (zC prog w) k) true fuel st) Q E s:=by
 intro m fuel
 induction fuel generalizing m with
 | zero=>intro c st hf;exact absurd hf (Kk _)
 | succ f ih=>
  intro c st hf ht hst hah hs
  have hi:Tab.In t (st.getD (t.probeStart (tupleKeyHash (zC prog w) k))):=by rw [hst];exact Tab.In.advs c (Tab.In.start _ _)
  unfold setSearchFrom
  refine wpAny_bind (wpAny_setState_of ho hd g.fits ?_)
  dsimp only
  rw [zeF hm7]
  simp only [Bool.false_eq_true,if_false]
  split
  ·rename_i met he
   have hM:=Tab.probe_met3 g.dm he ht hi hs
   have more:∀ q,(∀ m',m'<q->∃ i,t.slot (Tab.adv t m' (st.getD (t.probeStart (tupleKeyHash (zC prog w) k)))).j=.live i/\(es[i]?.map (·.1)).getD 0≠tupleKeyHash (zC prog w) k)->zhL prog w s.heap k es t (tupleKeyHash (zC prog w) k) (c+q):=fun q hq2 m' hm'=>by
    by_cases z:m'<c
    ·exact hah m' z
    ·obtain ⟨d,rfl⟩:∃ d,m'=c+d:=⟨m' - c,by omega⟩
     obtain ⟨i,h1,h2⟩:=hq2 d (by omega)
     have hin:=g.live h1
     refine ⟨i,es[i],by rw [Tab.adv_add,← hst];exact h1,getElem?_pos es i hin,fun b' k' e1 e2 e3=>h2 ?_⟩
     obtain ⟨b2,k2,e4,e5,e6⟩:=hel es[i] (by simp)
     rw [e1] at e4
     cases e4
     rw [getElem?_pos es i hin]
     show es[i].1=_
     rw [e6,e5.inj e2,e3]
   cases hM with
   | empty q h1 h2 h3 h4=>exact wpAny_pure (hq _ (c+q) h2 h3 (by rw [Tab.adv_add,← hst]) (more q h4))
   | cand q i h2 h1 h4=>
    have hin:=g.live h1
    have hei:es[i] ∈ es.toList:=by simp
    obtain ⟨b',k',e1,e2,e3⟩:=hel _ hei
    have hM2:=more q h4
    have zg:wpAny (model prog w) A (do
      let some (_,y):=es[i]? | unsupported "internal:set-entry"
      let equal ← holding [y] (eqBool y (.ref b))
      let (es',_,t') ← setState a
      if true && equal then return .there none
      let some same:=t'.sameMemory t.moves t.mask | unsupported "set.changed-during-lookup:is-the-new-block-at-the-old-address"
      let still ← match (if same then t'.slot (Tab.adv t q (st.getD (t.probeStart (tupleKeyHash (zC prog w) k)))).j else .empty) with
       | .live i'=>match es'[i']? with
        | some (_,y')=>do pure (if ← isSame y' y then some i' else none)
        | none=>pure none
       | _=>pure none
      match still with
      | none=>rule "set.search.anew";setSearchFrom a (.ref b) (tupleKeyHash (zC prog w) k) true f none
      | some i'=>if equal then return .there (some i') else setSearchFrom a (.ref b) (tupleKeyHash (zC prog w) k) true f (some (Tab.adv t (q+1) (st.getD (t.probeStart (tupleKeyHash (zC prog w) k)))))) Q E s:=by
     rw [KO hin]
     generalize hee:es[i]=ee at *
     obtain ⟨eh,y⟩:=ee
     simp only at e1
     subst e1
     dsimp only
     refine wpAny_bind (wpAny_holding (wpAny_eqBool_tuple hu e2 hk ?_))
     by_cases hne:k'=k
     ·rw [decide_eq_true hne]
      refine wpAny_bind (wpAny_setState_of ho hd g.fits ?_)
      dsimp only
      simp only [Bool.and_self,if_true]
      exact wpAny_pure (hq1 ⟨_,hei,fun z=>z b' k' rfl e2 hne⟩)
     rw [decide_eq_false hne]
     refine wpAny_bind (wpAny_setState_of ho hd g.fits ?_)
     dsimp only
     simp only [Bool.and_false,Bool.false_eq_true,if_false]
     rw [show t.sameMemory t.moves t.mask=some true by unfold SetTable.sameMemory;simp]
     dsimp only
     rw [if_pos rfl,h1]
     dsimp only
     rw [KO hin,hee]
     dsimp only
     refine wpAny_bind ?_
     unfold isSame
     simp only [beq_self_eq_true,if_true]
     refine wpAny_pure ?_
     simp only [if_true]
     refine ih (m - (q+1)) (c+(q+1)) (some _) (by omega) (by omega) (by show Tab.adv t (q+1) _=_;rw [Tab.adv_add c,← hst]) (fun m' hm'=>?_) (by show t.slot (Tab.adv t (m - (q+1)) (Tab.adv t (q+1) _)).j=_;rw [← Tab.adv_add,show q+1+(m - (q+1))=m by omega];exact hs)
     by_cases z:m'<c+q
     ·exact hM2 m' z
     ·obtain rfl:m'=c+q:=by omega
      refine ⟨i,(eh,Value.ref b'),by rw [Tab.adv_add,← hst];exact h1,by rw [KO hin,hee],fun b2 k2 z1 z2 z3=>hne ?_⟩
      cases z1
      rw [e2.inj z2];exact z3
    cases hl:t.led with
    | true=>
     simp only [Bool.not_true,Bool.false_eq_true,if_false]
     exact zg
    | false=>
     simp only [Bool.not_false,if_true]
     refine wpAny_bind (zeG hk (fun y hy=>?_) ?_)
     ·obtain ⟨e,he',rfl⟩:=Jo.mp hy
      have:e ∈ es.toList:=by
       rw [Array.mem_toList_iff] at he' ⊢
       exact (Array.mem_filter.mp he').1
      obtain ⟨b',k',e1,e2,_⟩:=hel e this
      exact ⟨b',k',e1,e2⟩
     ·simp only [Bool.false_eq_true,if_false]
      exact zg
  ·rename_i he
   exact absurd (Tab.probe_some g.dm ht hi hs) fun ⟨met,hm⟩=>he met hm
structure SetTd (prog:Program) (w:World) (h:Heap) (es:Array (Int × Value)) (t:SetTable) (L:List Value) (led:Bool):Prop where
 el:∀ e ∈ es.toList,ElM prog w h e
 perm:(es.toList.map (·.2)).Perm L
 good:Tab.GoodN t es.size led
 mask:t.mask=7∨t.mask=31∨t.mask=127∨t.mask=511
 nf:es.size * 5<t.mask * 3
 ways:Tab.Ways t es
noncomputable def SetD(prog:Program)(w:World)(h:Heap)(a:Addr)(L:List Value)(led:Bool):Prop:=∃ o es ep t,h.get? a=some o/\o.ExactSet/\o.data=.set es ep t/\SetTd prog w h es t L led
theorem SetTd.size{h:Heap}{es:Array (Int × Value)}{t:SetTable}{L:List Value}{led:Bool}(b:SetTd prog w h es t L led):es.size=L.length:=by
 have:=b.perm.length_eq
 rw [Je,Jd] at this
 exact this
theorem zbT{a b:Addr}{L:List Value}{led:Bool}{k:List Key}{Q:Bool->Shared->Prop}(hu:A.units<cLine)(hS:SetD prog w s.heap a L led)(hl:L.length<200)(hk:IsTupleKey (zC prog w) s.heap k b)
  (h0:(∃ v ∈ L,¬ NoM prog w s.heap k v)->Q false s)
  (h:(∀ v ∈ L,NoM prog w s.heap k v)->∀ h' x,Heap.SameBut a s.heap h'->SetD prog w h' a (L++[.ref b]) led->Q x { s with heap:=h' }):wpAny (model prog w) A (setAddHashed a (.ref b) (tupleKeyHash (zC prog w) k)) Q E s:=by
 obtain ⟨o,es,ep,t,ho,hex,hd,B⟩:=hS
 have hf:=B.good.fits
 have hsz:=B.size
 have hnf:=B.nf
 have hEl:∀ {h':Heap},Heap.SameBut a s.heap h'->∀ e,ElM prog w s.heap e->ElM prog w h' e:=fun hs e ⟨b',k',e1,e2,e3⟩=>⟨b',k',e1,xi e2 fun o' ho'=>(hs.2 b' (zij e2 ho hd)).trans ho',e3⟩
 have hkE:ElM prog w s.heap (tupleKeyHash (zC prog w) k,.ref b):=⟨b,k,rfl,hk,rfl⟩
 unfold setAddHashed setAddHashedIn
 refine wpAny_holding (wpAny_bind (wpAny_setState_of ho hd hf ?_))
 dsimp only
 rw [show byScan (.ref b) es=false from rfl]
 simp only [Bool.false_eq_true,if_false]
 obtain ⟨m,hm1,hm2⟩:=B.good.near (tupleKeyHash (zC prog w) k)
 have hturn:10 * SetTable.turns t.mask≤5260:=by unfold SetTable.turns;rcases B.mask with z | z | z | z<;>omega
 refine wpAny_bind ?_
 unfold setSearch
 refine zfX ho hd B.good B.mask B.el hk hu (fun ⟨e,he,hn⟩=>wpAny_pure (h0 ⟨_,B.perm.mem_iff.mp (Jo.mpr ⟨e,he,rfl⟩),hn⟩)) (fun j c hj1 hj2 hj3 hah=>?_) m 100000 0 none (by omega) hm1 rfl (fun _ z=>absurd z (Kk _)) hm2
 have hno:∀ v ∈ L,NoM prog w s.heap k v:=fun v hv b' k' e1 e2 e3=>by
  obtain ⟨e,he,ev⟩:=Jo.mp (B.perm.mem_iff.mpr hv)
  obtain ⟨i,hi⟩:=Ke.mp he
  have hlt:i<t.place.size:=by rw [B.good.size];rw [Jp] at hi;exact (Jw.mp hi).1
  obtain ⟨b2,k2,z1,z2,z3⟩:=B.el e he
  rw [ev,e1] at z1
  cases z1
  have hh:e.1=tupleKeyHash (zC prog w) k:=by rw [z3,z2.inj e2,e3]
  obtain ⟨c0,w1,w2⟩:=B.ways (e,t.place[i]) (Ke.mpr ⟨i,by rw [List.getElem?_zip_eq_some];exact ⟨hi,by rw [Jp];exact getElem?_pos t.place i hlt⟩⟩)
  simp only at w1 w2
  rw [hh] at w1 w2
  have hpi:t.place[i] ∈ t.place.toList:=by simp
  by_cases z:c0<c
  ·obtain ⟨i2,e4,s1,s2,s3⟩:=hah c0 z
   rw [w1] at s1
   have:i2=i:=by
    unfold SetTable.slot at s1
    dsimp only at s1
    split at s1
    ·rename_i hc
     cases s1
     have hc:=beq_iff_eq.mp hc
     obtain ⟨q1,q2⟩:=Jw.mp hc
     have nd:=List.pairwise_iff_getElem.mp (Tab.Good.rise (t:={ t with plain:=true }) B.good)
     by_cases lt:SetTable.below t.place t.place[i]<i
     ·have:=nd _ _ (by simpa using q1) (by simpa using hlt) lt
      simp only [Array.getElem_toList] at this
      omega
     by_cases gt:i<SetTable.below t.place t.place[i]
     ·have:=nd _ _ (by simpa using hlt) (by simpa using q1) gt
      simp only [Array.getElem_toList] at this
      omega
     omega
    ·split at s1<;>cases s1
   subst this
   rw [Jp] at hi
   rw [hi] at s2
   cases s2
   exact s3 b' k' (ev.trans e1) e2 e3
  ·by_cases z':c<c0
   ·exact w2 c z' (by rw [hj3];exact hj1)
   ·obtain rfl:c0=c:=by omega
    rw [hj3] at w1
    rw [w1] at hj1
    exact Tab.slot_in (Tab.Good.rise (t:={ t with plain:=true }) B.good) hpi hj1
 have hway:Tab.Way t (tupleKeyHash (zC prog w) k) j:=⟨c,hj3,fun m hm z=>by
  obtain ⟨i,e,s1,_⟩:=hah m hm
  rw [s1] at z;cases z⟩
 have h:=h hno
 dsimp only
 refine wpAny_bind (wpAny_setState_of ho hd hf ?_)
 dsimp only
 obtain ⟨g0,m0⟩:=B.good.put (by rcases B.mask with z | z | z | z<;>omega) hj1 hj2
 have W0:=Tab.put_ways (x:=Value.ref b) B.good rfl (by rcases B.mask with z | z | z | z<;>omega) hj1 hj2 B.ways hway
 have key:∀ c:Bool,wpAny (model prog w) A (do
   let t1:=if c=true then (t.put j).1 else { (t.put j).1 with plain:=false }
   storeSet a (SetTable.insertAt es (t.put j).2 (tupleKeyHash (zC prog w) k,Value.ref b)) t1
   if (!false && t1.tooFull)=true then setRelay a (SetTable.grown (es.size+1))
   return true) Q E s:=fun c=>by
  obtain ⟨t1,ht1,g1,m1,W1⟩:∃ t1,t1=(if c=true then (t.put j).1 else { (t.put j).1 with plain:=false })/\Tab.GoodN t1 (es.size+1) led/\t1.mask=t.mask/\Tab.Ways t1 (SetTable.insertAt es (t.put j).2 (tupleKeyHash (zC prog w) k,Value.ref b)):=by
   cases c with
   | true=>exact ⟨_,rfl,g0,m0,W0⟩
   | false=>exact ⟨_,rfl,g0,m0,fun q hq=>(W0 q hq).mono rfl fun j hj=>hj⟩
  dsimp only
  rw [← ht1]
  have p1:=Qc es (t.put j).2 (tupleKeyHash (zC prog w) k,Value.ref b)
  generalize SetTable.insertAt es (t.put j).2 (tupleKeyHash (zC prog w) k,Value.ref b)=es1 at *
  rw [Kq] at p1
  have hz1:es1.size=es.size+1:=by
   have:=p1.length_eq
   rw [Jd,Jh,Jd,Qg] at this
   exact this
  have hb1:es1.size<scanBound:=by show es1.size<4096;omega
  have el1:∀ e ∈ es1.toList,ElM prog w s.heap e:=fun e he=>by
   rcases List.mem_append.mp (p1.mem_iff.mp he) with z | z
   ·exact B.el e z
   ·rw [Ji.mp z];exact hkE
  have pm1:(es1.toList.map (·.2)).Perm (L++[.ref b]):=(p1.map _).trans (by rw [Ks];exact B.perm.append_right _)
  refine wpAny_bind (wpAny_storeSet_of ho hd ?_ (fits_of_scanBound hb1))
  have ho1:=vD (es':=es1) (t':=t1) ho hd
  have hsb1:=Kz s.heap a (Obj.putSet es1 t1)
  have hfill:t1.fill=es.size+1:=by unfold SetTable.fill;rw [g1.size,g1.dm];rfl
  have good1:Tab.GoodN t1 es1.size led:=by rw [hz1];exact g1
  by_cases hT:t1.tooFull=true
  ·have hT':(es.size+1) * 5 ≥ t.mask * 3:=by
    unfold SetTable.tooFull at hT
    rw [hfill,m1] at hT
    exact of_decide_eq_true hT
   obtain ⟨hF,hmk,hn5,hsl⟩:Tab.Full (SetTable.sizeAbove (SetTable.grown (es.size+1)) - 1)/\(SetTable.sizeAbove (SetTable.grown (es.size+1)) - 1=7∨SetTable.sizeAbove (SetTable.grown (es.size+1)) - 1=31∨SetTable.sizeAbove (SetTable.grown (es.size+1)) - 1=127∨SetTable.sizeAbove (SetTable.grown (es.size+1)) - 1=511)/\(es.size+1) * 5<(SetTable.sizeAbove (SetTable.grown (es.size+1)) - 1) * 3/\SetTable.sizeAbove (SetTable.grown (es.size+1))≤sizeLine:=by
    rcases B.mask with h7 | h7 | h7 | h7
    ·have:es.size+1=5:=by omega
     rw [this]
     have e:SetTable.sizeAbove (SetTable.grown 5)=32:=by decide
     rw [e,sizeLine_eq]
     exact ⟨Tab.full31,.inr (.inl rfl),by decide,by decide⟩
    ·have:es.size+1=19:=by omega
     rw [this]
     have e:SetTable.sizeAbove (SetTable.grown 19)=128:=by decide
     rw [e,sizeLine_eq]
     exact ⟨Tab.full127,.inr (.inr (.inl rfl)),by decide,by decide⟩
    ·have:es.size+1=77:=by omega
     rw [this]
     have e:SetTable.sizeAbove (SetTable.grown 77)=512:=by decide
     rw [e,sizeLine_eq]
     exact ⟨Tab.full511,.inr (.inr (.inr rfl)),by decide,by decide⟩
    ·omega
   rw [hT]
   simp only [Bool.not_false,Bool.and_self,if_true]
   unfold setRelay
   refine wpAny_bind ?_
   refine wpAny_bind (wpAny_setState_of ho1 rfl good1.fits ?_)
   dsimp only
   rw [if_neg (by omega)]
   obtain ⟨t2,order,h1,h2,h3,h4⟩:=Tab.laid_any (finger:=t1.finger) (moves:=t1.movedTo (SetTable.sizeAbove (SetTable.grown (es.size+1)) - 1)) (led:=t1.led) (plain:=t1.plain) (hashes:=es1.map (·.1)) hF (by rw [Array.size_map,hz1];omega)
   rw [Array.size_map] at h2 h3
   rw [g1.ledd] at h3
   have W2:=Tab.laid_ways (es:=es1) h1 h3 h4 h2
   have p2:(order.filterMap (es1[·]?)).toList.Perm es1.toList:=by
    have e:=(h2.filterMap (es1[·]?))
    rw [filterMap_getElem?_range] at e
    rw [Array.toList_filterMap];exact e
   have hz2:(order.filterMap (es1[·]?)).size=es1.size:=by
    have:=p2.length_eq
    rw [Jd,Jd] at this
    exact this
   have hrl:t1.relaid (es1.map (·.1)) (SetTable.grown (es.size+1))=some (t2,order):=h1
   rw [hrl]
   refine wpAny_bind ?_
   show wpAny _ _ (if ((order.filterMap (es1[·]?)).size != es1.size)=true then _ else _) _ _ _
   rw [if_neg (by rw [hz2];simp)]
   refine wpAny_pure ?_
   generalize order.filterMap (es1[·]?)=es2 at *
   refine wpAny_storeSet_of ho1 rfl ?_ (fits_of_scanBound (by rw [hz2];exact hb1))
   refine wpAny_pure ?_
   have hsb2:=hsb1.trans (Kz (s.heap.update a (Obj.putSet es1 t1)) a (Obj.putSet es2 t2))
   refine h _ true hsb2 ⟨_,es2,_,t2,vD ho1 rfl,hex,rfl,fun e he=>hEl hsb2 e (el1 e (p2.mem_iff.mp he)),(p2.map _).trans pm1,by rw [hz2];exact h3,by rw [h4];exact hmk,by rw [hz2,hz1,h4];exact hn5,W2⟩
  ·have hT':¬ (es.size+1) * 5 ≥ t.mask * 3:=fun z=>hT (by
    unfold SetTable.tooFull
    rw [hfill,m1]
    exact decide_eq_true z)
   rw [Bool.eq_false_iff.mpr hT]
   simp only [Bool.not_false,Bool.and_false,Bool.false_eq_true,if_false]
   refine wpAny_pure ?_
   exact h _ true hsb1 ⟨_,es1,_,t1,ho1,hex,rfl,fun e he=>hEl hsb1 e (el1 e he),pm1,good1,by rw [m1];exact B.mask,by rw [hz1,m1];omega,W1⟩
 cases hpl:(t.put j).1.plain with
 | true=>
  rw [if_pos rfl]
  exact wpAny_bind (kd hk fun c=>key c)
 | false=>
  rw [if_neg Jk]
  exact wpAny_bind (wpAny_pure (key true))
theorem SetD.keep{h h':Heap}{a:Addr}{L:List Value}{led:Bool}(x:SetD prog w h a L led)(k:∀ o,h.get? a=some o->h'.get? a=some o)(kk:∀ b,Value.ref b ∈ L->∀ o,h.get? b=some o->h'.get? b=some o):SetD prog w h' a L led:=by
 obtain ⟨o,es,ep,t,ho,hx,hd,B⟩:=x
 refine ⟨o,es,ep,t,k o ho,hx,hd,fun e he=>?_,B.perm,B.good,B.mask,B.nf,B.ways⟩
 obtain ⟨b,c,e1,e2,e3⟩:=B.el e he
 exact ⟨b,c,e1,xi e2 (kk b (by rw [← e1];exact B.perm.mem_iff.mp (Jo.mpr ⟨e,he,rfl⟩))),e3⟩
theorem SetD.fresh{h:Heap}{a:Addr}{led:Bool}(ho:h.get? a=some { cls:=.type "set",dict:=none,data:=.set #[] 0 (.fresh 0 0 led) }):SetD prog w h a [] led:=
 ⟨_,#[],0,_,ho,⟨rfl,rfl,rfl⟩,rfl,fun e he=>by simp at he,.refl _,⟨Tab.full7,rfl,Nat.zero_le _,rfl,List.Pairwise.nil,fun j hj=>by simp [SetTable.fresh] at hj,rfl,rfl⟩,.inl rfl,by show 0 * 5<7 * 3;decide,fun q hq=>by simp at hq⟩
end
noncomputable def foL(key:Nat->List Key):Nat->List Nat
 | 0=>[]
 | n+1=>if (foL key n).any (fun j=>decide (key j=key n))=true then foL key n else foL key n++[n]
theorem zby(key:Nat->List Key)(n:Nat):foL key (n+1)=if (foL key n).any (fun j=>decide (key j=key n))=true then foL key n else foL key n++[n]:=rfl
theorem q9{key:Nat->List Key}{n:Nat}(h:∀ j ∈ foL key n,key j≠key n):foL key (n+1)=foL key n++[n]:=by
 rw [zby,if_neg]
 intro z
 obtain ⟨j,hj,e⟩:=Kv.mp z
 exact h j hj (of_decide_eq_true e)
theorem wu{key:Nat->List Key}{j:Nat}:∀ {n:Nat},j ∈ foL key n->j<n
 | 0,h=>by cases h
 | n+1,h=>by
  unfold foL at h
  split at h
  ·exact JY (wu h)
  ·rcases List.mem_append.mp h with h | h
   ·exact JY (wu h)
   ·rw [Ji.mp h];exact KJ _
theorem jU(key:Nat->List Key):∀ n,(foL key n).length≤n
 | 0=>Jj _
 | n+1=>by
  unfold foL
  split
  ·exact Nat.le_succ_of_le (jU key n)
  ·rw [Jh];exact Nat.succ_le_succ (jU key n)
theorem zcM(key:Nat->List Key):∀ n,(foL key n).Pairwise fun i j=>key i≠key j
 | 0=>.nil
 | n+1=>by
  unfold foL
  split
  ·exact zcM key n
  ·rename_i h
   refine Jz.mpr ⟨zcM key n,List.pairwise_singleton _ _,fun i hi j hj e=>h ?_⟩
   rw [Ji.mp hj] at e
   exact Kv.mpr ⟨i,hi,decide_eq_true e⟩
theorem zdR{key:Nat->List Key}{i:Nat}:∀ {n:Nat},i<n->∃ j ∈ foL key n,key j=key i
 | 0,h=>absurd h (Kk _)
 | n+1,h=>by
  unfold foL
  by_cases e:i=n
  ·subst e
   split
   ·rename_i z
    obtain ⟨j,hj,e⟩:=Kv.mp z
    exact ⟨j,hj,of_decide_eq_true e⟩
   ·exact ⟨i,Jl _ (Ji.mpr rfl),rfl⟩
  ·obtain ⟨j,hj,e⟩:=zdR (n:=n) (i:=i) (by omega)
   split
   ·exact ⟨j,hj,e⟩
   ·exact ⟨j,Jt _ hj,e⟩
structure TupsD (prog:Program) (w:World) (h0:Heap) (n:Nat) (ad:Nat->Addr) (key:Nat->List Key) (wr:List Addr):Prop where
 at':∀ i,i<n->IsTupleKey (zC prog w) h0 (key i) (ad i)
 out:∀ i,i<n->ad i ∉ wr
noncomputable def tlD(ad:Nat->Addr)(key:Nat->List Key)(n:Nat):List Value:=(foL key n).map fun j=>.ref (ad j)
theorem zdD{ad:Nat->Addr}{key:Nat->List Key}{n:Nat}{b:Addr}(h:Value.ref b ∈ tlD ad key n):∃ j ∈ foL key n,j<n/\b=ad j:=by
 obtain ⟨j,hj,e⟩:=Jo.mp h
 exact ⟨j,hj,wu hj,by injection e with e;exact e.symm⟩
section
variable {prog:Program} {w:World} {A:Around} {E:Value->Shared->Prop} {s:Shared}
theorem zay{a b:Addr}{L:List Value}{led:Bool}{k:List Key}{Q:Bool->Shared->Prop}(hu:A.units<cLine)(hS:SetD prog w s.heap a L led)(hl:L.length<200)(hk:IsTupleKey (zC prog w) s.heap k b)
  (h:∀ h' x L',(∀ b,b≠a->h'.get? b=s.heap.get? b)->SetD prog w h' a L' led->(L'=L/\∃ v ∈ L,¬ NoM prog w s.heap k v)∨(L'=L++[.ref b]/\∀ v ∈ L,NoM prog w s.heap k v)->Q x { s with heap:=h' }):wpAny (model prog w) A (setAddHashed a (.ref b) (tupleKeyHash (zC prog w) k)) Q E s:=
 zbT hu hS hl hk (fun z=>h s.heap false L (fun _ _=>rfl) hS (.inl ⟨rfl,z⟩)) fun hn h' x hsb hS'=>h h' x _ hsb.2 hS' (.inr ⟨rfl,hn⟩)
theorem qT{R:Result->Shared->Prop}{P:Nat->Value->Prop}{St:Nat->Shared->Prop}(W:WalksS prog w A.in1 I fp wr G n P St)(S:Addr)(hSf:S ∉ fp){h0:Heap}{ad:Nat->Addr}(hval:∀ i v,P i v->v=.ref (ad i))(T:TupsD prog w h0 n ad key (S::wr))(hn:n<200)(hu:A.units+8<cLine):
  ∀ (k i:Nat) (s:Shared),n - i=k->i≤n->St i s->(∀ b o,b ∉ S::wr->h0.get? b=some o->s.heap.get? b=some o)->SetD prog w s.heap S (tlD ad key i) led->
   (∀ s',Moved (S::wr) G s s'->SetD prog w s'.heap S (tlD ad key n) led->R (.ok (.ret .none)) s')->
   codeAny (model prog w) A (.builtin "set.update.loop" ⟨[.ref S,.ref I],[]⟩) R s:=by
 have hSw:S ∉ wr:=fun h=>hSf (W.sub _ h)
 have hsub:∀ b ∈ wr,b ∈ S::wr:=fun b hb=>Jg _ hb
 have keep:∀ {i:Nat} {s s':Shared},i≤n->Moved wr G s s'->SetD prog w s.heap S (tlD ad key i) led->SetD prog w s'.heap S (tlD ad key i) led:=fun hi hm hS=>hS.keep (fun o ho=>hm.heap S o hSw ho) fun b hb o ho=>by
  obtain ⟨j,_,hj,rfl⟩:=zdD hb
  exact hm.heap _ o (fun z=>T.out j (by omega) (hsub _ z)) ho
 intro k
 induction k with
 | zero=>
  intro i s hk hi hst _ hS hR
  have hin:i=n:=by omega
  subst hin
  refine codeAny_builtin Qs ?_
  rw [Kl KD _]
  show wpAny _ A.in1 (pyNext (.ref I) >>= _) _ _ s
  refine wpAny_bind (W.done s _ _ hst fun s' hm=>?_)
  show wpAny _ A.in1 (ret Value.none) _ _ s'
  exact wpAny_pure (hR s' (hm.mono hsub) (keep hi hm hS))
 | succ k ih=>
  intro i s hk hi hst h0s hS hR
  have hlt:i<n:=by omega
  refine codeAny_builtin Qs ?_
  rw [Kl KD _]
  show wpAny _ A.in1 (pyNext (.ref I) >>= _) _ _ s
  refine wpAny_bind (W.item i s _ _ hlt hst fun v s' hP hst' hm=>?_)
  have hv:=hval i v hP
  subst hv
  have hS':=keep hi hm hS
  have h0s':∀ b o,b ∉ S::wr->h0.get? b=some o->s'.heap.get? b=some o:=fun b o hb ho=>hm.heap b o (fun z=>hb (hsub _ z)) (h0s b o hb ho)
  have hkey:∀ j,j<n->IsTupleKey (zC prog w) s'.heap (key j) (ad j):=fun j hj=>xi (T.at' j hj) fun o ho=>h0s' _ o (T.out j hj) ho
  show wpAny _ A.in1 (holding [Value.ref (ad i)] (setAdd S (.ref (ad i))) >>= _) _ _ s'
  refine wpAny_bind (wpAny_holding ?_)
  unfold setAdd
  refine wpAny_holding ?_
  have hu1:A.in1.units<cLine:=by show A.units+1<cLine;omega
  refine wpAny_bind (wpAny_pyHash_tuple hu1 (hkey i hlt) ?_)
  refine zay (s:={ s' with toks:=s'.toks+((key i).length+1) }) hu1 hS' (by rw [tlD,List.length_map];exact Nat.lt_of_le_of_lt (jU key i) (by omega)) (hkey i hlt) fun h' _ L' hsb hS2 hL'=>?_
  have eL:L'=tlD ad key (i+1):=by
   rcases hL' with ⟨rfl,v,hv,hn⟩ | ⟨rfl,hn⟩
   ·unfold tlD
    rw [zby,if_pos]
    refine Kv.mpr (Jx fun z=>hn fun b' k' e1 e2 e3=>z ?_)
    rw [e1] at hv
    obtain ⟨j,hj,hj2,rfl⟩:=zdD hv
    exact ⟨j,hj,decide_eq_true (by rw [← e3,e2.inj (hkey j (by omega))])⟩
   ·unfold tlD
    rw [q9,Ks]
    ·rfl
    intro j hj e
    have hji:=wu hj
    exact hn (.ref (ad j)) (Jo.mpr ⟨j,hj,rfl⟩) (ad j) (key j) rfl (hkey j (by omega)) e
  subst eL
  refine wpAny_pure ⟨plainId_quiet KD _,ih (i+1) _ (by omega) hlt (W.frame _ s' _ _ hst' (Nat.le_add_right _ _) fun b hb o e=>?_) (fun b o hb ho=>?_) hS2 fun s'' hm'' hS''=>?_⟩
  ·rw [hsb b (fun h:b=S=>hSf (by rw [← h];exact hb))];exact e
  ·rw [hsb b (fun h:b=S=>hb (by rw [h];exact Jf))];exact h0s' b o hb ho
  ·refine hR s'' (Moved.trans W.gtrans ((hm.mono hsub).then_heap (Nat.le_add_right _ _) fun b o hb e=>?_) hm'') hS''
   rw [hsb b (fun h:b=S=>hb (by rw [h];exact Jf))];exact e
end
noncomputable def w5(ks:List (List Key)):List (List Key):=(foL (ks.getD · []) ks.length).map (ks.getD · [])
theorem zhc{ks:List (List Key)}{i:Nat}(h:i<ks.length):ks.getD i [] ∈ ks:=by
 rw [JH,Jr h];exact Kn _
theorem dedM_mem{ks:List (List Key)}{k:List Key}:k ∈ w5 ks ↔ k ∈ ks:=by
 constructor
 ·intro h
  obtain ⟨j,hj,rfl⟩:=Jo.mp h
  exact zhc (wu hj)
 ·intro h
  obtain ⟨i,hi⟩:=Ke.mp h
  obtain ⟨j,hj,e⟩:=zdR (key:=(ks.getD · [])) (JB.mp hi).1
  refine Jo.mpr ⟨j,hj,?_⟩
  have e:ks.getD j []=ks.getD i []:=e
  show ks.getD j []=k
  rw [e,JH,hi];rfl
theorem zcO(ks:List (List Key)):(w5 ks).Nodup:=by
 unfold w5
 rw [JG,JJ]
 exact zcM _ _
theorem qe{ks:List (List Key)}{o:List Nat}(h:okM ks=true)(q1:o.Perm (foL (ks.getD · []) ks.length))(q2:(o.map (ks.getD · [])).Pairwise fun x y=>¬ enc y<enc x):(o.map fun i=>(ks.map tPV).getD i PV.non)=(vP (w5 ks)).map tPV:=by
 have e2:vP (w5 ks)=o.map (ks.getD · []):=zaL (b:=shp (ks.headD [])) (fun k hk=>ziN h k (dedM_mem.mp hk)) (q1.map _) q2
 rw [e2,Kr]
 refine Qr fun i hi=>?_
 have hlt:=wu (q1.mem_iff.mp hi)
 simp [List.getD,hlt]
section
variable {prog:Program} {w:World} {A:Around} {E:Value->Shared->Prop} {s:Shared}
theorem zfj{l:Addr}{key:Nat->List Key}{items:Array Value}{ad:Nat->Addr}{Q:Value->Shared->Prop}
  (hh:A.handled=none)(hu:A.units+16<cLine)(hl:s.heap.IsList l items)(hv:∀ i v,items[i]?=some v->v=Value.ref (ad i))(T:TupsD prog w s.heap items.size ad key [])(hb:items.size<200)
  (h:∀ (h':Heap) (tk:Nat),SetD prog w h' s.heap.objs.size (tlD ad key items.size) (!w.params.followText "set-order")->
   (∀ b o,b<s.heap.objs.size->s.heap.get? b=some o->h'.get? b=some o)->Q (.ref s.heap.objs.size) { s with heap:=h',toks:=tk }):
  wpAny (model prog w) A (call (.type "set") [.ref l]) Q E s:=by
 generalize hled:(!w.params.followText "set-order")=led at h
 let o0:Obj:={ cls:=.type "set",dict:=none,data:=.set #[] 0 (.fresh 0 0 led) }
 obtain ⟨c,tl0,hmro⟩:=PySem.F.called_set.mro
 have hmade:=PySem.F.called_set.made
 have hsub:=PySem.F.called_set.sub
 refine wpAny_call (codeAny_of_tree ?_)
 show wpAny _ _ (callAny (.type "set") _) _ _ _
 refine wpAny_pure ⟨Code.quiet_builtin _ (by decide +kernel),codeAny_builtin PySem.F.entry_type_call ?_⟩
 rw [Around.under_plain (weight_type_call_type "set" [.ref l] []) rfl]
 have h1:=PySem.F.called_set.notType
 have h2:=PySem.F.called_set.canCreate
 have hct:=PySem.F.typeCall_set_1 (.ref l)
 repeat (any_goals (first | assumption | wp_step))
 refine codeAny_mono (zbl (.ref l) (E:=E) (Q₁:=fun obj s₁=>obj=.ref s.heap.objs.size/\s₁={ s with heap:=s.heap.push o0 }) ⟨rfl,by rw [hled]⟩) fun r s₁ hr=>?_
 cases r with
 | error e=>exact hr
 | ok fl=>
  cases fl with
  | ret obj=>
   obtain ⟨rfl,rfl⟩:=hr
   have hS:(s.heap.push o0).get? s.heap.objs.size=some o0:=Jq _ rfl
   have hT:Shared.TypeIs { s with heap:=s.heap.push o0 } (.ref s.heap.objs.size) "set":=⟨_,hS,rfl⟩
   have hli:=PySem.F.called_set.init.lookup
   have hbi:=PySem.F.called_set.init.bind (.ref s.heap.objs.size)
   repeat (any_goals (first | assumption | wp_step))
   refine codeAny_mono (codeAny_call_builtin (R:=wants (fun r s₂=>r=.none/\∃ h' tk,s₂={ s with heap:=h',toks:=tk }/\
     SetD prog w h' s.heap.objs.size (tlD ad key items.size) led/\(∀ b o,b<s.heap.objs.size->s.heap.get? b=some o->h'.get? b=some o)) E) PySem.F.called_set.init.plain PySem.F.entry_set_init (check_set_init_1 hT ?_)) fun r₂ s₂ hr₂=>?_
   ·obtain ⟨ol,hol,hcl,nl,hdl⟩:=hl
    obtain ⟨ocls,odict,odata,oslots⟩:=ol
    simp only at hcl hdl
    subst hcl;subst hdl
    have hol':(s.heap.push o0).get? l=some { cls:=.type "list",dict:=odict,data:=.seq items nl,slots:=oslots }:=Jc _ hol
    have hsls:=PySem.F.sub_list_set
    have hslf:=PySem.F.sub_list_frozenset
    have hne:(Value.type "list" == Value.type "dict")=false:=by decide
    have hl1:(s.heap.push o0).IsList l items:=⟨_,hol',rfl,nl,rfl⟩
    unfold Builtin.«set.__init__» noKeywords Builtin.Frozenset.updateFrom
    generalize hPI:pyIter=PI
    wp_walk
    subst hPI
    refine wpAny_pyIter_list hl1 ?_
    refine wpAny_bind (wpAny_runValue ?_)
    have hlS:l<s.heap.objs.size:=Jn hol
    have hh3:A.in1.in1.in1.handled=none:=by simp [hh]
    have hneI:l≠(s.heap.push o0).objs.size:=by
     rw [KM];exact Ju (JY hlS)
    have hSf:s.heap.objs.size ∉ [(s.heap.push o0).objs.size,l]:=by
     rw [Heap.size_push];simp only [List.mem_cons,List.mem_singleton,List.not_mem_nil,or_false,not_or]
     exact ⟨Ju (KJ _),Qd hlS⟩
    have hu2:A.in1.in1.units+8<cLine:=by show A.units+1+1+8<cLine;omega
    have T2:TupsD prog w s.heap items.size ad key (s.heap.objs.size::[(s.heap.push o0).objs.size]):=⟨T.at',fun i hi z=>by
     obtain ⟨o',_,_,ho',_⟩:=T.at' i hi
     have hlt:=Jn ho'
     simp only [List.mem_cons,List.not_mem_nil,or_false] at z
     rcases z with z | z
     ·exact Ju hlt z
     ·rw [KM] at z
      exact Ju (JY hlt) z⟩
    refine qT ((Walks.list hh3 _ l hneI items).toS) s.heap.objs.size hSf hv T2 hb hu2 (items.size - 0) 0 _ (by omega) (Kb _)
     ⟨⟨_,Jq _ rfl,rfl,rfl⟩,(hl1.push _)⟩ (fun b o _ e=>Jc _ (Jc _ e)) (SetD.fresh (Jc _ hS)) ?hR
    case hR=>
     intro s' hm hS'
     obtain ⟨h',g',d',tk',os'⟩:=s'
     have eg:g'=s.gens:=hm.gens
     have ed:d'=s.drawn:=hm.drawn
     have eo:os'=s.os:=hm.os
     subst eg;subst ed;subst eo
     show wpAny _ _ _ _ _ _
     refine wpAny_pure ?_
     show wpAny _ _ (ret Value.none) _ _ _
     refine wpAny_pure ⟨rfl,h',tk',rfl,hS',fun b o hb e=>?_⟩
     have hb1:b≠s.heap.objs.size:=Ju hb
     have hb2:b≠(s.heap.push o0).objs.size:=by
      rw [KM];exact Ju (JY hb)
     exact hm.heap b o (by simp only [List.mem_cons,List.mem_singleton,List.not_mem_nil,or_false,not_or];exact ⟨hb1,hb2⟩) (Heap.get?_push_of_some _ (Heap.get?_push_of_some _ e))
   ·cases r₂ with
    | error e=>exact hr₂
    | ok fl₂=>
     cases fl₂ with
     | ret r=>
      obtain ⟨rfl,h',tk,rfl,hS',hk'⟩:=hr₂
      repeat (any_goals (first | assumption | wp_step))
      exact h _ _ hS' hk'
     | _=>exact hr₂.elim
  | _=>exact hr.elim
end
end F
namespace L2
open PySem PySem.Spec PySem.W PyProof.Rows F
noncomputable def zer(K:PySem.W.Frag)(ta:TA):TE:=fun σ H Q=>ta σ H fun vs H1=>∃ p,∃ (xs:List V) (ks:List (List Key)),vs=[.ref p]/\SqL K H1 p xs/\TuL K H1 xs ks/\okM ks=true/\2≤(foL (ks.getD · []) ks.length).length/\ks.length<200/\
 ∀ (o:List Nat) l,o.Perm (foL (ks.getD · []) ks.length)->(o.map (ks.getD · [])).Pairwise (fun x y=>¬ enc y<enc x)->H1 l=none->Q (.ref l) (upd H1 l (.lst (o.map fun i=>xs.getD i V.non)))
theorem zba{X:Cx}(hc:X.calm=true)(hu:X.A.units+64<cLine)(hg:Gl X "sorted")(hm:X.mg "sorted"=none)(hg2:Gl X "set")(hm2:X.mg "set"=none)(ha:PA X [e] ta)
  (he:starEach [.Call (.Name "set" p2) [e] [] pos2] X.env=[(false,eval (.Call (.Name "set" p2) [e] [] pos2) X.env)]:=by rfl)(he2:starEach [e] X.env=[(false,eval e X.env)]:=by rfl):
  PE X (.Call (.Name "sorted" p1) [.Call (.Name "set" p2) [e] [] pos2] [] pos) (zer X.K ta):=by
 intro pins s σ H Q I h
 refine wpAny_Call_Name_kw (wj I hg hm boot_sorted ?_)
 refine Qw ?_ he rfl
 rw [he]
 show wpAny _ _ (spliced ((false,eval (.Call (.Name "set" p2) [e] [] pos2) X.env)::[])) _ _ s
 refine Calls.spliced_cons ?_
 refine wpAny_Call_Name_kw (wj I hg2 hm2 zbL ?_)
 refine Qe (thn (ha pos2 pins s σ H _ I h) fun us s1 ⟨vs,H1,I1,r1,p,xs,ks,ev,hx,hTu,hok,h2k,hl,q⟩=>?_) he2 rfl
 subst ev
 cases r1 with
 | cons r rr=>
  cases rr
  cases r
  obtain ⟨its,v1,c1,_⟩:=I1.list hx
  have hlk:=hTu.1
  have hlen:its.length=ks.length:=by rw [← v1.length,hlk]
  have hat0:=zmr I1 v1 hTu
  have hat:∀ i,i<ks.length->its.getD i Value.none=.ref (adV xs i)/\PySem.IsTupleKey (zC X.prog X.w) s1.heap (ks.getD i []) (adV xs i):=fun i hi=>by
   obtain ⟨l,a1,a2,a3⟩:=hat0 i hi
   have ea:adV xs i=l:=by unfold adV;rw [a2]
   rw [ea];exact ⟨a1,a3⟩
  have esz:its.toArray.size=ks.length:=by rw [Jv,hlen]
  have T:TupsD X.prog X.w s1.heap its.toArray.size (adV xs) (fun i=>ks.getD i []) []:=⟨fun i hi=>(hat i (by omega)).2,fun i hi z=>(nomatch z)⟩
  have hFl:=jU (ks.getD · []) ks.length
  have hFm:∀ j ∈ foL (ks.getD · []) ks.length,j<ks.length:=fun j hj=>wu hj
  refine zfj (I1.ok.hd hc) (by omega) c1.isList (fun i v hv=>?_) T (by rw [esz];exact hl) fun h' tk hS kk=>?_
  ·have hi:i<its.length:=by
    obtain ⟨z,_⟩:=Jw.mp hv
    simpa using z
   have:=(hat i (by omega)).1
   rw [← this,JH,← List.getElem?_toArray,hv];rfl
  rw [esz] at hS
  refine Calls.spliced_nil ?_
  obtain ⟨o,es,ep,tb,ho,hex,hd,B⟩:=hS
  have I2:Inv X pins σ H1 { s1 with heap:=h',toks:=tk }:=I1.kept (t':=tk) fun b u q=>kk b u (Heap.lt_size q) q
  have hsz:es.size<200:=by rw [B.size,tlD,Je];exact Qy hFl hl
  refine Calls.call_function_entry kind_sorted plain_sorted entry_sorted (args_sorted1 _) ?_
  unfold Builtin.«sorted»
  refine wpAny_bind (m:=checkCount "sorted" 1 1 _) (wpAny_pure ?_)
  have h2e:2≤es.size:=by rw [B.size,tlD,Je];exact h2k
  refine wpAny_bind (zfh (A:=X.A.in1) (s:={ s1 with heap:=h',toks:=tk }) (I.ok.hd hc) rfl ⟨o,ho,hex,hd⟩ B.good h2e (by omega) fun h2 tk2 d2 acc hk hpa=>?_)
  have hpm:acc.toList.Perm ((foL (ks.getD · []) ks.length).map fun j=>Value.ref (adV xs j)):=hpa.trans B.perm
  obtain ⟨c,hcp,hce⟩:=zjH (fun j=>Value.ref (adV xs j)) hpm _ rfl
  obtain ⟨n',hn'⟩:∃ n',n'=(foL (ks.getD · []) ks.length).length:=⟨_,rfl⟩
  rw [← hn'] at hFl
  have hcl:c.length=n':=by rw [hcp.length_eq,hn']
  have hal:acc.toList.length=n':=by rw [hce,Je,hcl]
  have hcj:∀ i,i<n'->c.getD i 0<ks.length:=fun i hi=>by
   have:c.getD i 0 ∈ c:=by rw [JH,Jr (by omega)];exact Kn _
   exact hFm _ (hcp.mem_iff.mp this)
  have hgk:∀ i,i<n'->(c.map (ks.getD · [])).getD i []=ks.getD (c.getD i 0) []:=fun i hi=>by simp [List.getD,show i<c.length by omega]
  have hga:∀ i,i<n'->acc.toList.getD i Value.none=.ref (adV xs (c.getD i 0)):=fun i hi=>by rw [hce];simp [List.getD,show i<c.length by omega]
  refine wpAny_bind (wpAny_newList ?_ (by rw [sizeLine_eq];omega))
  have hoL:(h2.push (seqObj "list" acc.toList.toArray 0)).get? h2.objs.size=some (seqObj "list" acc.toList.toArray 0):=Jq _ rfl
  have hP:TupsX X.prog X.w (h2.push (seqObj "list" acc.toList.toArray 0)) h2.objs.size acc.toList (c.map (ks.getD · [])):=by
   refine ⟨by rw [Je,hal,hcl],fun i hi=>?_,fun i j hi hj=>?_,fun i hi=>?_⟩
   ·rw [hal] at hi
    have hK:=(hat _ (hcj i hi)).2
    obtain ⟨o,items,m,ho,hr⟩:=hK
    have hlt:=Jn ho
    have h2o:h2.get? (adV xs (c.getD i 0))=some o:=hk _ _ (kk _ _ hlt ho)
    exact ⟨_,hga i hi,Ju (Jn h2o),by rw [hgk i hi];exact ⟨o,items,m,Jc _ h2o,hr⟩⟩
   ·rw [Je,hcl] at hi hj
    rw [hgk i hi,hgk j hj,(zcv hok (hcj i hi)).2,(zcv hok (hcj j hj)).2]
   ·rw [Je,hcl] at hi
    rw [hgk i hi];exact (zcv hok (hcj i hi)).1
  refine wpAny_bind (wpAny_holding (wpAny_call_entry PyProof.Rows.slot_list_sort (s:={ s1 with heap:=h2.push (seqObj "list" acc.toList.toArray 0),toks:=tk2,drawn:=d2 }) ⟨_,hoL,rfl⟩ PyProof.Rows.entry_list_sort (zeu hoL hP (by omega) fun p hp hs=>⟨_,rfl,?_⟩) (PyProof.Rows.args_list_sort _)))
  refine wpAny_pure ⟨_,rfl,?_⟩
  rw [hal] at hp
  have hpl:∀ i ∈ p,i<n':=fun i hi=>JA.mp (hp.mem_iff.mp hi)
  have hqp:(p.map (c.getD · 0)).Perm (foL (ks.getD · []) ks.length):=by
   refine (hp.map _).trans ?_
   have h:=zaX 0 c
   rw [hcl] at h
   rw [h];exact hcp
  have hqs:((p.map (c.getD · 0)).map (ks.getD · [])).Pairwise (fun x y=>¬ enc y<enc x):=by
   rw [Kr]
   have:p.map ((ks.getD · []) ∘ (c.getD · 0))=p.map ((c.map (ks.getD · [])).getD · []):=Qr fun i hi=>(hgk i (hpl i hi)).symm
   rw [this];exact hs
  generalize hqq:p.map (c.getD · 0)=o2 at hqp hqs
  have hout:(p.map fun i=>acc.toList.getD i Value.none)=o2.map fun j=>its.getD j Value.none:=by
   rw [← hqq,Kr]
   exact Qr fun i hi=>by rw [hga i (hpl i hi)];exact ((hat _ (hcj i (hpl i hi))).1).symm
  rw [hout]
  have ho2:∀ i ∈ o2,i<xs.length:=fun i hi=>by rw [hlk];exact hFm _ (hqp.mem_iff.mp hi)
  obtain ⟨e',he'⟩:∃ e',(sortedHeap (h2.push (seqObj "list" acc.toList.toArray 0)) h2.objs.size acc.toList (o2.map fun j=>its.getD j Value.none).toArray).get? h2.objs.size=some (seqObj "list" (o2.map fun j=>its.getD j Value.none).toArray e'):=sortedHeap_at hoL
  have I3:Inv X pins σ H1 { s1 with heap:=h2,toks:=tk2,drawn:=d2 }:=(I2.kept (t':=tk2) hk).drew
  have hn:=I3.hok.fresh (a:=h2.objs.size) (Jj _)
  refine ⟨.ref h2.objs.size,_,I3.laid (h':=sortedHeap (h2.push (seqObj "list" acc.toList.toArray 0)) h2.objs.size acc.toList (o2.map fun j=>its.getD j Value.none).toArray) (o:=.lst (o2.map fun i=>xs.getD i V.non)) (t':=tk2) (fun b u hb=>?_) (Nat.le_refl _) ⟨by rw [List.length_map,hqp.length_eq,sizeLine_eq];omega,_,e',kg v1 o2 ho2,by simpa [seqObj] using he'⟩,rfl,q o2 _ hqp hqs hn⟩
  have hlt:=Jn hb
  rw [sortedHeap_old (Ju hlt) (by rw [size_push'];exact JY hlt)]
  exact Jc _ hb
end L2
namespace F
open PySem PySem.Spec PyProof.Rows L2
noncomputable def y8(f:FA):FE:=fun env=>(f env).bind fun ps=>match ps with | [.lst qs]=>(zcf qs).bind fun ks=>if okM ks=true/\2≤(w5 ks).length/\ks.length<200 then some (.lst ((vP (w5 ks)).map tPV)) else none | _=>none
theorem zaB{X:Cx}(hc:X.calm=true)(hu:X.A.units+64<cLine)(hg:Gl X "sorted")(hm:X.mg "sorted"=none)(hg2:Gl X "set")(hm2:X.mg "set"=none)(ha:VA X κ G c [e] fs)
  (he:starEach [.Call (.Name "set" p2) [e] [] pos2] X.env=[(false,eval (.Call (.Name "set" p2) [e] [] pos2) X.env)]:=by rfl)(he2:starEach [e] X.env=[(false,eval e X.env)]:=by rfl):
  VE X κ G (.mv []) (.Call (.Name "sorted" p1) [.Call (.Name "set" p2) [e] [] pos2] [] pos) (y8 fs):=(zba hc hu hg hm hg2 hm2 ha.1 he he2).imp fun σ H Q hq=>by
 refine hq.elim fun own env z I hf k=>?_
 unfold y8 at hf
 replace hf:=Ja.mp hf;obtain ⟨ps,hp,hf⟩:=hf
 split at hf
 case h_2=>cases hf
 rename_i qs
 replace hf:=Ja.mp hf;obtain ⟨ks,hk,hf⟩:=hf
 split at hf
 case isFalse=>cases hf
 rename_i hh
 cases hf
 have:=zdk hk
 subst this
 refine (.in I hp fun vs H1 A s1 r1 _=>?_)
 obtain ⟨v,rfl,rv⟩:=z8 r1
 obtain ⟨a,xs,B,rfl,g2,_,g4⟩:=rv.L
 obtain ⟨rfl,hQ⟩:=zdj g4
 refine ⟨a,xs,ks,rfl,SqL.of g2,hQ,hh.1,by have:=hh.2.1;unfold w5 at this;rwa [List.length_map] at this,hh.2.2,fun o l q1 q2 hn=>?_⟩
 have hlt:∀ i ∈ o,i<ks.length:=fun i hi=>wu (q1.mem_iff.mp hi)
 obtain ⟨C,rC,hC⟩:=zaU g4 o fun i hi=>by rw [Je];exact hlt i hi
 have hC0:C=[]:=List.eq_nil_iff_forall_not_mem.mpr fun x hx=>nomatch hC x hx
 subst hC0
 rw [qe hh.1 q1 q2] at rC
 have hl0:H l=none:=by
  cases hq:H l with
  | none=>rfl
  | some o=>rw [s1 _ _ hq] at hn;cases hn
 have s2:Same H1 (upd H1 l (.lst (o.map fun i=>xs.getD i V.non))):=zw (Same.refl _) hn
 exact k _ _ [l] (s1.trans s2) (.mkL zT (Rps.same s2 _ rC)) ⟨by simp,by simpa using hl0⟩
end F
namespace F
open PySem L2
section
variable {env:En} {f fa fb fc:FE} {t u:FT} {fs:FA} {g h:FS} {p q:PV}
@[simp] theorem zlN(i:Nat):zA i env=(env[i]?).join:=rfl
@[simp] theorem zlR(p:PV):fC p env=some p:=rfl
@[simp] theorem uZ(k:PV->PV->Option PV):fOp k fa fb env=(fa env).bind fun x=>(fb env).bind fun y=>k x y:=rfl
@[simp] theorem zpg(k:PV->Option PV):fUn k fa env=(fa env).bind k:=rfl
@[simp] theorem zoW:ze f env=(f env).bind fun p=>if zQ p=true then some p else none:=rfl
@[simp] theorem zlQ:fT f env=(f env).bind zf:=rfl
@[simp] theorem zlP:zac t u env=(t env).bind fun b=>if b=true then u env else some false:=rfl
@[simp] theorem zee:fOr t u env=(t env).bind fun b=>if b=true then some true else u env:=rfl
@[simp] theorem zlO:uU t env=(t env).map fun b=>!b:=rfl
@[simp] theorem zph:fIf t fa fb env=(t env).bind fun c=>if c=true then fa env else fb env:=rfl
@[simp] theorem zoU:zF env=some []:=rfl
@[simp] theorem xb:zB f fs env=(f env).bind fun p=>(fs env).map fun ps=>p::ps:=rfl
@[simp] theorem zoS:yj fs env=(fs env).map .tup:=rfl
@[simp] theorem zoV:vq fs env=(fs env).map .lst:=rfl
@[simp] theorem zaq(Φ:List PV->Option PV):zE Φ fs env=(fs env).bind Φ:=rfl
@[simp] theorem zhH(k k':PV->PV->Option PV):yY k k' fa fb fc env=(fa env).bind fun x=>(fb env).bind fun y=>(k x y).bind fun z=>(zf z).bind fun b=>if b=true then (fc env).bind fun w=>k' y w else some (.bl false):=rfl
@[simp] theorem zoh:kK fa fb env=(fa env).bind fun x=>(zf x).bind fun k=>if k=true then fb env else some (.bl false):=rfl
@[simp] theorem zoT:zeR fa fb env=(fa env).bind fun x=>(zf x).bind fun k=>if k=true then some (.bl true) else fb env:=rfl
@[simp] theorem zof:zbC fa env=(fa env).bind fun x=>(zf x).map fun k=>.bl (!k):=rfl
@[simp] theorem znS:fNx env=some (.nx env):=rfl
@[simp] theorem zpj:fBk env=some (.bk env):=rfl
@[simp] theorem zpi:fCt env=some (.ct env):=rfl
@[simp] theorem xN:yI f env=(f env).map fun p=>.rt p env:=rfl
@[simp] theorem zoe:zjO env=some (.rt .non env):=rfl
@[simp] theorem xO:yJ t g h env=(t env).bind fun b=>if b=true then g env else h env:=rfl
@[simp] theorem zap(i:Nat):zV i f env=(f env).map fun p=>.nx (env.set i (some p)):=rfl
@[simp] theorem zoX(b:PV->En->Option En):zeS b f env=(f env).bind fun p=>(b p env).map .nx:=rfl
@[simp] theorem vM(b:PV->En->Option En):xX fs b g env=(fs env).bind fun ps=>xQ b g ps env:=rfl
@[simp] theorem w9:zZ f env=(f env).bind wY:=rfl
@[simp] theorem zod:znD f env=(f env).bind fun p=>(wY p).bind fun ps=>if isDatas ps=true then some ps else none:=rfl
@[simp] theorem zhI(i:Nat):zJ i p env=some (env.set i (some p)):=rfl
@[simp] theorem zoR:zbB env=some true:=rfl
@[simp] theorem zhG:kJ env=some (.dct [] []):=rfl
@[simp] theorem zma:wM env=some none:=rfl
@[simp] theorem zhF(n:Nat)(js:List Nat)(b:PV->En->Option En):fLC fs n js b t f env=(fs env).bind fun ps=>if ps.length≤100000 then (zo b t f ps (cE n js env)).map .lst else none:=rfl
theorem zD(hg:g env=some (.nx e)):zK g h env=h e:=by unfold zK;rw [hg];rfl
@[simp] theorem zjg:zK g h env=(g env).bind fun o=>match o with | .nx e=>h e | o=>some o:=rfl
end
section
variable {i j:Int} {xs ys:List Int} {ps qs:List PV}
@[simp] theorem znN:zQ (.int i)=true:=rfl
@[simp] theorem zjp{b:Bool}:zQ (.bl b)=true:=rfl
@[simp] theorem znL{x:Str}:zQ (.str x)=true:=rfl
@[simp] theorem znM:zQ .non=true:=rfl
@[simp] theorem zhr:zQ (.tup ps)=isDatas ps:=by simp [zQ]
@[simp] theorem zlY:isDatas []=true:=rfl
@[simp] theorem zlH{p:PV}:isDatas (p::ps)=(zQ p && isDatas ps):=by simp [isDatas]
@[simp] theorem xL:isDatas (xs.map PV.int)=true:=qu xs
@[simp] theorem zlZ:isDatas (ps++qs)=(isDatas ps && isDatas qs):=yi ps qs
@[simp] theorem zed{b:Bool}:zf (.bl b)=some b:=rfl
@[simp] theorem zlT:zv (.int i) (.int j)=some (.int (i+j)):=rfl
@[simp] theorem zkA:yw (.int i) (.int j)=some (.int (i - j)):=rfl
@[simp] theorem znm:vLt (.int i) (.int j)=some (.bl (decide (i<j))):=rfl
@[simp] theorem zjM:vLe (.int i) (.int j)=some (.bl (decide (i≤j))):=rfl
@[simp] theorem zpc:vGt (.int i) (.int j)=some (.bl (decide (j<i))):=rfl
@[simp] theorem zpd:vGe (.int i) (.int j)=some (.bl (decide (j≤i))):=rfl
@[simp] theorem zpb:zkp (.int i)=some (.int (-i)):=rfl
theorem jx(h:IntMulOk i j):zt (.int i) (.int j)=some (.int (i * j)):=by simp [zt,h]
theorem ziS(h : -(2 ^ 64)<i/\i<2 ^ 64):IntMulOk i j:=.of_left (intBits_le_64 h.1 h.2)
theorem ziR(h : -(2 ^ 64)<j/\j<2 ^ 64):IntMulOk i j:=.of_right (intBits_le_64 h.1 h.2)
theorem xE(h : -(2 ^ 64)<i/\i<2 ^ 64):zt (.int i) (.int j)=some (.int (i * j)):=jx (ziS h)
theorem znk(h : -(2 ^ 64)<j/\j<2 ^ 64):zt (.int i) (.int j)=some (.int (i * j)):=jx (ziR h)
theorem wL(h:0<j/\j<1073741824):yM (.int i) (.int j)=some (.int (i / j)):=by simp [yM,h]
theorem yD(h:0<j):xP (.int i) (.int j)=some (.int (i % j)):=by simp [xP,h]
@[simp] theorem znY:wY (.lst ps)=some ps:=rfl
@[simp] theorem znZ:wY (.fls ps)=some ps:=rfl
@[simp] theorem znX:wY (.tup ps)=some ps:=rfl
@[simp] theorem zmz:zdq (.lst ps)=some ps:=rfl
@[simp] theorem zaQ:zdq (.tup ps)=some ps:=rfl
@[simp] theorem uO:yH [.lst ps]=some (.int ps.length):=rfl
@[simp] theorem zoa:yH [.fls ps]=some (.int ps.length):=rfl
@[simp] theorem zdG:yH [.tup ps]=some (.int ps.length):=rfl
@[simp] theorem zob{ks:List Key}:yH [.dct ks ps]=some (.int ks.length):=rfl
@[simp] theorem zlX:ud [.lst ps]=if isDatas ps=true then some (.tup ps) else none:=rfl
@[simp] theorem zno:wX [.tup ps]=if isDatas ps=true then some (.lst ps) else none:=rfl
@[simp] theorem znp:wX [.lst ps]=if isDatas ps=true then some (.lst ps) else none:=rfl
@[simp] theorem zoE{b:Bool}:zoj [.bl b]=some (.int (if b then 1 else 0)):=rfl
@[simp] theorem zoC:vIx (.lst ps) (.int i)=atI ps i:=rfl
@[simp] theorem zoD:vIx (.fls ps) (.int i)=atI ps i:=rfl
@[simp] theorem ix_tup:vIx (.tup ps) (.int i)=atI ps i:=rfl
theorem zam{α β:Type}(f:α->β)(l:List α)(i:Int):atI (l.map f) i=(atI l i).map f:=by
 unfold atI
 rw [Je]
 cases ixN l.length i with
 | none=>rfl
 | some j=>simp
theorem xM{α:Type}{l:List α}{i:Int}(h0:0≤i)(h1:i<l.length):atI l i=l[i.toNat]?:=by
 unfold atI ixN
 rw [if_pos h0,if_pos h1];rfl
@[simp] theorem znR{α:Type}{a:α}{l:List α}:atI (a::l) 0=some a:=by
 rw [xM (by decide) (by simp only [List.length_cons];omega)];rfl
@[simp] theorem zpf{α:Type}{a b:α}{l:List α}:atI (a::b::l) 1=some b:=by
 rw [xM (by decide) (by simp only [List.length_cons];omega)];rfl
@[simp] theorem znQ{α:Type}{a b c:α}{l:List α}:atI (a::b::c::l) 2=some c:=by
 rw [xM (by decide) (by simp only [List.length_cons];omega)];rfl
@[simp] theorem zpe{α:Type}{a b c d:α}{l:List α}:atI (a::b::c::d::l) 3=some d:=by
 rw [xM (by decide) (by simp only [List.length_cons];omega)];rfl
theorem uQ(n:Int):∀ xs:List Int,inP (.int n) (xs.map PV.int)=decide (n ∈ xs)
 | []=>rfl
 | m::r=>by
  have ih:=uQ n r
  unfold inP at ih ⊢
  rw [Jm,KC,ih]
  by_cases e:m=n
  ·subst e;simp [eqS]
  ·have e':¬ n=m:=fun z=>e z.symm
   simp [eqS,e,e']
theorem ux(xs:List Int):(xs.map PV.int).all xI=true:=by
 rw [List.all_map];exact QI.mpr fun _ _=>rfl
@[simp] theorem zlz:vIn (.int i) (.lst (xs.map .int))=some (decide (i ∈ xs)):=by simp only [vIn,ux,uQ];rfl
@[simp] theorem zoF:vIn (.int i) (.fls (xs.map .int))=some (decide (i ∈ xs)):=by simp only [vIn,ux,uQ];rfl
@[simp] theorem zcL:vIn (.int i) (.tup (xs.map .int))=some (decide (i ∈ xs)):=by simp only [vIn,ux,uQ];rfl
@[simp] theorem zdN:vIn (.int i) (.tup [.int j,.int k])=some (decide (i=j∨i=k)):=by
 have:=zcL (i:=i) (xs:=[j,k])
 simpa using this
@[simp] theorem inE{p q:PV}:ye p q=(vIn p q).map .bl:=rfl
@[simp] theorem zgE{p q:PV}:z7 p q=(vIn p q).map fun b=>.bl (!b):=rfl
@[simp] theorem zoM:eqP (.int i) (.int j)=decide (i=j):=by
 unfold eqP yU PyData.eqv
 simp [Bool.beq_eq_decide_eq]
@[simp] theorem zoN:wy (.int i)=true:=by simp [wy,wf,yU,PyData.canLay0,PyData.depth]
@[simp] theorem znI:vEq (.int i) (.int j)=some (.bl (decide (i=j))):=by simp [vEq]
@[simp] theorem zjK:vNe (.int i) (.int j)=some (.bl (!decide (i=j))):=by simp [vNe]
end
section
variable {b:PV->En->Option En} {g:FS} {t:FT} {f:FE}
theorem zjf(P:List PV->En->Prop)(h0:P [] env)
  (step:∀ pre p post e,ps=pre++p::post->P pre e->∃ e1 e2,b p e=some e1/\(g e1=some (.nx e2)∨g e1=some (.ct e2))/\P (pre++[p]) e2):∃ e,xQ b g ps env=some (.nx e)/\P ps e:=by
 have go:∀ (post pre:List PV) (e:En),ps=pre++post->P pre e->∃ e',xQ b g post e=some (.nx e')/\P ps e':=by
  intro post
  induction post with
  | nil=>intro pre e hp h;exact ⟨e,rfl,by rw [hp,JS];exact h⟩
  | cons p post ih=>
   intro pre e hp h
   obtain ⟨e1,e2,h1,h2,h3⟩:=step pre p post e hp h
   obtain ⟨e',h4,h5⟩:=ih (pre++[p]) e2 (by rw [hp,Jy];rfl) h3
   refine ⟨e',?_,h5⟩
   unfold xQ
   rw [h1,Jb]
   rcases h2 with h2 | h2<;>(rw [h2,Option.bind_some];exact h4)
 exact go ps [] env rfl h0
theorem zbU(P:En->Prop)(μ:En->Nat)(step:∀ e,P e->t e=some false∨(t e=some true/\∃ e',(g e=some (.nx e')∨g e=some (.ct e'))/\P e'/\μ e'<μ e)):
  ∀ (n:Nat) (env:En),P env->μ env<n->∃ e,fWh t g n env=some (.nx e)/\P e/\t e=some false
 | 0,_,_,h=>absurd h (Kk _)
 | n+1,env,hp,hm=>by
  unfold fWh
  rcases step env hp with h | ⟨h,e',h2,h3,h4⟩
  ·refine ⟨env,?_,hp,h⟩
   rw [h];rfl
  ·obtain ⟨e,h5,h6,h7⟩:=zbU P μ step n e' h3 (by omega)
   refine ⟨e,?_,h6,h7⟩
   rw [h,Jb,if_pos rfl]
   rcases h2 with h2 | h2<;>(rw [h2,Option.bind_some];exact h5)
theorem zdZ{env:En}(T:PV->Bool)(W:PV->PV):∀ (ps:List PV),(∀ p ∈ ps,∃ e,b p env=some e/\t e=some (T p)/\(T p=true->f e=some (W p)))->zo b t f ps env=some ((ps.filter T).map W)
 | [],_=>rfl
 | p::ps,h=>by
  obtain ⟨e,h1,h2,h3⟩:=h p Jf
  have ih:=zdZ T W ps fun q hq=>h q (Jg _ hq)
  unfold zo
  rw [h1,Jb,h2,Jb,ih]
  cases hT:T p with
  | true=>rw [if_pos rfl,h3 hT,Jb,Ku,if_pos hT];rfl
  | false=>rw [if_neg Jk,Ku,if_neg (by rw [hT];exact Jk)]
theorem yB(T:Int->Bool)(W:Int->PV)(xs:List Int)(h:∀ n ∈ xs,∃ e,b (.int n) env=some e/\t e=some (T n)/\(T n=true->f e=some (W n))):zo b t f (xs.map PV.int) env=some ((xs.filter T).map W):=by
 have:=zdZ (env:=env) (b:=b) (t:=t) (f:=f) (fun p=>match p with | .int n=>T n | _=>false) (fun p=>match p with | .int n=>W n | p=>p) (xs.map PV.int) (by
  intro p hp
  obtain ⟨n,hn,rfl⟩:=Jo.mp hp
  exact h n hn)
 rw [this,List.filter_map,Kr]
 rfl
theorem zgc(lo:Int)(n:Nat):uj lo n=((List.range n).map fun (i:Nat)=>lo+(i:Int)).map PV.int:=by
 unfold uj;rw [List.map_map];rfl
theorem zjE(n:Nat):uj 0 n=((List.range n).map fun (i:Nat)=>(i:Int)).map PV.int:=by
 rw [zgc];simp
end
theorem xH{t:FT}(i v:Nat)(mk:List Int->Option PV->En)(T:Int->Bool)
  (h1:∀ acc x y,(mk acc x).set v (some y)=mk acc (some y))(h2:∀ acc acc' x,(mk acc x).set i (some (.lst (acc'.map PV.int)))=mk acc' x)
  (h3:∀ acc x,(mk acc x)[i]?=some (some (.lst (acc.map PV.int))))(h4:∀ acc x,(mk acc x)[v]?=some x):
  ∀ (xs acc:List Int) (x:Option PV),(∀ n ∈ xs,∀ acc,t (mk acc (some (.int n)))=some (T n))->acc.length+xs.length≤1000->
   ∃ x',xQ (zJ v) (yJ t (za i (ze (zA v))) fNx) (xs.map PV.int) (mk acc x)=some (.nx (mk (acc++xs.filter T) x'))
 | [],acc,x,_,_=>⟨x,by simp [xQ]⟩
 | n::xs,acc,x,ht,hl=>by
  simp only [List.length_cons] at hl
  have hn:=ht n Jf acc
  have hL:acc.length<100000:=by omega
  rw [Jm]
  unfold xQ
  rw [zhI,Jb,h1,xO,hn,Jb]
  cases hT:T n with
  | true=>
   obtain ⟨x',e⟩:=xH i v mk T h1 h2 h3 h4 xs (acc++[n]) (some (.int n)) (fun m hm=>ht m (List.mem_cons_of_mem _ hm)) (by simp only [List.length_append,List.length_singleton];omega)
   refine ⟨x',?_⟩
   have ha:za i (ze (zA v)) (mk acc (some (.int n)))=some (.nx (mk (acc++[n]) (some (.int n)))):=by
    have:(acc.map PV.int++[PV.int n])=(acc++[n]).map PV.int:=by simp
    have hd:ze (zA v) (mk acc (some (.int n)))=some (.int n):=by simp [h4]
    have hv:zA i (mk acc (some (.int n)))=some (.lst (acc.map PV.int)):=by simp [h3]
    unfold za
    rw [hv,Jb,hd,Jb]
    dsimp only
    rw [if_pos (by rw [Je];exact hL),this,h2]
   rw [if_pos rfl,ha,Jb]
   dsimp only
   rw [e,Ku,if_pos hT,Jy]
   rfl
  | false=>
   obtain ⟨x',e⟩:=xH i v mk T h1 h2 h3 h4 xs acc (some (.int n)) (fun m hm=>ht m (Jg _ hm)) (by omega)
   refine ⟨x',?_⟩
   rw [if_neg Jk,znS,Jb]
   dsimp only
   rw [e,Ku,if_neg (by rw [hT];exact Jk)]
noncomputable abbrev xy(L:List Int):PV:=.dct (L.map Sum.inl) (L.map fun _=>.bl true)
theorem uR(L:List Int)(p:Int):qw (L.map Sum.inl) (.inl p)=decide (p ∈ L):=by
 rw [Bool.eq_iff_iff,zha,decide_eq_true_eq]
 constructor
 ·intro h;obtain ⟨q,hq,e⟩:=List.mem_map.mp h;cases e;exact hq
 ·intro h;exact Jo.mpr ⟨p,h,rfl⟩
@[simp] theorem zgY{L:List Int}{p:Int}:vIn (.int p) (xy L)=some (decide (p ∈ L)):=by simp only [vIn,uR]
theorem zeW(L:List Int):isDatas (L.map fun _=>PV.bl true)=true:=yh _ (fun _=>rfl) L
theorem zds{L:List Int}(h:p ∉ L)(hl:L.length<100000):wW (xy L) (.int p) (.bl true)=some (xy (L++[p])):=by
 simp only [wW,zeW,zjp,List.length_map,hl,decide_true,Bool.and_self,if_true]
 unfold y6
 rw [uR,decide_eq_false h,if_neg Jk]
 simp [xy]
theorem y9:∀ xs:List Int,toPys (xs.map PV.int)=xs.map PyData.int
 | []=>rfl
 | x::r=>by rw [Jm,toPys,y9 r];rfl
theorem vi:∀ xs:List Int,okPys (xs.map PV.int)=true
 | []=>rfl
 | x::r=>by rw [Jm,okPys,vi r];rfl
theorem wx:∀ xs ys:List Int,PyData.eqvAll (xs.map PyData.int) (ys.map PyData.int)=decide (xs=ys)
 | [],[]=>rfl
 | [],_::_=>rfl
 | _::_,[]=>rfl
 | x::r,y::t=>by
  simp only [List.map_cons,PyData.eqvAll,PyData.eqv,wx r t]
  by_cases h:x=y<;>by_cases h':r=t<;>simp [h,h']
theorem j9:∀ xs:List Int,PyData.canLayAll0 (xs.map PyData.int)=true
 | []=>rfl
 | x::r=>by rw [Jm,PyData.canLayAll0,j9 r];rfl
theorem vv:∀ xs:List Int,PyData.depthAll (xs.map PyData.int)≤1
 | []=>by simp [PyData.depthAll]
 | x::r=>by
  have:=vv r
  rw [Jm,PyData.depthAll,PyData.depth]
  omega
@[simp] theorem zhm{xs:List Int}:wy (.lst (xs.map PV.int))=true:=by
 have h1:=vv xs
 have h2:PyData.depth (.list (xs.map PyData.int))≤64:=by rw [PyData.depth];omega
 simp only [wy,wf,vi,yU,y9,PyData.canLay0,j9,h2,decide_true,Bool.and_self]
@[simp] theorem znJ{xs:List Int}:wy (.tup (xs.map PV.int))=true:=by
 have h1:=vv xs
 have h2:PyData.depth (.tuple (xs.map PyData.int))≤64:=by rw [PyData.depth];omega
 simp only [wy,wf,vi,yU,y9,PyData.canLay0,j9,h2,decide_true,Bool.and_self]
@[simp] theorem zjk{xs ys:List Int}:eqP (.lst (xs.map PV.int)) (.lst (ys.map PV.int))=decide (xs=ys):=by
 simp only [eqP,yU,y9,PyData.eqv,wx]
@[simp] theorem zoc{xs ys:List Int}:eqP (.tup (xs.map PV.int)) (.tup (ys.map PV.int))=decide (xs=ys):=by
 simp only [eqP,yU,y9,PyData.eqv,wx]
theorem zlD{xs ys:List Int}:vEq (.lst (xs.map PV.int)) (.lst (ys.map PV.int))=some (.bl (decide (xs=ys))):=by simp only [vEq,zhm,zjk];rfl
theorem zlC{xs:List Int}:vEq (.lst (xs.map PV.int)) (.lst [])=some (.bl (decide (xs=[]))):=zlD (ys:=[])
theorem zjQ(xs:List Int):zbG (xs.map PV.int) none (some 1)=(xs.take 1).map PV.int:=by
 unfold zbG HT.sIx
 cases xs with
 | nil=>rfl
 | cons x r=>simp
theorem zmE(n:Nat):(List.replicate n [PV.int 1]).flatten=(List.replicate n 1).map PV.int:=by
 induction n with
 | zero=>rfl
 | succ n ih=>rw [Ko,KF,ih];rfl
end F
namespace F
open PySem PySem.Spec PyProof.Rows L2
theorem ky{K:PySem.W.Frag}{H:Hp}:∀ ns:List Int,Rps K H (ns.map PV.int) (ns.map V.int) []
 | []=>.nil
 | n::ns=>by
  have:=Rps.cons (K:=K) (H:=H) (Rp.mkI n) (ky ns)
  exact this
theorem zls{K:PySem.W.Frag}{Φ:List PV->Option PV}{H:Hp}{a:Addr}{ns:List Int}(ho:zjy H)(hs:SqL K H a (ns.map V.int))(h:Φ [.fls (ns.map PV.int)]=some (.bl true)):spV K 1 Φ [.ref a] H (fun v _=>v=.bl true) (fun _ _ _=>False):=by
 have fz:Fz K H a (ns.map V.int):=by
  rcases hs with (hs | hs) | hs
  ·rcases ho a with z | ⟨o,xs,z⟩
   ·rw [hs] at z;cases z
   ·rw [hs] at z;cases z
  ·exact .inl hs
  ·exact .inr hs
 refine ⟨[.fls (ns.map PV.int)],[],.bl true,Rps.one (by unfold Rp;exact ⟨a,_,rfl,fz,ky ns⟩),rfl,h,fun v H' C _ r _ _=>r.B.1⟩
end F
namespace F
open PySem L2
section
variable {env:En} {f fk:FE} {fs:FA}
@[simp] theorem zog:znE fs env=(fs env).bind fun ps=>if ps.length≤100000 then some (.lst ps) else none:=rfl
@[simp] theorem zoQ:zoL fs env=(fs env).bind fun ps=>match ps with | [p,q]=>(wY p).bind fun xs=>(wY q).bind fun ys=>some ((List.zip xs ys).map fun z=>PV.tup [z.1,z.2]) | _=>none:=rfl
end
noncomputable def dF(L:List Int)(G:Int->PV):PV:=.dct (L.map Sum.inl) (L.map G)
section
variable {L:List Int} {G:Int->PV} {p:Int} {q x:PV}
@[simp] theorem znv:vIn (.int p) (dF L G)=some (decide (p ∈ L)):=by simp only [dF,vIn,uR]
@[simp] theorem zoG:vIn .non (dF L G)=some false:=rfl
@[simp] theorem zoB:yH [dF L G]=some (.int L.length):=by simp [dF]
theorem zjr(h:p ∈ L):zbF (L.map Sum.inl) (L.map G) (.inl p)=some (G p):=by
 unfold zbF
 induction L with
 | nil=>cases h
 | cons a r ih=>
  rw [Jm,Jm,Qf,List.find?_cons]
  by_cases e:a=p
  ·subst e;simp
  ·have:decide ((((Sum.inl a:Key),G a):Key × PV).1=Sum.inl p)=false:=decide_eq_false fun z=>e (Sum.inl.inj z)
   rw [this]
   exact ih ((Qa.mp h).resolve_left fun z=>e z.symm)
theorem zgU(h:p ∈ L):vIx (dF L G) (.int p)=some (G p):=zjr h
noncomputable def DataOn(L:List Int)(G:Int->PV):Prop:=∀ p ∈ L,zQ (G p)=true
theorem zhq(h:DataOn L G):isDatas (L.map G)=true:=by
 rw [xW]
 intro y hy
 obtain ⟨a,ha,rfl⟩:=Jo.mp hy
 exact h a ha
noncomputable def upF(G:Int->PV)(p:Int)(q:PV):Int->PV:=fun y=>if y=p then q else G y
@[simp] theorem je:upF G p q p=q:=if_pos rfl
theorem qU(h:y≠p):upF G p q y=G y:=if_neg h
theorem zgi(hd:DataOn L G)(hq:zQ q=true)(hl:L.length<100000):wW (dF L G) (.int p) q=some (dF (if p ∈ L then L else L++[p]) (upF G p q)):=by
 simp only [dF,wW,zhq hd,hq,List.length_map,hl,decide_true,Bool.and_self,if_true]
 unfold y6
 rw [uR]
 by_cases h:p ∈ L
 ·rw [decide_eq_true h,if_pos rfl,if_pos h]
  congr 2
  clear h hl hd
  induction L with
  | nil=>rfl
  | cons a r ih=>
   simp only [List.map_cons,List.zipWith_cons_cons,ih]
   congr 1
   unfold upF
   by_cases e:a=p
   ·simp [e]
   ·simp [e]
 ·rw [decide_eq_false h,if_neg Jk,if_neg h]
  simp only [List.map_append,List.map_cons,List.map_nil,je]
  congr 3
  exact Qr fun a ha=>(qU (show a≠p from fun z=>h (by rw [← z];exact ha))).symm
theorem DataOn.put(hd:DataOn L G)(hq:zQ q=true):DataOn (if p ∈ L then L else L++[p]) (upF G p q):=by
 intro a ha
 unfold upF
 split
 ·exact hq
 ·rename_i e
  refine hd a ?_
  split at ha
  ·exact ha
  ·exact (Kd.mp ha).resolve_right fun z=>e (Ji.mp z)
end
@[simp] theorem zoP(G:Int->PV):PV.dct [] []=dF [] G:=rfl
noncomputable def okB(d:Nat)(p:PV):Prop:=wf p=true/\(yU p).canLay0=true/\(yU p).depth≤d
theorem okB.mono(h:okB d p)(hd:d≤e):okB e p:=⟨h.1,h.2.1,JO h.2.2 hd⟩
theorem okB.ok(h:okB d p)(hd:d≤64):wy p=true:=by
 have h3:(yU p).depth≤64:=JO h.2.2 hd
 simp [wy,h.1,h.2.1,h3]
theorem qm(i:Int):okB 0 (.int i):=⟨rfl,rfl,by simp [yU,PyData.depth]⟩
theorem zdA(h:PyData.canLay0 (.str x)=true):okB 0 (.str x):=⟨rfl,h,by simp [yU,PyData.depth]⟩
theorem zni{d:Nat}:∀ {ps:List PV},(∀ p ∈ ps,okB d p)->okPys ps=true/\PyData.canLayAll0 (toPys ps)=true/\PyData.depthAll (toPys ps)≤d
 | [],_=>⟨rfl,rfl,by simp [toPys,PyData.depthAll]⟩
 | p::ps,h=>by
  obtain ⟨h1,h2,h3⟩:=h p Jf
  obtain ⟨g1,g2,g3⟩:=zni fun q hq=>h q (Jg _ hq)
  refine ⟨by rw [okPys,h1,g1];rfl,by rw [toPys,PyData.canLayAll0,h2,g2];rfl,by rw [toPys,PyData.depthAll];omega⟩
theorem zdz(h:∀ p ∈ ps,okB d p):okB (d+1) (.tup ps):=by
 obtain ⟨h1,h2,h3⟩:=zni h
 exact ⟨by rw [wf];exact h1,by rw [yU,PyData.canLay0];exact h2,by rw [yU,PyData.depth];omega⟩
theorem zgD(xs:List Int):∀ p ∈ xs.map PV.int,okB 0 p:=fun p hp=>by
 obtain ⟨i,_,rfl⟩:=Jo.mp hp;exact qm i
theorem zhl(h:okB d p):eqP p p=true:=PySem.SeqAt.eqv_refl _ h.2.1
theorem zjj(h:okB d p)(hd:d≤64):vEq p p=some (.bl true):=by simp [vEq,h.ok hd,zhl h]
section
variable {b:PV->En->Option En} {g:FS} {t:FT} {f:FE}
theorem vG{α:Type}{xs:List α}{hh:α->PV}(P:List α->En->Prop)(h0:P [] env)
  (step:∀ pre a post e,xs=pre++a::post->P pre e->∃ e1 e2,b (hh a) e=some e1/\(g e1=some (.nx e2)∨g e1=some (.ct e2))/\P (pre++[a]) e2):∃ e,xQ b g (xs.map hh) env=some (.nx e)/\P xs e:=by
 have go:∀ (post pre:List α) (e:En),xs=pre++post->P pre e->∃ e',xQ b g (post.map hh) e=some (.nx e')/\P xs e':=by
  intro post
  induction post with
  | nil=>intro pre e hp h;exact ⟨e,rfl,by rw [hp,JS];exact h⟩
  | cons p post ih=>
   intro pre e hp h
   obtain ⟨e1,e2,h1,h2,h3⟩:=step pre p post e hp h
   obtain ⟨e',h4,h5⟩:=ih (pre++[p]) e2 (by rw [hp,Jy];rfl) h3
   refine ⟨e',?_,h5⟩
   rw [Jm]
   unfold xQ
   rw [h1,Jb]
   rcases h2 with h2 | h2<;>(rw [h2,Option.bind_some];exact h4)
 exact go xs [] env rfl h0
theorem zbJ{α:Type}{env:En}{hh:α->PV}(W:α->PV):∀ (xs:List α),(∀ a ∈ xs,∃ e,b (hh a) env=some e/\t e=some true/\f e=some (W a))->zo b t f (xs.map hh) env=some (xs.map W)
 | [],_=>rfl
 | a::xs,h=>by
  obtain ⟨e,h1,h2,h3⟩:=h a Jf
  have ih:=zbJ W xs fun q hq=>h q (Jg _ hq)
  rw [Jm]
  unfold zo
  rw [h1,Jb,h2,Jb,ih,if_pos rfl,h3,Jb];rfl
end
theorem xB{fs:FA}{env:En}{Φ:List PV->Option PV}(h:fs env=some as)(h2:Φ as=some p):zV i (zE Φ fs) env=some (.nx (env.set i (some p))):=by
 rw [zap,zaq,h,Jb,h2];rfl
theorem zU{fs:FA}{Φ:List PV->Option PV}(h:fs env=some as)(h2:Φ as=some p):zE Φ fs env=some p:=by
 rw [zaq,h,Jb,h2]
theorem yP{g:FS}{ps:List PV}(env:En)(he:ps.map some++List.replicate (m - ps.length) none=env)(h:g env=some (.rt p e)):fnV m g ps=some p:=by
 unfold fnV;rw [he,h];rfl
theorem zis{fs:FA}{j:Int}(h:fs env=some [.int j])(h1 : -1000000≤j)(h2:j≤1000000):xJ fs env=some (uj 0 j.toNat):=by
 have hj:j<4611686018427387904/\-4611686018427387904≤j:=by omega
 unfold xJ
 rw [h,Jb]
 simp [hj]
end F
namespace CB
variable {F:List Int} {d:Int} {stop:Int->Bool} {pre:List Int} {ps:List (Int × Nat)} {f:Int}
theorem Runs.next(r:Runs0 F d stop pre ps)(nf:f ∉ pre){a:Nat}{x:Int × Nat}(ha:ps[a]?=some x)(hc:f - d ∈ zec d x.1 x.2):f=x.1+x.2 * d:=by
 obtain ⟨i,hi,e⟩:=mem_chain.mp hc
 by_cases h:i+1<x.2
 ·have:=(r.inn _ (Ki ha) (i+1) h).1
  rw [zaN] at this
  exact absurd (by rwa [show f=x.1+(i * d+d) by omega]) nf
 ·have:x.2=i+1:=by omega
  rw [this,zaN];omega
theorem Runs.len(r:Runs0 F d stop pre ps):ps.length≤pre.length:=by
 have:=congrArg List.length r.heads
 rw [Je] at this
 rw [this]
 exact Kg _ _
end CB
namespace Cb
open PySem L2 F CB PyProof.Rows
theorem six{w:Int}(h1:1≤w)(h6:w≤6):w=1∨w=2∨w=3∨w=4∨w=5∨w=6:=by omega
noncomputable abbrev flV(w h:Int)(F:List Int):PV:=.tup [.int w,.int h,.tup (F.map PV.int)]
theorem vH{w h:Int}{F:List Int}(fl:IsFloor w h F):F.length≤36:=by
 have h1:=fl.h1
 have wh:w * h≤6 * 6:=Int.mul_le_mul fl.w6 fl.h6 (by omega) (by omega)
 have:=zI F (places w h) (zR fl.rise) fun p hp=>mem_places.mpr (fl.inn p hp)
 simp [places] at this
 omega
noncomputable def wq:FS:=(zK (yJ (fT (fOp vLt (zA 1) (zE yH (zB (zA 0) zF)))) (yI (ze (fOp vIx (zA 0) (zA 1)))) fNx)
 (zK (zV 2 (fOp zv (fOp zv (fOp zt (fOp zt (zA 1) (zA 1)) (fC (.int 7919))) (fOp zt (fC (.int 104729)) (zA 1))) (fC (.int 11))))
 (zK (yJ (fT (fOp vGt (zE yH (zB (zA 0) zF)) (fC (.int 0)))) (zV 2 (fOp zv (zA 2) (fOp zt (fOp vIx (zA 0) (fOp xP (zA 1) (zE yH (zB (zA 0) zF)))) (fOp zv (zA 1) (fC (.int 3)))))) fNx)
 (yI (fOp xP (fOp zt (zA 2) (zA 2)) (fC (.int 2147483629)))))))
noncomputable def zY:List PV->Option PV:=fnV 3 wq
noncomputable def yS:FS:=(yJ (fT (fOp vEq (fOp xP (zE zY (zB (zA 0) (zB (fC (.int 0)) zF))) (fC (.int 2))) (fC (.int 0)))) (zK (za 5 (fOp xP (zA 4) (zA 3)))
 (zV 4 (fOp yM (zA 4) (zA 3)))) (zK (zV 7 (fOp xP (fOp zv (fOp zv (fOp zt (fOp xP (zA 4) (fC (.int 2147483647))) (fOp zv (fOp zt (fC (.int 2)) (zA 6)) (fC (.int 69621)))) (fOp zt (fOp zt (zA 6) (zA 6)) (fC (.int 48271)))) (fC (.int 7))) (fC (.int 2147483629))))
 (zK (zV 8 (fOp xP (fOp zt (fOp xP (fOp zt (zA 7) (zA 7)) (fC (.int 2147483587))) (fC (.int 16807))) (fC (.int 2147483647))))
 (za 5 (fOp xP (fOp yM (zA 8) (fC (.int 7))) (zA 3))))))
noncomputable def vo:FS:=(zK (zV 4 (zE zY (zB (zA 0) (zB (zA 1) zF))))
 (zK (zV 5 (vq zF))
 (zK (xX (xJ (zB (zA 2) zF)) (zJ 6) yS)
 (yI (zA 5)))))
noncomputable def yK:List PV->Option PV:=fnV 9 vo
noncomputable def yt:FS:=(yJ (zac (fT (fOp vGe (zA 4) (fC (.int 0)))) (fT (fOp vEq (fOp yM (zA 4) (zA 0)) (fOp yM (zA 2) (zA 0))))) (za 3 (ze (zA 4))) fNx)
noncomputable def yr:FS:=(yJ (fT (yY vLe vLt (fC (.int 0)) (zA 4) (fOp zt (zA 0) (zA 1)))) (za 3 (ze (zA 4))) fNx)
noncomputable def xf:FS:=(zK (zV 3 (vq zF))
 (zK (xX (zZ (vq (zB (fOp yw (zA 2) (fC (.int 1))) (zB (fOp zv (zA 2) (fC (.int 1))) zF)))) (zJ 4) yt)
 (zK (xX (zZ (vq (zB (fOp yw (zA 2) (zA 0)) (zB (fOp zv (zA 2) (zA 0)) zF)))) (zJ 4) yr)
 (yI (zA 3)))))
noncomputable def zS:List PV->Option PV:=fnV 5 xf
noncomputable def zd:FT:=(fT (fOp vGt (zE yH (zB (zA 5) zF)) (fC (.int 0))))
noncomputable def zp:FS:=(zK (zab 6 5)
 (yJ (fT (fOp z7 (zA 6) (zA 4))) (zK (ww 4 (zA 6) (fC (.bl true)))
 (zn 5 (fLC (zZ (zE zS (zB (zA 0) (zB (zA 1) (zB (zA 6) zF))))) 1 [3] (zJ 0) (fT (fOp ye (zA 0) (zA 1))) (ze (zA 0))))) fNx))
noncomputable def wK:FS:=(zK (zV 4 kJ)
 (zK (zV 5 (fLC (zZ (zA 2)) 1 [3] (zJ 0) (fT (fOp ye (zA 0) (zA 1))) (ze (zA 0))))
 (zK (fWh zd zp 1000000)
 (yI (zA 4)))))
noncomputable def zj:List PV->Option PV:=fnV 7 wK
noncomputable def ya:FS:=(yJ (fOr (fT (fOp ye (fOp xP (zA 5) (zA 0)) (yj (zB (fC (.int 0)) (zB (fOp yw (zA 0) (fC (.int 1))) zF))))) (fT (fOp ye (fOp yM (zA 5) (zA 0)) (yj (zB (fC (.int 0)) (zB (fOp yw (zA 1) (fC (.int 1))) zF)))))) (za 4 (ze (zA 5))) fNx)
noncomputable def xG:FS:=(zK (zV 3 (fLC (xJ (zB (fOp zt (zA 0) (zA 1)) zF)) 1 [2] (zJ 0) (fT (fOp z7 (zA 0) (zA 1))) (ze (zA 0))))
 (zK (zV 4 (vq zF))
 (zK (xX (zZ (zA 3)) (zJ 5) ya)
 (yI (zE zj (zB (zA 0) (zB (zA 1) (zB (zA 4) (zB (zA 3) zF)))))))))
noncomputable def zu:List PV->Option PV:=fnV 6 xG
noncomputable def wJ:FS:=(zK (zeS (zal 2 (xZ (zJ 2) (xZ (zJ 3) zbO))) (fLC (zZ (zE yK (zB (zA 0) (zB (zA 1) (zB (fC (.int 2)) (zB (fC (.int 6)) zF)))))) 1 [] (zJ 0) zbB (fOp zv (fC (.int 1)) (zA 0))))
 (zK (zV 4 (zE yK (zB (zA 0) (zB (fOp zv (zA 1) (fC (.int 1))) (zB (fOp zt (zA 2) (zA 3)) (zB (fOp zv (fC (.int 2)) (fOp zt (fC (.int 2)) (fOp xP (zE zY (zB (zA 0) (zB (fC (.int 0)) zF))) (fC (.int 2))))) zF))))))
 (zK (yJ (fT (fOp vEq (fOp xP (zE zY (zB (zA 0) (zB (fC (.int 0)) zF))) (fC (.int 8))) (fC (.int 3)))) (zV 4 (fOp zt (vq (zB (fC (.int 1)) zF)) (fOp zt (zA 2) (zA 3)))) fNx)
 (zK (zV 5 (fLC (xJ (zB (fOp zt (zA 2) (zA 3)) zF)) 1 [4] (zJ 0) (fT (fOp vGt (fOp vIx (zA 1) (zA 0)) (fC (.int 0)))) (ze (zA 0))))
 (zK (yJ (fT (fOp vEq (zA 5) (vq zF))) (zV 5 (vq (zB (fOp yw (fOp zt (zA 2) (zA 3)) (fC (.int 1))) zF))) fNx)
 (zK (zV 6 (zE zj (zB (zA 2) (zB (zA 3) (zB (fSl (zA 5) wM (jI (fC (.int 1)))) (zB (zA 5) zF))))))
 (zK (zV 7 (zE zu (zB (zA 2) (zB (zA 3) (zB (zA 6) zF)))))
 (yI (yj (zB (ze (zA 2)) (zB (ze (zA 3)) (zB (zE ud (zB (fLC (xJ (zB (fOp zt (zA 2) (zA 3)) zF)) 1 [7] (zJ 0) (fT (fOp z7 (zA 0) (zA 1))) (ze (zA 0))) zF)) zF))))))))))))
noncomputable def yF:List PV->Option PV:=fnV 8 wJ
structure Scr (ns:List Int):Prop where
 len:ns.length≤63
 bits:∀ m ∈ ns,Builtin.Int.intBits m≤1048576
noncomputable abbrev scr(ns:List Int):PV:=.fls (ns.map PV.int)
theorem zag{ns:List Int}(S:Scr ns){k:Int}(k0:0≤k)(k1:k≤1000):∃ n,zY [scr ns,.int k]=some (.int n):=by
 have kk:0≤k * k/\k * k≤1000000:=⟨QS k0 k0,by have:=Int.mul_le_mul k1 k1 k0 (by omega:(0:Int)≤1000);omega⟩
 have b0:Builtin.Int.intBits (k * k * 7919+104729 * k+11)≤64:=intBits_le_64 (by omega) (by omega)
 unfold zY fnV wq scr
 by_cases h1:k<(ns.length:Int)
 ·simp [h1,zam,xM k0 h1]
  have hj:k.toNat<ns.length:=by omega
  simp [List.getElem?_eq_getElem hj]
 ·simp [h1,xE (i:=k) (j:=k) ⟨by omega,by omega⟩,xE (i:=k * k) (j:=7919) ⟨by omega,by omega⟩,znk (i:=104729) (j:=k) ⟨by omega,by omega⟩]
  by_cases h2:(0:Int)<(ns.length:Int)
  ·have hm:0≤k % (ns.length:Int)/\k % (ns.length:Int)<ns.length:=⟨JQ _ (by omega),JK _ h2⟩
   have hj:(k % (ns.length:Int)).toNat<ns.length:=by omega
   have bn:=S.bits _ (Kn hj)
   have bk:Builtin.Int.intBits (k+3)≤64:=intBits_le_64 (by omega) (by omega)
   have bm:=PySem.intBits_mul_le bn bk
   have bs:=PySem.intBits_add_le b0 bm
   have h2':0<ns.length:=by omega
   simp [h2',yD h2,zam,xM hm.1 hm.2,List.getElem?_eq_getElem hj,jx (IntMulOk.of_right bk),jx (PySem.IntMulOk.of_le bs bs (by omega)),yD (show (0:Int)<2147483629 by decide)]
  ·have h2':¬ 0<ns.length:=by omega
   simp [h2',jx (IntMulOk.of_left b0),yD (show (0:Int)<2147483629 by decide)]
theorem zgb{ns:List Int}(S:Scr ns){k n b:Int}(k0:0≤k)(k1:k≤1000)(n0:0≤n)(n1:n≤1000)(b1:1≤b)(b2:b≤1000):
  ∃ ds:List Int,yK [scr ns,.int k,.int n,.int b]=some (.lst (ds.map PV.int))/\ds.length=n.toNat/\∀ d ∈ ds,0≤d/\d<b:=by
 obtain ⟨c,hc⟩:=zag S k0 k1
 obtain ⟨c0,hc0⟩:=zag S (show (0:Int)≤0 by decide) (by decide)
 unfold yK fnV vo
 have loop:=zjf (b:=zJ 6) (g:=yS)
  (ps:=uj 0 n.toNat) (env:=[some (scr ns),some (.int k),some (.int n),some (.int b),some (.int c),some (.lst []),none,none,none])
  (fun pre e=>∃ (c:Int) (ds:List Int) (x6 x7 x8:Option PV),e=[some (scr ns),some (.int k),some (.int n),some (.int b),some (.int c),some (.lst (ds.map PV.int)),x6,x7,x8]/\ds.length=pre.length/\∀ d ∈ ds,0≤d/\d<b)
  ⟨c,[],none,none,none,rfl,rfl,by simp⟩ ?_
 ·obtain ⟨e,h1,c',ds,x6,x7,x8,rfl,h2,h3⟩:=loop
  refine ⟨ds,?_,?_,h3⟩
  ·have hn:n<4611686018427387904/\-4611686018427387904≤n:=by omega
   simp [hc,xJ,hn,h1]
  ·rw [h2,jq]
 ·rintro pre p post e hp ⟨c,ds,x6,x7,x8,rfl,h2,h3⟩
  have hl:(uj 0 n.toNat).length=pre.length+(post.length+1):=by rw [hp];simp
  rw [jq] at hl
  have hj:∃ j:Int,p=.int j/\0≤j/\j≤1000:=by
   have:p ∈ uj 0 n.toNat:=by rw [hp];simp
   rw [zjE] at this
   obtain ⟨j,hj,rfl⟩:=Jo.mp this
   obtain ⟨i,hi,rfl⟩:=Jo.mp hj
   exact ⟨i,rfl,by omega,by have:=JA.mp hi;omega⟩
  obtain ⟨j,rfl,j0,j1⟩:=hj
  have hlen:ds.length<100000:=by omega
  have jj:0≤j * j/\j * j≤1000000:=⟨QS j0 j0,by have:=Int.mul_le_mul j1 j1 j0 (by omega:(0:Int)≤1000);omega⟩
  refine ⟨_,?_,rfl,?_⟩
  ·exact if c0 % 2=0 then [some (scr ns),some (.int k),some (.int n),some (.int b),some (.int (c / b)),some (.lst ((ds++[c % b]).map PV.int)),some (.int j),x7,x8] else
    let o:=(c % 2147483647 * (2 * j+69621)+j * j * 48271+7) % 2147483629
    let w:=o * o % 2147483587 * 16807 % 2147483647
    [some (scr ns),some (.int k),some (.int n),some (.int b),some (.int c),some (.lst ((ds++[w / 7 % b]).map PV.int)),some (.int j),some (.int o),some (.int w)]
  ·by_cases h0:c0 % 2=0
   ·refine ⟨.inl ?_,c / b,ds++[c % b],some (.int j),x7,x8,by simp [h0],by simp [h2],fun d hd=>?_⟩
    ·simp [yS,hc0,yD (show (0:Int)<2 by decide),h0,yD (show 0<b by omega),za,wL (show 0<b/\b<1073741824 by omega),hlen]
    ·rcases List.mem_append.mp hd with hd | hd
     ·exact h3 d hd
     ·rw [Ji.mp hd];exact ⟨JQ _ (by omega),JK _ (by omega)⟩
   ·have c1:0≤c % 2147483647/\c % 2147483647<2147483647:=⟨JQ _ (by decide),JK _ (by decide)⟩
    refine ⟨.inl ?_,c,ds++[_],some (.int j),_,_,by simp only [h0,if_false];rfl,by simp [h2],fun d hd=>?_⟩
    ·have o1:∀ z:Int,0≤z % 2147483629/\z % 2147483629<2147483629:=fun z=>⟨JQ _ (by decide),JK _ (by decide)⟩
     have o2:∀ z:Int,0≤z % 2147483587/\z % 2147483587<2147483587:=fun z=>⟨JQ _ (by decide),JK _ (by decide)⟩
     have q1:=o1 (c % 2147483647 * (2 * j+69621)+j * j * 48271+7)
     generalize hz:(c % 2147483647 * (2 * j+69621)+j * j * 48271+7) % 2147483629=z at q1 ⊢
     have q2:=o2 (z * z)
     generalize hy:z * z % 2147483587=y at q2 ⊢
     simp [yS,hc0,yD (show (0:Int)<2 by decide),h0,za,hlen,yD (show (0:Int)<2147483647 by decide),yD (show (0:Int)<2147483629 by decide),yD (show (0:Int)<2147483587 by decide),
      xE (i:=c % 2147483647) (j:=2 * j+69621) ⟨by omega,by omega⟩,xE (i:=2) (j:=j) ⟨by omega,by omega⟩,xE (i:=j) (j:=j) ⟨by omega,by omega⟩,xE (i:=j * j) (j:=48271) ⟨by omega,by omega⟩,hz,
      xE (i:=z) (j:=z) ⟨by omega,by omega⟩,hy,xE (i:=y) (j:=16807) ⟨by omega,by omega⟩,wL (show (0:Int)<7/\(7:Int)<1073741824 by decide),yD (show 0<b by omega)]
    ·rcases List.mem_append.mp hd with hd | hd
     ·exact h3 d hd
     ·rw [Ji.mp hd];exact ⟨JQ _ (by omega),JK _ (by omega)⟩
noncomputable def zak(w h p:Int)(xs ys:List Int):List Int:=(xs.filter fun o=>decide (0≤o) && decide (o / w=p / w))++ys.filter fun o=>decide (0≤o) && decide (o<w * h)
theorem zda{w h p:Int}(w1:1≤w)(w6:w≤6)(hp:Place w h p):zak w h p [p - 1,p+1] [p - w,p+w]=zN w h p:=by
 unfold zak zN
 have a1:(decide (0≤p - 1) && decide ((p - 1) / w=p / w))=decide (0<p % w):=by
  rw [← Bool.decide_and];apply decide_eq_decide.mpr;unfold CB.Place at hp;rcases six w1 w6 with rfl | rfl | rfl | rfl | rfl | rfl<;>omega
 have a2:(decide (0≤p+1) && decide ((p+1) / w=p / w))=decide (p % w<w - 1):=by
  rw [← Bool.decide_and];apply decide_eq_decide.mpr;unfold CB.Place at hp;rcases six w1 w6 with rfl | rfl | rfl | rfl | rfl | rfl<;>omega
 have a3:(decide (0≤p - w) && decide (p - w<w * h))=decide (0<p / w):=by
  rw [← Bool.decide_and];apply decide_eq_decide.mpr;unfold CB.Place at hp;rcases six w1 w6 with rfl | rfl | rfl | rfl | rfl | rfl<;>omega
 have a4:(decide (0≤p+w) && decide (p+w<w * h))=decide (p / w<h - 1):=by
  rw [← Bool.decide_and];apply decide_eq_decide.mpr;unfold CB.Place at hp;rcases six w1 w6 with rfl | rfl | rfl | rfl | rfl | rfl<;>omega
 simp only [List.filter_cons,List.filter_nil,a1,a2,a3,a4,decide_eq_true_eq]
 split<;>split<;>split<;>split<;>rfl
theorem j8{w h p:Int}(w1:1≤w)(w6:w≤6)(hp:CB.Place w h p):zS [.int w,.int h,.int p]=some (.lst ((zN w h p).map PV.int)):=by
 rw [← zda w1 w6 hp]
 have hm:=xE (i:=w) (j:=h) ⟨by omega,by omega⟩
 have hd:=fun x=>wL (i:=x) (show 0<w/\w<1073741824 by omega)
 obtain ⟨x1,l1⟩:=xH (t:=zac (fT (fOp vGe (zA 4) (fC (.int 0)))) (fT (fOp vEq (fOp yM (zA 4) (zA 0)) (fOp yM (zA 2) (zA 0))))) 3 4
  (fun acc x=>[some (.int w),some (.int h),some (.int p),some (.lst (acc.map PV.int)),x]) (fun o=>decide (0≤o) && decide (o / w=p / w)) (fun _ _ _=>rfl) (fun _ _ _=>rfl) (fun _ _=>rfl) (fun _ _=>rfl) [p - 1,p+1] [] none
  (fun n _ acc=>by by_cases c:0≤n<;>simp [hd,c]) (by simp)
 obtain ⟨x2,l2⟩:=xH (t:=fT (yY vLe vLt (fC (.int 0)) (zA 4) (fOp zt (zA 0) (zA 1)))) 3 4
  (fun acc x=>[some (.int w),some (.int h),some (.int p),some (.lst (acc.map PV.int)),x]) (fun o=>decide (0≤o) && decide (o<w * h)) (fun _ _ _=>rfl) (fun _ _ _=>rfl) (fun _ _=>rfl) (fun _ _=>rfl) [p - w,p+w] ([]++[p - 1,p+1].filter fun o=>decide (0≤o) && decide (o / w=p / w)) x1
  (fun n _ acc=>by by_cases c:0≤n<;>simp [hm,c]) (by have:=List.length_filter_le (fun o=>decide (0≤o) && decide (o / w=p / w)) [p - 1,p+1];simp only [List.nil_append,List.length_cons,List.length_nil] at this ⊢;omega)
 simp only [List.map_cons,List.map_nil,List.nil_append] at l1 l2
 simp [zS,fnV,xf,yt,yr,l1,l2,zak]
theorem zbA{w h:Int}{S Pl:List Int}(w1:1≤w)(w6:w≤6)(pl:∀ p ∈ Pl,CB.Place w h p)(sz:S.length≤100)(pz:Pl.length≤100):
  ∃ L:List Int,zj [.int w,.int h,.lst (S.map PV.int),.lst (Pl.map PV.int)]=some (xy L)/\L.Nodup/\∀ p,p ∈ L ↔ Reach (Adj w) (· ∈ Pl) (· ∈ S) p:=by
 have hinit:zo (zJ 0) (fT (fOp ye (zA 0) (zA 1))) (ze (zA 0)) (S.map PV.int) [none,some (.lst (Pl.map PV.int))]=some ((S.filter fun n=>decide (n ∈ Pl)).map PV.int):=
  yB (fun n=>decide (n ∈ Pl)) PV.int S fun n _=>⟨_,rfl,by simp,fun _=>by simp⟩
 have fz:(S.filter fun n=>decide (n ∈ Pl)).length≤100:=JO (Kg _ _) sz
 let mk:List Int->List Int->Option PV->En:=fun L ws x=>[some (.int w),some (.int h),some (.lst (S.map PV.int)),some (.lst (Pl.map PV.int)),some (xy L),some (.lst (ws.map PV.int)),x]
 have loop:=zbU (t:=zd) (g:=zp) (fun e=>∃ L ws x,e=mk L ws x/\Dfs (Adj w) (· ∈ Pl) (· ∈ S) L ws/\ws.length≤100+4 * L.length)
  (fun e=>match e with | [_,_,_,_,some (.dct ks _),some (.lst ws),_]=>5 * (Pl.length - ks.length)+ws.length | _=>0) ?_ 1000000 (mk [] (S.filter fun n=>decide (n ∈ Pl)) none)
  ⟨[],_,none,rfl,Dfs.init fun q=>by simp [List.mem_filter],by simpa using fz⟩ (by simp [mk];omega)
 ·obtain ⟨e,h1,⟨L,ws,x,rfl,df,lz⟩,h2⟩:=loop
  have hw:ws=[]:=by
   cases ws with
   | nil=>rfl
   | cons a r=>simp [zd,mk] at h2
  subst hw
  refine ⟨L,?_,df.nd,df.done⟩
  have h1':fWh zd zp 1000000 [some (.int w),some (.int h),some (.lst (S.map PV.int)),some (.lst (Pl.map PV.int)),some (.dct [] []),some (.lst ((S.filter fun n=>decide (n ∈ Pl)).map PV.int)),none]=some (.nx (mk L [] x)):=h1
  have hS:S.length≤100000:=by omega
  simp only [zj,fnV,wK,zjg,zap,zhG,zhF,w9,zlN,xN,List.length_cons,List.length_nil,List.map_cons,List.map_nil]
  simp [cE,hS,hinit,h1',mk]
 ·rintro e ⟨L,ws,x,rfl,df,lz⟩
  have Lz:L.length≤Pl.length:=zI _ _ df.nd fun p hp=>(df.sound p hp).inS
  by_cases hw:ws=[]
  ·subst hw;exact .inl (by simp [zd,mk])
  ·obtain ⟨ws',p,rfl⟩:∃ ws' p,ws=ws'++[p]:=⟨ws.dropLast,ws.getLast hw,(List.dropLast_concat_getLast _).symm⟩
   have hp:p ∈ Pl:=(df.soundW p (by simp)).inS
   refine .inr ⟨by simp [zd,mk],?_⟩
   simp only [List.length_append,List.length_singleton] at lz
   by_cases hL:p ∈ L
   ·refine ⟨mk L ws' (some (.int p)),.inl ?_,⟨L,ws',_,rfl,df.old hL,by omega⟩,by simp [mk]⟩
    simp [zp,mk,zab,hL]
   ·have hb:=j8 w1 w6 (pl p hp)
    have hc:zo (zJ 0) (fT (fOp ye (zA 0) (zA 1))) (ze (zA 0)) ((zN w h p).map PV.int) [none,some (.lst (Pl.map PV.int))]=some (((zN w h p).filter fun n=>decide (n ∈ Pl)).map PV.int):=
     yB (fun n=>decide (n ∈ Pl)) PV.int _ fun n _=>⟨_,rfl,by simp,fun _=>by simp⟩
    have hbl:=vV w h p
    have hfl:=Kg (fun n=>decide (n ∈ Pl)) (zN w h p)
    have hnew:=df.new (nbs:=(zN w h p).filter fun n=>decide (n ∈ Pl)) hL fun q=>by
     rw [JD,jz w1 w6 (pl p hp),decide_eq_true_eq]
     exact ⟨fun z=>⟨z.1.2,z.2⟩,fun z=>⟨⟨pl q z.2,z.1⟩,z.2⟩⟩
    have hlL:=zI _ _ hnew.nd fun q hq=>(hnew.sound q hq).inS
    simp only [List.length_append,List.length_singleton] at hlL
    refine ⟨mk (L++[p]) (ws'++(zN w h p).filter fun n=>decide (n ∈ Pl)) (some (.int p)),.inl ?_,⟨_,_,_,rfl,hnew,by simp only [List.length_append,List.length_singleton];omega⟩,by simp [mk];omega⟩
    have hs:=zds hL (show L.length<100000 by omega)
    have hbl':(zN w h p).length≤100000:=by omega
    have hx:ws'.length+((zN w h p).filter fun n=>decide (n ∈ Pl)).length≤100000:=by omega
    simp [zp,mk,zab,hL,ww,hs,zn,cE,hb,hbl',hc,hx]
theorem zjR{w h:Int}(w1:1≤w)(w6:w≤6)(h1:1≤h)(h6:h≤6):1≤w * h/\w * h≤36:=by
 rcases six w1 w6 with rfl | rfl | rfl | rfl | rfl | rfl<;>omega
theorem wE(w h:Int):uj 0 (w * h).toNat=(places w h).map PV.int:=by rw [zjE];rfl
theorem vh(w h:Int):(places w h).length=(w * h).toNat:=by simp [places]
theorem zcr{w h:Int}{x:PV}{m:Int->Bool}(w1:1≤w)(w6:w≤6)(h1:1≤h)(h6:h≤6)(hx:∀ p,vIn (.int p) x=some (m p)):
  ∃ L:List Int,zu [.int w,.int h,x]=some (xy L)/\L.Nodup/\∀ p,p ∈ L ↔ Reach (Adj w) (fun q=>CB.Place w h q/\m q=false) (Rim w h) p:=by
 have wh:=zjR w1 w6 h1 h6
 have hm:=xE (i:=w) (j:=h) ⟨by omega,by omega⟩
 have hd:=fun x=>wL (i:=x) (show 0<w/\w<1073741824 by omega)
 have hmod:=fun x=>yD (i:=x) (show 0<w by omega)
 have hpl:=vh w h
 have c1:zo (zJ 0) (fT (fOp z7 (zA 0) (zA 1))) (ze (zA 0)) ((places w h).map PV.int) [none,some x]=some (((places w h).filter fun n=>!m n).map PV.int):=
  yB (fun n=>!m n) PV.int _ fun n _=>⟨_,rfl,by simp [hx],fun _=>by simp⟩
 have hbl:=Kg (fun n=>!m n) (places w h)
 obtain ⟨x1,l1⟩:=xH (t:=fOr (fT (fOp ye (fOp xP (zA 5) (zA 0)) (yj (zB (fC (.int 0)) (zB (fOp yw (zA 0) (fC (.int 1))) zF))))) (fT (fOp ye (fOp yM (zA 5) (zA 0)) (yj (zB (fC (.int 0)) (zB (fOp yw (zA 1) (fC (.int 1))) zF)))))) 4 5
  (fun acc y=>[some (.int w),some (.int h),some x,some (.lst (((places w h).filter fun n=>!m n).map PV.int)),some (.lst (acc.map PV.int)),y]) (fun n=>decide (n % w=0∨n % w=w - 1) || decide (n / w=0∨n / w=h - 1)) (fun _ _ _=>rfl) (fun _ _ _=>rfl) (fun _ _=>rfl) (fun _ _=>rfl) ((places w h).filter fun n=>!m n) [] none
  (fun n _ acc=>by by_cases c:n % w=0∨n % w=w - 1<;>simp [hd,hmod,c]) (by simp only [List.length_nil];omega)
 have mem:∀ q,q ∈ (places w h).filter (fun n=>!m n) ↔ CB.Place w h q/\m q=false:=fun q=>by rw [List.mem_filter,mem_places];simp
 obtain ⟨L,f1,f2,f3⟩:=zbA (w:=w) (h:=h) (S:=((places w h).filter fun n=>!m n).filter fun n=>decide (n % w=0∨n % w=w - 1) || decide (n / w=0∨n / w=h - 1)) (Pl:=(places w h).filter fun n=>!m n) w1 w6
  (fun p hp=>((mem p).mp hp).1) (by have:=Kg (fun n=>decide (n % w=0∨n % w=w - 1) || decide (n / w=0∨n / w=h - 1)) ((places w h).filter fun n=>!m n);omega) (by omega)
 refine ⟨L,?_,f2,fun p=>?_⟩
 ·have hb:w * h<4611686018427387904/\-4611686018427387904≤w * h:=by omega
  have hpl':(places w h).length≤100000:=by omega
  simp only [List.map_nil,List.nil_append] at l1
  generalize (((places w h).filter fun n=>!m n).filter fun n=>decide (n % w=0∨n % w=w - 1) || decide (n / w=0∨n / w=h - 1))=E at l1 f1
  generalize ((places w h).filter fun n=>!m n)=bare at l1 f1 c1
  simp [zu,fnV,xG,ya,xJ,hm,hb,wE,hpl',cE,c1,l1,f1]
 ·rw [f3 p]
  have rim:∀ q,q ∈ (((places w h).filter fun n=>!m n).filter fun n=>decide (n % w=0∨n % w=w - 1) || decide (n / w=0∨n / w=h - 1)) ↔ (CB.Place w h q/\m q=false)/\Rim w h q:=fun q=>by
   rw [JD,mem]
   unfold Rim
   simp only [Bool.or_eq_true,decide_eq_true_eq]
   exact ⟨fun z=>⟨z.1,by omega⟩,fun z=>⟨z.1,by omega⟩⟩
  exact ⟨fun r=>r.mono (fun q a s=>.start ((rim q).mp a).2 ((mem q).mp s)) fun q r=>(mem q).mp r.inS,fun r=>r.mono (fun q a s=>.start ((rim q).mpr ⟨s,a⟩) ((mem q).mpr s)) fun q r=>(mem q).mpr r.inS⟩
theorem zhh{ns:List Int}(S:Scr ns){k:Int}(k0:0≤k)(k1:k≤900):∃ w h F,yF [scr ns,.int k]=some (flV w h F)/\IsFloor w h F:=by
 obtain ⟨ds,r1,r2,r3⟩:=zgb S k0 (show k≤1000 by omega) (show (0:Int)≤2 by decide) (by decide) (show (1:Int)≤6 by decide) (by decide)
 obtain ⟨d1,d2,rfl⟩:∃ d1 d2,ds=[d1,d2]:=by
  match ds,r2 with
  | [a,b],_=>exact ⟨a,b,rfl⟩
 obtain ⟨a1,a2⟩:=r3 d1 (by simp)
 obtain ⟨b1,b2⟩:=r3 d2 (by simp)
 obtain ⟨c0,hc0⟩:=zag S (show (0:Int)≤0 by decide) (by decide)
 generalize hw:1+d1=w
 generalize hh:1+d2=h
 have w1:1≤w:=by omega
 have w6:w≤6:=by omega
 have h1:1≤h:=by omega
 have h6:h≤6:=by omega
 have wh:=zjR w1 w6 h1 h6
 have hm:=xE (i:=w) (j:=h) ⟨by omega,by omega⟩
 have hc2:0≤c0 % 2/\c0 % 2<2:=⟨JQ _ (by decide),JK _ (by decide)⟩
 obtain ⟨es,e1,e2,e3⟩:=zgb S (show 0≤k+1 by omega) (show k+1≤1000 by omega) (show 0≤w * h by omega) (by omega) (show 1≤2+2 * (c0 % 2) by omega) (by omega)
 -- the digits,all 1 at times
 obtain ⟨ds,hds,dl⟩:∃ ds:List Int,(if c0 % 8=3 then List.replicate (w * h).toNat 1 else es)=ds/\ds.length=(w * h).toNat:=by
  refine ⟨_,rfl,?_⟩
  split
  ·simp
  ·exact e2
 have hpl:=vh w h
 have c1:∀ x,zo (zJ 0) (fT (fOp vGt (fOp vIx (zA 1) (zA 0)) (fC (.int 0)))) (ze (zA 0)) ((places w h).map PV.int) [x,some (.lst (ds.map PV.int))]=some (((places w h).filter fun n=>decide (0<ds.getD n.toNat 0)).map PV.int):=fun x=>
  yB (fun n=>decide (0<ds.getD n.toNat 0)) PV.int _ fun n hn=>by
   have hp:=mem_places.mp hn
   unfold CB.Place at hp
   have hj:n.toNat<ds.length:=by omega
   have hg:atI (ds.map PV.int) n=some (.int (ds.getD n.toNat 0)):=by
    rw [zam,xM hp.1 (by omega),Jr hj]
    simp [List.getD,List.getElem?_eq_getElem hj]
   exact ⟨_,rfl,by simp [hg],fun _=>by simp⟩
 -- the drawn places,one at least
 obtain ⟨so,hso,sn,spl⟩:∃ so:List Int,(if ((places w h).filter fun n=>decide (0<ds.getD n.toNat 0))=[] then [w * h - 1] else (places w h).filter fun n=>decide (0<ds.getD n.toNat 0))=so/\so≠[]/\(∀ p ∈ so,CB.Place w h p)/\so.length≤36:=by
  refine ⟨_,rfl,?_⟩
  split
  ·exact ⟨by simp,fun p hp=>by rw [List.mem_singleton.mp hp];exact ⟨by omega,by omega⟩,by simp⟩
  ·rename_i hn
   exact ⟨hn,fun p hp=>mem_places.mp (JD.mp hp).1,JO (Kg _ _) (by omega)⟩
 obtain ⟨x0,sr,rfl⟩:∃ x0 sr,so=x0::sr:=by
  cases so with
  | nil=>exact absurd rfl sn
  | cons a r=>exact ⟨a,r,rfl⟩
 obtain ⟨L7,f1,f2,f3⟩:=zbA (w:=w) (h:=h) (S:=[x0]) (Pl:=x0::sr) w1 w6 spl.1 (by simp) (by omega)
 have mem7:∀ p,p ∈ L7 ↔ Reach (Adj w) (· ∈ x0::sr) (·=x0) p:=fun p=>by rw [f3 p];exact ⟨fun r=>r.mono (fun q z s=>.start (Ji.mp z) s) fun q r=>r.inS,fun r=>r.mono (fun q z s=>.start (Ji.mpr z) s) fun q r=>r.inS⟩
 obtain ⟨L8,g1,g2,g3⟩:=zcr (x:=xy L7) (m:=fun p=>decide (p ∈ L7)) w1 w6 h1 h6 (fun p=>zgY)
 have c2:∀ x,zo (zJ 0) (fT (fOp z7 (zA 0) (zA 1))) (ze (zA 0)) ((places w h).map PV.int) [x,some (xy L8)]=some (((places w h).filter fun n=>!decide (n ∈ L8)).map PV.int):=fun x=>
  yB (fun n=>!decide (n ∈ L8)) PV.int _ fun n _=>⟨_,rfl,by simp,fun _=>by simp⟩
 refine ⟨w,h,(places w h).filter fun n=>!decide (n ∈ L8),?_,?_⟩
 ·have hb:w * h<4611686018427387904/\-4611686018427387904≤w * h:=by omega
  have hpl':(places w h).length≤100000:=by omega
  have hr0:zo (zJ 0) zbB (fOp zv (fC (.int 1)) (zA 0)) ([d1,d2].map PV.int) [none]=some [.int w,.int h]:=by simp [zo,hw,hh]
  have hmul2:=xE (i:=2) (j:=c0 % 2) ⟨by omega,by omega⟩
  have hrep:zt (.lst [.int 1]) (.int (w * h))=some (.lst ((List.replicate (w * h).toNat (1:Int)).map PV.int)):=by
   rw [← zmE]
   simp only [zt]
   rw [if_pos ⟨rfl,by omega,by omega,by simp only [List.length_cons,List.length_nil];omega⟩]
  have hsl:vSl (.lst ((x0::sr).map PV.int)) none (some 1)=some (.lst ([x0].map PV.int)):=by
   simp only [vSl,xL,if_true,zjQ];rfl
  unfold yF fnV wJ
  rw [zD (e:=[some (scr ns),some (.int k),some (.int w),some (.int h),none,none,none,none]) (by
   simp only [List.map_cons,List.map_nil] at hr0 r1
   simp [r1,cE,hr0,zal,xZ,zbO])]
  rw [zD (e:=[some (scr ns),some (.int k),some (.int w),some (.int h),some (.lst (es.map PV.int)),none,none,none]) (by simp [hc0,yD (show (0:Int)<2 by decide),hmul2,hm,e1])]
  rw [zD (e:=[some (scr ns),some (.int k),some (.int w),some (.int h),some (.lst (ds.map PV.int)),none,none,none]) (by
   rw [← hds]
   by_cases h8:c0 % 8=3
   ·simp [hc0,yD (show (0:Int)<8 by decide),h8,hm,hrep]
   ·simp [hc0,yD (show (0:Int)<8 by decide),h8])]
  rw [zD (e:=[some (scr ns),some (.int k),some (.int w),some (.int h),some (.lst (ds.map PV.int)),some (.lst (((places w h).filter fun n=>decide (0<ds.getD n.toNat 0)).map PV.int)),none,none]) (by
   simp [xJ,hm,hb,wE,hpl',cE,c1])]
  rw [zD (e:=[some (scr ns),some (.int k),some (.int w),some (.int h),some (.lst (ds.map PV.int)),some (.lst ((x0::sr).map PV.int)),none,none]) (by
   rw [← hso]
   by_cases h9:((places w h).filter fun n=>decide (0<ds.getD n.toNat 0))=[]
   ·rw [if_pos h9,h9];simp [hm,vEq,eqP,yU,toPys,PyData.eqv,PyData.eqvAll,wy,wf,okPys,PyData.canLay0,PyData.canLayAll0,PyData.depth,PyData.depthAll]
   ·rw [if_neg h9]
    generalize ((places w h).filter fun n=>decide (0<ds.getD n.toNat 0))=so at h9
    simp [zlC,h9])]
  rw [zD (e:=[some (scr ns),some (.int k),some (.int w),some (.int h),some (.lst (ds.map PV.int)),some (.lst ((x0::sr).map PV.int)),some (xy L7),none]) (by
   simp only [List.map_cons,List.map_nil] at f1 hsl ⊢
   simp [fSl,jI,hsl,f1])]
  rw [zD (e:=[some (scr ns),some (.int k),some (.int w),some (.int h),some (.lst (ds.map PV.int)),some (.lst ((x0::sr).map PV.int)),some (xy L7),some (xy L8)]) (by simp [g1])]
  simp [xJ,hm,hb,wE,hpl',cE,c2]
 ·refine zlB (L:=(· ∈ L7)) (O:=(· ∈ L8)) (a:=x0) w1 w6 h1 h6 (fun p hp=>spl.1 p ((mem7 p).mp hp).inS) ((mem7 x0).mpr (.start rfl Jf)) (fun p hp=>?_) (fun p=>?_)
  ·exact ((mem7 p).mp hp).mono (fun q e s=>.start e ((mem7 q).mpr (.start e s))) fun q r=>(mem7 q).mpr r
  ·rw [g3 p]
   exact ⟨fun r=>r.mono (fun q z s=>.start z ⟨s.1,by simpa using s.2⟩) fun q r=>⟨r.inS.1,by simpa using r.inS.2⟩,fun r=>r.mono (fun q z s=>.start z ⟨s.1,by simpa using s.2⟩) fun q r=>⟨r.inS.1,by simpa using r.inS.2⟩⟩
noncomputable def wH:FS:=(zK (zV 2 (fOp vIx (zA 0) (fC (.int 0))))
 (zK (zV 3 (fOp zv (zA 1) (fOp yM (zA 1) (zA 2))))
 (zK (zV 4 (fOp zv (fOp zv (zA 3) (zA 2)) (fC (.int 1))))
 (yI (yj (zB (ze (zA 3)) (zB (fOp zv (zA 3) (fC (.int 1))) (zB (ze (zA 4)) (zB (fOp zv (zA 4) (fC (.int 1))) zF)))))))))
noncomputable def zc:List PV->Option PV:=fnV 5 wH
noncomputable def xY:FS:=(zn 1 (zE zc (zB (zA 0) (zB (zA 2) zF))))
noncomputable def uw:FS:=(zK (zV 1 (vq zF))
 (zK (xX (zZ (fOp vIx (zA 0) (fC (.int 2)))) (zJ 2) xY)
 (yI (xq (zB (zA 1) zF)))))
noncomputable def xv:List PV->Option PV:=fnV 3 uw
noncomputable def wp:FS:=(zK (zV 2 (zE zc (zB (zA 0) (zB (zA 1) zF))))
 (yI (yj (zB (yj (zB (fC (.str "across")) (zB (ze (fOp vIx (zA 2) (fC (.int 0)))) zF))) (zB (yj (zB (fC (.str "across")) (zB (ze (fOp vIx (zA 2) (fC (.int 2)))) zF))) zF)))))
noncomputable def yv:List PV->Option PV:=fnV 3 wp
noncomputable def qy:FS:=(zK (zV 2 (zE zc (zB (zA 0) (zB (zA 1) zF))))
 (yI (yj (zB (yj (zB (fC (.str "up")) (zB (ze (fOp vIx (zA 2) (fC (.int 0)))) zF))) (zB (yj (zB (fC (.str "up")) (zB (ze (fOp vIx (zA 2) (fC (.int 1)))) zF))) zF)))))
noncomputable def vy:List PV->Option PV:=fnV 3 qy
noncomputable def vI:FS:=(zK (zn 1 (zE yv (zB (zA 0) (zB (zA 2) zF))))
 (zn 1 (zE vy (zB (zA 0) (zB (zA 2) zF)))))
noncomputable def qz:FS:=(zK (zV 1 (vq zF))
 (zK (xX (zZ (fOp vIx (zA 0) (fC (.int 2)))) (zJ 2) vI)
 (yI (y8 (zB (zA 1) zF)))))
noncomputable def wV:List PV->Option PV:=fnV 3 qz
noncomputable def cAt(w p:Int):List Int:=[p+p / w,p+p / w+1,p+p / w+w+1,p+p / w+w+1+1]
theorem zoi{f:FE}{env:En}{a:PV}{l:List PV}(h:f env=some (.tup (a::l))):fOp vIx f (fC (.int 0)) env=some a:=by
 rw [uZ,h,zlR];exact znR
theorem zmd{f:FE}{env:En}{a b c:PV}{l:List PV}(h:f env=some (.tup (a::b::c::l))):fOp vIx f (fC (.int 2)) env=some c:=by
 rw [uZ,h,zlR];exact znQ
theorem zin{f:FE}{env:En}{i:Nat}{p:PV}(h:f env=some p):zV i f env=some (.nx (env.set i (some p))):=by rw [zap,h];rfl
theorem lcv{E E':En}{src:FA}{n:Nat}{js:List Nat}{qs R:List PV}{b:PV->En->Option En}{t:FT}{f:FE}(hX:src E=some qs)(hce:cE n js E=E')(hl:qs.length≤100000)(hc:zo b t f qs E'=some R):fLC src n js b t f E=some (.lst R):=by
 rw [zhF,hX,Jb,if_pos hl,hce,hc];rfl
theorem wQ{w h p:Int}{F:List Int}(w1:1≤w)(w6:w≤6):zc [flV w h F,.int p]=some (.tup ((cAt w p).map PV.int)):=by
 have hd:=wL (i:=p) (show 0<w/\w<1073741824 by omega)
 let mk:Option PV->Option PV->Option PV->En:=fun x y z=>[some (flV w h F),some (.int p),x,y,z]
 refine yP (e:=mk (some (.int w)) (some (.int (p+p / w))) (some (.int (p+p / w+w+1)))) (mk none none none) rfl ?_
 unfold wH
 rw [zD (e:=mk (some (.int w)) none none) (zin (zoi rfl))]
 rw [zD (e:=mk (some (.int w)) (some (.int (p+p / w))) none) (zin (by
  show ((yM (.int p) (.int w)).bind fun y=>zv (.int p) y)=_
  rw [hd];rfl))]
 rw [zD (e:=mk (some (.int w)) (some (.int (p+p / w))) (some (.int (p+p / w+w+1)))) rfl]
 rfl
noncomputable def vO(w:Int)(F:List Int):List Int:=F.flatMap (cAt w)
noncomputable def zM(w:Int)(F:List Int):List Int:=jh (yA (vO w F))
theorem mem_corL{w:Int}{F:List Int}{c:Int}:c ∈ vO w F ↔ ∃ p ∈ F,c ∈ cAt w p:=List.mem_flatMap
theorem mem_corF{w:Int}{F:List Int}{c:Int}:c ∈ zM w F ↔ ∃ p ∈ F,c ∈ cAt w p:=by
 unfold zM
 rw [(x5 _).mem_iff,mem_dedupL,mem_corL]
theorem vw(w:Int)(F:List Int):(zM w F).Nodup:=(x5 _).nodup_iff.mpr (yQ _)
noncomputable def crn(w x y:Int):Int:=y * (w+1)+x
theorem wP{w x y:Int}(h0:0≤x)(h1:x≤w):crn w x y / (w+1)=y/\crn w x y % (w+1)=x:=(Int.ediv_emod_unique (by omega)).mpr ⟨by unfold crn;rw [Int.mul_comm];omega,h0,by omega⟩
theorem yy(w p:Int):p+p / w=crn w (p % w) (p / w):=by
 unfold crn
 have:=JN p w
 rw [Qo] at this
 rw [Int.mul_add,Qz]
 omega
theorem zjv(w p:Int):cAt w p=[crn w (p % w) (p / w),crn w (p % w+1) (p / w),crn w (p % w) (p / w+1),crn w (p % w+1) (p / w+1)]:=by
 unfold cAt
 rw [yy]
 have e1:crn w (p % w) (p / w)+1=crn w (p % w+1) (p / w):=by unfold crn;omega
 have e2:crn w (p % w) (p / w)+w+1=crn w (p % w) (p / w+1):=by unfold crn;rw [Int.add_mul (p / w),Int.one_mul];omega
 have e3:crn w (p % w) (p / w+1)+1=crn w (p % w+1) (p / w+1):=by unfold crn;omega
 rw [e1,e2,e3]
theorem zfe{w h p c:Int}(w1:1≤w)(hp:CB.Place w h p)(hc:c ∈ cAt w p):∃ x y,c=crn w x y/\0≤x/\x≤w/\0≤y/\y≤h:=by
 have hr:=uk w1 hp
 have m0:=JQ p (show w≠0 by omega)
 have m1:=JK p (show 0<w by omega)
 rw [zjv] at hc
 simp only [List.mem_cons,List.not_mem_nil,or_false] at hc
 rcases hc with rfl | rfl | rfl | rfl
 ·exact ⟨_,_,rfl,by omega,by omega,by omega,by omega⟩
 ·exact ⟨_,_,rfl,by omega,by omega,by omega,by omega⟩
 ·exact ⟨_,_,rfl,by omega,by omega,by omega,by omega⟩
 ·exact ⟨_,_,rfl,by omega,by omega,by omega,by omega⟩
theorem zhy{w h x y:Int}(x0:0≤x)(x1:x≤w)(y0:0≤y)(y1:y≤h):0≤crn w x y/\crn w x y<(w+1) * (h+1):=by
 unfold crn
 have h1:0≤y * (w+1):=QS y0 (by omega)
 have h2:(y+1) * (w+1)≤(h+1) * (w+1):=Int.mul_le_mul_of_nonneg_right (by omega) (by omega)
 rw [QM y,Int.one_mul] at h2
 have h3:(h+1) * (w+1)=(w+1) * (h+1):=Qo _ _
 omega
theorem zdY{w h:Int}{F:List Int}(fl:IsFloor w h F){L:List Int}(nd:L.Nodup)(hL:∀ c ∈ L,∃ p ∈ F,c ∈ cAt w p):L.length≤49:=by
 have w1:=fl.w1
 have hk:(w+1) * (h+1)≤7 * 7:=Int.mul_le_mul (by have:=fl.w6;omega) (by have:=fl.h6;omega) (by have:=fl.h1;omega) (by decide)
 have:=zI L (places (w+1) (h+1)) nd fun c hc=>by
  obtain ⟨p,hp,hcp⟩:=hL c hc
  obtain ⟨x,y,rfl,x0,x1,y0,y1⟩:=zfe w1 (fl.inn p hp) hcp
  exact mem_places.mpr (zhy x0 x1 y0 y1)
 have e:(places (w+1) (h+1)).length=((w+1) * (h+1)).toNat:=by simp [places]
 omega
theorem zbI{w h:Int}{F:List Int}(fl:IsFloor w h F):(zM w F).length≤49:=zdY fl (vw w F) fun c hc=>mem_corF.mp hc
theorem zju{w h:Int}{F:List Int}(fl:IsFloor w h F):(yA (vO w F)).length<63:=by
 have:=zdY fl (yQ (vO w F)) fun c hc=>mem_corL.mp (mem_dedupL.mp hc)
 omega
theorem zbH(w:Int):∀ F:List Int,(vO w F).length=4 * F.length
 | []=>rfl
 | p::F=>by
  show (cAt w p++vO w F).length=_
  rw [Jh,zbH w F,JF]
  show 4+4 * F.length=_
  omega
theorem zcj{f:FE}{env:En}{ns:List Int}(h:f env=some (.lst (ns.map PV.int)))(hl:(yA ns).length<63):xq (zB f zF) env=some (.lst ((jh (yA ns)).map PV.int)):=by
 unfold xq
 rw [xb,h]
 show ((wl (ns.map PV.int)).bind fun ns=>_)=_
 rw [kF,Jb,if_pos hl]
theorem zcS{w h:Int}{F:List Int}(fl:IsFloor w h F):xv [flV w h F]=some (.lst ((zM w F).map PV.int)):=by
 have w1:=fl.w1;have w6:=fl.w6
 have fz:=vH fl
 let mk:List Int->Option PV->En:=fun L x=>[some (flV w h F),some (.lst (L.map PV.int)),x]
 obtain ⟨e,l1,x,rfl⟩:=vG (b:=zJ 2) (g:=xY) (xs:=F) (hh:=PV.int) (env:=mk [] none) (fun pre e=>∃ x,e=mk (vO w pre) x) ⟨none,rfl⟩ (by
  rintro pre p post e hF ⟨x,rfl⟩
  have hpl:pre.length≤36:=by have:=congrArg List.length hF;rw [Jh] at this;omega
  refine ⟨mk (vO w pre) (some (.int p)),mk (vO w (pre++[p])) (some (.int p)),rfl,.inl ?_,_,rfl⟩
  have e1:vO w (pre++[p])=vO w pre++cAt w p:=by unfold vO;rw [List.flatMap_append,List.flatMap_singleton]
  rw [e1]
  have hz:=zbH w pre
  generalize vO w pre=L at hz
  have v1:zA 1 (mk L (some (.int p)))=some (.lst (L.map PV.int)):=rfl
  unfold xY zn
  rw [v1,Jb,zU (as:=[flV w h F,.int p]) rfl (wQ w1 w6),Jb]
  dsimp only
  rw [zaQ,Jb,if_pos ⟨xL,by rw [Je,Je];show L.length+4≤_;omega⟩,← Ks]
  rfl)
 refine yP (e:=mk (vO w F) x) [some (flV w h F),none,none] rfl ?_
 unfold uw
 have v2:fOp vIx (zA 0) (fC (.int 2)) (mk [] none)=some (.tup (F.map PV.int)):=zmd rfl
 rw [zD (e:=mk [] none) rfl]
 rw [zD (e:=mk (vO w F) x) (by rw [vM,w9,v2];exact l1)]
 rw [xN,zcj (ns:=vO w F) rfl (zju fl)];rfl
noncomputable def yp:FS:=(zK (zV 3 (fOp xP (zA 2) (zA 0)))
 (zK (zV 4 (fOp yM (zA 2) (zA 0)))
 (zK (zV 5 (vq zF))
 (zK (yJ (fT (fOp vGt (zA 3) (fC (.int 0)))) (za 5 (fOp yw (zA 2) (fC (.int 1)))) fNx)
 (zK (yJ (fT (fOp vLt (zA 3) (fOp yw (zA 0) (fC (.int 1))))) (za 5 (fOp zv (zA 2) (fC (.int 1)))) fNx)
 (zK (yJ (fT (fOp vGt (zA 4) (fC (.int 0)))) (za 5 (fOp yw (zA 2) (zA 0))) fNx)
 (zK (yJ (fT (fOp vLt (zA 4) (fOp yw (zA 1) (fC (.int 1))))) (za 5 (fOp zv (zA 2) (zA 0))) fNx)
 (yI (zA 5)))))))))
noncomputable def zk:List PV->Option PV:=fnV 6 yp
noncomputable def xF:FS:=(yI (zeR (fOp ye (fOp xP (zA 2) (zA 0)) (yj (zB (fC (.int 0)) (zB (fOp yw (zA 0) (fC (.int 1))) zF)))) (fOp ye (fOp yM (zA 2) (zA 0)) (yj (zB (fC (.int 0)) (zB (fOp yw (zA 1) (fC (.int 1))) zF))))))
noncomputable def zh:List PV->Option PV:=fnV 3 xF
noncomputable def yf:FT:=(fT (fOp vGt (zE yH (zB (zA 5) zF)) (fC (.int 0))))
noncomputable def yk:FS:=(zK (zab 6 5)
 (yJ (fT (fOp z7 (zA 6) (zA 4))) (zK (ww 4 (zA 6) (fC (.bl true)))
 (zn 5 (fLC (zZ (zE zk (zB (zA 0) (zB (zA 1) (zB (zA 6) zF))))) 1 [3] (zJ 0) (fT (fOp ye (zA 0) (zA 1))) (ze (zA 0))))) fNx))
noncomputable def uv:FS:=(zK (zV 4 kJ)
 (zK (zV 5 (zE wX (zB (zA 2) zF)))
 (zK (fWh yf yk 1000000)
 (yI (zE wX (zB (zA 4) zF))))))
noncomputable def zi:List PV->Option PV:=fnV 7 uv
noncomputable def yq:FS:=(yI (fOp vEq (zE yH (zB (zE zi (zB (zA 0) (zB (zA 1) (zB (fSl (zA 2) wM (jI (fC (.int 1)))) (zB (zA 2) zF))))) zF)) (zE yH (zB (zA 2) zF))))
noncomputable def zm:List PV->Option PV:=fnV 3 yq
noncomputable def wo:FS:=(zK (zV 3 (fLC (xJ (zB (fOp zt (zA 0) (zA 1)) zF)) 1 [2] (zJ 0) (fT (fOp z7 (zA 0) (zA 1))) (ze (zA 0))))
 (zK (zV 4 (fLC (zZ (zA 3)) 1 [0,1] (zJ 0) (yz (zE zh (zB (zA 1) (zB (zA 2) (zB (zA 0) zF))))) (ze (zA 0))))
 (yI (fOp vLt (zE yH (zB (zE zi (zB (zA 0) (zB (zA 1) (zB (zA 4) (zB (zA 3) zF))))) zF)) (zE yH (zB (zA 3) zF))))))
noncomputable def yL:List PV->Option PV:=fnV 5 wo
noncomputable def kH:FS:=(yI (kK (zE vA (zB (zA 0) (zB (fC (.ty "int")) zF))) (zbC (zE vA (zB (zA 0) (zB (fC (.ty "bool")) zF))))))
noncomputable def zq:List PV->Option PV:=fnV 1 kH
noncomputable def wn:FS:=(yI (kK (zE zq (zB (zA 0) zF)) (yY vLe vLe (fC (.int 1)) (zA 0) (fC (.int 6)))))
noncomputable def zr:List PV->Option PV:=fnV 1 wn
noncomputable def yR:FS:=(zK (yJ (fOr (uU (yz (zE zq (zB (zA 4) zF)))) (fOr (fT (fOp vLe (zA 4) (zA 3))) (fT (fOp vGe (zA 4) (fOp zt (zA 0) (zA 1)))))) (yI (fC (.bl false))) fNx)
 (zV 3 (zA 4)))
noncomputable def wI:FS:=(zK (zV 3 (fUn zkp (fC (.int 1))))
 (zK (xX (zZ (zA 2)) (zJ 4) yR)
 (yI (fOp vGt (zE yH (zB (zA 2) zF)) (fC (.int 0))))))
noncomputable def yE:List PV->Option PV:=fnV 5 wI
noncomputable def vn:FS:=(zK (yJ (fOr (uU (yz (zE zr (zB (zA 0) zF)))) (uU (yz (zE zr (zB (zA 1) zF))))) vp fNx)
 (zK (yJ (uU (yz (zE vA (zB (zA 2) (zB (yj (zB (fC (.ty "list")) (zB (fC (.ty "tuple")) zF))) zF))))) vp fNx)
 (zK (zV 3 (zE ud (zB (zA 2) zF)))
 (zK (yJ (uU (yz (zE yE (zB (zA 0) (zB (zA 1) (zB (zA 3) zF)))))) vp fNx)
 (zK (yJ (uU (yz (zE zm (zB (zA 0) (zB (zA 1) (zB (zA 3) zF)))))) vp fNx)
 (zK (yJ (yz (zE yL (zB (zA 0) (zB (zA 1) (zB (zA 3) zF))))) vp fNx)
 (yI (yj (zB (ze (zA 0)) (zB (ze (zA 1)) (zB (ze (zA 3)) zF)))))))))))
noncomputable def yd:List PV->Option PV:=fnV 4 vn
theorem qY{f:FE}{env:En}{i:Nat}{p:PV}(h:f env=some p):zV i f env=some (.nx (env.set i (some p))):=by rw [zap,h];rfl
theorem zgO{E E':En}{src:FA}{n:Nat}{js:List Nat}{qs R:List PV}{b:PV->En->Option En}{t:FT}{f:FE}(hX:src E=some qs)(hce:cE n js E=E')(hl:qs.length≤100000)(hc:zo b t f qs E'=some R):fLC src n js b t f E=some (.lst R):=by
 rw [zhF,hX,Jb,if_pos hl,hce,hc];rfl
theorem zeJ(B:List Int):wX [.lst (B.map PV.int)]=some (.lst (B.map PV.int)):=by simp
theorem jX{t1:FT}{E:En}{fx:FE}{i:Nat}{X:List Int}{q:Int}{a:Prop}[Decidable a](h1:t1 E=some (decide a))(hi:zA i E=some (.lst (X.map PV.int)))(hE:E.set i (some (.lst (X.map PV.int)))=E)(hx:fx E=some (.int q))(hl:X.length<100000):
  yJ t1 (za i fx) fNx E=some (.nx (E.set i (some (.lst ((X++if a then [q] else []).map PV.int))))):=by
 rw [xO,h1,Jb]
 by_cases ha:a
 ·rw [decide_eq_true ha,if_pos rfl,if_pos ha,Ks]
  unfold za
  rw [hi,hx,Jb,Jb]
  dsimp only
  rw [if_pos (by rw [Je];exact hl)];rfl
 ·rw [decide_eq_false ha,if_neg Jk,if_neg ha,JS,hE];rfl
theorem wG(c:Prop)[Decidable c](a:Int):(if c then [a] else []:List Int).length≤1:=by split<;>simp
theorem zcw{w h p:Int}(w1:1≤w)(w6:w≤6):zk [.int w,.int h,.int p]=some (.lst ((zN w h p).map PV.int)):=by
 have hd:=wL (i:=p) (show 0<w/\w<1073741824 by omega)
 have hm:=yD (i:=p) (show 0<w by omega)
 let mk:Option PV->Option PV->Option PV->En:=fun x y z=>[some (.int w),some (.int h),some (.int p),x,y,z]
 let A:=some (PV.int (p % w))
 let B:=some (PV.int (p / w))
 have l1:=wG (0<p % w) (p - 1)
 have l2:=wG (p % w<w - 1) (p+1)
 have l3:=wG (0<p / w) (p - w)
 refine yP (e:=mk A B (some (.lst ((zN w h p).map PV.int)))) (mk none none none) rfl ?_
 unfold yp
 rw [zD (e:=mk A none none) (qY hm),zD (e:=mk A B none) (qY hd),zD (e:=mk A B (some (.lst (([]:List Int).map PV.int)))) rfl]
 have e1:=jX (t1:=fT (fOp vGt (zA 3) (fC (.int 0)))) (fx:=fOp yw (zA 2) (fC (.int 1))) (E:=mk A B (some (.lst (([]:List Int).map PV.int)))) (i:=5) (X:=[]) (q:=p - 1) (a:=0<p % w) rfl rfl rfl rfl (by decide)
 rw [List.nil_append] at e1
 unfold zN
 generalize (if 0<p % w then [p - 1] else []:List Int)=X1 at *
 rw [zD (e:=mk A B (some (.lst (X1.map PV.int)))) e1]
 rw [zD (e:=mk A B (some (.lst ((X1++if p % w<w - 1 then [p+1] else []).map PV.int)))) (jX (t1:=fT (fOp vLt (zA 3) (fOp yw (zA 0) (fC (.int 1))))) (E:=mk A B (some (.lst (X1.map PV.int)))) (i:=5) (X:=X1) (q:=p+1) (a:=p % w<w - 1) rfl rfl rfl rfl (by omega))]
 generalize (if p % w<w - 1 then [p+1] else []:List Int)=X2 at *
 rw [zD (e:=mk A B (some (.lst ((X1++X2++if 0<p / w then [p - w] else []).map PV.int)))) (jX (t1:=fT (fOp vGt (zA 4) (fC (.int 0)))) (E:=mk A B (some (.lst ((X1++X2).map PV.int)))) (i:=5) (X:=X1++X2) (q:=p - w) (a:=0<p / w) rfl rfl rfl rfl (by rw [Jh];omega))]
 generalize (if 0<p / w then [p - w] else []:List Int)=X3 at *
 rw [zD (e:=mk A B (some (.lst ((X1++X2++X3++if p / w<h - 1 then [p+w] else []).map PV.int)))) (jX (t1:=fT (fOp vLt (zA 4) (fOp yw (zA 1) (fC (.int 1))))) (E:=mk A B (some (.lst ((X1++X2++X3).map PV.int)))) (i:=5) (X:=X1++X2++X3) (q:=p+w) (a:=p / w<h - 1) rfl rfl rfl rfl (by rw [Jh,Jh];omega))]
 rfl
noncomputable def kW(w h n:Int):Bool:=decide (n % w=0∨n % w=w - 1) || decide (n / w=0∨n / w=h - 1)
theorem rimB_iff{w h n:Int}:kW w h n=true ↔ Rim w h n:=by
 unfold kW Rim
 simp only [Bool.or_eq_true,decide_eq_true_eq,or_assoc]
theorem zgx{w h p:Int}(w1:1≤w)(w6:w≤6):zh [.int w,.int h,.int p]=some (.bl (kW w h p)):=by
 have hd:=wL (i:=p) (show 0<w/\w<1073741824 by omega)
 have hm:=yD (i:=p) (show 0<w by omega)
 refine yP (e:=[some (.int w),some (.int h),some (.int p)]) [some (.int w),some (.int h),some (.int p)] rfl ?_
 unfold xF kW
 rw [xN]
 have a1:fOp ye (fOp xP (zA 2) (zA 0)) (yj (zB (fC (.int 0)) (zB (fOp yw (zA 0) (fC (.int 1))) zF))) [some (.int w),some (.int h),some (.int p)]=some (.bl (decide (p % w=0∨p % w=w - 1))):=by
  show ((xP (.int p) (.int w)).bind fun x=>ye x (.tup [.int 0,.int (w - 1)]))=_
  rw [hm,Jb,inE,zdN];rfl
 have a2:fOp ye (fOp yM (zA 2) (zA 0)) (yj (zB (fC (.int 0)) (zB (fOp yw (zA 1) (fC (.int 1))) zF))) [some (.int w),some (.int h),some (.int p)]=some (.bl (decide (p / w=0∨p / w=h - 1))):=by
  show ((yM (.int p) (.int w)).bind fun x=>ye x (.tup [.int 0,.int (h - 1)]))=_
  rw [hd,Jb,inE,zdN];rfl
 unfold zeR
 rw [a1,Jb,zed,Jb]
 by_cases c:p % w=0∨p % w=w - 1
 ·rw [decide_eq_true c,if_pos rfl];rfl
 ·rw [decide_eq_false c,if_neg Jk,a2];rfl
theorem zgM(L:List Int):wX [xy L]=some (.lst (L.map PV.int)):=by
 unfold xy wX
 dsimp only
 rw [Kr];rfl
theorem jB{w h:Int}{S Pl:List Int}{s x:PV}(w1:1≤w)(w6:w≤6)(hs:wX [s]=some (.lst (S.map PV.int)))(hx:∀ p,vIn (.int p) x=some (decide (p ∈ Pl)))(sub:∀ p ∈ S,p ∈ Pl)(pl:∀ p ∈ Pl,CB.Place w h p)(sz:S.length≤100)(pz:Pl.length≤100):
  ∃ L:List Int,zi [.int w,.int h,s,x]=some (.lst (L.map PV.int))/\L.Nodup/\∀ p,p ∈ L ↔ Reach (Adj w) (· ∈ Pl) (· ∈ S) p:=by
 let mk:List Int->List Int->Option PV->En:=fun L ws z=>[some (.int w),some (.int h),some s,some x,some (xy L),some (.lst (ws.map PV.int)),z]
 have hlen:∀ L ws z,zE yH (zB (zA 5) zF) (mk L ws z)=some (.int (ws.length:Int)):=fun L ws z=>zU (as:=[.lst (ws.map PV.int)]) rfl (by rw [uO,Je])
 have ht:∀ L ws z,yf (mk L ws z)=some (decide (ws≠[])):=fun L ws z=>by
  unfold yf
  rw [zlQ,uZ,hlen]
  show some (decide _)=_
  refine congrArg some (decide_eq_decide.mpr ?_)
  cases ws with
  | nil=>simp
  | cons a r=>simp only [List.length_cons,ne_eq,reduceCtorEq,not_false_eq_true,iff_true];omega
 have loop:=zbU (t:=yf) (g:=yk) (fun e=>∃ L ws z,e=mk L ws z/\Dfs (Adj w) (· ∈ Pl) (· ∈ S) L ws/\ws.length≤100+4 * L.length)
  (fun e=>match e with | [_,_,_,_,some (.dct ks _),some (.lst ws),_]=>5 * (Pl.length - ks.length)+ws.length | _=>0) ?_ 1000000 (mk [] S none)
  ⟨[],_,none,rfl,Dfs.init fun q=>⟨fun z=>⟨z,sub q z⟩,fun z=>z.1⟩,by simpa using sz⟩ (by simp [mk];omega)
 ·obtain ⟨e,h1,⟨L,ws,z,rfl,df,lz⟩,h2⟩:=loop
  rw [ht] at h2
  have hw:ws=[]:=Decidable.of_not_not (of_decide_eq_false (Js h2))
  subst hw
  refine ⟨L,yP (e:=mk L [] z) [some (.int w),some (.int h),some s,some x,none,none,none] rfl ?_,df.nd,df.done⟩
  unfold uv
  rw [zD (e:=[some (.int w),some (.int h),some s,some x,some (xy []),none,none]) rfl]
  rw [zD (e:=mk [] S none) (xB (as:=[s]) rfl hs),zD h1]
  rw [xN,zU (as:=[xy L]) rfl (zgM L)];rfl
 ·rintro e ⟨L,ws,z,rfl,df,lz⟩
  have Lz:L.length≤Pl.length:=zI _ _ df.nd fun p hp=>(df.sound p hp).inS
  by_cases hw:ws=[]
  ·exact .inl (by rw [ht,decide_eq_false (fun c=>c hw)])
  ·obtain ⟨ws',p,rfl⟩:∃ ws' p,ws=ws'++[p]:=⟨ws.dropLast,ws.getLast hw,(List.dropLast_concat_getLast _).symm⟩
   have hp:p ∈ Pl:=(df.soundW p (by simp)).inS
   refine .inr ⟨by rw [ht,decide_eq_true hw],?_⟩
   simp only [List.length_append,List.length_singleton] at lz
   have hpop:zab 6 5 (mk L (ws'++[p]) z)=some (.nx (mk L ws' (some (.int p)))):=by simp [mk,zab]
   have hin:fT (fOp z7 (zA 6) (zA 4)) (mk L ws' (some (.int p)))=some (!decide (p ∈ L)):=by
    show (z7 (.int p) (xy L)).bind zf=_
    rw [zgE,zgY];rfl
   by_cases hL:p ∈ L
   ·refine ⟨mk L ws' (some (.int p)),.inl ?_,⟨L,ws',_,rfl,df.old hL,by omega⟩,by simp [mk]⟩
    unfold yk
    rw [zD hpop,xO,hin,decide_eq_true hL];rfl
   ·have hb:=zcw (h:=h) (p:=p) w1 w6
    have hc:zo (zJ 0) (fT (fOp ye (zA 0) (zA 1))) (ze (zA 0)) ((zN w h p).map PV.int) [none,some x]=some (((zN w h p).filter fun n=>decide (n ∈ Pl)).map PV.int):=
     yB (fun n=>decide (n ∈ Pl)) PV.int _ fun n _=>⟨_,rfl,by simp [hx],fun _=>by simp⟩
    have hbl:=vV w h p
    have hfl:=Kg (fun n=>decide (n ∈ Pl)) (zN w h p)
    have hnew:=df.new (nbs:=(zN w h p).filter fun n=>decide (n ∈ Pl)) hL fun q=>by
     rw [JD,jz w1 w6 (pl p hp),decide_eq_true_eq]
     exact ⟨fun z=>⟨z.1.2,z.2⟩,fun z=>⟨⟨pl q z.2,z.1⟩,z.2⟩⟩
    have hlL:=zI _ _ hnew.nd fun q hq=>(hnew.sound q hq).inS
    simp only [List.length_append,List.length_singleton] at hlL
    refine ⟨mk (L++[p]) (ws'++(zN w h p).filter fun n=>decide (n ∈ Pl)) (some (.int p)),.inl ?_,⟨_,_,_,rfl,hnew,by simp only [List.length_append,List.length_singleton];omega⟩,by simp [mk];omega⟩
    have hse:=zds hL (show L.length<100000 by omega)
    unfold yk
    rw [zD hpop,xO,hin,decide_eq_false hL,Jb,if_pos (by rfl)]
    rw [zD (e:=mk (L++[p]) ws' (some (.int p))) (by
     have v4:zA 4 (mk L ws' (some (.int p)))=some (xy L):=rfl
     have v6:zA 6 (mk L ws' (some (.int p)))=some (.int p):=rfl
     unfold ww
     simp only [v4,v6,zlR,Option.bind_some,hse];rfl)]
    have hlc:fLC (zZ (zE zk (zB (zA 0) (zB (zA 1) (zB (zA 6) zF))))) 1 [3] (zJ 0) (fT (fOp ye (zA 0) (zA 1))) (ze (zA 0)) (mk (L++[p]) ws' (some (.int p)))=some (.lst (((zN w h p).filter fun n=>decide (n ∈ Pl)).map PV.int)):=
     zgO (qs:=(zN w h p).map PV.int) (by rw [w9,zU (as:=[.int w,.int h,.int p]) rfl hb];rfl) rfl (by rw [Je];omega) hc
    generalize ((zN w h p).filter fun n=>decide (n ∈ Pl))=N at *
    have v5:zA 5 (mk (L++[p]) ws' (some (.int p)))=some (.lst (ws'.map PV.int)):=rfl
    unfold zn
    simp only [v5,hlc,Option.bind_some]
    have hz:(ws'.map PV.int).length+(N.map PV.int).length≤100000:=by rw [Je,Je];omega
    simp [hz,mk]
    omega
theorem zfm(p:Int):zq [.int p]=some (.bl true):=rfl
theorem k9{w:Int}(w1:1≤w)(w6:w≤6):zr [.int w]=some (.bl true):=by
 refine yP (e:=[some (.int w)]) [some (.int w)] rfl ?_
 unfold wn
 have h1:zE zq (zB (zA 0) zF) [some (.int w)]=some (.bl true):=zU (as:=[.int w]) rfl (zfm w)
 rw [xN]
 unfold kK
 rw [h1,Jb,zed,Jb,if_pos rfl]
 have:yY vLe vLe (fC (.int 1)) (zA 0) (fC (.int 6)) [some (.int w)]=some (.bl true):=by simp [w1,w6]
 rw [this];rfl
theorem zao{w h:Int}{F:List Int}(fl:IsFloor w h F):yE [.int w,.int h,.tup (F.map PV.int)]=some (.bl true):=by
 have w1:=fl.w1;have w6:=fl.w6
 have hmul:=xE (i:=w) (j:=h) ⟨by omega,by omega⟩
 let mk:Int->Option PV->En:=fun j x=>[some (.int w),some (.int h),some (.tup (F.map PV.int)),some (.int j),x]
 obtain ⟨e,l1,j,x,rfl,_⟩:=vG (b:=zJ 4) (g:=yR) (xs:=F) (hh:=PV.int) (env:=mk (-1) none) (fun pre e=>∃ j x,e=mk j x/\∀ q ∈ F,q ∉ pre->j<q) ⟨-1,none,rfl,fun q hq _=>by have:=(fl.inn q hq).1;omega⟩ (by
  rintro pre a post e hF ⟨j,x,rfl,hj⟩
  have ha:a ∈ F:=by rw [hF];simp
  have rise:=fl.rise
  have nd:=zR fl.rise
  rw [hF,Jz] at rise
  have hpa:a ∉ pre:=fun z=>Int.lt_irrefl a (rise.2.2 a z a Jf)
  have hja:=hj a ha hpa
  have hlt:=(fl.inn a ha).2
  refine ⟨mk j (some (.int a)),mk a (some (.int a)),rfl,.inl ?_,a,_,rfl,fun q hq hn=>?_⟩
  ·have t1:uU (yz (zE zq (zB (zA 4) zF))) (mk j (some (.int a)))=some false:=rfl
   have t2:fT (fOp vLe (zA 4) (zA 3)) (mk j (some (.int a)))=some (decide (a≤j)):=rfl
   have t3:fT (fOp vGe (zA 4) (fOp zt (zA 0) (zA 1))) (mk j (some (.int a)))=some (decide (w * h≤a)):=by
    show (((zt (.int w) (.int h)).bind fun y=>vGe (.int a) y).bind zf)=_
    rw [hmul];rfl
   unfold yR
   rw [zD (e:=mk j (some (.int a))) (by
    rw [xO,zee,t1,Jb,if_neg Jk,zee,t2,Jb,decide_eq_false (Int.not_le.mpr hja),if_neg Jk,t3,decide_eq_false (Int.not_le.mpr hlt)];rfl)]
   rfl
  ·rw [hF] at hq
   rcases List.mem_append.mp hq with z | z
   ·exact absurd (Jt _ z) hn
   ·rcases List.mem_cons.mp z with rfl | z
    ·exact absurd (by simp) hn
    ·exact (JM.mp rise.2.1).1 q z)
 refine yP (e:=mk j x) [some (.int w),some (.int h),some (.tup (F.map PV.int)),none,none] rfl ?_
 unfold wI
 rw [zD (e:=mk (-1) none) rfl]
 rw [zD (e:=mk j x) (by rw [vM];exact l1)]
 have hlen:zE yH (zB (zA 2) zF) (mk j x)=some (.int (F.length:Int)):=zU (as:=[.tup (F.map PV.int)]) rfl (by rw [zdG,Je])
 rw [xN,uZ,hlen]
 show (some (PV.bl (decide ((0:Int)<(F.length:Int))))).map _=_
 rw [decide_eq_true (by have:=List.length_pos_iff.mpr fl.ne;omega)];rfl
theorem zjc{w h:Int}{F:List Int}(fl:IsFloor w h F):zm [.int w,.int h,.tup (F.map PV.int)]=some (.bl true):=by
 have fz:=vH fl
 obtain ⟨x0,xr,rfl⟩:∃ a r,F=a::r:=by
  cases F with
  | nil=>exact absurd rfl fl.ne
  | cons a r=>exact ⟨a,r,rfl⟩
 obtain ⟨L,e1,e2,e3⟩:=jB (w:=w) (h:=h) (S:=[x0]) (Pl:=x0::xr) (s:=.tup ([x0].map PV.int)) (x:=.tup ((x0::xr).map PV.int)) fl.w1 fl.w6 rfl (fun p=>zcL) (by simp) fl.inn (by simp) (by omega)
 generalize hF:x0::xr=F at *
 have hlen:L.length=F.length:=(yu e2 (zR fl.rise) fun p hp=>((e3 p).mp hp).inS).mpr fun p hp=>(e3 p).mpr ((fl.conn p hp).mono (fun q a s=>.start (by rw [← hF] at a;cases a;exact List.mem_singleton.mpr rfl) s) fun q r=>r.inS)
 let E:En:=[some (.int w),some (.int h),some (.tup (F.map PV.int))]
 have hsl:fSl (zA 2) wM (jI (fC (.int 1))) E=some (.tup ([x0].map PV.int)):=by
  show vSl (.tup (F.map PV.int)) none (some 1)=_
  rw [← hF]
  simp only [vSl,xL,if_true,zjQ];rfl
 have hc:=zU (env:=E) (Φ:=zi) (fs:=zB (zA 0) (zB (zA 1) (zB (fSl (zA 2) wM (jI (fC (.int 1)))) (zB (zA 2) zF)))) (as:=[.int w,.int h,.tup ([x0].map PV.int),.tup (F.map PV.int)]) (by rw [xb,xb,xb,hsl];rfl) e1
 have h1:zE yH (zB (zE zi (zB (zA 0) (zB (zA 1) (zB (fSl (zA 2) wM (jI (fC (.int 1)))) (zB (zA 2) zF))))) zF) E=some (.int (L.length:Int)):=zU (as:=[.lst (L.map PV.int)]) (by rw [xb,hc];rfl) (by rw [uO,Je])
 have h2:zE yH (zB (zA 2) zF) E=some (.int (F.length:Int)):=zU (as:=[.tup (F.map PV.int)]) rfl (by rw [zdG,Je])
 refine yP (e:=E) E rfl ?_
 unfold yq
 rw [xN,uZ,h1,h2,Jb,Jb,znI,decide_eq_true (by omega)];rfl
theorem zjb{w h:Int}{F:List Int}(fl:IsFloor w h F):yL [.int w,.int h,.tup (F.map PV.int)]=some (.bl false):=by
 have w1:=fl.w1;have w6:=fl.w6
 have wh:=zjR fl.w1 fl.w6 fl.h1 fl.h6
 have hmul:=xE (i:=w) (j:=h) ⟨by omega,by omega⟩
 have hpl:=vh w h
 have c1:zo (zJ 0) (fT (fOp z7 (zA 0) (zA 1))) (ze (zA 0)) ((places w h).map PV.int) [none,some (.tup (F.map PV.int))]=some (((places w h).filter fun n=>!decide (n ∈ F)).map PV.int):=
  yB (fun n=>!decide (n ∈ F)) PV.int _ fun n _=>⟨_,rfl,by simp,fun _=>by simp⟩
 have hbl:=Kg (fun n=>!decide (n ∈ F)) (places w h)
 have mem:∀ q,q ∈ (places w h).filter (fun n=>!decide (n ∈ F)) ↔ CB.Place w h q/\q ∉ F:=fun q=>by rw [List.mem_filter,mem_places];simp
 have bnd:((places w h).filter fun n=>!decide (n ∈ F)).Nodup:=(zR (jA w h)).filter _
 generalize ((places w h).filter fun n=>!decide (n ∈ F))=bare at c1 hbl mem bnd
 have c2:zo (zJ 0) (yz (zE zh (zB (zA 1) (zB (zA 2) (zB (zA 0) zF))))) (ze (zA 0)) (bare.map PV.int) [none,some (.int w),some (.int h)]=some ((bare.filter (kW w h)).map PV.int):=
  yB (kW w h) PV.int _ fun n _=>⟨[some (.int n),some (.int w),some (.int h)],rfl,by
   have:=zU (env:=[some (.int n),some (.int w),some (.int h)]) (Φ:=zh) (fs:=zB (zA 1) (zB (zA 2) (zB (zA 0) zF))) (as:=[.int w,.int h,.int n]) rfl (zgx w1 w6)
   unfold yz
   rw [this];rfl,fun _=>by simp⟩
 have hrl:=Kg (kW w h) bare
 obtain ⟨L,e1,e2,e3⟩:=jB (w:=w) (h:=h) (S:=bare.filter (kW w h)) (Pl:=bare) (s:=.lst ((bare.filter (kW w h)).map PV.int)) (x:=.lst (bare.map PV.int)) w1 w6 (zeJ _) (fun p=>zlz) (fun p hp=>(JD.mp hp).1) (fun p hp=>((mem p).mp hp).1) (by omega) (by omega)
 have hlen:L.length=bare.length:=(yu e2 bnd fun p hp=>((e3 p).mp hp).inS).mpr fun p hp=>(e3 p).mpr ((fl.noh p ((mem p).mp hp).1 ((mem p).mp hp).2).mono (fun q a s=>.start (JD.mpr ⟨(mem q).mpr s,rimB_iff.mpr a⟩) ((mem q).mpr s)) fun q r=>(mem q).mpr r.inS)
 generalize (bare.filter (kW w h))=rims at c2 e1 hrl
 let mk:Option PV->Option PV->En:=fun x y=>[some (.int w),some (.int h),some (.tup (F.map PV.int)),x,y]
 let A:=some (PV.lst (bare.map PV.int))
 let B:=some (PV.lst (rims.map PV.int))
 refine yP (e:=mk A B) (mk none none) rfl ?_
 unfold wo
 have hr:xJ (zB (fOp zt (zA 0) (zA 1)) zF) (mk none none)=some ((places w h).map PV.int):=by
  rw [← wE]
  exact zis (j:=w * h) (by
   show ((zt (.int w) (.int h)).bind fun p=>some [p])=_
   rw [hmul];rfl) (by omega) (by omega)
 rw [zD (e:=mk A none) (qY (zgO hr rfl (by rw [Je];omega) c1))]
 rw [zD (e:=mk A B) (qY (zgO (qs:=bare.map PV.int) rfl rfl (by rw [Je];omega) c2))]
 have hc:=zU (env:=mk A B) (Φ:=zi) (fs:=zB (zA 0) (zB (zA 1) (zB (zA 4) (zB (zA 3) zF)))) (as:=[.int w,.int h,.lst (rims.map PV.int),.lst (bare.map PV.int)]) rfl e1
 have h1:zE yH (zB (zE zi (zB (zA 0) (zB (zA 1) (zB (zA 4) (zB (zA 3) zF))))) zF) (mk A B)=some (.int (L.length:Int)):=zU (as:=[.lst (L.map PV.int)]) (by rw [xb,hc];rfl) (by rw [uO,Je])
 have h2:zE yH (zB (zA 3) zF) (mk A B)=some (.int (bare.length:Int)):=zU (as:=[.lst (bare.map PV.int)]) rfl (by rw [uO,Je])
 rw [xN,uZ,h1,h2,Jb,Jb,znm,decide_eq_false (by omega)];rfl
noncomputable def isF(w h:Int)(F:List Int)(z:Int × Int):Bool:=(decide (0≤z.1) && decide (z.1<w)) && ((decide (0≤z.2) && decide (z.2<h)) && decide (z.2 * w+z.1 ∈ F))
theorem isF_iff{w h:Int}{F:List Int}{z:Int × Int}:isF w h F z=true ↔ 0≤z.1/\z.1<w/\0≤z.2/\z.2<h/\z.2 * w+z.1 ∈ F:=by
 unfold isF
 simp only [Bool.and_eq_true,decide_eq_true_eq]
 constructor
 ·rintro ⟨⟨a,b⟩,⟨c,d⟩,e⟩;exact ⟨a,b,c,d,e⟩
 ·rintro ⟨a,b,c,d,e⟩;exact ⟨⟨a,b⟩,⟨c,d⟩,e⟩
noncomputable def zfc(w h:Int):List Int:=(List.range ((w+1) * (h+1)).toNat).map fun (i:Nat)=>(i:Int)
theorem mem_crnR{w h c:Int}:c ∈ zfc w h ↔ 0≤c/\c<(w+1) * (h+1):=by
 unfold zfc
 rw [Jo]
 constructor
 ·rintro ⟨i,hi,rfl⟩
  have:=JA.mp hi
  omega
 ·rintro ⟨h0,h1⟩
  exact ⟨c.toNat,JA.mpr (by omega),by omega⟩
theorem zfb(w h:Int):(zfc w h).Pairwise (·<·):=by
 unfold zfc
 rw [JJ]
 exact List.pairwise_lt_range.imp fun h=>by omega
noncomputable abbrev acS:Str:=Str.ofString "across"
noncomputable abbrev upS:Str:=Str.ofString "up"
noncomputable def wdS(u:Bool):Str:=if u then upS else acS
noncomputable def abS(w:Int)(u:Bool)(c:Int):List (Int × Int):=if u then [(c % (w+1),c / (w+1)),(c % (w+1) - 1,c / (w+1))] else [(c % (w+1),c / (w+1)),(c % (w+1),c / (w+1) - 1)]
noncomputable def sdV(u:Bool)(c:Int):PV:=.tup [.str (wdS u),.int c]
noncomputable def lsW(w h:Int)(F:List Int)(u:Bool):List Int:=(zfc w h).filter fun c=>(abS w u c).any (isF w h F)
theorem zji{x y:Str}(hx:PyData.canLay0 (.str x)=true)(hy:PyData.canLay0 (.str y)=true):vEq (.str x) (.str y)=some (.bl (decide (x=y))):=by
 have h1:wy (.str x)=true:=(zdA hx).ok (by decide)
 have h2:wy (.str y)=true:=(zdA hy).ok (by decide)
 have h3:eqP (.str x) (.str y)=decide (x=y):=by
  simp only [eqP,yU,PyData.eqv]
  rw [Bool.eq_iff_iff];simp
 unfold vEq
 rw [h1,h2,h3];rfl
theorem zfn(u:Bool):PyData.canLay0 (.str (wdS u))=true:=by cases u<;>decide +kernel
theorem zaz:¬ acS=upS:=by decide +kernel
theorem znG(u:Bool):vEq (.str (wdS u)) (.str upS)=some (.bl u):=by
 rw [zji (x:=wdS u) (y:=upS) (zfn u) (zfn true)]
 cases u with
 | true=>rw [decide_eq_true (show wdS true=upS from rfl)]
 | false=>rw [decide_eq_false (show ¬ wdS false=upS from zaz)]
noncomputable def lsF(w h:Int)(F:List Int):List PV:=(lsW w h F false).map (sdV false)++(lsW w h F true).map (sdV true)
noncomputable def sK(u:Bool)(c:Int):List Key:=[.inr (wdS u),.inl c]
noncomputable def sAt(w p:Int):List (List Key):=[sK false (p+p / w),sK false (p+p / w+w+1),sK true (p+p / w),sK true (p+p / w+1)]
theorem zfl{w h p:Int}{F:List Int}(w1:1≤w)(w6:w≤6):yv [flV w h F,.int p]=some (.tup [sdV false (p+p / w),sdV false (p+p / w+w+1)]):=by
 refine yP (e:=[some (flV w h F),some (.int p),some (.tup ((cAt w p).map PV.int))]) [some (flV w h F),some (.int p),none] rfl ?_
 unfold wp
 rw [zD (e:=[some (flV w h F),some (.int p),some (.tup ((cAt w p).map PV.int))]) (xB (as:=[flV w h F,.int p]) rfl (wQ w1 w6))]
 rfl
theorem zmq{w h p:Int}{F:List Int}(w1:1≤w)(w6:w≤6):vy [flV w h F,.int p]=some (.tup [sdV true (p+p / w),sdV true (p+p / w+1)]):=by
 refine yP (e:=[some (flV w h F),some (.int p),some (.tup ((cAt w p).map PV.int))]) [some (flV w h F),some (.int p),none] rfl ?_
 unfold qy
 rw [zD (e:=[some (flV w h F),some (.int p),some (.tup ((cAt w p).map PV.int))]) (xB (as:=[flV w h F,.int p]) rfl (wQ w1 w6))]
 rfl
noncomputable def sL(w:Int)(F:List Int):List (List Key):=F.flatMap (sAt w)
theorem zck(w:Int):∀ F:List Int,(sL w F).length=4 * F.length
 | []=>rfl
 | p::F=>by
  have ih:=zck w F
  unfold sL at ih ⊢
  rw [List.flatMap_cons,Jh,ih,JF]
  show 4+_=_
  omega
theorem mem_sL{w:Int}{F:List Int}{k:List Key}:k ∈ sL w F ↔ ∃ p ∈ F,k ∈ sAt w p:=List.mem_flatMap
theorem qb{w p:Int}{k:List Key}(h:k ∈ sAt w p):k≠[]/\shp k=[false,true]:=by
 unfold sAt at h
 simp only [List.mem_cons,List.not_mem_nil,or_false] at h
 rcases h with rfl | rfl | rfl | rfl<;>exact ⟨List.cons_ne_nil _ _,rfl⟩
theorem zmA{w:Int}{F:List Int}:okM (sL w F)=true:=by
 unfold okM
 refine QI.mpr fun k hk=>?_
 obtain ⟨p,_,h⟩:=mem_sL.mp hk
 obtain ⟨h1,h2⟩:=qb h
 have hh:shp ((sL w F).headD [])=[false,true]:=by
  cases hs:sL w F with
  | nil=>rw [hs] at hk;cases hk
  | cons a l=>
   obtain ⟨q,_,h'⟩:=mem_sL.mp (show a ∈ sL w F by rw [hs];exact Jf)
   exact (qb h').2
 rw [h2,hh]
 cases k with
 | nil=>exact absurd rfl h1
 | cons a l=>rfl
theorem zhp(ks:List (List Key)):isDatas (ks.map tPV)=true:=by
 refine yh _ (fun k=>?_) ks
 unfold tPV
 rw [zhr]
 refine yh _ (fun x=>?_) k
 cases x<;>rfl
theorem ext_of{i:Nat}{f:FE}{env:En}{ks js:List (List Key)}(hi:zA i env=some (.lst (ks.map tPV)))(hf:f env=some (.tup (js.map tPV)))(hl:ks.length+js.length≤1000):zn i f env=some (.nx (env.set i (some (.lst ((ks++js).map tPV))))):=by
 unfold zn
 rw [hi,Jb,hf,Jb]
 dsimp only
 rw [zaQ,Jb,if_pos ⟨zhp _,by rw [Je,Je];omega⟩,← Ks]
theorem zfT{w h:Int}{F:List Int}(fl:IsFloor w h F)(h2:2≤(w5 (sL w F)).length):wV [flV w h F]=some (.lst ((vP (w5 (sL w F))).map tPV)):=by
 have w1:=fl.w1;have w6:=fl.w6
 have fz:=vH fl
 let mk:List (List Key)->Option PV->En:=fun L x=>[some (flV w h F),some (.lst (L.map tPV)),x]
 obtain ⟨e,l1,x,rfl⟩:=vG (b:=zJ 2) (g:=vI) (xs:=F) (hh:=PV.int) (env:=mk [] none) (fun pre e=>∃ x,e=mk (sL w pre) x) ⟨none,rfl⟩ (by
  rintro pre p post e hF ⟨x,rfl⟩
  have hpl:pre.length≤36:=by have:=congrArg List.length hF;rw [Jh] at this;omega
  refine ⟨mk (sL w pre) (some (.int p)),mk (sL w (pre++[p])) (some (.int p)),rfl,.inl ?_,_,rfl⟩
  have e1:sL w (pre++[p])=(sL w pre++[sK false (p+p / w),sK false (p+p / w+w+1)])++[sK true (p+p / w),sK true (p+p / w+1)]:=by
   unfold sL;rw [List.flatMap_append,List.flatMap_singleton,List.append_assoc];rfl
  rw [e1]
  have hz:=zck w pre
  generalize sL w pre=L at hz
  unfold vI
  rw [zD (e:=mk (L++[sK false (p+p / w),sK false (p+p / w+w+1)]) (some (.int p))) (ext_of (js:=[sK false (p+p / w),sK false (p+p / w+w+1)]) rfl (zU (as:=[flV w h F,.int p]) rfl (zfl w1 w6)) (by show L.length+2≤_;omega))]
  rw [ext_of (env:=mk (L++[sK false (p+p / w),sK false (p+p / w+w+1)]) (some (.int p))) (js:=[sK true (p+p / w),sK true (p+p / w+1)]) rfl (zU (as:=[flV w h F,.int p]) rfl (zmq w1 w6)) (by rw [Jh];show L.length+2+2≤_;omega)]
  rfl)
 refine yP (e:=mk (sL w F) x) [some (flV w h F),none,none] rfl ?_
 unfold qz
 have v2:fOp vIx (zA 0) (fC (.int 2)) (mk [] none)=some (.tup (F.map PV.int)):=zmd rfl
 rw [zD (e:=mk [] none) rfl]
 rw [zD (e:=mk (sL w F) x) (by rw [vM,w9,v2];exact l1)]
 rw [xN]
 have:y8 (zB (zA 1) zF) (mk (sL w F) x)=some (.lst ((vP (w5 (sL w F))).map tPV)):=by
  unfold y8
  show ((zcf ((sL w F).map tPV)).bind _)=_
  rw [zaH,Jb,if_pos ⟨zmA,h2,by rw [zck];omega⟩]
 rw [this];rfl
theorem jH{w h p:Int}{F:List Int}(fl:IsFloor w h F)(hp:p ∈ F):0≤p % w/\p % w<w/\0≤p / w/\p / w<h/\p / w * w+p % w=p:=by
 have w1:=fl.w1
 have hP:=fl.inn p hp
 have r:=uk w1 hP
 exact ⟨JQ _ (by omega),JK _ (by omega),r.1,r.2,by have:=JN p w;rw [Qo] at this;exact this⟩
theorem isF_at{w h x y:Int}{F:List Int}:isF w h F (x,y)=true ↔ 0≤x/\x<w/\0≤y/\y<h/\y * w+x ∈ F:=isF_iff
theorem zjA{w x y:Int}(h0:0≤x)(h1:x<w):(y * w+x) % w=x/\(y * w+x) / w=y:=by
 have:=(KQ (a:=y * w+x) (b:=w) (r:=x) (q:=y) (by omega)).mpr ⟨by rw [Qo];omega,h0,h1⟩
 exact ⟨this.2,this.1⟩
theorem jW{w h x y:Int}(x0:0≤x)(x1:x≤w)(y0:0≤y)(y1:y≤h):crn w x y ∈ zfc w h:=mem_crnR.mpr (zhy x0 x1 y0 y1)
theorem uN{w h c:Int}{F:List Int}(fl:IsFloor w h F)(u:Bool):c ∈ lsW w h F u ↔ sK u c ∈ sL w F:=by
 have w1:=fl.w1
 rw [mem_sL]
 unfold lsW
 rw [JD,Kv]
 constructor
 ·rintro ⟨hc,z,hz,hf⟩
  obtain ⟨a1,a2,a3,a4,a5⟩:=isF_iff.mp hf
  have c0:=(mem_crnR.mp hc).1
  have hxy:=zjA (y:=z.2) a1 a2
  have ce:c=crn w (c % (w+1)) (c / (w+1)):=by unfold crn;have:=Int.mul_ediv_add_emod c (w+1);rw [Int.mul_comm] at this;omega
  refine ⟨z.2 * w+z.1,a5,?_⟩
  have low:=yy w (z.2 * w+z.1)
  rw [hxy.1,hxy.2] at low
  unfold sAt
  rw [hxy.2,low]
  cases u with
  | true=>
   have hz:z=(c % (w+1),c / (w+1))∨z=(c % (w+1) - 1,c / (w+1)):=by simpa [abS] using hz
   rcases hz with rfl | rfl
   ·rw [← ce];simp
   ·have:crn w (c % (w+1) - 1) (c / (w+1))+1=c:=by
     conv=>rhs;rw [ce]
     unfold crn;omega
    simp only [this];simp
  | false=>
   have hz:z=(c % (w+1),c / (w+1))∨z=(c % (w+1),c / (w+1) - 1):=by simpa [abS] using hz
   rcases hz with rfl | rfl
   ·rw [← ce];simp
   ·have:crn w (c % (w+1)) (c / (w+1) - 1)+w+1=c:=by
     conv=>rhs;rw [ce]
     unfold crn;rw [Int.sub_mul];omega
    simp only [this];simp
 ·rintro ⟨p,hp,hk⟩
  obtain ⟨x0,x1,y0,y1,pe⟩:=jH fl hp
  have hin:isF w h F (p % w,p / w)=true:=isF_at.mpr ⟨x0,x1,y0,y1,by rw [pe];exact hp⟩
  have c0:p+p / w=crn w (p % w) (p / w):=yy w p
  have c1:p+p / w+1=crn w (p % w+1) (p / w):=by rw [c0];unfold crn;omega
  have c2:p+p / w+w+1=crn w (p % w) (p / w+1):=by rw [c0];unfold crn;rw [Int.add_mul];omega
  have inj:∀ {u v:Bool} {a b:Int},sK u a=sK v b->a=b:=fun h=>by
   unfold sK at h
   simp only [List.cons.injEq,Sum.inl.injEq,and_true] at h
   exact h.2
  have wne:∀ {a b:Int},sK true a≠sK false b:=fun h=>by
   unfold sK at h
   simp only [List.cons.injEq,Sum.inr.injEq,and_true] at h
   exact zaz h.1.symm
  unfold sAt at hk
  simp only [List.mem_cons,List.not_mem_nil,or_false] at hk
  cases u with
  | true=>
   rcases hk with hk | hk | hk | hk
   ·exact absurd hk wne
   ·exact absurd hk wne
   ·rw [inj hk,c0]
    refine ⟨jW x0 (by omega) y0 (by omega),(p % w,p / w),?_,hin⟩
    have:=wP (w:=w) (y:=p / w) x0 (by omega)
    unfold abS;rw [this.1,this.2];simp
   ·rw [inj hk,c1]
    refine ⟨jW (by omega) (by omega) y0 (by omega),(p % w,p / w),?_,hin⟩
    have:=wP (w:=w) (x:=p % w+1) (y:=p / w) (by omega) (by omega)
    unfold abS;rw [this.1,this.2];simp
  | false=>
   rcases hk with hk | hk | hk | hk
   ·rw [inj hk,c0]
    refine ⟨jW x0 (by omega) y0 (by omega),(p % w,p / w),?_,hin⟩
    have:=wP (w:=w) (y:=p / w) x0 (by omega)
    unfold abS;rw [this.1,this.2];simp
   ·rw [inj hk,c2]
    refine ⟨jW x0 (by omega) (by omega) (by omega),(p % w,p / w),?_,hin⟩
    have:=wP (w:=w) (x:=p % w) (y:=p / w+1) x0 (by omega)
    unfold abS;rw [this.1,this.2];simp
   ·exact absurd hk.symm wne
   ·exact absurd hk.symm wne
noncomputable def lsK(w h:Int)(F:List Int):List (List Key):=(lsW w h F false).map (sK false)++(lsW w h F true).map (sK true)
theorem znn(w h:Int)(F:List Int):(lsK w h F).map tPV=lsF w h F:=by
 unfold lsK lsF
 rw [Ks,Kr,Kr];rfl
theorem yG(w h:Int)(F:List Int)(u:Bool):(lsW w h F u).Pairwise (·<·):=(zfb w h).sublist Qq
theorem zdU(u:Bool){c d:Int}:enc (sK u d)<enc (sK u c) ↔ d<c:=by
 show ke (.inr (wdS u))++[d]<ke (.inr (wdS u))++[c] ↔ _
 rw [zcn,KA]
 simp
theorem zjn{c d:Int}:¬ enc (sK true d)<enc (sK false c):=by
 show ¬ (upS.cps.toList.map Int.ofNat++[-1])++[d]<(acS.cps.toList.map Int.ofNat++[-1])++[c]
 rw [jf _ _ _ _ (zcR fun e=>zaz e.symm)]
 decide +kernel
theorem zcD(w h:Int)(F:List Int):(lsK w h F).Pairwise fun x y=>¬ enc y<enc x:=by
 refine Jz.mpr ⟨JJ.mpr ((yG w h F false).imp fun h z=>?_),JJ.mpr ((yG w h F true).imp fun h z=>?_),fun x hx y hy=>?_⟩
 ·have:=(zdU false).mp z;omega
 ·have:=(zdU true).mp z;omega
 ·obtain ⟨a,_,rfl⟩:=Jo.mp hx
  obtain ⟨b,_,rfl⟩:=Jo.mp hy
  exact zjn
theorem yo{u v:Bool}{a b:Int}(h:sK u a=sK v b):u=v/\a=b:=by
 unfold sK at h
 simp only [List.cons.injEq,Sum.inr.injEq,Sum.inl.injEq,and_true] at h
 refine ⟨?_,h.2⟩
 cases u<;>cases v<;>first | rfl | exact absurd h.1 zaz | exact absurd h.1.symm zaz
theorem zeI(w h:Int)(F:List Int):(lsK w h F).Nodup:=by
 rw [JG]
 refine Jz.mpr ⟨JJ.mpr ((yG w h F false).imp fun h e=>?_),JJ.mpr ((yG w h F true).imp fun h e=>?_),fun x hx y hy e=>?_⟩
 ·have:=(yo e).2;omega
 ·have:=(yo e).2;omega
 ·obtain ⟨a,_,rfl⟩:=Jo.mp hx
  obtain ⟨b,_,rfl⟩:=Jo.mp hy
  exact nomatch (yo e).1
theorem ziU{w h:Int}{F:List Int}(fl:IsFloor w h F){k:List Key}:k ∈ lsK w h F ↔ k ∈ sL w F:=by
 unfold lsK
 rw [Kd,Jo,Jo]
 constructor
 ·rintro (⟨c,hc,rfl⟩ | ⟨c,hc,rfl⟩)
  ·exact (uN fl false).mp hc
  ·exact (uN fl true).mp hc
 ·intro hk
  obtain ⟨p,hp,h⟩:=mem_sL.mp hk
  have:∃ u c,k=sK u c:=by
   unfold sAt at h
   simp only [List.mem_cons,List.not_mem_nil,or_false] at h
   rcases h with rfl | rfl | rfl | rfl<;>exact ⟨_,_,rfl⟩
  obtain ⟨u,c,rfl⟩:=this
  have hc:=(uN fl u).mpr hk
  cases u with
  | true=>exact .inr ⟨c,hc,rfl⟩
  | false=>exact .inl ⟨c,hc,rfl⟩
theorem zgL{w h:Int}{F:List Int}(fl:IsFloor w h F):(lsK w h F).Perm (w5 (sL w F)):=
 (QL (zeI w h F) (zcO _)).mpr fun k=>by rw [ziU fl,dedM_mem]
theorem zfU{w h:Int}{F:List Int}(fl:IsFloor w h F):vP (w5 (sL w F))=lsK w h F:=
 zaL (b:=[false,true]) (fun k hk=>by
  obtain ⟨p,_,h⟩:=mem_sL.mp (dedM_mem.mp hk)
  exact (qb h).2) (zgL fl) (zcD w h F)
theorem zeo{w h:Int}{F:List Int}(fl:IsFloor w h F):2≤(w5 (sL w F)).length:=by
 obtain ⟨p,hp⟩:=List.exists_mem_of_ne_nil F fl.ne
 have m1:sK false (p+p / w) ∈ w5 (sL w F):=dedM_mem.mpr (mem_sL.mpr ⟨p,hp,by unfold sAt;simp⟩)
 have m2:sK true (p+p / w) ∈ w5 (sL w F):=dedM_mem.mpr (mem_sL.mpr ⟨p,hp,by unfold sAt;simp⟩)
 have ne:sK false (p+p / w)≠sK true (p+p / w):=fun e=>nomatch (yo e).1
 cases hd:w5 (sL w F) with
 | nil=>rw [hd] at m1;cases m1
 | cons a l=>
  cases l with
  | nil=>
   rw [hd] at m1 m2
   exact absurd ((Ji.mp m1).trans (Ji.mp m2).symm) ne
  | cons b l=>show 2≤l.length+1+1;omega
theorem zew{w h:Int}{F:List Int}(fl:IsFloor w h F):wV [flV w h F]=some (.lst (lsF w h F)):=by
 rw [zfT fl (zeo fl),zfU fl,znn]
theorem if1{t:FT}{g:FS}{e:En}(h:t e=some false):yJ t g fNx e=some (.nx e):=by rw [xO,h];rfl
theorem if2{t u:FT}{g:FS}{e:En}(h:t e=some false)(h2:u e=some false):yJ (fOr t u) g fNx e=some (.nx e):=if1 (by rw [zee,h,Jb,if_neg Jk,h2])
section
variable {T T':List Int} {p:Nat × Nat} {n k:Nat}
noncomputable def kT(n:Nat):List Int:=(List.range n).map fun (i:Nat)=>(i:Int)
theorem zaE(n:Nat):(kT n).length=n:=by simp [kT]
theorem zaM{α:Type}{P:List α->Prop}(h0:P [])(h1:∀ l a,P l->P (l++[a]))(l:List α):P l:=by
 rw [← l.reverse_reverse]
 induction l.reverse with
 | nil=>exact h0
 | cons a r ih=>rw [KW];exact h1 _ _ ih
noncomputable def mrg(T:List Int)(p:Nat × Nat):List Int:=T.map fun x=>if x=T.getD p.2 0 then T.getD p.1 0 else x
theorem ziT:(mrg T p).length=T.length:=by simp [mrg]
theorem uu{T:List Int}{k:Nat}(h:k<T.length):T.getD k 0 ∈ T:=by
 have:T.getD k 0=T[k]:=by simp [List.getD,h]
 rw [this];exact Kn h
theorem zgK{T:List Int}{x:Int}(h:x ∈ T):∃ k,k<T.length/\T.getD k 0=x:=by
 obtain ⟨k,hk,e⟩:=JV h
 exact ⟨k,hk,by simp [List.getD,hk,e]⟩
theorem zcA(h:k<T.length):(mrg T p).getD k 0=if T.getD k 0=T.getD p.2 0 then T.getD p.1 0 else T.getD k 0:=by
 unfold mrg
 have e:T.getD k 0=T[k]:=by simp [List.getD,h]
 rw [e]
 simp [List.getD,h]
theorem ug{T l:List Int}(nd:l.Nodup)(hm:∀ k,k ∈ l ↔ k ∈ T):yV T=l.length:=by
 obtain ⟨l',h1,h2,h3⟩:=uf T
 have a:=len_le_of l l' nd fun x hx=>(h2 x).mpr ((hm x).mp hx)
 have b:=len_le_of l' l h1 fun x hx=>(hm x).mpr ((h2 x).mp hx)
 omega
theorem zbZ(hr:p.1<T.length)(hc:p.2<T.length)(h:T.getD p.1 0≠T.getD p.2 0):yV (mrg T p)+1=yV T:=by
 obtain ⟨l,h1,h2,h3⟩:=uf T
 have hcl:T.getD p.2 0 ∈ l:=(h2 _).mpr (uu hc)
 rw [ug (T:=mrg T p) (l:=l.erase (T.getD p.2 0)) (h1.erase _) fun x=>?_,Qn hcl,← h3]
 ·have:=QA hcl
  omega
 ·rw [h1.mem_erase_iff,h2]
  unfold mrg
  rw [Jo]
  constructor
  ·rintro ⟨e1,e2⟩
   exact ⟨x,e2,if_neg e1⟩
  ·rintro ⟨y,hy,e⟩
   split at e
   ·exact e ▸ ⟨h,uu hr⟩
   ·rename_i hne
    exact e ▸ ⟨hne,hy⟩
theorem zbY(hn:0<T.length)(h:∀ a,a<T.length->T.getD a 0=T.getD 0 0):yV T=1:=by
 refine ug (l:=[T.getD 0 0]) (by simp) fun k=>?_
 rw [Ji]
 constructor
 ·rintro rfl;exact uu hn
 ·intro hk
  obtain ⟨i,hi,e⟩:=zgK hk
  rw [← e,h i hi]
theorem zca(n:Nat):(kT n).Nodup:=by
 unfold kT
 rw [JG,JJ]
 exact List.Pairwise.imp (fun {a b} h e=>h (by omega)) (JG.mp List.nodup_range)
theorem zaD(n:Nat):yV (kT n)=n:=by
 rw [ug (zca n) fun _=>Iff.rfl,zaE]
theorem zii{n k:Nat}(h:k<n):(kT n).getD k 0=k:=by simp [kT,List.getD,h]
noncomputable def yO(n:Nat)(es:List (Nat × Nat)):List Int:=es.foldl mrg (kT n)
theorem vk{es:List (Nat × Nat)}{e:Nat × Nat}:yO n (es++[e])=mrg (yO n es) e:=by simp [yO]
theorem yX{es:List (Nat × Nat)}:(yO n es).length=n:=by
 unfold yO
 have:∀ (es:List (Nat × Nat)) (T:List Int),(es.foldl mrg T).length=T.length:=fun es=>by
  induction es with
  | nil=>intro T;rfl
  | cons e es ih=>intro T;rw [Qx,ih,ziT]
 rw [this,zaE]
theorem zcF{X:Nat->Int}:∀ (es:List (Nat × Nat)),(∀ e ∈ es,e.1<n/\e.2<n/\X e.1=X e.2)->∃ Y:Int->Int,∀ a,a<n->Y ((yO n es).getD a 0)=X a:=by
 intro es
 refine zaM (P:=fun es=>(∀ e ∈ es,e.1<n/\e.2<n/\X e.1=X e.2)->∃ Y:Int->Int,∀ a,a<n->Y ((yO n es).getD a 0)=X a) ?_ (fun es e ih=>?_) es
 ·intro _;exact ⟨fun i=>X i.toNat,fun a ha=>by show X ((kT n).getD a 0).toNat=X a;rw [zii ha];rfl⟩
 ·intro h
  obtain ⟨Y,hY⟩:=ih fun g hg=>h g (Jt _ hg)
  obtain ⟨h1,h2,h3⟩:=h e (Jl _ (Ji.mpr rfl))
  refine ⟨Y,fun a ha=>?_⟩
  rw [vk,zcA (by rw [yX];exact ha)]
  split
  ·rename_i q
   rw [hY _ h1,h3,← hY _ h2,← q,hY _ ha]
  ·exact hY a ha
theorem zcG:∀ (es:List (Nat × Nat)),(∀ e ∈ es,e.1<n/\e.2<n)->∀ e ∈ es,(yO n es).getD e.1 0=(yO n es).getD e.2 0:=by
 intro es
 refine zaM (P:=fun es=>(∀ e ∈ es,e.1<n/\e.2<n)->∀ e ∈ es,(yO n es).getD e.1 0=(yO n es).getD e.2 0) ?_ (fun es g ih=>?_) es
 ·intro _ e he;cases he
 ·intro h e he
  obtain ⟨g1,g2⟩:=h g (Jl _ (Ji.mpr rfl))
  obtain ⟨e1,e2⟩:=h e he
  rw [vk,zcA (by rw [yX];exact e1),zcA (by rw [yX];exact e2)]
  rcases List.mem_append.mp he with he | he
  ·rw [ih (fun z hz=>h z (Jt _ hz)) e he]
  ·rw [Ji.mp he,if_pos rfl]
   split<;>rfl
theorem zce{es:List (Nat × Nat)}(hn:0<n)(hr:∀ e ∈ es,e.1<n/\e.2<n)(br:∀ pre e post,es=pre++e::post->∃ X:Nat->Int,(∀ g ∈ pre,X g.1=X g.2)/\X e.1≠X e.2)
  (con:∀ P:Nat->Prop,P 0->(∀ e ∈ es,P e.1 ↔ P e.2)->∀ a,a<n->P a):n=es.length+1:=by
 have go:∀ (post pre:List (Nat × Nat)),es=pre++post->yV (yO n pre)+pre.length=n->yV (yO n es)+es.length=n:=by
  intro post
  induction post with
  | nil=>intro pre h hu;rw [h,JS];exact hu
  | cons e post ih=>
   intro pre h hu
   refine ih (pre++[e]) (by rw [h,Jy];rfl) ?_
   obtain ⟨X,x1,x2⟩:=br pre e post h
   obtain ⟨e1,e2⟩:=hr e (by rw [h];exact Jl _ Jf)
   obtain ⟨Y,hY⟩:=zcF (n:=n) (X:=X) pre fun g hg=>⟨(hr g (by rw [h];exact Jt _ hg)).1,(hr g (by rw [h];exact Jt _ hg)).2,x1 g hg⟩
   have ne:(yO n pre).getD e.1 0≠(yO n pre).getD e.2 0:=fun z=>x2 (by rw [← hY _ e1,← hY _ e2,z])
   have:=zbZ (T:=yO n pre) (p:=e) (by rw [yX];exact e1) (by rw [yX];exact e2) ne
   rw [vk,Jh]
   show _+(_+1)=n
   omega
 have h0:=go es [] rfl (by show yV (kT n)+0=n;rw [zaD];rfl)
 have h1:yV (yO n es)=1:=zbY (by rw [yX];exact hn) fun a ha=>con (fun a=>(yO n es).getD a 0=(yO n es).getD 0 0) rfl (fun e he=>by rw [zcG es hr e he]) a (by rw [yX] at ha;exact ha)
 omega
end
theorem zeQ{w h:Int}{F:List Int}(fl:IsFloor w h F)(P:Int->Prop)(hs:∀ p q,p ∈ F->q ∈ F->Adj w p q->P p->P q){a p:Int}(ha:a ∈ F)(hp:p ∈ F)(h:P a):P p:=by
 obtain ⟨f0,fr,rfl⟩:∃ a r,F=a::r:=by
  cases F with
  | nil=>exact absurd rfl fl.ne
  | cons a r=>exact ⟨a,r,rfl⟩
 have fwd:∀ {q:Int},Reach (Adj w) (· ∈ f0::fr) (fun z=>(f0::fr).head?=some z) q->P f0->P q:=fun r hP=>by
  induction r with
  | start a s=>cases a;exact hP
  | step r adj s ih=>exact hs _ _ r.inS s adj ih
 have bwd:∀ {q:Int},Reach (Adj w) (· ∈ f0::fr) (fun z=>(f0::fr).head?=some z) q->P q->P f0:=fun r hP=>by
  induction r with
  | start a s=>cases a;exact hP
  | step r adj s ih=>exact ih (hs _ _ s r.inS adj.symm hP)
 exact fwd (fl.conn p hp) (bwd (fl.conn a ha) h)
theorem uo{L M:List Int}{d:Int}(d0:d≠0)(nL:L.Nodup)(nM:M.Nodup)(hM:∀ c,c ∈ M ↔ c ∈ L∨c - d ∈ L):M.length=L.length+(L.filter fun c=>!decide (c+d ∈ L)).length:=by
 have nd:(L++(L.filter fun c=>!decide (c+d ∈ L)).map (·+d)).Nodup:=by
  rw [Qi]
  refine ⟨nL,?_,fun a ha b hb e=>?_⟩
  ·rw [JG,JJ]
   exact (JG.mp (nL.sublist Qq)).imp fun h e=>h (by omega)
  ·obtain ⟨c,hc,rfl⟩:=Jo.mp hb
   obtain ⟨_,h2⟩:=JD.mp hc
   rw [← e,decide_eq_true ha] at h2
   cases h2
 have:=((QL nM nd).mpr fun c=>by
  rw [hM,Kd,Jo]
  constructor
  ·rintro (h | h)
   ·exact .inl h
   ·by_cases z:c ∈ L
    ·exact .inl z
    ·refine .inr ⟨c - d,JD.mpr ⟨h,?_⟩,by omega⟩
     rw [show c - d+d=c by omega,decide_eq_false z];rfl
  ·rintro (h | ⟨b,hb,rfl⟩)
   ·exact .inl h
   ·exact .inr (by rw [show b+d - d=b by omega];exact (JD.mp hb).1)).length_eq
 rw [this,Jh,Je]
noncomputable def wU(U:List Int)(W:Int):Nat->Int->Int
 | 0,c=>c
 | k+1,c=>if c+W ∈ U then wU U W k (c+W) else c
section
variable {U:List Int} {W B:Int}
theorem zdi:∀ (k:Nat) {c:Int},c ∈ U->wU U W k c ∈ U
 | 0,c,h=>h
 | k+1,c,h=>by
  unfold wU
  split
  ·rename_i z;exact zdi k z
  ·exact h
theorem zaG(hB:∀ c ∈ U,c<B):∀ (k:Nat) {c:Int},B≤c+(k+1) * W->wU U W k c+W ∉ U
 | 0,c,h,z=>by have:=hB _ z;unfold wU at this;simp at h;omega
 | k+1,c,h,z=>by
  unfold wU at z
  split at z
  ·refine zaG hB k (c:=c+W) ?_ z
   have e:((k+1:Nat)+1:Int) * W=((k:Int)+1) * W+W:=by rw [Int.add_mul];simp
   rw [e] at h
   omega
  ·rename_i q;exact q z
theorem kq(hB:∀ c ∈ U,c<B):∀ (k:Nat) {c:Int},B≤c+(k+1) * W->wU U W (k+1) c=wU U W k c
 | 0,c,h=>by
  unfold wU
  rw [if_neg]
  intro z;have:=hB _ z;simp at h;omega
 | k+1,c,h=>by
  have e:((k+1:Nat)+1:Int) * W=((k:Int)+1) * W+W:=by rw [Int.add_mul];simp
  rw [e] at h
  show (if c+W ∈ U then wU U W (k+1) (c+W) else c)=(if c+W ∈ U then wU U W k (c+W) else c)
  rw [kq hB k (c:=c+W) (by omega)]
theorem zdh(hB:∀ c ∈ U,c<B){k:Nat}{c:Int}(hc:B≤c+W+(k+1) * W)(h:c+W ∈ U):wU U W (k+1) c=wU U W (k+1) (c+W):=by
 rw [kq hB k hc]
 show (if c+W ∈ U then wU U W k (c+W) else c)=_
 rw [if_pos h]
theorem kn{X:Int->Int}(hX:∀ c ∈ U,X (c+W)=X c):∀ (k:Nat) {c:Int},c ∈ U->X (wU U W k c)=X c
 | 0,c,h=>rfl
 | k+1,c,h=>by
  unfold wU
  split
  ·rename_i z;rw [kn hX k z,hX c h]
  ·rfl
end
noncomputable def sF(w:Int)(F:List Int):List Int:=F.map fun p=>p+p / w
theorem mem_sF{w c:Int}{F:List Int}:c ∈ sF w F ↔ ∃ p ∈ F,c=p+p / w:=by
 unfold sF
 rw [Jo]
 exact ⟨fun ⟨p,h,e⟩=>⟨p,h,e.symm⟩,fun ⟨p,h,e⟩=>⟨p,h,e.symm⟩⟩
section
variable {w h:Int} {F:List Int}
theorem jo(fl:IsFloor w h F):(sF w F).Nodup:=by
 have w1:=fl.w1
 unfold sF
 rw [JG,JJ]
 refine fl.rise.imp fun {a b} hab e=>?_
 have:a / w≤b / w:=Int.ediv_le_ediv (by omega) (by omega)
 omega
theorem xp(fl:IsFloor w h F){c:Int}:c ∈ lsW w h F true ↔ c ∈ sF w F∨c - 1 ∈ sF w F:=by
 rw [uN fl true,mem_sL,mem_sF,mem_sF]
 constructor
 ·rintro ⟨p,hp,hk⟩
  unfold sAt at hk
  simp only [List.mem_cons,List.not_mem_nil,or_false] at hk
  rcases hk with hk | hk | hk | hk
  ·exact nomatch (yo hk).1
  ·exact nomatch (yo hk).1
  ·exact .inl ⟨p,hp,(yo hk).2⟩
  ·exact .inr ⟨p,hp,by have:=(yo hk).2;omega⟩
 ·rintro (⟨p,hp,e⟩ | ⟨p,hp,e⟩)
  ·exact ⟨p,hp,by rw [e];unfold sAt;simp⟩
  ·exact ⟨p,hp,by rw [show c=p+p / w+1 by omega];unfold sAt;simp⟩
theorem zdF(fl:IsFloor w h F){c:Int}:c ∈ lsW w h F false ↔ c ∈ sF w F∨c - (w+1) ∈ sF w F:=by
 rw [uN fl false,mem_sL,mem_sF,mem_sF]
 constructor
 ·rintro ⟨p,hp,hk⟩
  unfold sAt at hk
  simp only [List.mem_cons,List.not_mem_nil,or_false] at hk
  rcases hk with hk | hk | hk | hk
  ·exact .inl ⟨p,hp,(yo hk).2⟩
  ·exact .inr ⟨p,hp,by have:=(yo hk).2;omega⟩
  ·exact nomatch (yo hk).1
  ·exact nomatch (yo hk).1
 ·rintro (⟨p,hp,e⟩ | ⟨p,hp,e⟩)
  ·exact ⟨p,hp,by rw [e];unfold sAt;simp⟩
  ·exact ⟨p,hp,by rw [show c=p+p / w+w+1 by omega];unfold sAt;simp⟩
theorem k8(fl:IsFloor w h F){c:Int}:c ∈ zM w F ↔ c ∈ lsW w h F true∨c - (w+1) ∈ lsW w h F true:=by
 rw [mem_corF,xp fl,xp fl,mem_sF,mem_sF,mem_sF,mem_sF]
 constructor
 ·rintro ⟨p,hp,hk⟩
  unfold cAt at hk
  simp only [List.mem_cons,List.not_mem_nil,or_false] at hk
  rcases hk with e | e | e | e
  ·exact .inl (.inl ⟨p,hp,e⟩)
  ·exact .inl (.inr ⟨p,hp,by omega⟩)
  ·exact .inr (.inl ⟨p,hp,by omega⟩)
  ·exact .inr (.inr ⟨p,hp,by omega⟩)
 ·rintro ((⟨p,hp,e⟩ | ⟨p,hp,e⟩) | (⟨p,hp,e⟩ | ⟨p,hp,e⟩))
  ·exact ⟨p,hp,by rw [e];unfold cAt;simp⟩
  ·exact ⟨p,hp,by rw [show c=p+p / w+1 by omega];unfold cAt;simp⟩
  ·exact ⟨p,hp,by rw [show c=p+p / w+w+1 by omega];unfold cAt;simp⟩
  ·exact ⟨p,hp,by rw [show c=p+p / w+w+1+1 by omega];unfold cAt;simp⟩
noncomputable def tU(w h:Int)(F:List Int):List Int:=(lsW w h F true).filter fun c=>!decide (c+(w+1) ∈ lsW w h F true)
noncomputable def tS(w:Int)(F:List Int):List Int:=(sF w F).filter fun c=>!decide (c+(w+1) ∈ sF w F)
theorem znr(fl:IsFloor w h F):(zM w F).length=(lsW w h F true).length+(tU w h F).length:=
 uo (by have:=fl.w1;omega) (zR (yG w h F true)) (vw w F) fun c=>k8 fl
theorem zjL(fl:IsFloor w h F):(lsW w h F false).length=F.length+(tS w F).length:=by
 have:=uo (L:=sF w F) (M:=lsW w h F false) (d:=w+1) (by have:=fl.w1;omega) (jo fl) (zR (yG w h F false)) fun c=>zdF fl
 rw [this]
 unfold sF
 rw [Je];rfl
theorem zhK{c:Int}(hc:c ∈ lsW w h F true):0≤c/\c<(w+1) * (h+1):=mem_crnR.mp (JD.mp hc).1
theorem v8(fl:IsFloor w h F){c:Int}(c0:0≤c):(w+1) * (h+1)≤c+((6:Nat)+1) * (w+1):=by
 have w1:=fl.w1;have h6:=fl.h6
 have:(w+1) * (h+1)≤(w+1) * 7:=Int.mul_le_mul_of_nonneg_left (by omega) (by omega)
 have e:(((6:Nat):Int)+1) * (w+1)=(w+1) * 7:=by rw [Qo];rfl
 rw [e];omega
noncomputable abbrev tpU(w h:Int)(F:List Int)(c:Int):Int:=wU (lsW w h F true) (w+1) 7 c
noncomputable abbrev tpS(w:Int)(F:List Int)(c:Int):Int:=wU (sF w F) (w+1) 7 c
theorem yT(fl:IsFloor w h F){c:Int}(hc:c ∈ sF w F):c ∈ lsW w h F true/\c+1 ∈ lsW w h F true:=⟨(xp fl).mpr (.inl hc),(xp fl).mpr (.inr (by rw [show c+1 - 1=c by omega];exact hc))⟩
theorem zjx(fl:IsFloor w h F){c:Int}(hc:c ∈ sF w F):0≤c/\c<(w+1) * (h+1):=zhK (yT fl hc).1
theorem zkv(fl:IsFloor w h F){c:Int}(hc:c ∈ lsW w h F true):tpU w h F c ∈ tU w h F:=by
 refine JD.mpr ⟨zdi 7 hc,?_⟩
 have hf:=v8 fl (zhK hc).1
 have w1:=fl.w1
 have e:(((7:Nat):Int)+1) * (w+1)=(((6:Nat):Int)+1) * (w+1)+(w+1):=by
  show (8:Int) * (w+1)=7 * (w+1)+(w+1)
  omega
 have:=zaG (W:=w+1) (fun c hc=>(zhK (w:=w) (h:=h) (F:=F) hc).2) 7 (c:=c) (by rw [e];omega)
 rw [decide_eq_false this];rfl
theorem zku(fl:IsFloor w h F){c:Int}(hc:c ∈ lsW w h F true)(h2:c+(w+1) ∈ lsW w h F true):tpU w h F c=tpU w h F (c+(w+1)):=
 zdh (k:=6) (fun c hc=>(zhK hc).2) (by have:=v8 fl (zhK hc).1;have:=fl.w1;omega) h2
theorem zkw(fl:IsFloor w h F){c:Int}(hc:c ∈ sF w F)(h2:c+(w+1) ∈ sF w F):tpS w F c=tpS w F (c+(w+1)):=
 zdh (k:=6) (fun c hc=>(zjx fl hc).2) (by have:=v8 fl (zjx fl hc).1;have:=fl.w1;omega) h2
theorem zfG{c:Int}(hc:c ∈ tU w h F):tpU w h F c=c:=by
 have:=(JD.mp hc).2
 show (if c+(w+1) ∈ lsW w h F true then _ else c)=c
 rw [if_neg]
 intro z;rw [decide_eq_true z] at this;cases this
theorem zaF{c:Int}(hc:c ∈ tS w F):tpS w F c=c:=by
 have:=(JD.mp hc).2
 show (if c+(w+1) ∈ sF w F then _ else c)=c
 rw [if_neg]
 intro z;rw [decide_eq_true z] at this;cases this
theorem zhx(fl:IsFloor w h F){x y:Int}(x0:0≤x)(x1:x<w):crn w x y ∈ sF w F ↔ y * w+x ∈ F:=by
 have w1:=fl.w1
 have hxy:=zjA (w:=w) (y:=y) x0 x1
 have e:y * w+x+(y * w+x) / w=crn w x y:=by rw [hxy.2];unfold crn;rw [Int.mul_add];omega
 rw [mem_sF]
 constructor
 ·rintro ⟨p,hp,hc⟩
  have b:=jH fl hp
  rw [yy] at hc
  have c1:=wP (w:=w) (y:=y) x0 (by omega)
  have c2:=wP (w:=w) (y:=p / w) b.1 (by omega)
  rw [hc] at c1
  have:y=p / w:=c1.1.symm.trans c2.1
  have:x=p % w:=c1.2.symm.trans c2.2
  subst_vars
  rw [b.2.2.2.2];exact hp
 ·intro hp
  exact ⟨_,hp,e.symm⟩
theorem zcV(fl:IsFloor w h F)(c0:Int):∃ X:Int->Int,(∀ c ∈ lsW w h F true,X (c+(w+1))=X c)/\∀ c ∈ sF w F,X (c+1)=X c+if tpS w F c=c0 then 1 else 0:=by
 have w1:=fl.w1
 let a:Int->Int->Int:=fun x y=>if crn w x y ∈ sF w F then (if tpS w F (crn w x y)=c0 then 1 else 0) else (if tpS w F (crn w x (y - 1))=c0 then 1 else 0)
 have lo:∀ p ∈ F,crn w (p % w) (p / w) ∈ sF w F:=fun p hp=>by rw [← yy];exact mem_sF.mpr ⟨p,hp,rfl⟩
 have a1:∀ p ∈ F,a (p % w) (p / w)=if tpS w F (crn w (p % w) (p / w))=c0 then 1 else 0:=fun p hp=>if_pos (lo p hp)
 have up1:∀ x y,crn w x (y+1)=crn w x y+(w+1):=fun x y=>by unfold crn;rw [Int.add_mul];omega
 have a2:∀ p ∈ F,a (p % w) (p / w+1)=if tpS w F (crn w (p % w) (p / w))=c0 then 1 else 0:=fun p hp=>by
  show (if crn w (p % w) (p / w+1) ∈ sF w F then (if tpS w F (crn w (p % w) (p / w+1))=c0 then (1:Int) else 0) else (if tpS w F (crn w (p % w) (p / w+1 - 1))=c0 then 1 else 0))=_
  split
  ·rename_i z
   rw [up1] at z ⊢
   rw [← zkw fl (lo p hp) z]
  ·rw [show p / w+1 - 1=p / w by omega]
 obtain ⟨φ,_,hφ⟩:=zaa (a:=a) (u:=fun _ _=>0) fl fun p hp=>by
  show a (p % w) (p / w)+0=0+a (p % w) (p / w+1)
  rw [a1 p hp,a2 p hp];omega
 let X:Int->Int:=fun c=>φ (c % (w+1)) (c / (w+1))
 have hX:∀ x y,0≤x->x≤w->X (crn w x y)=φ x y:=fun x y x0 x1=>by
  have:=wP (w:=w) (y:=y) x0 x1
  show φ (crn w x y % (w+1)) (crn w x y / (w+1))=_
  rw [this.1,this.2]
 have sd:∀ c ∈ sF w F,X (c+(w+1))=X c/\X (c+1+(w+1))=X (c+1)/\X (c+1)=X c+if tpS w F c=c0 then 1 else 0:=fun c hc=>by
  obtain ⟨p,hp,e⟩:=mem_sF.mp hc
  have b:=jH fl hp
  obtain ⟨f1,f2,f3,f4⟩:=hφ p hp
  rw [yy] at e
  have e1:c+1=crn w (p % w+1) (p / w):=by rw [e];unfold crn;omega
  have e2:c+(w+1)=crn w (p % w) (p / w+1):=by rw [e,up1]
  have e3:c+1+(w+1)=crn w (p % w+1) (p / w+1):=by rw [e1,up1]
  refine ⟨?_,?_,?_⟩
  ·rw [e2,hX _ _ b.1 (by omega),e,hX _ _ b.1 (by omega),f3];omega
  ·rw [e3,hX _ _ (by omega) (by omega),e1,hX _ _ (by omega) (by omega),f4];omega
  ·rw [e1,hX _ _ (by omega) (by omega),f1,a1 p hp,e,hX _ _ b.1 (by omega)]
 refine ⟨X,fun c hc=>?_,fun c hc=>(sd c hc).2.2⟩
 rcases (xp fl).mp hc with z | z
 ·exact (sd c z).1
 ·have:=(sd _ z).2.1
  rw [show c - 1+1=c by omega] at this
  exact this
theorem zeq(fl:IsFloor w h F):(tU w h F).length=(tS w F).length+1:=by
 have w1:=fl.w1
 have nU:(tU w h F).Nodup:=(zR (yG w h F true)).sublist Qq
 have nS:(tS w F).Nodup:=(jo fl).sublist Qq
 let ix:Int->Nat:=fun c=>(tU w h F).idxOf (tpU w h F c)
 have ixl:∀ c ∈ lsW w h F true,ix c<(tU w h F).length:=fun c hc=>List.idxOf_lt_length_iff.mpr (zkv fl hc)
 have ixg:∀ c ∈ lsW w h F true,(tU w h F).getD (ix c) 0=tpU w h F c:=fun c hc=>by
  have:=ixl c hc
  rw [JH,Jr this]
  exact List.getElem_idxOf this
 let es:List (Nat × Nat):=(tS w F).map fun c=>(ix c,ix (c+1))
 have inS:∀ c ∈ tS w F,c ∈ sF w F:=fun c hc=>(JD.mp hc).1
 obtain ⟨p0,hp0⟩:=List.exists_mem_of_ne_nil F fl.ne
 have s0:p0+p0 / w ∈ sF w F:=mem_sF.mpr ⟨p0,hp0,rfl⟩
 have hn:0<(tU w h F).length:=Qy (Kb _) (ixl _ (yT fl s0).1)
 have hlen:es.length=(tS w F).length:=Je _
 rw [← hlen]
 refine zce hn (fun e he=>?_) (fun pre e post hes=>?_) (fun P h0 hP=>?_)
 ·obtain ⟨c,hc,rfl⟩:=Jo.mp he
  exact ⟨ixl _ (yT fl (inS c hc)).1,ixl _ (yT fl (inS c hc)).2⟩
 ·obtain ⟨l1,l2,hl,e1,e2⟩:=List.map_eq_append_iff.mp hes
  obtain ⟨c0,l3,rfl,e3,e4⟩:=List.map_eq_cons_iff.mp e2
  obtain ⟨X,x1,x2⟩:=zcV fl c0
  have hx:∀ c ∈ lsW w h F true,X ((tU w h F).getD (ix c) 0)=X c:=fun c hc=>by rw [ixg c hc];exact kn x1 7 hc
  have m0:c0 ∈ tS w F:=by rw [hl];exact Jl _ Jf
  refine ⟨fun i=>X ((tU w h F).getD i 0),fun g hg=>?_,?_⟩
  ·rw [← e1] at hg
   obtain ⟨c,hc,rfl⟩:=Jo.mp hg
   have mc:c ∈ tS w F:=by rw [hl];exact Jt _ hc
   have ne:c≠c0:=by
    rw [hl,Qi] at nS
    exact nS.2.2 c hc c0 Jf
   show X ((tU w h F).getD (ix c) 0)=X ((tU w h F).getD (ix (c+1)) 0)
   rw [hx _ (yT fl (inS c mc)).1,hx _ (yT fl (inS c mc)).2,x2 c (inS c mc),zaF mc,if_neg ne];omega
  ·rw [← e3]
   show X ((tU w h F).getD (ix c0) 0)≠X ((tU w h F).getD (ix (c0+1)) 0)
   rw [hx _ (yT fl (inS c0 m0)).1,hx _ (yT fl (inS c0 m0)).2,x2 c0 (inS c0 m0),zaF m0,if_pos rfl];omega
 ·-- all joined
  have up:∀ c ∈ lsW w h F true,c+(w+1) ∈ lsW w h F true->ix c=ix (c+(w+1)):=fun c hc h2=>by
   show (tU w h F).idxOf _=(tU w h F).idxOf _
   rw [zku fl hc h2]
  have across:∀ (k:Nat) c,c ∈ sF w F->(w+1) * (h+1)≤c+(k+1) * (w+1)->(P (ix c) ↔ P (ix (c+1))):=by
   intro k
   induction k with
   | zero=>
    intro c hc hb
    refine hP _ (Jo.mpr ⟨c,JD.mpr ⟨hc,?_⟩,rfl⟩)
    rw [decide_eq_false]
    ·rfl
    intro z;have:=(zjx fl z).2;simp at hb;omega
   | succ k ih=>
    intro c hc hb
    by_cases z:c+(w+1) ∈ sF w F
    ·have:=ih (c+(w+1)) z (by
      have e:(((k+1:Nat):Int)+1) * (w+1)=((k:Int)+1) * (w+1)+(w+1):=by rw [Int.add_mul (((k+1:Nat):Int))];simp
      rw [e] at hb;omega)
     have s1:=yT fl hc
     have s2:=yT fl z
     rw [up c s1.1 s2.1,up (c+1) s1.2 (by rw [show c+1+(w+1)=c+(w+1)+1 by omega];exact s2.2),show c+1+(w+1)=c+(w+1)+1 by omega]
     exact this
    ·exact hP _ (Jo.mpr ⟨c,JD.mpr ⟨hc,by rw [decide_eq_false z];rfl⟩,rfl⟩)
  have acr:∀ c ∈ sF w F,(P (ix c) ↔ P (ix (c+1))):=fun c hc=>across 6 c hc (v8 fl (zjx fl hc).1)
  -- the node 0
  have node:∀ a,a<(tU w h F).length->∃ c ∈ sF w F,ix c=a∨ix (c+1)=a:=fun a ha=>by
   have hm:(tU w h F)[a] ∈ tU w h F:=Kn ha
   have hU:=(JD.mp hm).1
   have hi:ix (tU w h F)[a]=a:=by
    show (tU w h F).idxOf (tpU w h F (tU w h F)[a])=a
    rw [zfG hm]
    have hlt:=List.idxOf_lt_length_iff.mpr hm
    have hge:=List.getElem_idxOf hlt
    have pw:=JL.mp (JG.mp nU)
    rcases Nat.lt_trichotomy ((tU w h F).idxOf (tU w h F)[a]) a with z | z | z
    ·exact absurd hge (pw _ _ hlt ha z)
    ·exact z
    ·exact absurd hge.symm (pw _ _ ha hlt z)
   rcases (xp fl).mp hU with z | z
   ·exact ⟨_,z,.inl hi⟩
   ·exact ⟨_,z,.inr (by rw [show (tU w h F)[a] - 1+1=(tU w h F)[a] by omega];exact hi)⟩
  obtain ⟨c1,hc1,hc2⟩:=node 0 hn
  have q1:P (ix c1):=by
   rcases hc2 with e | e
   ·rw [e];exact h0
   ·rw [acr c1 hc1,e];exact h0
  obtain ⟨p1,hp1,rfl⟩:=mem_sF.mp hc1
  have all:∀ p ∈ F,P (ix (p+p / w)):=fun p hp=>zeQ fl (fun p=>P (ix (p+p / w))) (fun p q hp hq ad hP'=>by
   have sp:p+p / w ∈ sF w F:=mem_sF.mpr ⟨p,hp,rfl⟩
   have sq:q+q / w ∈ sF w F:=mem_sF.mpr ⟨q,hq,rfl⟩
   have dv:∀ z:Int,(z+w) / w=z / w+1:=fun z=>(qW w1 z).1
   rcases ad with ⟨e,e2⟩ | ⟨e,e2⟩ | e | e
   ·have:q+q / w=p+p / w+1:=by omega
    rw [this];exact (acr _ sp).mp hP'
   ·have:p+p / w=q+q / w+1:=by omega
    rw [this] at hP';exact (acr _ sq).mpr hP'
   ·have:q+q / w=p+p / w+(w+1):=by rw [e,dv];omega
    rw [this] at sq ⊢
    rw [← up _ (yT fl sp).1 (yT fl sq).1];exact hP'
   ·have:p+p / w=q+q / w+(w+1):=by rw [← e,dv];omega
    rw [this] at sp hP'
    rw [up _ (yT fl sq).1 (yT fl sp).1];exact hP') hp1 hp q1
  intro a ha
  obtain ⟨c,hc,e⟩:=node a ha
  obtain ⟨p,hp,rfl⟩:=mem_sF.mp hc
  rcases e with e | e
  ·rw [← e];exact all p hp
  ·rw [← e];exact (acr _ hc).mp (all p hp)
theorem znF(fl:IsFloor w h F):(zM w F).length+F.length=(lsF w h F).length+1:=by
 have v:=znr fl
 have a:=zjL fl
 have t:=zeq fl
 have:(lsF w h F).length=(lsW w h F false).length+(lsW w h F true).length:=by unfold lsF;rw [List.length_append,List.length_map,List.length_map]
 omega
end
theorem qo{α:Type}(q:α->Bool):∀ L:List α,(L.filter fun c=>!q c).length+(L.filter q).length=L.length
 | []=>rfl
 | a::L=>by
  have ih:=qo q L
  rw [Ku,Ku]
  cases q a
  ·simp only [Bool.not_false,if_true,Bool.false_eq_true,if_false,List.length_cons];omega
  ·simp only [Bool.not_true,if_true,Bool.false_eq_true,if_false,List.length_cons];omega
noncomputable def prs(w h:Int)(F:List Int)(p:Int):List Int:=(zN w h p).filter fun o=>decide (p<o) && decide (o ∈ F)
theorem zdo{α:Type}(A B:α->Bool)(g:α->Nat):∀ L:List α,(∀ p ∈ L,g p=(if A p then 1 else 0)+if B p then 1 else 0)->(L.map g).sum=(L.filter A).length+(L.filter B).length
 | [],_=>rfl
 | p::L,h=>by
  have ih:=zdo A B g L fun q hq=>h q (Jg _ hq)
  have hp:=h p Jf
  rw [Jm,List.sum_cons,ih,hp,Ku,Ku]
  cases A p<;>cases B p<;>simp<;>omega
section
variable {w h:Int} {F:List Int}
theorem zgd(fl:IsFloor w h F){p:Int}(hp:p ∈ F):p+p / w+1 ∈ sF w F ↔ p % w<w - 1/\p+1 ∈ F:=by
 have w1:=fl.w1
 have b:=jH fl hp
 have e:p+p / w+1=crn w (p % w+1) (p / w):=by rw [yy];unfold crn;omega
 rw [e]
 by_cases z:p % w+1<w
 ·rw [zhx fl (by omega) z,show p / w * w+(p % w+1)=p+1 by have:=b.2.2.2.2;omega]
  exact ⟨fun h=>⟨by omega,h⟩,fun h=>h.2⟩
 ·constructor
  ·intro hm
   obtain ⟨q,hq,hc⟩:=mem_sF.mp hm
   have bq:=jH fl hq
   rw [yy] at hc
   have c1:=wP (w:=w) (x:=p % w+1) (y:=p / w) (by omega) (by omega)
   have c2:=wP (w:=w) (y:=q / w) bq.1 (by omega)
   rw [hc] at c1
   have:=c1.2.symm.trans c2.2
   omega
  ·rintro ⟨a,_⟩;omega
theorem zhJ(fl:IsFloor w h F){p:Int}(hp:p ∈ F):p+p / w+(w+1) ∈ sF w F ↔ p+w ∈ F:=by
 have b:=jH fl hp
 have e:p+p / w+(w+1)=crn w (p % w) (p / w+1):=by rw [yy];unfold crn;rw [Int.add_mul];omega
 rw [e,zhx fl b.1 b.2.1,show (p / w+1) * w+p % w=p+w by rw [QM];have:=b.2.2.2.2;omega]
theorem ziA(fl:IsFloor w h F){p:Int}(hp:p ∈ F):(prs w h F p).length=(if decide (p+p / w+1 ∈ sF w F) then 1 else 0)+if decide (p+p / w+(w+1) ∈ sF w F) then 1 else 0:=by
 have w1:=fl.w1
 have b:=jH fl hp
 have r:=zgd fl hp
 have a:=zhJ fl hp
 have hw:p+w ∈ F->p / w<h - 1:=fun z=>by
  have:=(jH fl z).2.2.2.1
  have:=(qW w1 p).1
  omega
 unfold prs zN
 rw [QP,QP,QP,Jh,Jh,Jh]
 have f1:((if 0<p % w then [p - 1] else []).filter fun o=>decide (p<o) && decide (o ∈ F)).length=0:=by
  split
  ·simp;omega
  ·rfl
 have f3:((if 0<p / w then [p - w] else []).filter fun o=>decide (p<o) && decide (o ∈ F)).length=0:=by
  split
  ·simp;omega
  ·rfl
 have f2:((if p % w<w - 1 then [p+1] else []).filter fun o=>decide (p<o) && decide (o ∈ F)).length=if decide (p+p / w+1 ∈ sF w F) then 1 else 0:=by
  by_cases z:p+p / w+1 ∈ sF w F
  ·obtain ⟨z1,z2⟩:=r.mp z
   rw [if_pos z1,decide_eq_true z,if_pos rfl,List.filter_cons,if_pos (by simp [z2];omega)];rfl
  ·rw [decide_eq_false z,if_neg Jk]
   split
   ·rename_i z1
    rw [List.filter_cons,if_neg (by simp only [Bool.and_eq_true,decide_eq_true_eq];exact fun q=>z (r.mpr ⟨z1,q.2⟩))];rfl
   ·rfl
 have f4:((if p / w<h - 1 then [p+w] else []).filter fun o=>decide (p<o) && decide (o ∈ F)).length=if decide (p+p / w+(w+1) ∈ sF w F) then 1 else 0:=by
  by_cases z:p+p / w+(w+1) ∈ sF w F
  ·have z2:=a.mp z
   rw [if_pos (hw z2),decide_eq_true z,if_pos rfl,List.filter_cons,if_pos (by simp [z2];omega)];rfl
  ·rw [decide_eq_false z,if_neg Jk]
   split
   ·rw [List.filter_cons,if_neg (by simp only [Bool.and_eq_true,decide_eq_true_eq];exact fun q=>z (a.mpr q.2))];rfl
   ·rfl
 rw [f1,f2,f3,f4];omega
theorem zns(fl:IsFloor w h F):(lsW w h F true).length=F.length+((sF w F).filter fun c=>!decide (c+1 ∈ sF w F)).length:=by
 have:=uo (L:=sF w F) (M:=lsW w h F true) (d:=1) (by omega) (jo fl) (zR (yG w h F true)) fun c=>xp fl
 rw [this]
 unfold sF
 rw [Je]
theorem zaP(fl:IsFloor w h F):(lsF w h F).length+(F.map fun p=>(prs w h F p).length).sum=4 * F.length:=by
 have u:=zns fl
 have a:=zjL fl
 have e:(lsF w h F).length=(lsW w h F false).length+(lsW w h F true).length:=by unfold lsF;rw [List.length_append,List.length_map,List.length_map]
 have s:=zdo (fun p=>decide (p+p / w+1 ∈ sF w F)) (fun p=>decide (p+p / w+(w+1) ∈ sF w F)) (fun p=>(prs w h F p).length) F fun p hp=>ziA fl hp
 have n1:=qo (fun c=>decide (c+1 ∈ sF w F)) (sF w F)
 have n2:=qo (fun c=>decide (c+(w+1) ∈ sF w F)) (sF w F)
 have hl:(sF w F).length=F.length:=by unfold sF;rw [List.length_map]
 have m1:((sF w F).filter fun c=>decide (c+1 ∈ sF w F)).length=(F.filter fun p=>decide (p+p / w+1 ∈ sF w F)).length:=by
  conv=>lhs;arg 1;arg 2;unfold sF
  rw [List.filter_map,Je];rfl
 have m2:((sF w F).filter fun c=>decide (c+(w+1) ∈ sF w F)).length=(F.filter fun p=>decide (p+p / w+(w+1) ∈ sF w F)).length:=by
  conv=>lhs;arg 1;arg 2;unfold sF
  rw [List.filter_map,Je];rfl
 unfold tS at a
 omega
end
noncomputable def vL:FS:=(zV 7 (fOp zv (zA 7) (zE yH (zB (fLC (zZ (zE zS (zB (zA 2) (zB (zA 3) (zB (zA 8) zF))))) 1 [8,4] (zJ 0) (zac (fT (fOp vGt (zA 0) (zA 1))) (fT (fOp ye (zA 0) (zA 2)))) (ze (zA 0))) zF))))
noncomputable def vK:FS:=(zK (zV 12 (fOp zv (zA 11) (fC (.int 1))))
 (zK (yJ (fT (fOp vEq (zA 10) (fC (.str "up")))) (zV 12 (fOp zv (fOp zv (zA 11) (zA 2)) (fC (.int 1)))) fNx)
 (zK (yJ (fOr (fT (fOp z7 (zA 11) (zA 9))) (fT (fOp z7 (zA 12) (zA 9)))) (yI (fC (.bl false))) fNx)
 (zK (ww 9 (zA 11) (fOp zv (fOp vIx (zA 9) (zA 11)) (fC (.int 1))))
 (ww 9 (zA 12) (fOp zv (fOp vIx (zA 9) (zA 12)) (fC (.int 1))))))))
noncomputable def vJ:FS:=(yJ (uU (fT (yY vLe vLe (fC (.int 2)) (fOp vIx (zA 9) (zA 13)) (fC (.int 4))))) (yI (fC (.bl false))) fNx)
noncomputable def zhd:FS:=(zK (zV 1 (zE yF (zB (zA 0) (zB (fC (.int 1)) zF))))
 (zK (zeS (zal 3 (xZ (zJ 2) (xZ (zJ 3) (xZ (zJ 4) zbO)))) (zA 1))
 (zK (zV 5 (zE xv (zB (zA 1) zF)))
 (zK (zV 6 (zE wV (zB (zA 1) zF)))
 (zK (zV 7 (fC (.int 0)))
 (zK (xX (zZ (zA 4)) (zJ 8) vL)
 (zK (yJ (fOr (fT (fOp vNe (fOp zv (zE yH (zB (zA 5) zF)) (zE yH (zB (zA 4) zF))) (fOp zv (zE yH (zB (zA 6) zF)) (fC (.int 1))))) (fT (fOp vNe (zE yH (zB (zA 6) zF)) (fOp yw (fOp zt (fC (.int 4)) (zE yH (zB (zA 4) zF))) (zA 7))))) (yI (fC (.bl false))) fNx)
 (zK (zV 9 (zE vZ (zB (fLC (zZ (zA 5)) 1 [] (zJ 0) zbB (yj (zB (ze (zA 0)) (zB (fC (.int 0)) zF)))) zF)))
 (zK (xX (zZ (zA 6)) (zal 2 (xZ (zJ 10) (xZ (zJ 11) zbO))) vK)
 (zK (xX (zZ (zA 5)) (zJ 13) vJ)
 (yI (fOp vEq (zE yd (zB (zA 2) (zB (zA 3) (zB (zA 4) zF)))) (zA 1)))))))))))))
noncomputable def jY:List PV->Option PV:=fnV 14 zhd
theorem zbz{w h:Int}{F:List Int}(fl:IsFloor w h F):yd [.int w,.int h,.tup (F.map PV.int)]=some (flV w h F):=by
 let mk:Option PV->En:=fun x=>[some (.int w),some (.int h),some (.tup (F.map PV.int)),x]
 let A:=some (PV.tup (F.map PV.int))
 refine yP (e:=mk A) (mk none) rfl ?_
 unfold vn
 have t1:yz (zE zr (zB (zA 0) zF)) (mk none)=some true:=by
  unfold yz;rw [zU (as:=[.int w]) rfl (k9 fl.w1 fl.w6)];rfl
 have t2:yz (zE zr (zB (zA 1) zF)) (mk none)=some true:=by
  unfold yz;rw [zU (as:=[.int h]) rfl (k9 fl.h1 fl.h6)];rfl
 have t3:yz (zE yE (zB (zA 0) (zB (zA 1) (zB (zA 3) zF)))) (mk A)=some true:=by
  unfold yz;rw [zU (as:=[.int w,.int h,.tup (F.map PV.int)]) rfl (zao fl)];rfl
 have t4:yz (zE zm (zB (zA 0) (zB (zA 1) (zB (zA 3) zF)))) (mk A)=some true:=by
  unfold yz;rw [zU (as:=[.int w,.int h,.tup (F.map PV.int)]) rfl (zjc fl)];rfl
 have t5:yz (zE yL (zB (zA 0) (zB (zA 1) (zB (zA 3) zF)))) (mk A)=some false:=by
  unfold yz;rw [zU (as:=[.int w,.int h,.tup (F.map PV.int)]) rfl (zjb fl)];rfl
 have not_of:∀ {t:FT} {E:En},t E=some true->uU t E=some false:=fun {t E} h=>by unfold uU;rw [h];rfl
 rw [zD (e:=mk none) (by rw [xO,zee,not_of t1,Jb,if_neg Jk,not_of t2];rfl)]
 rw [zD (e:=mk none) rfl]
 rw [zD (e:=mk A) (xB (as:=[.tup (F.map PV.int)]) rfl (by show (if isDatas (F.map PV.int)=true then some (PV.tup (F.map PV.int)) else none)=_;rw [if_pos xL]))]
 rw [zD (e:=mk A) (by rw [xO,not_of t3];rfl)]
 rw [zD (e:=mk A) (by rw [xO,not_of t4];rfl)]
 rw [zD (e:=mk A) (by rw [xO,t5];rfl)]
 have hd:isDatas (F.map PV.int)=true:=xL
 rw [xN]
 simp [hd,mk,A]
theorem zbb{G:Int->PV}(hd:∀ f,zQ (G f)=true):∀ F:List Int,_root_.F.pairsOf (F.map fun f=>PV.tup [.int f,G f])=some (F.map fun f=>(f,G f))
 | []=>rfl
 | f::F=>by
  rw [Jm]
  unfold _root_.F.pairsOf
  dsimp only
  rw [if_pos (hd f),zbb hd F];rfl
theorem zjo{G:Int->PV}(hd:∀ f,zQ (G f)=true){F:List Int}(nd:F.Nodup)(hl:F.length≤1000):vZ [.lst (F.map fun f=>PV.tup [.int f,G f])]=some (dF F G):=by
 have e1:(F.map fun f=>(f,G f)).map (·.1)=F:=by rw [Kr];exact List.map_id F
 unfold vZ
 dsimp only
 rw [zbb hd,Jb,if_pos ⟨by rw [e1];exact nd,by rw [Je];exact hl⟩,Kr,Kr];rfl
noncomputable def xt(w:Int)(z:Bool × Int):Int:=if z.1 then z.2+w+1 else z.2+1
noncomputable def xR(w h:Int)(F:List Int):List (Bool × Int):=(lsW w h F false).map (fun c=>(false,c))++(lsW w h F true).map fun c=>(true,c)
theorem zlM(w h:Int)(F:List Int):(xR w h F).map (fun z=>sdV z.1 z.2)=lsF w h F:=by
 unfold xR lsF
 rw [Ks,Kr,Kr];rfl
noncomputable def cnt(w:Int)(c:Int):List (Bool × Int)->Nat
 | []=>0
 | z::l=>(if z.2=c then 1 else 0)+(if xt w z=c then 1 else 0)+cnt w c l
theorem zaf(w c:Int):∀ l m:List (Bool × Int),cnt w c (l++m)=cnt w c l+cnt w c m
 | [],m=>by simp [cnt]
 | z::l,m=>by rw [List.cons_append];simp only [cnt];rw [zaf w c l m];omega
theorem zae(w c:Int)(u:Bool):∀ l:List Int,l.Nodup->cnt w c (l.map fun x=>(u,x))=(if c ∈ l then 1 else 0)+if c - (if u then w+1 else 1) ∈ l then 1 else 0
 | [],_=>rfl
 | x::l,nd=>by
  obtain ⟨h1,h2⟩:=Kh.mp nd
  rw [Jm]
  simp only [cnt]
  rw [zae w c u l h2]
  have e:xt w (u,x)=c ↔ x=c - (if u then w+1 else 1):=by
   unfold xt
   cases u
   ·simp;omega
   ·simp;omega
  simp only [e,List.mem_cons]
  generalize c - (if u then w+1 else 1)=d
  have a1:(if x=c then 1 else 0)+(if c ∈ l then 1 else 0)=if c=x∨c ∈ l then 1 else 0:=by
   by_cases z:x=c
   ·subst z;simp [h1]
   ·have:¬ c=x:=fun q=>z q.symm
    simp [z,this]
  have a2:(if x=d then 1 else 0)+(if d ∈ l then 1 else 0)=if d=x∨d ∈ l then 1 else 0:=by
   by_cases z:x=d
   ·subst z;simp [h1]
   ·have:¬ d=x:=fun q=>z q.symm
    simp [z,this]
  omega
section
variable {w h:Int} {F:List Int}
theorem zhz(fl:IsFloor w h F){c:Int}(hc:c ∈ zM w F):2≤cnt w c (xR w h F)/\cnt w c (xR w h F)≤4:=by
 unfold xR
 rw [zaf,zae w c false _ (zR (yG w h F false)),zae w c true _ (zR (yG w h F true))]
 simp only [Bool.false_eq_true,if_false,if_true]
 have up:c ∈ lsW w h F true∨c - (w+1) ∈ lsW w h F true:=(k8 fl).mp hc
 have ac:c ∈ lsW w h F false∨c - 1 ∈ lsW w h F false:=by
  rw [zdF fl,zdF fl]
  rcases up with z | z
  ·rcases (xp fl).mp z with z | z
   ·exact .inl (.inl z)
   ·exact .inr (.inl z)
  ·rcases (xp fl).mp z with z | z
   ·exact .inl (.inr z)
   ·exact .inr (.inr (by rw [show c - 1 - (w+1)=c - (w+1) - 1 by omega];exact z))
 have b:∀ (p:Prop) [Decidable p],(if p then 1 else 0:Nat)≤1:=fun p _=>by split<;>omega
 have b1:=b (c ∈ lsW w h F false)
 have b2:=b (c - 1 ∈ lsW w h F false)
 have b3:=b (c ∈ lsW w h F true)
 have b4:=b (c - (w+1) ∈ lsW w h F true)
 have g1:1≤(if c ∈ lsW w h F false then 1 else 0)+(if c - 1 ∈ lsW w h F false then 1 else 0):=by
  rcases ac with z | z
  ·rw [if_pos z];omega
  ·rw [if_pos z];omega
 have g2:1≤(if c ∈ lsW w h F true then 1 else 0)+(if c - (w+1) ∈ lsW w h F true then 1 else 0):=by
  rcases up with z | z
  ·rw [if_pos z];omega
  ·rw [if_pos z];omega
 omega
theorem zjl(fl:IsFloor w h F){z:Bool × Int}(hz:z ∈ xR w h F):z.2 ∈ zM w F/\xt w z ∈ zM w F:=by
 unfold xR at hz
 rcases List.mem_append.mp hz with hz | hz
 ·obtain ⟨c,hc,rfl⟩:=Jo.mp hz
  show c ∈ zM w F/\c+1 ∈ zM w F
  rw [k8 fl,k8 fl,xp fl,xp fl,xp fl,xp fl]
  rcases (zdF fl).mp hc with q | q
  ·exact ⟨.inl (.inl q),.inl (.inr (by rw [show c+1 - 1=c by omega];exact q))⟩
  ·exact ⟨.inr (.inl q),.inr (.inr (by rw [show c+1 - (w+1) - 1=c - (w+1) by omega];exact q))⟩
 ·obtain ⟨c,hc,rfl⟩:=Jo.mp hz
  show c ∈ zM w F/\c+w+1 ∈ zM w F
  rw [k8 fl,k8 fl]
  exact ⟨.inl hc,.inr (by rw [show c+w+1 - (w+1)=c by omega];exact hc)⟩
end
noncomputable def lE(ns:List Int)(w h:Int)(F C:List Int)(S:List PV)(n:Nat)(x8 x9 x10 x11 x12 x13:Option PV):En:=[some (scr ns),some (flV w h F),some (.int w),some (.int h),some (.tup (F.map PV.int)),some (.lst (C.map PV.int)),some (.lst S),some (.int n),x8,x9,x10,x11,x12,x13]
theorem zcZ(w h p:Int):(zN w h p).length≤4:=by
 unfold zN
 rw [Jh,Jh,Jh]
 have:=wG (0<p % w) (p - 1)
 have:=wG (p % w<w - 1) (p+1)
 have:=wG (0<p / w) (p - w)
 have:=wG (p / w<h - 1) (p+w)
 omega
theorem zcq{ns C:List Int}{S:List PV}{w h:Int}{F:List Int}(fl:IsFloor w h F):∃ x,xQ (zJ 8) vL (F.map PV.int) (lE ns w h F C S 0 none none none none none none)=some (.nx (lE ns w h F C S (F.map fun p=>(prs w h F p).length).sum x none none none none none)):=by
 have w1:=fl.w1;have w6:=fl.w6
 obtain ⟨e,l1,x,rfl⟩:=vG (b:=zJ 8) (g:=vL) (xs:=F) (hh:=PV.int) (env:=lE ns w h F C S 0 none none none none none none) (fun pre e=>∃ x,e=lE ns w h F C S (pre.map fun p=>(prs w h F p).length).sum x none none none none none) ⟨none,rfl⟩ (by
  rintro pre p post e hF ⟨x,rfl⟩
  have hp:p ∈ F:=by rw [hF];exact Jl _ Jf
  rw [Ks,List.sum_append]
  generalize (pre.map fun p=>(prs w h F p).length).sum=n
  refine ⟨lE ns w h F C S n (some (.int p)) none none none none none,lE ns w h F C S (n+(prs w h F p).length) (some (.int p)) none none none none none,rfl,.inl ?_,some (.int p),by simp⟩
  have hb:zE zS (zB (zA 2) (zB (zA 3) (zB (zA 8) zF))) (lE ns w h F C S n (some (.int p)) none none none none none)=some (.lst ((zN w h p).map PV.int)):=zU (as:=[.int w,.int h,.int p]) rfl (j8 w1 w6 (fl.inn p hp))
  have hc:zo (zJ 0) (zac (fT (fOp vGt (zA 0) (zA 1))) (fT (fOp ye (zA 0) (zA 2)))) (ze (zA 0)) ((zN w h p).map PV.int) [none,some (.int p),some (.tup (F.map PV.int))]=some ((prs w h F p).map PV.int):=yB _ PV.int _ fun o _=>⟨[some (.int o),some (.int p),some (.tup (F.map PV.int))],rfl,by
   rw [zlP]
   show ((some (decide (p<o))).bind fun b=>if b=true then fT (fOp ye (zA 0) (zA 2)) [some (.int o),some (.int p),some (.tup (F.map PV.int))] else some false)=some (decide (p<o) && decide (o ∈ F))
   rw [Jb]
   have:fT (fOp ye (zA 0) (zA 2)) [some (.int o),some (.int p),some (.tup (F.map PV.int))]=some (decide (o ∈ F)):=by
    show ((vIn (.int o) (.tup (F.map PV.int))).map PV.bl).bind zf=_
    rw [zcL];rfl
   rw [this]
   cases decide (p<o)<;>rfl,fun _=>rfl⟩
  have hl:fLC (zZ (zE zS (zB (zA 2) (zB (zA 3) (zB (zA 8) zF))))) 1 [8,4] (zJ 0) (zac (fT (fOp vGt (zA 0) (zA 1))) (fT (fOp ye (zA 0) (zA 2)))) (ze (zA 0)) (lE ns w h F C S n (some (.int p)) none none none none none)=some (.lst ((prs w h F p).map PV.int)):=
   lcv (qs:=(zN w h p).map PV.int) (by rw [w9,hb];rfl) rfl (by rw [Je];have:=zcZ w h p;omega) hc
  unfold vL
  rw [zin (p:=.int ((n:Int)+(prs w h F p).length)) (by
   rw [uZ,zaq,xb,hl]
   show ((some (PV.int (n:Int))).bind fun x=>((some [PV.lst ((prs w h F p).map PV.int)]).bind yH).bind fun y=>zv x y)=_
   rw [Jb,Jb,uO,Jb,zlT,Je])]
  rw [← Int.natCast_add];rfl)
 exact ⟨x,l1⟩
noncomputable def dC(w:Int)(pre:List (Bool × Int))(c:Int):PV:=.int (cnt w c pre)
theorem zeU{ns:List Int}{w h:Int}{F:List Int}{S:List PV}{n:Nat}{x8:Option PV}(fl:IsFloor w h F):∃ a b c,xQ (zal 2 (xZ (zJ 10) (xZ (zJ 11) zbO))) vK (lsF w h F) (lE ns w h F (zM w F) S n x8 (some (dF (zM w F) fun _=>.int 0)) none none none none)=some (.nx (lE ns w h F (zM w F) S n x8 (some (dF (zM w F) (dC w (xR w h F)))) a b c none)):=by
 have w1:=fl.w1
 have hcl:=zbI fl
 rw [← zlM]
 obtain ⟨e,l1,a,b,c,rfl⟩:=vG (b:=zal 2 (xZ (zJ 10) (xZ (zJ 11) zbO))) (g:=vK) (xs:=xR w h F) (hh:=fun z=>sdV z.1 z.2) (env:=lE ns w h F (zM w F) S n x8 (some (dF (zM w F) fun _=>.int 0)) none none none none) (fun pre e=>∃ a b c,e=lE ns w h F (zM w F) S n x8 (some (dF (zM w F) (dC w pre))) a b c none) ⟨none,none,none,rfl⟩ (by
  rintro pre z post e hF ⟨a,b,c,rfl⟩
  have hz:z ∈ xR w h F:=by rw [hF];exact Jl _ Jf
  obtain ⟨z1,z2⟩:=zjl fl hz
  obtain ⟨u,s⟩:=z
  have hne:s≠xt w (u,s):=by unfold xt;cases u<;>simp<;>omega
  generalize hC:zM w F=C at z1 z2 hcl
  let E:PV->Option PV->En:=fun d t=>lE ns w h F C S n x8 (some d) (some (.str (wdS u))) (some (.int s)) t none
  have dd:DataOn C (dC w pre):=fun _ _=>rfl
  have i1:wW (dF C (dC w pre)) (.int s) (.int ((cnt w s pre:Int)+1))=some (dF C (upF (dC w pre) s (.int ((cnt w s pre:Int)+1)))):=by
   rw [zgi dd rfl (by omega),if_pos z1]
  have dd2:DataOn C (upF (dC w pre) s (.int ((cnt w s pre:Int)+1))):=by
   have:=dd.put (p:=s) (q:=.int ((cnt w s pre:Int)+1)) rfl
   rwa [if_pos z1] at this
  have i2:wW (dF C (upF (dC w pre) s (.int ((cnt w s pre:Int)+1)))) (.int (xt w (u,s))) (.int ((cnt w (xt w (u,s)) pre:Int)+1))=some (dF C (dC w (pre++[(u,s)]))):=by
   rw [zgi dd2 rfl (by omega),if_pos z2]
   congr 1
   unfold dF
   congr 1
   refine Qr fun q _=>?_
   unfold dC
   rw [zaf]
   simp only [cnt,Nat.add_zero]
   by_cases q2:q=xt w (u,s)
   ·rw [q2,je,if_neg hne,if_pos rfl];simp
   ·rw [qU q2]
    by_cases q1:q=s
    ·rw [q1,je,if_pos rfl,if_neg (fun e=>hne e.symm)];simp
    ·rw [qU q1,if_neg (fun e=>q1 e.symm),if_neg (fun e=>q2 e.symm)];simp
  refine ⟨E (dF C (dC w pre)) c,E (dF C (dC w (pre++[(u,s)]))) (some (.int (xt w (u,s)))),rfl,.inl ?_,_,_,_,rfl⟩
  unfold vK
  rw [zD (e:=E (dF C (dC w pre)) (some (.int (s+1)))) rfl]
  rw [zD (e:=E (dF C (dC w pre)) (some (.int (xt w (u,s))))) (by
   rw [xO]
   show ((vEq (.str (wdS u)) (.str upS)).bind zf).bind _=_
   rw [znG]
   cases u<;>rfl)]
  have nin:∀ (j:Nat) (q:Int) (G:Int->PV),zA j (E (dF C G) (some (.int (xt w (u,s)))))=some (.int q)->q ∈ C->fT (fOp z7 (zA j) (zA 9)) (E (dF C G) (some (.int (xt w (u,s)))))=some false:=fun j q G hj hq=>by
   rw [zlQ,uZ,hj,Jb]
   show (z7 (.int q) (dF C G)).bind zf=_
   rw [zgE,znv,decide_eq_true hq];rfl
  rw [zD (if2 (nin 11 s _ rfl z1) (nin 12 _ _ rfl z2))]
  rw [zD (e:=E (dF C (upF (dC w pre) s (.int ((cnt w s pre:Int)+1)))) (some (.int (xt w (u,s))))) (by
   unfold ww
   have v:fOp zv (fOp vIx (zA 9) (zA 11)) (fC (.int 1)) (E (dF C (dC w pre)) (some (.int (xt w (u,s)))))=some (.int ((cnt w s pre:Int)+1)):=by
    show ((vIx (dF C (dC w pre)) (.int s)).bind fun x=>zv x (.int 1))=_
    rw [zgU z1];rfl
   rw [v,Jb]
   show (wW (dF C (dC w pre)) (.int s) (.int ((cnt w s pre:Int)+1))).map _=_
   rw [i1];rfl)]
  unfold ww
  have v:fOp zv (fOp vIx (zA 9) (zA 12)) (fC (.int 1)) (E (dF C (upF (dC w pre) s (.int ((cnt w s pre:Int)+1)))) (some (.int (xt w (u,s)))))=some (.int ((cnt w (xt w (u,s)) pre:Int)+1)):=by
   show ((vIx (dF C (upF (dC w pre) s (.int ((cnt w s pre:Int)+1)))) (.int (xt w (u,s)))).bind fun x=>zv x (.int 1))=_
   rw [zgU z2,qU (fun e=>hne e.symm)];rfl
  rw [v,Jb]
  show (wW (dF C (upF (dC w pre) s (.int ((cnt w s pre:Int)+1)))) (.int (xt w (u,s))) (.int ((cnt w (xt w (u,s)) pre:Int)+1))).map _=_
  rw [i2];rfl)
 exact ⟨a,b,c,l1⟩
theorem zci{ns:List Int}{w h:Int}{F:List Int}{S:List PV}{n:Nat}{x8 a b c:Option PV}(fl:IsFloor w h F):∃ x,xQ (zJ 13) vJ ((zM w F).map PV.int) (lE ns w h F (zM w F) S n x8 (some (dF (zM w F) (dC w (xR w h F)))) a b c none)=some (.nx (lE ns w h F (zM w F) S n x8 (some (dF (zM w F) (dC w (xR w h F)))) a b c x)):=by
 obtain ⟨e,l1,x,rfl⟩:=vG (b:=zJ 13) (g:=vJ) (xs:=zM w F) (hh:=PV.int) (env:=lE ns w h F (zM w F) S n x8 (some (dF (zM w F) (dC w (xR w h F)))) a b c none) (fun pre e=>∃ x,e=lE ns w h F (zM w F) S n x8 (some (dF (zM w F) (dC w (xR w h F)))) a b c x) ⟨none,rfl⟩ (by
  rintro pre p post e hF ⟨x,rfl⟩
  have hp:p ∈ zM w F:=by rw [hF];exact Jl _ Jf
  obtain ⟨h1,h2⟩:=zhz fl hp
  refine ⟨lE ns w h F (zM w F) S n x8 (some (dF (zM w F) (dC w (xR w h F)))) a b c (some (.int p)),lE ns w h F (zM w F) S n x8 (some (dF (zM w F) (dC w (xR w h F)))) a b c (some (.int p)),rfl,.inl ?_,_,rfl⟩
  unfold vJ
  refine if1 ?_
  rw [zlO]
  have:fT (yY vLe vLe (fC (.int 2)) (fOp vIx (zA 9) (zA 13)) (fC (.int 4))) (lE ns w h F (zM w F) S n x8 (some (dF (zM w F) (dC w (xR w h F)))) a b c (some (.int p)))=some true:=by
   rw [zlQ,zhH]
   show ((vIx (dF (zM w F) (dC w (xR w h F))) (.int p)).bind fun y=>(vLe (.int 2) y).bind fun z=>(zf z).bind fun b=>if b=true then vLe y (.int 4) else some (.bl false)).bind zf=_
   rw [zgU hp,Jb]
   unfold dC
   rw [zjM,Jb,zed,Jb,decide_eq_true (by omega),if_pos rfl,zjM,Jb,zed,decide_eq_true (by omega)]
  rw [this];rfl)
 exact ⟨x,l1⟩
theorem zgQ(ns:List Int)(hl:ns.length≤63)(hb:∀ m ∈ ns,Builtin.Int.intBits m≤1048576):jY [.fls (ns.map PV.int)]=some (.bl true):=by
 have SC:Scr ns:=⟨hl,hb⟩
 obtain ⟨w,h,F,hfl,fl⟩:=zhh SC (k:=1) (by decide) (by decide)
 have w1:=fl.w1;have w6:=fl.w6
 have fz:=vH fl
 have hc:=zcS fl
 have hs:=zew fl
 have hcl:=zbI fl
 have eu:=znF fl
 have sp:=zaP fl
 have ndC:=vw w F
 obtain ⟨x8,p1⟩:=zcq (ns:=ns) (C:=zM w F) (S:=lsF w h F) fl
 generalize hn:(F.map fun p=>(prs w h F p).length).sum=n at p1 sp
 obtain ⟨a,b,c,p2⟩:=zeU (ns:=ns) (S:=lsF w h F) (n:=n) (x8:=x8) fl
 obtain ⟨x13,p3⟩:=zci (ns:=ns) (S:=lsF w h F) (n:=n) (x8:=x8) (a:=a) (b:=b) (c:=c) fl
 let E0:Option PV->Option PV->Option PV->Option PV->Option PV->Option PV->Option PV->En:=fun a b c d e f g=>[some (scr ns),a,b,c,d,e,f,g,none,none,none,none,none,none]
 refine yP (e:=lE ns w h F (zM w F) (lsF w h F) n x8 (some (dF (zM w F) (dC w (xR w h F)))) a b c x13) (E0 none none none none none none none) rfl ?_
 unfold zhd
 rw [zD (e:=E0 (some (flV w h F)) none none none none none none) (xB (as:=[scr ns,.int 1]) rfl hfl)]
 rw [zD (e:=E0 (some (flV w h F)) (some (.int w)) (some (.int h)) (some (.tup (F.map PV.int))) none none none) rfl]
 rw [zD (e:=E0 (some (flV w h F)) (some (.int w)) (some (.int h)) (some (.tup (F.map PV.int))) (some (.lst ((zM w F).map PV.int))) none none) (xB (as:=[flV w h F]) rfl hc)]
 rw [zD (e:=E0 (some (flV w h F)) (some (.int w)) (some (.int h)) (some (.tup (F.map PV.int))) (some (.lst ((zM w F).map PV.int))) (some (.lst (lsF w h F))) none) (xB (as:=[flV w h F]) rfl hs)]
 rw [zD (e:=lE ns w h F (zM w F) (lsF w h F) 0 none none none none none none) rfl]
 rw [zD (e:=lE ns w h F (zM w F) (lsF w h F) n x8 none none none none none) (by
  rw [vM]
  show xQ (zJ 8) vL (F.map PV.int) (lE ns w h F (zM w F) (lsF w h F) 0 none none none none none none)=_
  exact p1)]
 rw [zD (if2 (e:=lE ns w h F (zM w F) (lsF w h F) n x8 none none none none none) (by
  show (vNe (.int ((((zM w F).map PV.int).length:Int)+((F.map PV.int).length:Int))) (.int (((lsF w h F).length:Int)+1))).bind zf=_
  rw [zjK,Je,Je,decide_eq_true (by omega)];rfl) (by
  have m:zt (.int 4) (.int ((F.map PV.int).length:Int))=some (.int (4 * ((F.map PV.int).length:Int))):=xE (by omega)
  show ((((zt (.int 4) (.int ((F.map PV.int).length:Int))).bind fun x=>yw x (.int (n:Int))).bind fun y=>vNe (.int ((lsF w h F).length:Int)) y)).bind zf=_
  rw [m,Jb,zkA,Jb,zjK,Je,decide_eq_true (by omega)];rfl))]
 have hd:zE vZ (zB (fLC (zZ (zA 5)) 1 [] (zJ 0) zbB (yj (zB (ze (zA 0)) (zB (fC (.int 0)) zF)))) zF) (lE ns w h F (zM w F) (lsF w h F) n x8 none none none none none)=some (dF (zM w F) fun _=>.int 0):=by
  have hcm:zo (zJ 0) zbB (yj (zB (ze (zA 0)) (zB (fC (.int 0)) zF))) ((zM w F).map PV.int) [none]=some ((zM w F).map fun f=>PV.tup [.int f,.int 0]):=zbJ (hh:=PV.int) (fun f=>PV.tup [.int f,.int 0]) (zM w F) fun f _=>⟨[some (.int f)],rfl,rfl,rfl⟩
  have hL:fLC (zZ (zA 5)) 1 [] (zJ 0) zbB (yj (zB (ze (zA 0)) (zB (fC (.int 0)) zF))) (lE ns w h F (zM w F) (lsF w h F) n x8 none none none none none)=some (.lst ((zM w F).map fun f=>PV.tup [.int f,.int 0])):=lcv (qs:=(zM w F).map PV.int) rfl rfl (by rw [Je];omega) hcm
  exact zU (as:=[.lst ((zM w F).map fun f=>PV.tup [.int f,.int 0])]) (by rw [xb,hL];rfl) (zjo (G:=fun _=>.int 0) (fun _=>rfl) ndC (by omega))
 rw [zD (e:=lE ns w h F (zM w F) (lsF w h F) n x8 (some (dF (zM w F) fun _=>.int 0)) none none none none) (zin hd)]
 rw [zD (e:=lE ns w h F (zM w F) (lsF w h F) n x8 (some (dF (zM w F) (dC w (xR w h F)))) a b c none) (by
  rw [vM]
  show xQ _ vK (lsF w h F) _=_
  exact p2)]
 rw [zD (e:=lE ns w h F (zM w F) (lsF w h F) n x8 (some (dF (zM w F) (dC w (xR w h F)))) a b c x13) (by
  rw [vM]
  show xQ _ vJ ((zM w F).map PV.int) _=_
  exact p3)]
 have okf:okB 2 (flV w h F):=zdz fun q hq=>by
  simp only [List.mem_cons,List.not_mem_nil,or_false] at hq
  rcases hq with rfl | rfl | rfl
  ·exact (qm _).mono (by decide)
  ·exact (qm _).mono (by decide)
  ·exact zdz (zgD F)
 have q1:fOp vEq (zE yd (zB (zA 2) (zB (zA 3) (zB (zA 4) zF)))) (zA 1) (lE ns w h F (zM w F) (lsF w h F) n x8 (some (dF (zM w F) (dC w (xR w h F)))) a b c x13)=some (.bl true):=by
  rw [uZ,zU (as:=[.int w,.int h,.tup (F.map PV.int)]) rfl (zbz fl),Jb]
  show vEq (flV w h F) (flV w h F)=_
  exact zjj okf (by decide)
 rw [xN,q1];rfl
end Cb
namespace Cb
open PySem L2 F PyProof.Rows
noncomputable def top(i:Nat):Stmt:=PySem.Challenge.pw_crossbrace_k05_whole_counts_of_a_floor.main.body.getD i (.Pass ⟨0,0,0,0⟩)
structure Blt (mg:Str->Option Value):Prop where
 bool_:mg "bool"=none
 dict_:mg "dict"=none
 int_:mg "int"=none
 isinstance_:mg "isinstance"=none
 len_:mg "len"=none
 list_:mg "list"=none
 range_:mg "range"=none
 set_:mg "set"=none
 sorted_:mg "sorted"=none
 tuple_:mg "tuple"=none
variable {P:Program} {w:World} {K:PySem.W.Frag} {mg:Str->Option Value} {base:Heap} {f:Addr} {fd:FuncData}
set_option hygiene false
local macro_rules
|`(tactic|rw[7101,$x:term,$y:term])=>`(tactic|((with_reducible show VE _ _ _ _ _ $x);refine' $y))
|`(tactic|rw[7102,$x:term,$y:term])=>`(tactic|((with_reducible show VS _ _ _ _ $x);refine' $y))
|`(tactic|rw[7103,$x:term,$y:term])=>`(tactic|((with_reducible show $x);refine' $y))
|`(tactic|rw[7104,$x:term,$y:term,$z:term,$w:term])=>`(tactic|((with_reducible show VE _ _ _ _ _ (zE $x _));refine' zfB $y $z (by rfl) (by assumption) $w _))
|`(tactic|rw[7105,$x:term,$y:term,$z:term,$w:term])=>`(tactic|((with_reducible show VE _ _ _ _ _ (zE $x _));refine' zem $y $z (by rfl) (by assumption) $w _))
|`(tactic|rw[7106,$x:term,$y:term,$z:term])=>`(tactic|((with_reducible show $x);refine' ⟨_,$y,$z⟩))
local macro_rules
|`([7006])=>`((by first|exact Or.inl rfl|exact Or.inr rfl))
|`([7007])=>`((by first|exact boot_int|exact boot_str|exact boot_bool|exact boot_list|exact boot_tuple|exact boot_dict))
|`([7001])=>`(⟨rfl,rfl,rfl,by decide +kernel,rfl,by decide +kernel,by decide +kernel⟩)
|`([7000,$a])=>`((by have nd:=($a).nd;have hu:=zny hr;have hu64:=hr.units;cases B;repeat' first|((with_reducible show VE _ _ _ _ _ _);first|rw[7101,(ze _),VE.data _ (.mv [])]|rw[7101,(ze _),VE.data _ _]|rw[7101,(zA _),vx _ (pv _)]|rw[7101,(zA _),zmm _ (pv _)]|rw[7101,(zA _),zmi _ rfl (pv _)]|rw[7101,(fC _),zkl]|rw[7101,(fC _),zke]|rw[7101,(fC _),zmn]|rw[7101,(fC _),zki]|rw[7101,(fC _),zen (c:=.mv []) (fun _ _=>.mkI _) (ziE rfl (by assumption))]|rw[7101,(fC _),zen (c:=.mv []) (fun _ _=>.mkTy _) (zlb rfl (by assumption) [7007])]|rw[7101,(fC _),zml rfl (by assumption)]|rw[7101,(fOp vIx _ _),zmk hu _ _ (fun _ _=>rfl)]|rw[7103,VE _ _ _ _ (.BinOp _ _ _ _) _,zkf _ _ _]|rw[7103,VE _ _ _ _ (.Compare _ [_] [_] _) _,zig _ _ _]|rw[7103,VE _ _ _ _ (.Compare _ [_,_] _ _) _,zel _ _ _ _ _]|rw[7101,(yj _),zkd _]|rw[7101,(vq _),zkj _]|rw[7101,(fLC _ _ _ _ _ _),zkk _ _ _ _ _]|rw[7104,yH,zlI,zlJ,PySem.boot_len]|rw[7104,vA,zfa,zfd,boot_isinstance]|rw[7105,vZ,zhw,(zcY rfl),boot_dict]|rw[7105,wX,zjs,(zjt rfl),boot_list]|rw[7105,ud,zhv,kf,boot_tuple]|rw[7101,(zE _ zF),zfC (by assumption) (hr.mono (by decide)) (by rfl)]|rw[7101,(zE _ _),zih (by assumption) (hr.mono (by decide)) (by rfl) _]|rw[7101,(fUn _ _),zme zks zkq _]|rw[7101,(zbC _),zkh _]|rw[7103,VE _ _ _ _ (.BoolOp _ [_] _) _,zkg _]|rw[7101,(kK _ _),zkn _ _]|rw[7101,(zeR _ _),zmg _ _]|rw[7101,kJ,zfz zgs]|rw[7101,(fSl _ _ _),zfy _ _ _]|rw[7101,(y8 _),zaB rfl hu64 (by rfl) (by assumption) (by rfl) (by assumption) _]|rw[7101,(xq _),zbW rfl (by rfl) (by assumption) (by rfl) (by assumption) _]|rw[7103,VE _ _ _ .sh _ _,VE.sh _])|rw[7103,VA _ _ _ _ [] _,zbX (c:=.bo)]|rw[7103,VA _ _ _ _ [] _,zbX (c:=.mv [])]|rw[7103,VA _ _ _ _ [] _,zbX]|rw[7103,VA _ _ _ _ (_::_) _,zmp _ _]|rw[7103,VA _ _ _ _ (_::_) _,zmo _ _]|rw[7103,VA _ _ _ _ (_::_) _,zko _ _ _]|rw[7103,VA _ _ _ _ (_::_) _,zjC (L1:=[]) (L2:=[]) _ _]|((with_reducible show VS _ _ _ _ _);first|rw[7103,VS _ _ _ (.Return (some _) _) (yI _),zhX _ _]|rw[7103,VS _ _ _ (.Return none _) _,zhY]|rw[7103,VS _ _ _ (.If _ _ _ _) _,zmc _ _ _]|rw[7102,(fWh _ _ _),zfu _ PassesOwn.never _ _]|rw[7102,(xX _ _ _),zjY PassesOwn.never rfl _ _ _]|rw[7103,VS _ _ _ (.Pass _) _,zhZ]|rw[7103,VS _ _ _ (.Break _) _,zfw]|rw[7103,VS _ _ _ (.Continue _) _,zaA]|rw[7102,fNx,zjZ]|rw[7102,vp,zfv]|rw[7102,(zV _ (fLC _ _ _ _ _ _)),ub rfl (zkK (zgn nd _ _ _ _ _))]|rw[7102,(zV _ (fLC _ _ _ _ _ _)),uc (by decide) (zgn nd _ _ _ _ _)]|rw[7102,(zV _ (fLC _ _ _ _ _ _)),ub rfl (psI _ nd _)]|rw[7102,(zV _ (fLC _ _ _ _ _ _)),uc (by decide) (psI _ nd _)]|rw[7102,(zV _ _),ub rfl (psI _ nd _)]|rw[7102,(zV _ _),uc (by decide) (psI _ nd _)]|rw[7102,(zeS _ _),zka _ _]|rw[7102,(za _ _),zek _ (by decide) (zdu (zjI PySem.F.plainAttrs_list PySem.F.slot_list_append PySem.F.type_list_append k5 (pv _) (uL _ pa_nil)))]|rw[7102,(zn _ _),zbV _ (by decide) (zdu (zjI PySem.F.plainAttrs_list PySem.F.slot_list_extend PySem.F.type_list_extend zcz (pv _) (uL _ pa_nil)))]|rw[7102,(ww _ _ _),zhW _ (by decide) (zgo _ (zkQ (pv _) _ zfW)) (ziz hu (pv _) _ _ rfl)]|rw[7102,(zab _ _),zjX _ _ (by decide) (by decide) (psI _ nd (zlc PySem.F.plainAttrs_list PySem.F.slot_list_pop PySem.F.type_list_pop zlq (pv _)))])|rw[7103,VSs _ _ _ _ _,zhV]|rw[7103,VSs _ _ _ _ _,zhU _]|rw[7103,VSs _ _ _ _ _,zft _ _]|rw[7103,VT _ _ _ (.Compare _ [_] [_] _) _,zhT _ _ _]|rw[7103,VT _ _ _ (.Compare _ [_,_] _ _) _,zej _ _ _ _ _]|rw[7103,VT _ _ _ _ (uU _),zjU _]|rw[7103,VT _ _ _ _ (zac _ _),VW.vt _]|rw[7103,VT _ _ _ _ (fOr _ _),VW.vt _]|rw[7103,VT _ _ _ _ (yz _),zfr _ (fun _=>rfl)]|rw[7106,OpT _ _ vLt,znd,zmW]|rw[7106,OpT _ _ vLe,zne,zmX]|rw[7106,OpT _ _ vGt,znf,zmZ]|rw[7106,OpT _ _ vGe,zng,zna]|rw[7106,OpT _ _ vEq,zlo hu64,znb]|rw[7106,OpT _ _ vNe,zlm hu64,zmV]|rw[7106,OpT _ _ ye,znc hu,zmY]|rw[7106,OpT _ _ z7,zgz hu,zgw]|rw[7106,OpB _ _ zv,zlj,zlh]|rw[7106,OpB _ _ yw,zlk,zle]|rw[7106,OpB _ _ zt,zli,zlf]|rw[7106,OpB _ _ yM,ziL,ziJ]|rw[7106,OpB _ _ xP,zln,zlg]|rw[7103,VW _ _ _ (.BoolOp .And [_] _) _,zhQ _]|rw[7103,VW _ _ _ (.BoolOp .Or [_] _) _,zjS _]|rw[7103,VW _ _ _ (.BoolOp .And _ _) _,zjT _ _]|rw[7103,VW _ _ _ (.BoolOp .Or _ _) _,zmb _ _]|rw[7103,VIt _ _ _ _ _ _ (xJ _),zic _ (by rfl) (by assumption) _]|rw[7103,VIt _ _ _ _ _ _ (zZ _),zkb _ _]|rw[7103,VG _ _ _ _ _ (zJ _),vgI _ (by assumption)]|rw[7103,VG _ _ _ _ _ (zal _ _),zkc _ (by rfl) _]|rw[7103,VGs _ _ _ _ [] _,zid]|rw[7103,VGs _ _ _ _ _ _,zfx _ _]|rw[7103,VTs _ _ _ [] _,zhS]|rw[7103,VTs _ _ _ [_] _,zhR _]|rw[7103,VTi _ _ _ _ _ _,zei _ _ _]|rw[7103,VO _ _ _ none _,zib]|rw[7103,VO _ _ _ _ _,zia _]|((with_reducible show PE _ _ (tV _ _ _ _ _));show VE _ _ _ _ _ _)|((with_reducible show PE _ _ (tVm _ _ _ _ _));show VEm _ _ _ _ _ _)|((with_reducible show PE _ _ (tVi _ _ _ _ _));show VEi _ _ _ _ _ _)|decide|intro _ _ _ _))
set_option hygiene true
noncomputable abbrev we:Stmt:=top 22
theorem uG:FnScope ["_law_script","_law_k","_law_number"] ["_law_script","_law_k"] (zG we):=[7001]
theorem ql(F:Fun K "_law_cell" "_law_cell" we f fd)(B:Blt mg):FnOk P w K mg base CX0 1 f fd ["_law_script","_law_k"] (spV K 2 zY):=
 xg [] rfl rfl (by decide) F uG fun _ _ _ _ _ _ hr=>by
  delta wq
  exact [7000,uG]
noncomputable abbrev vg:Stmt:=top 23
theorem u9:FnScope ["_law_script","_law_k","_law_count","_law_base","_law_cell_here","_law_found","_law_j","_law_one","_law_two"] ["_law_script","_law_k","_law_count","_law_base"] (zG vg):=[7001]
theorem zbh(F:Fun K "_law_row" "_law_row" vg f fd)(B:Blt mg)(c__law_cell:(Fn P w K mg base "_law_cell" 1 ["_law_script","_law_k"] (spV K 2 zY))):FnOk P w K mg base CX0 2 f fd ["_law_script","_law_k","_law_count","_law_base"] (spV K 4 yK):=
 xg [5] rfl rfl (by decide) F u9 fun _ _ _ _ _ _ hr=>by
  delta vo yS
  exact [7000,u9]
noncomputable abbrev xc:Stmt:=top 24
theorem wZ:FnScope ["_law_wide","_law_high","_law_place","_law_found","_law_other"] ["_law_wide","_law_high","_law_place"] (zG xc):=[7001]
theorem jv(F:Fun K "_law_beside" "_law_beside" xc f fd)(B:Blt mg):FnOk P w K mg base CX0 1 f fd ["_law_wide","_law_high","_law_place"] (spV K 3 zS):=
 xg [3] rfl rfl (by decide) F wZ fun _ _ _ _ _ _ hr=>by
  delta xf yt yr
  exact [7000,wZ]
noncomputable abbrev wD:Stmt:=top 25
theorem vT:FnScope ["_law_wide","_law_high","_law_starts","_law_some","_law_seen","_law_row_here","_law_place"] ["_law_wide","_law_high","_law_starts","_law_some"] (zG wD):=[7001]
theorem kc(F:Fun K "_law_flood" "_law_flood" wD f fd)(B:Blt mg)(c__law_beside:(Fn P w K mg base "_law_beside" 1 ["_law_wide","_law_high","_law_place"] (spV K 3 zS))):FnOk P w K mg base CX0 2 f fd ["_law_wide","_law_high","_law_starts","_law_some"] (spV K 4 zj):=
 xg [4,5] rfl rfl (by decide) F vT fun _ _ _ _ _ _ hr=>by
  delta wK zp zd
  have n0:(["_law_place","_law_some"]:List Str).Nodup:=by decide +kernel
  have n1:(["_law_other","_law_some"]:List Str).Nodup:=by decide +kernel
  exact [7000,vT]
noncomputable abbrev xD:Stmt:=top 26
theorem wS:FnScope ["_law_wide","_law_high","_law_some","_law_bare","_law_edge","_law_place"] ["_law_wide","_law_high","_law_some"] (zG xD):=[7001]
theorem jO(F:Fun K "_law_outside" "_law_outside" xD f fd)(B:Blt mg)(c__law_flood:(Fn P w K mg base "_law_flood" 2 ["_law_wide","_law_high","_law_starts","_law_some"] (spV K 4 zj))):FnOk P w K mg base CX0 3 f fd ["_law_wide","_law_high","_law_some"] (spV K 3 zu):=
 xg [4] rfl rfl (by decide) F wS fun _ _ _ _ _ _ hr=>by
  delta xG ya
  have n0:(["_law_place","_law_some"]:List Str).Nodup:=by decide +kernel
  exact [7000,wS]
noncomputable abbrev wC:Stmt:=top 27
theorem vS:FnScope ["_law_script","_law_k","_law_wide","_law_high","_law_digits","_law_some","_law_left","_law_out"] ["_law_script","_law_k"] (zG wC):=[7001]
theorem ka(F:Fun K "_law_floor" "_law_floor" wC f fd)(B:Blt mg)(c__law_row:(Fn P w K mg base "_law_row" 2 ["_law_script","_law_k","_law_count","_law_base"] (spV K 4 yK)))(c__law_flood:(Fn P w K mg base "_law_flood" 2 ["_law_wide","_law_high","_law_starts","_law_some"] (spV K 4 zj)))(c__law_outside:(Fn P w K mg base "_law_outside" 3 ["_law_wide","_law_high","_law_some"] (spV K 3 zu)))(c__law_cell:(Fn P w K mg base "_law_cell" 1 ["_law_script","_law_k"] (spV K 2 zY))):FnOk P w K mg base CX0 4 f fd ["_law_script","_law_k"] (spV K 2 yF):=
 xg [] rfl rfl (by decide) F vS fun _ _ _ _ _ _ hr=>by
  delta wJ
  have n0:(["_law_number"]:List Str).Nodup:=by decide +kernel
  have n1:(["_law_place","_law_digits"]:List Str).Nodup:=by decide +kernel
  have n2:(["_law_place","_law_out"]:List Str).Nodup:=by decide +kernel
  exact [7000,vS]
noncomputable abbrev wA:Stmt:=top 16
theorem vQ:FnScope ["floor","field","wide","lower","upper"] ["floor","field"] (zG wA):=[7001]
theorem kY(F:Fun K "corners_at" "corners_at" wA f fd)(B:Blt mg):FnOk P w K mg base CX0 1 f fd ["floor","field"] (spV K 2 zc):=
 xg [] rfl rfl (by decide) F vQ fun _ _ _ _ _ _ hr=>by
  delta wH
  exact [7000,vQ]
noncomputable abbrev ui:Stmt:=top 17
theorem jl:FnScope ["floor","found","field"] ["floor"] (zG ui):=[7001]
theorem zcu(F:Fun K "corners" "corners" ui f fd)(B:Blt mg)(c_corners_at:(Fn P w K mg base "corners_at" 1 ["floor","field"] (spV K 2 zc))):FnOk P w K mg base CX0 2 f fd ["floor"] (spV K 1 xv):=
 xg [1] rfl rfl (by decide) F jl fun _ _ _ _ _ _ hr=>by
  delta uw xY
  exact [7000,jl]
noncomputable abbrev wd:Stmt:=top 18
theorem uF:FnScope ["floor","field","about"] ["floor","field"] (zG wd):=[7001]
theorem qk(F:Fun K "across_at" "across_at" wd f fd)(B:Blt mg)(c_corners_at:(Fn P w K mg base "corners_at" 1 ["floor","field"] (spV K 2 zc))):FnOk P w K mg base CX0 2 f fd ["floor","field"] (spV K 2 yv):=
 xg [] rfl rfl (by decide) F uF fun _ _ _ _ _ _ hr=>by
  delta wp
  exact [7000,uF]
noncomputable abbrev qZ:Stmt:=top 19
theorem zaS:FnScope ["floor","field","about"] ["floor","field"] (zG qZ):=[7001]
theorem zgA(F:Fun K "up_at" "up_at" qZ f fd)(B:Blt mg)(c_corners_at:(Fn P w K mg base "corners_at" 1 ["floor","field"] (spV K 2 zc))):FnOk P w K mg base CX0 2 f fd ["floor","field"] (spV K 2 vy):=
 xg [] rfl rfl (by decide) F zaS fun _ _ _ _ _ _ hr=>by
  delta qy
  exact [7000,zaS]
noncomputable abbrev qa:Stmt:=top 20
theorem zaT:FnScope ["floor","found","field"] ["floor"] (zG qa):=[7001]
theorem zgB(F:Fun K "sides" "sides" qa f fd)(B:Blt mg)(c_across_at:(Fn P w K mg base "across_at" 2 ["floor","field"] (spV K 2 yv)))(c_up_at:(Fn P w K mg base "up_at" 2 ["floor","field"] (spV K 2 vy))):FnOk P w K mg base CX0 3 f fd ["floor"] (spV K 1 wV):=
 xg [1] rfl rfl (by decide) F zaT fun _ _ _ _ _ _ hr=>by
  delta qz vI
  exact [7000,zaT]
noncomputable abbrev xC:Stmt:=top 11
theorem wR:FnScope ["wide","high","place"] ["wide","high","place"] (zG xC):=[7001]
theorem jN(F:Fun K "is_outermost" "is_outermost" xC f fd)(B:Blt mg):FnOk P w K mg base CX0 1 f fd ["wide","high","place"] (spV K 3 zh):=
 xg [] rfl rfl (by decide) F wR fun _ _ _ _ _ _ hr=>by
  delta xF
  exact [7000,wR]
noncomputable abbrev ym:Stmt:=top 10
theorem xj:FnScope ["wide","high","place","x","y","found"] ["wide","high","place"] (zG ym):=[7001]
theorem ul(F:Fun K "places_beside" "places_beside" ym f fd)(B:Blt mg):FnOk P w K mg base CX0 1 f fd ["wide","high","place"] (spV K 3 zk):=
 xg [5] rfl rfl (by decide) F xj fun _ _ _ _ _ _ hr=>by
  delta yp
  exact [7000,xj]
noncomputable abbrev uh:Stmt:=top 12
theorem jk:FnScope ["wide","high","starts","places","found","waiting","place"] ["wide","high","starts","places"] (zG uh):=[7001]
theorem zct(F:Fun K "reached" "reached" uh f fd)(B:Blt mg)(c_places_beside:(Fn P w K mg base "places_beside" 1 ["wide","high","place"] (spV K 3 zk))):FnOk P w K mg base CX0 2 f fd ["wide","high","starts","places"] (spV K 4 zi):=
 xg [4,5] rfl rfl (by decide) F jk fun _ _ _ _ _ _ hr=>by
  delta uv yk yf
  have n0:(["other","places"]:List Str).Nodup:=by decide +kernel
  exact [7000,jk]
noncomputable abbrev wc:Stmt:=top 14
theorem uE:FnScope ["wide","high","fields","empty","rim"] ["wide","high","fields"] (zG wc):=[7001]
theorem qj(F:Fun K "have_hole" "have_hole" wc f fd)(B:Blt mg)(c_is_outermost:(Fn P w K mg base "is_outermost" 1 ["wide","high","place"] (spV K 3 zh)))(c_reached:(Fn P w K mg base "reached" 2 ["wide","high","starts","places"] (spV K 4 zi))):FnOk P w K mg base CX0 3 f fd ["wide","high","fields"] (spV K 3 yL):=
 xg [] rfl rfl (by decide) F uE fun _ _ _ _ _ _ hr=>by
  delta wo
  have n0:(["place","fields"]:List Str).Nodup:=by decide +kernel
  have n1:(["place","wide","high"]:List Str).Nodup:=by decide +kernel
  exact [7000,uE]
noncomputable abbrev ve:Stmt:=top 7
theorem u7:FnScope ["thing"] ["thing"] (zG ve):=[7001]
theorem zbf(F:Fun K "is_whole" "is_whole" ve f fd)(B:Blt mg):FnOk P w K mg base CX0 1 f fd ["thing"] (spV K 1 zq):=
 xg [] rfl rfl (by decide) F u7 fun _ _ _ _ _ _ hr=>by
  delta kH
  exact [7000,u7]
noncomputable abbrev wB:Stmt:=top 9
theorem vR:FnScope ["wide","high","fields","ahead","field"] ["wide","high","fields"] (zG wB):=[7001]
theorem kZ(F:Fun K "are_fields" "are_fields" wB f fd)(B:Blt mg)(c_is_whole:(Fn P w K mg base "is_whole" 1 ["thing"] (spV K 1 zq))):FnOk P w K mg base CX0 2 f fd ["wide","high","fields"] (spV K 3 yE):=
 xg [] rfl rfl (by decide) F vR fun _ _ _ _ _ _ hr=>by
  delta wI yR
  exact [7000,vR]
noncomputable abbrev yn:Stmt:=top 13
theorem xk:FnScope ["wide","high","fields"] ["wide","high","fields"] (zG yn):=[7001]
theorem um(F:Fun K "hang_together" "hang_together" yn f fd)(B:Blt mg)(c_reached:(Fn P w K mg base "reached" 2 ["wide","high","starts","places"] (spV K 4 zi))):FnOk P w K mg base CX0 3 f fd ["wide","high","fields"] (spV K 3 zm):=
 xg [] rfl rfl (by decide) F xk fun _ _ _ _ _ _ hr=>by
  delta yq
  exact [7000,xk]
noncomputable abbrev wa:Stmt:=top 8
theorem uD:FnScope ["thing"] ["thing"] (zG wa):=[7001]
theorem qi(F:Fun K "is_length" "is_length" wa f fd)(B:Blt mg){t_MOST_PLACES:Tok}(h_MOST_PLACES:mg "MOST_PLACES"=some (.int 6 t_MOST_PLACES))(c_is_whole:(Fn P w K mg base "is_whole" 1 ["thing"] (spV K 1 zq))):FnOk P w K mg base CX0 2 f fd ["thing"] (spV K 1 zr):=
 xg [] rfl rfl (by decide) F uD fun _ _ _ _ _ _ hr=>by
  delta wn
  exact [7000,uD]
noncomputable abbrev vf:Stmt:=top 15
theorem u8:FnScope ["wide","high","fields","kept"] ["wide","high","fields"] (zG vf):=[7001]
theorem zbg(F:Fun K "floor_of" "floor_of" vf f fd)(B:Blt mg)(c_have_hole:(Fn P w K mg base "have_hole" 3 ["wide","high","fields"] (spV K 3 yL)))(c_are_fields:(Fn P w K mg base "are_fields" 2 ["wide","high","fields"] (spV K 3 yE)))(c_hang_together:(Fn P w K mg base "hang_together" 3 ["wide","high","fields"] (spV K 3 zm)))(c_is_length:(Fn P w K mg base "is_length" 2 ["thing"] (spV K 1 zr))):FnOk P w K mg base CX0 4 f fd ["wide","high","fields"] (spV K 3 yd):=
 xg [] rfl rfl (by decide) F u8 fun _ _ _ _ _ _ hr=>by
  delta vn
  exact [7000,u8]
noncomputable abbrev jm:Stmt:=top 28
theorem zfY:FnScope ["_law_script","_law_floor_here","_law_wide","_law_high","_law_fields","_law_spots","_law_bars","_law_pairs","_law_field","_law_ends","_law_word","_law_start","_law_end","_law_spot"] ["_law_script"] (zG jm):=[7001]
theorem zlp(F:Fun K "law" "law" jm f fd)(B:Blt mg)(c__law_floor:(Fn P w K mg base "_law_floor" 4 ["_law_script","_law_k"] (spV K 2 yF)))(c_corners:(Fn P w K mg base "corners" 2 ["floor"] (spV K 1 xv)))(c_sides:(Fn P w K mg base "sides" 3 ["floor"] (spV K 1 wV)))(c_floor_of:(Fn P w K mg base "floor_of" 4 ["wide","high","fields"] (spV K 3 yd)))(c__law_beside:(Fn P w K mg base "_law_beside" 1 ["_law_wide","_law_high","_law_place"] (spV K 3 zS))):FnOk P w K mg base CX0 5 f fd ["_law_script"] (spV K 1 jY):=
 xg [9] rfl rfl (by decide) F zfY fun _ _ _ _ _ _ hr=>by
  delta zhd vL vK vJ
  have n0:(["_law_other","_law_field","_law_fields"]:List Str).Nodup:=by decide +kernel
  have n1:(["_law_spot"]:List Str).Nodup:=by decide +kernel
  exact [7000,zfY]
open PySem.W
theorem zgN{us:List Value}(h:us.length=1):∃ a,us=[a]:=List.length_eq_one_iff.mp h
theorem zeK{us:List Value}(h:us.length=2):∃ a0 a1,us=[a0,a1]:=by
 cases us with
 | nil=>cases h
 | cons a0 r=>obtain ⟨a1,rfl⟩:=zgN (us:=r) (QR h);exact ⟨a0,a1,rfl⟩
theorem qp{us:List Value}(h:us.length=3):∃ a0 a1 a2,us=[a0,a1,a2]:=by
 cases us with
 | nil=>cases h
 | cons a0 r=>obtain ⟨a1,a2,rfl⟩:=zeK (us:=r) (QR h);exact ⟨a0,a1,a2,rfl⟩
theorem zlr{us:List Value}(h:us.length=4):∃ a0 a1 a2 a3,us=[a0,a1,a2,a3]:=by
 cases us with
 | nil=>cases h
 | cons a0 r=>obtain ⟨a1,a2,a3,rfl⟩:=qp (us:=r) (QR h);exact ⟨a0,a1,a2,a3,rfl⟩
theorem all_mk{l:PySem.W.OpenLaw}{w:World}{K:PySem.W.Frag}{h:Heap}{mg:Str->Option Value}{fa:Addr}(X:K.In h)(G:h.Ns mainGlobals mg)(hfa:mg "law"=some (.ref fa)){t_MOST_PLACES:Tok}(k_MOST_PLACES:nsIn K mainGlobals "MOST_PLACES"=some (some (.int 6 t_MOST_PLACES)))(d0:Df K "_law_cell" we)(d1:Df K "_law_row" vg)(d2:Df K "_law_beside" xc)(d3:Df K "_law_flood" wD)(d4:Df K "_law_outside" xD)(d5:Df K "_law_floor" wC)(d6:Df K "corners_at" wA)(d7:Df K "corners" ui)(d8:Df K "across_at" wd)(d9:Df K "up_at" qZ)(d10:Df K "sides" qa)(d11:Df K "is_outermost" xC)(d12:Df K "places_beside" ym)(d13:Df K "reached" uh)(d14:Df K "have_hole" wc)(d15:Df K "is_whole" ve)(d16:Df K "are_fields" wB)(d17:Df K "hang_together" yn)(d18:Df K "is_length" wa)(d19:Df K "floor_of" vf)(d20:Df K "law" jm)(z_bool:nsIn K mainGlobals "bool"=some none)(z_dict:nsIn K mainGlobals "dict"=some none)(z_int:nsIn K mainGlobals "int"=some none)(z_isinstance:nsIn K mainGlobals "isinstance"=some none)(z_len:nsIn K mainGlobals "len"=some none)(z_list:nsIn K mainGlobals "list"=some none)(z_range:nsIn K mainGlobals "range"=some none)(z_set:nsIn K mainGlobals "set"=some none)(z_sorted:nsIn K mainGlobals "sorted"=some none)(z_tuple:nsIn K mainGlobals "tuple"=some none)
 : ∃ fd:FuncData,(∀ (s:Shared) (v:Value),BindsTo s fd ⟨[v],[]⟩ [("_law_script",v)])/\∀ base:Heap,K.In base->base.Ns mainGlobals mg->FnOk l.prog w K mg base CX0 5 fa fd ["_law_script"] (spV K 1 jY):=by
 obtain @⟨f,oc,od,kV,dc,pm,an,cd,ct,sl,a,lk,c,k⟩:=d20
 cases hfa.symm.trans (mg_of X G a)
 have B:Blt mg:=⟨mg_none_of X G z_bool,mg_none_of X G z_dict,mg_none_of X G z_int,mg_none_of X G z_isinstance,mg_none_of X G z_len,mg_none_of X G z_list,mg_none_of X G z_range,mg_none_of X G z_set,mg_none_of X G z_sorted,mg_none_of X G z_tuple⟩
 have h_MOST_PLACES:=mg_of X G k_MOST_PLACES
 refine ⟨fnOf "law" "law" (wO jm) (y4 jm) (zG jm) .none kV dc pm an cd ct,fun s v=>.of_eq rfl,fun base _ _=>?_⟩
 have c__law_cell:Fn l.prog w K mg base _ _ _ _:=d0.fn X G (fun _ _ F=>ql F B) fun _ _ _ _ _ _ us hl=>by obtain ⟨_,_,rfl⟩:=zeK hl;rfl
 have c__law_row:Fn l.prog w K mg base _ _ _ _:=d1.fn X G (fun _ _ F=>zbh F B c__law_cell) fun _ _ _ _ _ _ us hl=>by obtain ⟨_,_,_,_,rfl⟩:=zlr hl;rfl
 have c__law_beside:Fn l.prog w K mg base _ _ _ _:=d2.fn X G (fun _ _ F=>jv F B) fun _ _ _ _ _ _ us hl=>by obtain ⟨_,_,_,rfl⟩:=qp hl;rfl
 have c__law_flood:Fn l.prog w K mg base _ _ _ _:=d3.fn X G (fun _ _ F=>kc F B c__law_beside) fun _ _ _ _ _ _ us hl=>by obtain ⟨_,_,_,_,rfl⟩:=zlr hl;rfl
 have c__law_outside:Fn l.prog w K mg base _ _ _ _:=d4.fn X G (fun _ _ F=>jO F B c__law_flood) fun _ _ _ _ _ _ us hl=>by obtain ⟨_,_,_,rfl⟩:=qp hl;rfl
 have c__law_floor:Fn l.prog w K mg base _ _ _ _:=d5.fn X G (fun _ _ F=>ka F B c__law_row c__law_flood c__law_outside c__law_cell) fun _ _ _ _ _ _ us hl=>by obtain ⟨_,_,rfl⟩:=zeK hl;rfl
 have c_corners_at:Fn l.prog w K mg base _ _ _ _:=d6.fn X G (fun _ _ F=>kY F B) fun _ _ _ _ _ _ us hl=>by obtain ⟨_,_,rfl⟩:=zeK hl;rfl
 have c_corners:Fn l.prog w K mg base _ _ _ _:=d7.fn X G (fun _ _ F=>zcu F B c_corners_at) fun _ _ _ _ _ _ us hl=>by obtain ⟨_,rfl⟩:=zgN hl;rfl
 have c_across_at:Fn l.prog w K mg base _ _ _ _:=d8.fn X G (fun _ _ F=>qk F B c_corners_at) fun _ _ _ _ _ _ us hl=>by obtain ⟨_,_,rfl⟩:=zeK hl;rfl
 have c_up_at:Fn l.prog w K mg base _ _ _ _:=d9.fn X G (fun _ _ F=>zgA F B c_corners_at) fun _ _ _ _ _ _ us hl=>by obtain ⟨_,_,rfl⟩:=zeK hl;rfl
 have c_sides:Fn l.prog w K mg base _ _ _ _:=d10.fn X G (fun _ _ F=>zgB F B c_across_at c_up_at) fun _ _ _ _ _ _ us hl=>by obtain ⟨_,rfl⟩:=zgN hl;rfl
 have c_is_outermost:Fn l.prog w K mg base _ _ _ _:=d11.fn X G (fun _ _ F=>jN F B) fun _ _ _ _ _ _ us hl=>by obtain ⟨_,_,_,rfl⟩:=qp hl;rfl
 have c_places_beside:Fn l.prog w K mg base _ _ _ _:=d12.fn X G (fun _ _ F=>ul F B) fun _ _ _ _ _ _ us hl=>by obtain ⟨_,_,_,rfl⟩:=qp hl;rfl
 have c_reached:Fn l.prog w K mg base _ _ _ _:=d13.fn X G (fun _ _ F=>zct F B c_places_beside) fun _ _ _ _ _ _ us hl=>by obtain ⟨_,_,_,_,rfl⟩:=zlr hl;rfl
 have c_have_hole:Fn l.prog w K mg base _ _ _ _:=d14.fn X G (fun _ _ F=>qj F B c_is_outermost c_reached) fun _ _ _ _ _ _ us hl=>by obtain ⟨_,_,_,rfl⟩:=qp hl;rfl
 have c_is_whole:Fn l.prog w K mg base _ _ _ _:=d15.fn X G (fun _ _ F=>zbf F B) fun _ _ _ _ _ _ us hl=>by obtain ⟨_,rfl⟩:=zgN hl;rfl
 have c_are_fields:Fn l.prog w K mg base _ _ _ _:=d16.fn X G (fun _ _ F=>kZ F B c_is_whole) fun _ _ _ _ _ _ us hl=>by obtain ⟨_,_,_,rfl⟩:=qp hl;rfl
 have c_hang_together:Fn l.prog w K mg base _ _ _ _:=d17.fn X G (fun _ _ F=>um F B c_reached) fun _ _ _ _ _ _ us hl=>by obtain ⟨_,_,_,rfl⟩:=qp hl;rfl
 have c_is_length:Fn l.prog w K mg base _ _ _ _:=d18.fn X G (fun _ _ F=>qi F B h_MOST_PLACES c_is_whole) fun _ _ _ _ _ _ us hl=>by obtain ⟨_,rfl⟩:=zgN hl;rfl
 have c_floor_of:Fn l.prog w K mg base _ _ _ _:=d19.fn X G (fun _ _ F=>zbg F B c_have_hole c_are_fields c_hang_together c_is_length) fun _ _ _ _ _ _ us hl=>by obtain ⟨_,_,_,rfl⟩:=qp hl;rfl
 exact zlp (zhe (st:=jm) lk c k) B c__law_floor c_corners c_sides c_floor_of c__law_beside
theorem walk{l:PySem.W.OpenLaw}{q:Program}{loose:List Str}{XP:(Str->Option Value)->Heap->Prop}{YP:World->Heap->Prop}{d:DefRec}{K:Params->PySem.W.Frag}(hn:l.most=some 63)(hdf:d.params.defaults=[])
  (hY:∀ (w:World) (h:Heap),YP w h->(K w.params).In h)
  (F:∀ (w:World) (mg:Str->Option Value) (fa:Addr) (h:Heap),(K w.params).In h->h.Ns mainGlobals mg->mg d.name=some (.ref fa)->
   ∃ fd:FuncData,(∀ (s:Shared) (u:Value),BindsTo s fd ⟨[u],[]⟩ [("_law_script",u)])/\∀ base:Heap,(K w.params).In base->base.Ns mainGlobals mg->FnOk l.prog w (K w.params) mg base CX0 5 fa fd ["_law_script"] (spV (K w.params) 1 jY)):
  PySem.W.WalkO q loose XP YP l.row.toRowW d [] (fun f vs=>PySem.call f vs):=
 L2.walk_ofB (n:=63) (k:=5) (x:="_law_script") (CX:=fun _=>CX0) (sp:=fun w=>spV (K w.params) 1 jY) hn (by decide) hdf ⟨rfl,by decide,by decide⟩ hY F (fun _ _ a ns hl hb ho hS=>zls ho hS (zgQ ns hl hb)) fun _ _ _ _ _ z=>z
end Cb
namespace PySem.W.Fast
def tw14282678148040155005:=0
def tw14079293545927891467:=0
def tw5861720672648629464:=0
def tw10219818921159876082:=0
def tw5115106843992400892:=0
def tw14332619094022004955:=0
def tw14529326326049544759:=0
def tw14253817831373948503:=0
def tw4972405763670414462:=0
def tw14198537749330390831:=0
def tw7539102834293720121:=0
def tw2388162417512131068:=0
def tw12381669540513586927:=0
def tw16905647057294353690:=0
def tw2006137359789479674:=0
def tw26005394185337302:=0
def tw953915562595399972:=0
def tw2997841597423146554:=0
def tw820129831793474686:=0
def tw7588106127648794952:=0
def tw14184541103435624609:=0
def tw16472189304628124793:=0
def tw7067509759336869357:=0
def tw10395969470220360896:=0
def tw73507018759413784:=0
def tw12600299586277815558:=0
def tw5863929829159458279:=0
def tw12326347055872779516:=0
def tw1729410943722575349:=0
def tw4518114343029856578:=0
def tw3983067265502321548:=0
def tw2791285294080776776:=0
def tw8640246601239036871:=0
def tw6336169715764459712:=0
def tw4778381530277180522:=0
def tw7279298523383027259:=0
def tw7859024358188194332:=0
def tw8726909228468007415:=0
def tw10197762893791049078:=0
def tw17579315147165121792:=0
def tw10735436964540614188:=0
def tw15751655181488713298:=0
def tw7989797785895279350:=0
def tw14551278850455966739:=0
def tw11794582173384546977:=0
def tw15788674021078511133:=0
def tw6674499981713538196:=0
def tw3668742801244210081:=0
def tw14930966531188807500:=0
def tw2989170305677029499:=0
def tw14646870358638631845:=0
def tw14180758590888554658:=0
def tw14467386967413424402:=0
def tw14093887137622329801:=0
def tw9808338786533327341:=0
def tw13744770927892124802:=0
def tw3569005422937670210:=0
def tw16829947447334486726:=0
def tw8699641857485112273:=0
def tw17195132543657393506:=0
def tw2518290325431538544:=0
def tw2443933820514405908:=0
def tw15213428283885365865:=0
def tw12458110420570009705:=0
def tw1242248872213819532:=0
def tw12276345473577149517:=0
def tw12195303330307544182:=0
def tw7493705171161616739:=0
def tw1298926148972151168:=0
def tw12754585184060921109:=0
def tw2698867970299236301:=0
def tw7545644913515012909:=0
def tw10948685096740402001:=0
def tw5863883589100748600:=0
def tw7995085447037715108:=0
def tw4475824115359806758:=0
def tw9136437073272222743:=0
def tw5029109089772328502:=0
def tw18396452555296029097:=0
def tw7839927631907525971:=0
end PySem.W.Fast
open PySem PySem.W PyProof.Rows
set_option maxRecDepth 100000 in
set_option maxHeartbeats 0 in
theorem PySem.Challenge.cw_crossbrace_k05_whole_counts_of_a_floor_holds : PySem.Challenge.rw_crossbrace_k05_whole_counts_of_a_floor.Holds := by
 w_on;o_law;k_head;(case hw=>w_witness2)
 k_fill
 refine Cb.walk (l:=PySem.Challenge.rw_crossbrace_k05_whole_counts_of_a_floor) rfl rfl (fun w h Y=>PySem.W.kIn_of Y) ?F
 case F=>
  intro w mg fa h KX G hmg
  refine' Cb.all_mk KX G hmg ?_ ?_ ?_ ?_ ?_ ?_ ?_ ?_ ?_ ?_ ?_ ?_ ?_ ?_ ?_ ?_ ?_ ?_ ?_ ?_ ?_ ?_ ?_ ?_ ?_ ?_ ?_ ?_ ?_ ?_ ?_ ?_
  try any_goals k_is
  try any_goals k_is
  try any_goals k_is
  try any_goals k_is
  any_goals exact .mk (by k_is) (by k_is) (by k_is) (by k_is)
