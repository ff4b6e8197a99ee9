import PyProof.Rows.All
import Wide.All
import OpenK.AllK
import Wide.FinOn
import Lean
import PyProof.EqAt
import PyProof.EqKinds
import PyProof.TupleCall
import KE.KDictList
import PyProof.P3Eq
import PyProof.NeData
import PyProof.P3In
import PyProof.FactsAll.NoneType
import PyProof.Draws
import PyProof.Rows.SetFrom
import PyProof.SetRoads
import PyProof.DictUpdate
import KE.KDictSum
import KE.KRevIter
import KE.KRevSl
import KE.KEqDict
import KE.KSortTup
import PyProof.Rows.SortRuns
import PyProof.Rows.SortKey
import PySem.Challenge.RW_crossbrace_k32_pulls_at_a_brace
set_option Elab.async false
set_option linter.all false
set_option maxRecDepth 100000
set_option maxHeartbeats 4000000
set_option hygiene false
local macro_rules
|`([6])=>`((by first|exact .inl rfl|exact .inr rfl))
|`([8])=>`((by omega))
|`([9])=>`((by decide))
|`([10])=>`((zB 0 rfl (pv 0)))
|`([11])=>`((model prog w))
|`([12])=>`((by simp))
|`([13])=>`((zD (c:=.bo)))
|`([14])=>`((model X.prog X.w))
|`([15])=>`((zB 1 rfl (pv 1)))
|`([16])=>`((a.toList++b.toList))
|`([17])=>`((Addr × Obj))
|`([18])=>`((zB 2 rfl (pv 2)))
|`([19])=>`((wpAny_pure ?_))
|`([20])=>`((fun _ _=>rfl))
|`([21])=>`((fC (.int 0)))
|`([22])=>`((zo w rs cs))
|`([23])=>`((fC (.int 2)))
|`([24])=>`((B.map PV.int))
|`([25])=>`((by decide +kernel))
|`([26])=>`((fC (.int 1)))
|`([27])=>`((zB 3 rfl (pv 3)))
|`([28])=>`((by with_unfolding_all rfl))
|`([29])=>`((zB 4 rfl (pv 4)))
|`([30])=>`((Same.refl _))
|`([31])=>`((hr.mono [9]))
|`([32])=>`((fun _ _ _ _=>(zP 0 rfl (zO (i:=0) (show (["run"]:List Str).Nodup by decide +kernel) rfl [6]))))
|`([33])=>`((.mv []))
|`([34])=>`((h1'.push { cls:=.type "set_iterator",data:=.fields #[.ref s.heap.objs.size,.int 0 0,.ref a,.int es.size 0,.int ep 0] }))
|`([35])=>`((.ListComp elt [⟨tg,iter,ifs,0⟩] scope pos))
|`([36])=>`((fun _ _ _ _=>(zP 0 rfl (zO (i:=0) (show (["_law_place","_law_some"]:List Str).Nodup by decide +kernel) rfl [6]))))
|`([37])=>`((fun z=>hz (beq_iff_eq.mp z)))
|`([38])=>`((.ref s.heap.objs.size))
|`([39])=>`((zK prog w))
|`([40])=>`((zI zT (zC (zA 0) (zC [21] zJ))))
|`([41])=>`((false,eval e X.env))
|`([42])=>`(((s.heap.push (seqObj "list" #[] 0)).update s.heap.objs.size (Obj.mapSeq (·++its.toArray))))
|`([43])=>`((SetTable.leap t.mask P.i P.perturb))
|`([44])=>`((zD (c:=.mv [])))
|`([45])=>`((zB 5 rfl (pv 5)))
|`([46])=>`(((Rps.upd mb _ nb1 (Rps.same s1 _ r1)).append (Rps.cons (.mkL zV (Rps.upd mb _ nbC rC)) (Rps.upd mb _ nb4 (Rps.same s1 _ r4)))))
|`([47])=>`((arrOf st))
|`([48])=>`((x == ("__debug__":Str)))
|`([49])=>`((yg X own js scope C s₀ H₀ fp))
|`([50])=>`((wpAny_of_eq (a:=Value.none) (by first | rfl | (simp only [firstArgMember];rfl)) ?_))
|`([51])=>`((fun _ _ _ _=>(VE.data [10] [33])))
|`([52])=>`(((zZ w h).filter fun p=>!decide (O p)))
|`([53])=>`((.lst (ds.map PV.int)))
|`([54])=>`((k == NameKind.free && env.scope.kind == .function && env.kindOf n == some .cell))
|`([55])=>`((·.setIfInBounds 0 (rawInt (zn w t (i+1):Nat))))
|`([56])=>`((arrOf st2))
|`([57])=>`((flV w h F))
|`([58])=>`((some (.int f)))
|`([59])=>`((s.heap.objs.size+1))
|`([60])=>`((arrOf st'))
|`([61])=>`((wpAny_newObj_type (wpAny_pure ⟨_,rfl,"set_iterator",_,⟨_,Jl _ rfl,rfl⟩,slot_si_next.lookup,?_⟩)))
|`([62])=>`((zC (zA 0) zJ))
|`([63])=>`((wpAny_pure ⟨_,rfl,wpAny_pure h⟩))
|`([64])=>`((xs.map PV.int))
|`([65])=>`((.str "needed"))
|`([66])=>`((backTo pos (starEach es X.env)))
|`([67])=>`((.ref a))
|`([68])=>`((fun z=>nomatch z))
|`([69])=>`((zC (fOp vIx (fOp vIx (zA 2) (zA 4)) [21]) (zC (fOp vIx (fOp vIx (zA 2) (zA 4)) [26]) (zC (zA 4) zJ))))
|`([70])=>`((beq_iff_eq.mpr hz))
|`([71])=>`(((items.toList.drop (sIx items.size 0 lo)).take (sIx items.size items.size hi - sIx items.size 0 lo)))
|`([72])=>`((SetTable.grown (es.size+1)))
|`([73])=>`((.lst ((v4 w rs cs).map zh)))
|`([74])=>`((Value.none,Value.none))
|`([75])=>`((thn (ha pos pins s σ H _ I h) fun us s1 ⟨vs,H1,I1,r1,q1⟩=>?_))
|`([76])=>`((.inl rfl))
|`([77])=>`((show (["_law_other","_law_bar","_law_number","_law_fields"]:List Str).Nodup by decide +kernel))
|`([78])=>`((.Call (.Name x p) (e::es) [] pos))
|`([79])=>`((s1.trans s2))
|`([80])=>`((hQ _ ⟨_,ho2,(Obj.cls_mapFields ..).trans ((Obj.cls_mapFields ..).trans hc),by rw [Obj.data_mapFields hd1];simp [rawInt]⟩ ((Heap.SameBut.update ..).trans (Heap.SameBut.update ..))))
|`([81])=>`((Or.inl rfl))
|`([82])=>`((cK ow.length js κ))
|`([83])=>`((zQ c__law_cell [31] rfl (zE [10] (zE zG [13]))))
|`([84])=>`((.ref it))
|`([85])=>`((upd H1 b (.lst ys')))
|`([86])=>`((zC (zA 1) (zC (zA 2) (zC (zA 4) zJ))))
|`([87])=>`((.int i))
|`([88])=>`((Int × Nat))
|`([89])=>`((wpAny_isInstance (T:="StopIteration") (b:=true) ⟨_,Jl _ rfl,rfl⟩ isSubtype_stop ?_))
set_option hygiene true
abbrev Ja:=@Option.bind_eq_some_iff
abbrev Jb:=@PySem.Heap.get?_push_of_some
abbrev Jc:=@Option.bind_some
abbrev Jd:=@List.getElem?_eq_getElem
abbrev Je:=@Bool.false_ne_true
abbrev Jf:=@List.mem_cons_of_mem
abbrev Jg:=@List.mem_cons_self
abbrev Jh:=@List.mem_singleton
abbrev Ji:=@PySem.Heap.lt_size
abbrev Jj:=@List.length_map
abbrev Jk:=@Array.length_toList
abbrev Jl:=@PySem.Heap.get?_push_size
abbrev Jm:=@List.mem_append_left
abbrev Jn:=@Nat.le_refl
abbrev Jo:=@List.length_append
abbrev Jp:=@List.getElem?_eq_some_iff
abbrev Jq:=@Option.some.inj
abbrev Jr:=@List.map_cons
abbrev Js:=@List.mem_append_right
abbrev Jt:=@List.mem_range
abbrev Ju:=@List.size_toArray
abbrev Jv:=@List.mem_map
abbrev Jw:=@Nat.ne_of_lt
abbrev Jx:=@Array.getElem?_toList
abbrev Jy:=@List.pairwise_iff_getElem
abbrev Jz:=@List.nodup_append
abbrev JA:=@PySem.F.plainAttrs_list
abbrev JB:=@Nat.lt_of_lt_of_le
abbrev JC:=@List.append_assoc
abbrev JD:=@List.length_cons
abbrev JE:=@List.pairwise_append
abbrev JF:=@List.nodup_cons
abbrev JG:=@Array.getElem?_eq_some_iff
abbrev JH:=@Nat.exists_eq_succ_of_ne_zero
abbrev JI:=@Nat.le_trans
abbrev JJ:=@Classical.byContradiction
abbrev JK:=@List.getElem?_map
abbrev JL:=@List.length_range
abbrev JM:=@Option.map_eq_some_iff
abbrev JN:=@List.mem_of_getElem?
abbrev JO:=@Bool.and_eq_true
abbrev JP:=@PyProof.Rows.KeyOrd.kle_trans
abbrev JQ:=@List.mem_append
abbrev JR:=@List.getElem?_append_left
abbrev JS:=@PySem.F.slot_list_append
abbrev JT:=@PySem.F.type_list_append
abbrev JU:=@Array.toList_append
abbrev JV:=@PySem.PassesOwn.never
abbrev JW:=@Int.emod_lt_of_pos
abbrev JX:=@PySem.Heap.get?_update_self
abbrev JY:=@Int.emod_nonneg
abbrev JZ:=@List.getElem_of_mem
abbrev Ka:=@List.nodup_iff_pairwise_ne
abbrev Kb:=@Nat.le_of_lt_succ
abbrev Kc:=@PyProof.Rows.KeyOrd.kle_of_klt
abbrev Kd:=@List.map_append
abbrev Ke:=@Array.size_push
abbrev Kf:=@List.getElem_mem
abbrev Kg:=@List.length_filter_le
abbrev Kh:=@List.getD_eq_getElem?_getD
abbrev Ki:=@List.mem_filter
abbrev Kj:=@Nat.ne_of_gt
abbrev Kk:=@List.append_nil
abbrev Kl:=@PyProof.Rows.KeyOrd.kle_refl
abbrev Km:=@Nat.zero_le
abbrev Kn:=@List.replicate_succ
abbrev Ko:=@List.take_append_drop
abbrev Kq:=@PySem.boot_len
abbrev Kr:=@PyProof.Rows.callWith_type1
abbrev Ks:=@List.zip_cons_cons
abbrev Kt:=@PySem.Obj.data_mapFields
abbrev Ku:=@List.length_take
abbrev Kv:=@List.getElem?_append_right
abbrev Kw:=@List.pairwise_map
abbrev Ky:=@Array.getElem?_eq_getElem
abbrev Kz:=@Int.mul_ediv_add_emod
abbrev KA:=@List.map_map
abbrev KB:=@List.pairwise_cons
abbrev KC:=@List.any_cons
abbrev KD:=@PySem.Heap.size_push
abbrev KF:=@List.flatten_cons
abbrev KG:=@Nat.lt_succ_of_lt
abbrev KH:=@List.getElem?_set
abbrev KI:=@Array.toList_push
abbrev KJ:=@Array.getD_eq_getD_getElem?
abbrev KKq:=@PySem.Heap.SameBut.update
abbrev KL:=@PySem.Heap.get?_update_other
abbrev KM:=@Nat.succ_pos
abbrev KN:=@List.append_eq_nil_iff
abbrev KO:=@Nat.lt_irrefl
abbrev KP:=@List.length_drop
abbrev KQ:=@PySem.Obj.isFreed_of_fields
abbrev KR:=@List.cons_lt_cons_iff
abbrev KS:=@PyProof.Rows.slot_tuple_getitem
abbrev KU:=@Array.getElem_toList
abbrev KW:=@List.cons.injEq
abbrev KY:=@List.length_eq_zero_iff
abbrev KZ:=@List.map_congr_left
abbrev Qa:=@PySem.Calls.spliced_cons
abbrev Qb:=@List.filter_append
abbrev Qc:=@Nat.zero_add
abbrev Qd:=@List.mem_iff_getElem?
abbrev Qe:=@List.find?_cons
abbrev Qf:=@List.getElem?_eq_none
abbrev Qg:=@Nat.not_lt_zero
abbrev Qh:=@PySem.F.slot_tuple_iterator_next
abbrev Qi:=@List.ext_getElem?
abbrev Qj:=@List.drop_eq_getElem_cons
abbrev Qk:=@List.mem_of_mem_drop
abbrev Ql:=@PySem.Around.under_plainId
abbrev Qm:=@Array.toList_reverse
abbrev Qn:=@PySem.AutoSeq1.wpAny_loadPart'
abbrev Qo:=@List.filter_cons
abbrev Qp:=@PySem.mem_of_lookup
abbrev Qq:=@Nat.succ_eq_add_one
abbrev Qr:=@Nat.add_sub_cancel_left
abbrev Qs:=@Nat.lt_of_le_of_lt
abbrev Qt:=@Nat.mod_lt
abbrev Qu:=@PySem.Calls.callWith_builtin
abbrev Qw:=@Nat.lt_of_succ_lt_succ
abbrev Qx:=@List.not_lt
abbrev Qy:=@Array.size_append
abbrev Qz:=@List.length_singleton
abbrev QA:=@List.Perm.append_left
abbrev QB:=@Nat.le_of_not_lt
abbrev QC:=@Bool.and_eq_true_iff
abbrev QD:=@Int.ediv_emod_unique
abbrev QE:=@Nat.lt_succ_self
abbrev QF:=@List.mem_of_mem_take
abbrev QG:=@List.all_eq_true
abbrev QH:=@Nat.le_add_right
abbrev QI:=@Array.toList_setIfInBounds
abbrev QJ:=@List.sum_cons
abbrev QK:=@List.zipIdx_map_fst
abbrev QL:=@List.length_zip
namespace L2
open PySem PySem.Spec PyProof.Rows
noncomputable abbrev Key:=Sum Int Str
noncomputable def ui:Key->Value->Bool
 | .inl k,v=>Value.isInt k v
 | .inr x,v=>Value.isStrOf x v
noncomputable def zmG(w:World):Key->Int
 | .inl k=>hashInt k
 | .inr x=>hashStr w x
theorem zU:∀ {k:Key} {v:Value},ui k v=true->(∃ i t,k=Sum.inl i/\v=Value.int i t)∨(∃ x t,k=Sum.inr x/\v=Value.str x t)
 | .inl i,v,h=>by
  obtain ⟨t,e⟩:=Value.isInt_shape (k:=i) (v:=v) h
  exact .inl ⟨i,t,rfl,e⟩
 | .inr x,v,h=>by
  obtain ⟨t,e⟩:=Value.isStrOf_shape (x:=x) (v:=v) h
  exact .inr ⟨x,t,rfl,e⟩
theorem zfK(i:Int)(t:Tok):ui (.inl i) (.int i t)=true:=by simp [ui,Value.isInt]
theorem zfJ(x:Str)(t:Tok):ui (.inr x) (.str x t)=true:=by simp [ui,Value.isStrOf]
theorem zlw(a b:Int):decide ((Sum.inl a:Key)=Sum.inl b)=(a == b):=by
 by_cases e:a=b
 ·subst e;simp
 ·have h:¬ (Sum.inl a:Key)=Sum.inl b:=fun q=>e (Sum.inl.inj q)
  rw [decide_eq_false h]
  exact (beq_eq_false_iff_ne.mpr e).symm
theorem zls(a b:Str):decide ((Sum.inr a:Key)=Sum.inr b)=decide (a=b):=by
 by_cases e:a=b
 ·subst e;simp
 ·have h:¬ (Sum.inr a:Key)=Sum.inr b:=fun q=>e (Sum.inr.inj q)
  rw [decide_eq_false h,decide_eq_false e]
theorem zlv(a:Int)(b:Str):decide ((Sum.inl a:Key)=Sum.inr b)=false:=decide_eq_false (fun q=>nomatch q)
theorem zlu(a:Str)(b:Int):decide ((Sum.inr a:Key)=Sum.inl b)=false:=decide_eq_false (fun q=>nomatch q)
noncomputable def zK(prog:Program)(w:World):PySem.KeyKind prog w Key where
 is:=ui
 hash:=zmG w
 inj:=fun v a b ha hb=>by
  rcases zU ha with ⟨i,t,rfl,rfl⟩ | ⟨x,t,rfl,rfl⟩
  ·rcases zU hb with ⟨j,u,rfl,e⟩ | ⟨y,u,rfl,e⟩
   ·injection e with e1 _;rw [e1]
   ·exact nomatch e
  ·rcases zU hb with ⟨j,u,rfl,e⟩ | ⟨y,u,rfl,e⟩
   ·exact nomatch e
   ·injection e with e1 _;rw [e1]
 byValue:=fun k v h=>by
  rcases zU h with ⟨i,t,rfl,rfl⟩ | ⟨x,t,rfl,rfl⟩<;>rfl
 pyHash:=fun hv h=>by
  rcases zU hv with ⟨i,t,rfl,rfl⟩ | ⟨x,t,rfl,rfl⟩
  ·exact wpAny_pyHash_int h
  ·exact wpAny_pyHash_str h
 eqBool:=fun hu hv h=>by
  rcases zU hu with ⟨i,t,rfl,rfl⟩ | ⟨x,t,rfl,rfl⟩
  ·rcases zU hv with ⟨j,u,rfl,rfl⟩ | ⟨y,u,rfl,rfl⟩
   ·rw [zlw] at h;exact wpAny_eqBool_int h
   ·rw [zlv] at h;exact SeqAt.EqAt.int_str i t y u _ _ _ _ h
  ·rcases zU hv with ⟨j,u,rfl,rfl⟩ | ⟨y,u,rfl,rfl⟩
   ·rw [zlu] at h;exact SeqAt.EqAt.str_int x t j u _ _ _ _ h
   ·rw [zls] at h;exact wpAny_eqBool_str h
 «strs»:=fun k x t v h=>by
  rcases zU h with ⟨i,u,rfl,e⟩ | ⟨y,u,rfl,e⟩
  ·exact nomatch e
  ·injection e with e1 _
   subst e1
   cases v<;>rfl
theorem zdL(prog:Program)(w:World)(k:Key)(v:Value):[39].is k v=ui k v:=rfl
theorem zcF(prog:Program)(w:World)(i:Int)(t:Tok):[39].is (.inl i) (.int i t)=true:=zfK i t
theorem zcE(prog:Program)(w:World)(x:Str)(t:Tok):[39].is (.inr x) (.str x t)=true:=zfJ x t
inductive V where
 | non | bl (b:Bool) | int (i:Int) | str (x:Str) | byt (b:Array UInt8) | flt (b:UInt64) | ref (a:Addr) | ty (n:String)
 deriving DecidableEq
noncomputable def RelV:V->Value->Prop
 | .non,u=>u=Value.none
 | .bl b,u=>u=Value.bool b
 | .int i,u=>∃ t,u=Value.int i t
 | .str x,u=>∃ t,u=Value.str x t
 | .byt b,u=>∃ t,u=Value.bytes b t
 | .flt b,u=>∃ t,u=Value.float b t
 | .ref a,u=>u=Value.ref a
 | .ty n,u=>u=Value.type n
noncomputable abbrev Vals:List V->List Value->Prop:=Paired RelV
theorem Vals.length{xs:List V}{us:List Value}(r:Vals xs us):xs.length=us.length:=Paired.length r
theorem Vals.get:∀ {xs:List V} {us:List Value} {i:Nat} {x:V},Vals xs us->xs[i]?=some x->∃ u,us[i]?=some u/\RelV x u
 | _,_,_,_,.nil,e=>by simp at e
 | _,_,0,_,.cons r _,e=>by simp at e;subst e;exact ⟨_,rfl,r⟩
 | _,_,i+1,x,.cons _ t,e=>by
  obtain ⟨u,h1,h2⟩:=Vals.get (i:=i) (x:=x) t (by simpa using e)
  exact ⟨u,by simpa using h1,h2⟩
theorem Vals.set{x:V}{u:Value}(r:RelV x u):∀ {xs:List V} {us:List Value} (i:Nat),Vals xs us->Vals (xs.set i x) (us.set i u)
 | _,_,_,.nil=>.nil
 | _,_,0,.cons _ t=>.cons r t
 | _,_,i+1,.cons q t=>.cons q (Vals.set r i t)
theorem Vals.append:∀ {xs ys:List V} {us ws:List Value},Vals xs us->Vals ys ws->Vals (xs++ys) (us++ws)
 | _,_,_,_,.nil,s=>s
 | _,_,_,_,.cons r t,s=>.cons r (Vals.append t s)
theorem Vals.take:∀ {xs:List V} {us:List Value} (n:Nat),Vals xs us->Vals (xs.take n) (us.take n)
 | _,_,0,_=>.nil
 | _,_,_+1,.nil=>.nil
 | _,_,n+1,.cons r t=>.cons r (Vals.take n t)
theorem Vals.drop:∀ {xs:List V} {us:List Value} (n:Nat),Vals xs us->Vals (xs.drop n) (us.drop n)
 | _,_,0,r=>r
 | _,_,_+1,.nil=>.nil
 | _,_,n+1,.cons _ t=>Vals.drop n t
noncomputable def RelO:Option V->Option Value->Prop
 | some v,some u=>RelV v u
 | none,none=>True
 | _,_=>False
noncomputable def KV{κ:Type}:List (κ × V)->List (κ × Value)->Prop:=Paired fun (p:κ × V) (q:κ × Value)=>p.1=q.1/\RelV p.2 q.2
noncomputable def kV:Key->V
 | .inl i=>.int i
 | .inr x=>.str x
inductive HO where
 | lst (xs : List V)
 | tup (xs : List V)
 | dK (kvs : List (Key × V)) | dT (kvs : List (List Key × V))
 | set (S : Int → Bool) (n : Nat)
 | ins (C dx : Addr) (fs : List (Str × V))
 | own (x : Addr)
 | xd (fs : List (Str × V))
 | met (f x : Addr)
 | rng (lo hi : Int)
 | frz (o : Obj) (u : HO)
 | tbl (ps : Array Value)
 | ext (φ : Heap → Prop)
noncomputable abbrev Hp:=Addr->Option HO
noncomputable def upd(H:Hp)(a:Addr)(o:HO):Hp:=fun b=>if b=a then some o else H b
theorem zV{H:Hp}{a:Addr}{o:HO}:upd H a o a=some o:=by unfold upd;rw [if_pos rfl]
theorem zb{H:Hp}{a b:Addr}{o:HO}(h:b≠a):upd H a o b=H b:=by unfold upd;rw [if_neg h]
theorem zmB{H:Hp}{a b:Addr}{o u:HO}(h:H a=some o)(h':H b=some u)(d:o≠u):a≠b:=by
 intro e;subst e;rw [h] at h';exact d (Jq h')
theorem yG{H:Hp}{a b:Addr}{o:HO}(h:H a=some o)(h':H b=none):a≠b:=by
 intro e;subst e;rw [h] at h';cases h'
section
variable (P:Program) (w:World)
noncomputable def ObjOk(H:Hp)(h:Heap)(a:Addr):HO->Prop
 | .lst xs=>xs.length≤sizeLine/\∃ (its:List Value) (n:Nat),Vals xs its/\h.get? a=some { cls:=.type "list",data:=.seq its.toArray n }
 | .tup xs=>xs.length≤sizeLine/\∃ its:List Value,Vals xs its/\IsTup h a its.toArray
 | .dK kvs=>kvs.length≤sizeLine/\(a == sysModules)=false/\∃ vs,KV kvs vs/\h.DictOf (zK P w) a vs
 | .dT kvs=>kvs.length≤sizeLine/\(a == sysModules)=false/\∃ xs:List (List Key × Addr × Value),
   Paired (fun (p:List Key × V) (q:List Key × Addr × Value)=>p.1=q.1/\H q.2.1=some (.tup (p.1.map kV))/\RelV p.2 q.2.2) kvs xs/\
   ∃ o es ep,h.get? a=some o/\o.ExactDict/\o.data=.dict es ep/\es.toList=xs.map (entryOfKey (tupleKind (zK P w)))/\(xs.map (·.1)).Nodup
 | .set S n=>h.SetOf (intKind P w) a S n
 | .ins C dx fs=>H dx=some (.own a)/\fs.length≤1000/\dx≠a/\h.get? a=some (PySem.W.instObj C dx)/\
   ∃ mA,h.Ns1 dx mA/\(∀ f,RelO (fs.lookup f) (mA f))/\PySem.Within mA (fs.map (·.1))
 | .own _=>∃ o,h.get? a=some o
 | .xd fs=>∃ mA,h.Ns1 a mA/\∀ f,RelO (fs.lookup f) (mA f)
 | .rng lo hi=>∃ t u v,h.get? a=some { cls:=.type "range",data:=.fields #[.int lo t,.int hi u,.int 1 v] }
 | .frz o u=>h.get? a=some o/\ObjOk H h a u
 | .tbl ps=>h.get? a=some { cls:=.none,data:=.fields ps }
 | .met f x=>h.get? a=some (PySem.W.methodObj (.ref f) (.ref x))
 | .ext φ=>φ h/\(∃ o,h.get? a=some o)/\∀ h1 h2:Heap,φ h1->(∀ o,h1.get? a=some o->h2.get? a=some o)->φ h2
noncomputable def HOk(H:Hp)(h:Heap):Prop:=∀ a o,H a=some o->ObjOk P w H h a o
end
section
variable {P:Program} {w:World} {H H':Hp} {h h':Heap} {a:Addr} {o:HO}
theorem ObjOk.lt(x:ObjOk P w H h a o):a<h.objs.size:=by
 cases o with
 | lst xs=>obtain ⟨_,_,_,_,e⟩:=x;exact Ji e
 | tup xs=>obtain ⟨_,_,_,p⟩:=x;exact p.lt
 | dK kvs=>obtain ⟨_,_,_,_,o,_,_,e,_⟩:=x;exact Ji e
 | dT kvs=>obtain ⟨_,_,_,_,o,_,_,e,_⟩:=x;exact Ji e
 | set S n=>obtain ⟨o,_,_,_,e,_⟩:=x;exact Ji e
 | ins C dx fs=>obtain ⟨_,_,_,e,_⟩:=x;exact Ji e
 | own y=>obtain ⟨_,e⟩:=x;exact Ji e
 | xd fs=>obtain ⟨_,⟨_,_,_,e,_⟩,_⟩:=x;exact Ji e
 | rng lo hi=>obtain ⟨_,_,_,e⟩:=x;exact Ji e
 | frz ob u=>obtain ⟨e,_⟩:=x;exact Ji e
 | tbl ps=>exact Ji (show h.get? a=some _ from x)
 | met f y=>exact Ji (show h.get? a=some _ from x)
 | ext φ=>obtain ⟨_,⟨_,e⟩,_⟩:=x;exact Ji e
theorem Paired.mapP{α β:Type}{F G:α->β->Prop}:∀ {l₁:List α} {l₂:List β},Paired F l₁ l₂->(∀ a b,F a b->G a b)->Paired G l₁ l₂
 | _,_,.nil,_=>.nil
 | _,_,.cons r t,f=>.cons (f _ _ r) (Paired.mapP t f)
theorem ObjOk.stay(x:ObjOk P w H h a o)(k:∀ b u,(b=a∨H b=some (.own a))->h.get? b=some u->h'.get? b=some u)
  (ho:∀ b,H b=some (.own a)->H' b=some (.own a))(ht:∀ b xs,H b=some (.tup xs)->H' b=some (.tup xs)):ObjOk P w H' h' a o:=by
 induction o with
 | lst xs=>obtain ⟨z,its,n,r,e⟩:=x;exact ⟨z,its,n,r,k _ _ [76] e⟩
 | tup xs=>obtain ⟨z,its,r,ob,e,c⟩:=x;exact ⟨z,its,r,ob,k _ _ [76] e,c⟩
 | dK kvs=>obtain ⟨z,y,vs,r,ob,es,ep,e,c⟩:=x;exact ⟨z,y,vs,r,ob,es,ep,k _ _ [76] e,c⟩
 | dT kvs=>
  obtain ⟨z,y,xs,r,ob,es,ep,e,c⟩:=x
  exact ⟨z,y,xs,Paired.mapP r fun p q z=>⟨z.1,ht _ _ z.2.1,z.2.2⟩,ob,es,ep,k _ _ [76] e,c⟩
 | set S n=>obtain ⟨ob,es,ep,t,e,c⟩:=x;exact ⟨ob,es,ep,t,k _ _ [76] e,c⟩
 | ins C dx fs=>
  obtain ⟨d,z,ne,e,mA,⟨od,es,ep,e2,c⟩,r⟩:=x
  exact ⟨ho _ d,z,ne,k _ _ [76] e,mA,⟨od,es,ep,k _ _ (.inr d) e2,c⟩,r⟩
 | own y=>obtain ⟨ob,e⟩:=x;exact ⟨ob,k _ _ [76] e⟩
 | xd fs=>obtain ⟨mA,⟨od,es,ep,e,c⟩,r⟩:=x;exact ⟨mA,⟨od,es,ep,k _ _ [76] e,c⟩,r⟩
 | rng lo hi=>obtain ⟨t,u,v,e⟩:=x;exact ⟨t,u,v,k _ _ [76] e⟩
 | frz ob u ih=>obtain ⟨e,q⟩:=x;exact ⟨k _ _ [76] e,ih q⟩
 | tbl ps=>
  have e:h.get? a=some { cls:=.none,data:=.fields ps }:=x
  show h'.get? a=some { cls:=.none,data:=.fields ps }
  exact k a _ [76] e
 | met f y=>
  have e:h.get? a=some (PySem.W.methodObj (.ref f) (.ref y)):=x
  show h'.get? a=some (PySem.W.methodObj (.ref f) (.ref y))
  exact k a _ [76] e
 | ext φ=>obtain ⟨p,⟨o,e⟩,st⟩:=x;exact ⟨st _ _ p fun o q=>k _ _ [76] q,⟨o,k _ _ [76] e⟩,st⟩
theorem HOk.lt(x:HOk P w H h)(e:H a=some o):a<h.objs.size:=(x a o e).lt
theorem HOk.fresh(x:HOk P w H h)(e:h.objs.size≤a):H a=none:=by
 cases q:H a with
 | none=>rfl
 | some u=>exact absurd (JB (x.lt q) e) (KO _)
theorem HOk.kept(x:HOk P w H h)(k:∀ b u,h.get? b=some u->h'.get? b=some u):HOk P w H h':=fun a o e=>
 (x a o e).stay (fun b u _ q=>k b u q) (fun _ q=>q) fun _ _ q=>q
theorem HOk.laid(x:HOk P w H h)(k:∀ b u,h.get? b=some u->h'.get? b=some u)(hp:h.objs.size≤a)(new:ObjOk P w (upd H a o) h' a o):HOk P w (upd H a o) h':=fun b u e=>by
 have hn:=x.fresh hp
 by_cases hb:b=a
 ·subst hb;rw [zV] at e;cases e;exact new
 ·rw [zb hb] at e
  exact (x b u e).stay (fun c v _ q=>k c v q) (fun c q=>by rw [zb (yG q hn)];exact q) fun c xs q=>by rw [zb (yG q hn)];exact q
end
noncomputable def Rd(H:Hp)(a:Addr)(u:HO):Prop:=H a=some u∨∃ o,H a=some (.frz o u)
theorem Rd.ok{P:Program}{w:World}{H:Hp}{h:Heap}{a:Addr}{u:HO}(r:Rd H a u)(x:HOk P w H h):ObjOk P w H h a u:=by
 rcases r with r | ⟨o,r⟩
 ·exact x a u r
 ·obtain ⟨_,q⟩:=x a _ r
  exact q
noncomputable def Mut:Option HO->Prop
 | some (.lst _)=>True
 | some (.dK _)=>True
 | some (.dT _)=>True
 | some (.set _ _)=>True
 | some (.ins _ _ _)=>True
 | some (.ext _)=>True
 | _=>False
section
variable {P:Program} {w:World} {H:Hp} {h h':Heap} {x e:Addr} {o':HO}
theorem HOk.write(ok:HOk P w H h)(mu:Mut (H x))(he:e=x∨H e=some (.own x))(k:∀ b u,b≠e->h.get? b=some u->h'.get? b=some u)(heo:∃ u,h'.get? e=some u)
  (new:ObjOk P w (upd H x o') h' x o'):HOk P w (upd H x o') h':=fun b u q=>by
 have nown:∀ c y,H c=some (.own y)->c≠x:=fun c y r z=>by subst z;rw [r] at mu;exact mu
 have ntup:∀ c xs,H c=some (.tup xs)->c≠x:=fun c xs r z=>by subst z;rw [r] at mu;exact mu
 by_cases hb:b=x
 ·subst hb;rw [zV] at q;cases q;exact new
 ·rw [zb hb] at q
  by_cases hbe:b=e
  ·have q':H b=some (.own x):=by
    rcases he with z | z
    ·exact absurd (hbe.trans z) hb
    ·rw [hbe];exact z
   rw [q] at q';cases q'
   obtain ⟨v,hv⟩:=heo
   exact ⟨v,by rw [hbe];exact hv⟩
  ·refine (ok b u q).stay (fun c v hc r=>k c v ?_ r) (fun c r=>by rw [zb (nown c b r)];exact r) fun c xs r=>by rw [zb (ntup c xs r)];exact r
   rcases hc with rfl | hc
   ·exact hbe
   ·rintro rfl
    rcases he with z | z
    ·exact nown c b hc z
    ·rw [hc] at z;cases z;exact hb rfl
end
structure Un (fs ex:List Addr) (H H':Hp) (h h':Heap):Prop where
 keep:∀ b o,h.get? b=some o->H b=none->b ∉ fs->b ∉ ex->h'.get? b=some o
 slot:∀ b o,h.get? b=some o->H b=none->b ∈ fs->b ∉ ex->∃ sl,h'.get? b=some { o with slots:=sl }
 free:∀ b o,h.get? b=some o->H b=none->b ∉ ex->H' b=none
 there:∀ b o,h.get? b=some o->b ∉ ex->∃ o',h'.get? b=some o'
 tups:∀ b xs,H b=some (.tup xs)->H' b=some (.tup xs)
 frzs:∀ b o u,H b=some (.frz o u)->H' b=some (.frz o u)
 tbls:∀ b ps,H b=some (.tbl ps)->∃ more,H' b=some (.tbl (ps++more))
section
variable {fs fs' ex ex':List Addr} {H H1 H2:Hp} {h h1 h2 h':Heap} {a x e:Addr} {o:HO}
theorem Un.any(u:Un fs ex H H1 h h1){b:Addr}{ob:Obj}(q:h.get? b=some ob)(n:H b=none)(hx:b ∉ ex):∃ sl,h1.get? b=some { ob with slots:=sl }:=by
 by_cases hb:b ∈ fs
 ·exact u.slot b ob q n hb hx
 ·exact ⟨ob.slots,u.keep b ob q n hb hx⟩
theorem Un.kept(k:∀ b u,h.get? b=some u->h'.get? b=some u):Un fs ex H H h h':=
 ⟨fun b ob q _ _ _=>k b ob q,fun b ob q _ _ _=>⟨ob.slots,k b ob q⟩,fun _ _ _ n _=>n,fun b ob q _=>⟨ob,k b ob q⟩,fun _ _ q=>q,fun _ _ _ q=>q,fun _ ps q=>⟨#[],by rw [q];simp⟩⟩
theorem Un.refl:Un fs ex H H h h:=Un.kept fun _ _ q=>q
theorem Un.laid(k:∀ b u,h.get? b=some u->h'.get? b=some u)(hp:h.objs.size≤a)(hn:H a=none):Un fs ex H (upd H a o) h h' where
 keep:=fun b u q _ _ _=>k b u q
 slot:=fun b u q _ _ _=>⟨u.slots,k b u q⟩
 free:=fun b u q n _=>by rw [zb (Jw (JB (Ji q) hp))];exact n
 there:=fun b u q _=>⟨u,k b u q⟩
 tups:=fun b xs q=>by rw [zb (yG q hn)];exact q
 frzs:=fun b u xs q=>by rw [zb (yG q hn)];exact q
 tbls:=fun b ps q=>⟨#[],by rw [zb (yG q hn),q];simp⟩
theorem Un.write(mu:Mut (H x))(he:e=x∨H e=some (.own x))(k:∀ b u,b≠e->h.get? b=some u->h'.get? b=some u)(heo:∃ u,h'.get? e=some u):Un fs ex H (upd H x o) h h':=by
 have hx:∀ b,H b=none->b≠x:=fun b n z=>by subst z;rw [n] at mu;exact mu
 have hb:∀ b,H b=none->b≠e:=fun b n z=>by
  subst z
  rcases he with r | r
  ·exact hx b n r
  ·rw [n] at r;cases r
 have hm:∀ b u,H b=some u->¬ Mut (some u)->b≠x:=fun b u q nm z=>by subst z;rw [q] at mu;exact nm mu
 refine ⟨fun b u q n _ _=>k b u (hb b n) q,fun b u q n _ _=>⟨u.slots,k b u (hb b n) q⟩,fun b u q n _=>by rw [zb (hx b n)];exact n,fun b u q _=>?_,
  fun b xs q=>by rw [zb (hm b _ q fun z=>z)];exact q,fun b u xs q=>by rw [zb (hm b _ q fun z=>z)];exact q,fun b ps q=>⟨#[],by rw [zb (hm b _ q fun z=>z),q];simp⟩⟩
 by_cases hbe:b=e
 ·subst hbe;exact heo
 ·exact ⟨u,k b u hbe q⟩
end
noncomputable def trk(h:Heap)(H:Hp):List Addr:=(List.range h.objs.size).filter fun a=>(H a).isSome
noncomputable def zbB(h:Heap)(H:Hp):Heap:=PySem.W.hideAll h (trk h H)
theorem zfN(h:Heap)(H:Hp):(zbB h H).objs.size=h.objs.size:=PySem.W.hideAll_size _ _
theorem zhM{h:Heap}{H:Hp}{b:Addr}{o:Obj}(e:h.get? b=some o)(n:H b=none):(zbB h H).get? b=some o:=
 PySem.W.hideAll_get _ e fun hm=>by
  have q:(H b).isSome=true:=(Ki.mp hm).2
  rw [n] at q;simp at q
theorem zjt{h:Heap}{H:Hp}{b:Addr}{o:Obj}(e:(zbB h H).get? b=some o):h.get? b=some o/\H b=none:=by
 have e':h.get? b=some o:=PySem.W.of_hideAll (trk h H) e
 refine ⟨e',?_⟩
 cases q:H b with
 | none=>rfl
 | some x=>
  have hm:b ∈ trk h H:=List.mem_filter.mpr ⟨List.mem_range.mpr (Heap.lt_size e'),by simp [q]⟩
  have z:(zbB h H).get? b=none:=PySem.W.hideAll_none (trk h H) hm
  rw [z] at e;cases e
noncomputable def zfb(g h:Heap)(L:Addr):List [17]:=(List.range h.objs.size).filterMap fun a=>if a=L∨(g.get? a).isSome=true then none else (h.get? a).map fun o=>(a,o)
theorem zcH{g h:Heap}{L a:Addr}{o:Obj}(h1:a≠L)(h2:g.get? a=none)(h3:h.get? a=some o):(a,o) ∈ zfb g h L:=
 List.mem_filterMap.mpr ⟨a,List.mem_range.mpr (Heap.lt_size h3),by simp [h1,h2,h3]⟩
noncomputable def rest(g h:Heap)(L d:Addr):List [17]:=(zfb g h L).filter fun p=>decide (p.1≠d)
theorem mem_rest{g h:Heap}{L d a:Addr}{o:Obj}(h1:a≠L)(h2:g.get? a=none)(h3:h.get? a=some o)(h4:a≠d):(a,o) ∈ rest g h L d:=
 Ki.mpr ⟨zcH h1 h2 h3,decide_eq_true h4⟩
structure Mod (K:PySem.W.Frag) (mg:Str->Option Value) (base:Heap):Prop where
 kin:K.In base
 glob:base.Ns mainGlobals mg
 blt:∃ mb,base.Ns builtinsNs mb/\∀ x:Str,x≠"__name__"->mb x=bootBuiltins x
 nolimit:base.NoLimit
structure Cx where
 prog:Program
 w:World
 K:PySem.W.Frag
 mg:Str->Option Value
 base:Heap
 A:Around
 N:List Str
 s₀:Shared
 H₀:Hp
 env:Env
 outer:List Env
 stack:List Env
 ex:List Addr
 fn:Str->Bool
 calm:Bool
 pn:List [17]
 xe:Value->Shared->Prop
noncomputable def frs(l:List Env):List Addr:=l.filterMap (·.frame)
noncomputable abbrev Cx.fs(X:Cx):List Addr:=frs X.outer
noncomputable def Vis(sc:Scope)(x:Str):Prop:=sc.names.lookup x=some .local∨sc.names.lookup x=some .cell∨sc.names.lookup x=some .free
noncomputable def Loc(sc:Scope)(x:Str):Prop:=sc.names.lookup x=some .local∨sc.names.lookup x=some .cell
noncomputable def zol(env:Env)(h:Heap)(m:Str->Option Value)(x:Str)(u:Value):Prop:=
 (env.kindOf x=some .local/\m x=some u)∨((env.kindOf x=some .cell∨env.kindOf x=some .free)/\∃ c,env.cells.lookup x=some c/\h.IsCell c (some u))
structure Cx.Ok (X:Cx):Prop where
 mod:Mod X.K X.mg X.base
 kind:X.env.scope.kind=.function
 glob:X.env.globals=mainGlobals
 blt:X.env.builtins=builtinsNs
 above:X.s₀.heap.objs.size≤X.env.locals
 inj:∀ x y c,X.env.cells.lookup x=some c->X.env.cells.lookup y=some c->x=y
 has:∀ x,(X.env.kindOf x=some .cell∨X.env.kindOf x=some .free)->∃ c,X.env.cells.lookup x=some c
 cab:∀ x c,X.fn x=true->X.env.cells.lookup x=some c->X.s₀.heap.objs.size≤c
 hd:X.calm=true->X.A.handled=none
 frames:X.A.frames=some X.stack
 stk:X.stack=X.outer∨(X.stack=X.env::X.outer/\X.env.frame=some X.env.locals)
 exf:∀ b ∈ X.ex,b≠X.env.locals/\∀ x c,X.env.cells.lookup x=some c->c≠b
 bs:∀ b o,X.base.get? b=some o->X.s₀.heap.get? b=some o/\X.H₀ b=none
 bsz:X.base.objs.size≤X.s₀.heap.objs.size
 noex:∀ b o,X.base.get? b=some o->b ∉ X.ex
 exfs:∀ b ∈ X.ex,b ∉ X.fs
 funs:X.s₀.heap.FunFrames X.base X.outer
 frf:∀ b ∈ X.fs,X.H₀ b=none
structure Inv (X:Cx) (pins:List [17]) (σ:List (Option V)) (H:Hp) (s:Shared):Prop where
 ok:X.Ok
 os:s.os=X.s₀.os
 bare:AllBare s.gens
 base:Un X.fs X.ex X.H₀ H X.s₀.heap s.heap
 loc:∃ m,s.heap.Ns X.env.locals m/\∀ (i:Nat) (x:Str) (v:V),X.N[i]?=some x->σ[i]?=some (some v)->Vis X.env.scope x->∃ u,RelV v u/\zol X.env s.heap m x u
 cell:∀ x c,X.env.cells.lookup x=some c->∃ v,s.heap.IsCell c v
 free:H X.env.locals=none
 freeC:∀ x c,X.env.cells.lookup x=some c->H c=none
 pin:∀ p ∈ X.pn++pins,s.heap.get? p.1=some p.2/\H p.1=none/\p.1≠X.env.locals/\p.1 ∉ X.fs/\∀ v,p.2.data≠.cell v
 hok:HOk X.prog X.w H s.heap
 len:σ.length=X.N.length
section
variable {X:Cx} {pins:List [17]} {σ:List (Option V)} {H H':Hp} {s:Shared} {h':Heap}
theorem Cx.Ok.nofr(ok:X.Ok){b:Addr}{o:Obj}(e:X.base.get? b=some o):b ∉ X.fs:=fun hb=>by
 have:=(ok.funs.mem hb).1
 rw [e] at this;cases this
theorem Inv.bs(I:Inv X pins σ H s):∀ b o,X.base.get? b=some o->s.heap.get? b=some o/\H b=none:=fun b o e=>
 ⟨I.base.keep b o (I.ok.bs b o e).1 (I.ok.bs b o e).2 (I.ok.nofr e) (I.ok.noex b o e),I.base.free b o (I.ok.bs b o e).1 (I.ok.bs b o e).2 (I.ok.noex b o e)⟩
theorem Inv.bk(I:Inv X pins σ H s):∀ b o,X.base.get? b=some o->s.heap.get? b=some o:=fun b o e=>(I.bs b o e).1
theorem Inv.mod(I:Inv X pins σ H s):Mod X.K X.mg X.base:=I.ok.mod
theorem Inv.kIn(I:Inv X pins σ H s):X.K.In s.heap:=I.ok.mod.kin.keeps I.bk
theorem Inv.lt(I:Inv X pins σ H s):X.env.locals<s.heap.objs.size:=let ⟨_,hn,_⟩:=I.loc;hn.lt
theorem Inv.sz(I:Inv X pins σ H s):X.s₀.heap.objs.size≤s.heap.objs.size:=JI I.ok.above (Nat.le_of_lt I.lt)
theorem Inv.nofs(I:Inv X pins σ H s){a:Addr}(h:s.heap.objs.size≤a):a ∉ X.fs:=fun hb=>by
 obtain ⟨_,o,ho,_⟩:=I.ok.funs.mem hb
 exact absurd (JB (Ji ho) (JI I.sz h)) (KO _)
theorem Inv.cne(I:Inv X pins σ H s):∀ x c,X.env.cells.lookup x=some c->c≠X.env.locals:=fun x c e z=>by
 obtain ⟨v,o,ho,hd⟩:=I.cell x c e
 obtain ⟨m,⟨o',es,ep,ho',hd',_⟩,_⟩:=I.loc
 rw [z,ho'] at ho;cases ho;rw [hd'] at hd;cases hd
theorem Inv.funs(I:Inv X pins σ H s):s.heap.FunFrames X.base X.outer:=by
 have all:∀ (l:List Env),(∀ b ∈ frs l,b ∈ X.fs)->X.s₀.heap.FunFrames X.base l->s.heap.FunFrames X.base l:=by
  intro l
  induction l with
  | nil=>intro _ _;trivial
  | cons env r ih=>
   intro hs hl
   obtain ⟨hk,⟨L,o,hf,hn,ho,hd⟩,hr⟩:=hl
   have hL:L ∈ X.fs:=hs L (by unfold frs;rw [List.filterMap_cons,hf];exact List.mem_cons_self)
   obtain ⟨sl,e⟩:=I.base.slot L o ho (I.ok.frf L hL) hL fun z=>I.ok.exfs L z hL
   exact ⟨hk,⟨L,_,hf,hn,e,hd⟩,ih (fun b hb=>hs b (by unfold frs;rw [List.filterMap_cons,hf];exact List.mem_cons_of_mem _ hb)) hr⟩
 exact all X.outer (fun _ hb=>hb) I.ok.funs
theorem Inv.stack(I:Inv X pins σ H s):s.heap.FunFrames X.base X.stack:=by
 rcases I.ok.stk with e | ⟨e,hf⟩
 ·rw [e];exact I.funs
 ·rw [e]
  obtain ⟨m,hn,_⟩:=I.loc
  refine .cons (by rw [I.ok.kind];decide) hf hn ?_ I.funs
  exact Heap.get?_none_of_le (JI I.ok.bsz I.ok.above)
theorem Inv.stkSub(I:Inv X pins σ H s):∀ b ∈ frs X.stack,b ∈ X.env.locals::X.fs:=fun b hb=>by
 rcases I.ok.stk with e | ⟨e,hf⟩
 ·rw [e] at hb;exact Jf _ hb
 ·rw [e] at hb
  unfold frs at hb
  rw [List.filterMap_cons,hf] at hb
  exact hb
theorem Inv.stkFree(I:Inv X pins σ H s):∀ b ∈ frs X.stack,H b=none:=fun b hb=>by
 rcases List.mem_cons.mp (I.stkSub b hb) with e | hb
 ·rw [e];exact I.free
 ·obtain ⟨_,o,ho,_⟩:=I.ok.funs.mem hb
  exact I.base.free b o ho (I.ok.frf b hb) fun z=>I.ok.exfs b z hb
theorem Inv.step{g':Array GenState}{t':Nat}{d':Drawn}{ch:List Addr}(I:Inv X pins σ H s)
  (hch:∀ b ∈ ch,(b ∈ X.ex∨X.s₀.heap.objs.size≤b)/\b≠X.env.locals/\(∀ x c,X.env.cells.lookup x=some c->c≠b)/\∀ p ∈ X.pn++pins,p.1≠b)
  (keep:∀ b o,b≠X.env.locals->b ∉ X.fs->b ∉ ch->s.heap.get? b=some o->H b=none->h'.get? b=some o)
  (slot:∀ b o,b≠X.env.locals->b ∈ X.fs->b ∉ ch->s.heap.get? b=some o->H b=none->∃ sl,h'.get? b=some { o with slots:=sl })(free:∀ b o,b ∉ ch->s.heap.get? b=some o->H b=none->H' b=none)
  (there:∀ b o,b ∉ ch->s.heap.get? b=some o->∃ o',h'.get? b=some o')
  (tups:∀ b xs,H b=some (.tup xs)->H' b=some (.tup xs))(frzs:∀ b o u,H b=some (.frz o u)->H' b=some (.frz o u))(tbls:∀ b ps,H b=some (.tbl ps)->∃ more,H' b=some (.tbl (ps++more)))
  (ns:∀ m,s.heap.Ns X.env.locals m->h'.Ns X.env.locals m)(hok:HOk X.prog X.w H' h')(hg:AllBare g'):
  Inv X pins σ H' { s with heap:=h',gens:=g',drawn:=d',toks:=t' }:=by
 have neL:∀ b o,X.s₀.heap.get? b=some o->b≠X.env.locals:=fun b o e=>Jw (JB (Ji e) I.ok.above)
 have neC:∀ b o,X.s₀.heap.get? b=some o->b ∉ X.ex->b ∉ ch:=fun b o e hx hb=>by
  rcases (hch b hb).1 with z | z
  ·exact hx z
  ·exact absurd (JB (Ji e) z) (KO _)
 have cellK:∀ x c,X.env.cells.lookup x=some c->∀ v,s.heap.IsCell c v->h'.IsCell c v:=fun x c e v ⟨o,ho,hd⟩=>by
  have nch:c ∉ ch:=fun z=>(hch c z).2.2.1 x c e rfl
  by_cases hc:c ∈ X.fs
  ·obtain ⟨sl,q⟩:=slot c o (I.cne x c e) hc nch ho (I.freeC x c e)
   exact ⟨_,q,hd⟩
  ·exact ⟨o,keep c o (I.cne x c e) hc nch ho (I.freeC x c e),hd⟩
 refine ⟨I.ok,I.os,hg,⟨fun b o e n hb hx=>?_,fun b o e n hb hx=>?_,fun b o e n hx=>?_,fun b o e hx=>?_,fun b xs e=>tups b xs (I.base.tups b xs e),fun b o xs e=>frzs b o xs (I.base.frzs b o xs e),fun b ps e=>?_⟩,?_,fun x c e=>?_,?_,fun x c e=>?_,fun p hp=>?_,hok,I.len⟩
 ·exact keep b o (neL b o e) hb (neC b o e hx) (I.base.keep b o e n hb hx) (I.base.free b o e n hx)
 ·obtain ⟨sl,e1⟩:=I.base.slot b o e n hb hx
  obtain ⟨sl',e2⟩:=slot b _ (neL b o e) hb (neC b o e hx) e1 (I.base.free b o e n hx)
  exact ⟨sl',e2⟩
 ·obtain ⟨o',e1⟩:=I.base.there b o e hx
  exact free b o' (neC b o e hx) e1 (I.base.free b o e n hx)
 ·obtain ⟨o',e1⟩:=I.base.there b o e hx
  exact there b o' (neC b o e hx) e1
 ·obtain ⟨m1,e1⟩:=I.base.tbls b ps e
  obtain ⟨m2,e2⟩:=tbls b _ e1
  exact ⟨m1++m2,by rw [e2,Array.append_assoc]⟩
 ·obtain ⟨m,hn,hl⟩:=I.loc
  refine ⟨m,ns m hn,fun i x v e1 e2 e3=>?_⟩
  obtain ⟨u,r,l⟩:=hl i x v e1 e2 e3
  refine ⟨u,r,?_⟩
  rcases l with l | ⟨k,c,e,z⟩
  ·exact .inl l
  ·exact .inr ⟨k,c,e,cellK x c e _ z⟩
 ·obtain ⟨v,z⟩:=I.cell x c e
  exact ⟨v,cellK x c e v z⟩
 ·obtain ⟨m,⟨o,_,_,ho,_⟩,_⟩:=I.loc
  exact free _ o (fun z=>(hch _ z).2.1 rfl) ho I.free
 ·obtain ⟨v,o,ho,hd⟩:=I.cell x c e
  exact free c o (fun z=>(hch c z).2.2.1 x c e rfl) ho (I.freeC x c e)
 ·obtain ⟨e,n,ne,nf,d⟩:=I.pin p hp
  have nch:p.1 ∉ ch:=fun z=>(hch p.1 z).2.2.2 p hp rfl
  exact ⟨keep p.1 p.2 ne nf nch e n,free p.1 p.2 nch e n,ne,nf,d⟩
theorem Inv.un{t':Nat}(I:Inv X pins σ H s)(u:Un X.fs [] H H' s.heap h')(hok:HOk X.prog X.w H' h'):Inv X pins σ H' { s with heap:=h',toks:=t' }:=by
 obtain ⟨m,⟨o,es,ep,ho,r⟩,_⟩:=id I.loc
 obtain ⟨sl,hL⟩:=u.any ho I.free [12]
 exact I.step (g':=s.gens) (d':=s.drawn) (ch:=[]) (fun _ z=>nomatch z) (fun b o _ hb _ e n=>u.keep b o e n hb [12]) (fun b o _ hb _ e n=>u.slot b o e n hb [12]) (fun b o _ e n=>u.free b o e n [12]) (fun b o _ e=>u.there b o e [12]) u.tups u.frzs u.tbls (fun m' hm=>by
  obtain ⟨o',es',ep',ho',r'⟩:=hm
  rw [ho] at ho';cases ho'
  exact ⟨_,es',ep',hL,r'⟩) hok I.bare
theorem Inv.call{g':Array GenState}{t':Nat}{d':Drawn}{ch:List Addr}(I:Inv X pins σ H s)(u:Un (frs X.stack) ch H H' s.heap h')(hok:HOk X.prog X.w H' h')(hg:AllBare g')
  (hch:∀ b ∈ ch,(b ∈ X.ex∨X.s₀.heap.objs.size≤b)/\b≠X.env.locals/\(∀ x c,X.env.cells.lookup x=some c->c≠b)/\∀ p ∈ X.pn++pins,p.1≠b):
  Inv X pins σ H' { s with heap:=h',gens:=g',drawn:=d',toks:=t' }:=by
 obtain ⟨m,⟨o,es,ep,ho,r⟩,_⟩:=id I.loc
 obtain ⟨sl,hL⟩:=u.any ho I.free fun z=>(hch _ z).2.1 rfl
 exact I.step (ch:=ch) hch (fun b o hL hb hc e n=>u.keep b o e n (fun z=>(List.mem_cons.mp (I.stkSub b z)).elim hL hb) hc) (fun b o _ _ hc e n=>u.any e n hc) (fun b o hc e n=>u.free b o e n hc) (fun b o hc e=>u.there b o e hc) u.tups u.frzs u.tbls (fun m' hm=>by
  obtain ⟨o',es',ep',ho',r'⟩:=hm
  rw [ho] at ho';cases ho'
  exact ⟨_,es',ep',hL,r'⟩) hok hg
theorem Inv.turned{t':Nat}{it:Addr}(I:Inv X pins σ H s)(k:∀ b o,b≠it->s.heap.get? b=some o->h'.get? b=some o)(hn:H it=none)(hL:it≠X.env.locals)
  (h1:it ∈ X.ex∨X.s₀.heap.objs.size≤it)(h2:∀ x c,X.env.cells.lookup x=some c->c≠it)(h3:∀ p ∈ X.pn++pins,p.1≠it):Inv X pins σ H { s with heap:=h',toks:=t' }:=by
 have nit:∀ b u,H b=some u->b≠it:=fun b u e z=>by rw [z,hn] at e;cases e
 refine I.step (g':=s.gens) (d':=s.drawn) (ch:=[it]) (fun b hb=>?_) (fun b o _ _ hc e _=>k b o (fun z=>hc (by simp [z])) e) (fun b o _ _ hc e _=>⟨o.slots,k b o (fun z=>hc (by simp [z])) e⟩) (fun _ _ _ _ n=>n)
  (fun b o hc e=>⟨o,k b o (fun z=>hc (by simp [z])) e⟩) (fun _ _ e=>e) (fun _ _ _ e=>e) (fun b ps e=>⟨#[],by rw [e];simp⟩) (fun m hm=>?_) (fun b u e=>?_) I.bare
 ·have e:b=it:=by simpa using hb
  subst e
  exact ⟨h1,hL,h2,h3⟩
 ·obtain ⟨o,es,ep,ho,r⟩:=hm
  exact ⟨o,es,ep,k _ o (Ne.symm hL) ho,r⟩
 ·refine (I.hok b u e).stay (fun c v hc q=>k c v ?_ q) (fun _ q=>q) fun _ _ q=>q
  rcases hc with z | z
  ·rw [z];exact nit b u e
  ·exact nit c _ z
theorem Inv.tok(I:Inv X pins σ H s)(t:Nat):Inv X pins σ H { s with toks:=t }:=I.un (h':=s.heap) (t':=t) Un.refl I.hok
theorem Inv.kept{t':Nat}(I:Inv X pins σ H s)(k:∀ b u,s.heap.get? b=some u->h'.get? b=some u):Inv X pins σ H { s with heap:=h',toks:=t' }:=I.un (Un.kept k) (I.hok.kept k)
theorem Inv.laid{a:Addr}{o:HO}{t':Nat}(I:Inv X pins σ H s)(k:∀ b u,s.heap.get? b=some u->h'.get? b=some u)(hp:s.heap.objs.size≤a)(new:ObjOk X.prog X.w (upd H a o) h' a o):
  Inv X pins σ (upd H a o) { s with heap:=h',toks:=t' }:=I.un (Un.laid k hp (I.hok.fresh hp)) (I.hok.laid k hp new)
theorem Inv.write{x e:Addr}{o:HO}{t':Nat}(I:Inv X pins σ H s)(mu:Mut (H x))(he:e=x∨H e=some (.own x))(k:∀ b u,b≠e->s.heap.get? b=some u->h'.get? b=some u)(heo:∃ u,h'.get? e=some u)
  (new:ObjOk X.prog X.w (upd H x o) h' x o):Inv X pins σ (upd H x o) { s with heap:=h',toks:=t' }:=I.un (Un.write mu he k heo) (I.hok.write mu he k heo new)
theorem Inv.pins_of{pins':List [17]}(I:Inv X pins σ H s)(h:∀ p ∈ pins',s.heap.get? p.1=some p.2/\H p.1=none/\p.1≠X.env.locals/\p.1 ∉ X.fs/\∀ v,p.2.data≠.cell v):Inv X pins' σ H s:=
 ⟨I.ok,I.os,I.bare,I.base,I.loc,I.cell,I.free,I.freeC,fun p hp=>(JQ.mp hp).elim (fun z=>I.pin p (Jm _ z)) (h p),I.hok,I.len⟩
theorem zcC{N:List Str}(hN:N.Nodup){i j:Nat}{x:Str}(a:N[i]?=some x)(b:N[j]?=some x):i=j:=by
 obtain ⟨h1,e1⟩:=Jp.mp a
 obtain ⟨h2,e2⟩:=Jp.mp b
 exact (List.getElem_inj hN).mp (e1.trans e2.symm)
theorem zfq{M:Model}{A:Around}{E:Value->Shared->Prop}{i:Nat}{x:Str}{v:V}{u:Value}{Q:Unit->Shared->Prop}(I:Inv X pins σ H s)(hN:X.N.Nodup)(hi:X.N[i]?=some x)(hx:Loc X.env.scope x)(r:RelV v u)
  (h:∀ s',Inv X pins (σ.set i (some v)) H s'->(∃ a,Heap.SameBut a s.heap s'.heap/\(a=X.env.locals∨X.env.cells.lookup x=some a))->Q () s')(hf:X.fn x=true∨X.env.scope.names.lookup x=some .local:=by first | exact .inl rfl | exact .inr rfl | assumption):wpAny M A (storeName X.env x u) Q E s:=by
 obtain ⟨m,hn,hl⟩:=id I.loc
 have hcls:(X.env.scope.kind == .class || (X.env.scope.kind == .module && X.env.locals != X.env.globals))=false:=by rw [I.ok.kind];rfl
 have hiσ:i<σ.length:=by rw [I.len];exact (Jp.mp hi).1
 have cne:=I.cne
 have tracked:∀ {a:Addr} {h':Heap},(∃ o,s.heap.get? a=some o/\H a=none)->Heap.SameBut a s.heap h'->HOk X.prog X.w H h':=fun {a h'} ha hs b ob e=>by
  obtain ⟨_,_,hfree⟩:=ha
  refine (I.hok b ob e).stay (fun c w' hc q=>(hs.2 c ?_).trans q) (fun _ q=>q) fun _ _ q=>q
  rintro rfl
  rcases hc with rfl | hc
  ·rw [hfree] at e;cases e
  ·rw [hfree] at hc;cases hc
 rcases hx with hk | hk
 ·refine wpAny_storeName_local hk hn (fun h' hn' hs=>?_) hcls
  obtain ⟨oL,_,_,hoL,_⟩:=id hn
  refine h _ ⟨I.ok,I.os,I.bare,⟨fun b o e n hb hx=>?_,fun b o e n hb hx=>?_,I.base.free,fun b o e hx=>?_,I.base.tups,I.base.frzs,I.base.tbls⟩,⟨_,hn',fun j y v' e1 e2 e3=>?_⟩,fun y c e=>?_,I.free,I.freeC,fun p hp=>?_,tracked ⟨oL,hoL,I.free⟩ hs,by simpa using I.len⟩ ⟨_,hs,.inl rfl⟩
  ·exact (hs.2 b (Jw (JB (Ji e) I.ok.above))).trans (I.base.keep b o e n hb hx)
  ·obtain ⟨sl,e1⟩:=I.base.slot b o e n hb hx
   exact ⟨sl,(hs.2 b (Jw (JB (Ji e) I.ok.above))).trans e1⟩
  ·obtain ⟨o',e1⟩:=I.base.there b o e hx
   exact ⟨o',(hs.2 b (Jw (JB (Ji e) I.ok.above))).trans e1⟩
  ·by_cases hj:j=i
   ·subst hj
    rw [hi] at e1;cases e1
    rw [List.getElem?_set_self hiσ] at e2
    cases e2
    exact ⟨u,r,.inl ⟨hk,by simp⟩⟩
   ·rw [List.getElem?_set_ne (Ne.symm hj)] at e2
    obtain ⟨u',r',q⟩:=hl j y v' e1 e2 e3
    refine ⟨u',r',?_⟩
    rcases q with ⟨k,e⟩ | ⟨k,c,e,z⟩
    ·refine .inl ⟨k,?_⟩
     have:y≠x:=fun e=>hj (zcC hN e1 (e ▸ hi))
     simp [this,e]
    ·exact .inr ⟨k,c,e,z.sameBut hs (cne y c e)⟩
  ·obtain ⟨w',z⟩:=I.cell y c e
   exact ⟨w',z.sameBut hs (cne y c e)⟩
  ·obtain ⟨e,n,ne,nf,d⟩:=I.pin p hp
   exact ⟨(hs.2 p.1 ne).trans e,n,ne,nf,d⟩
 ·have hfn:X.fn x=true:=by
   rcases hf with z | z
   ·exact z
   ·rw [z] at hk;cases hk
  obtain ⟨c,hc⟩:=I.ok.has x (.inl hk)
  obtain ⟨w',z⟩:=I.cell x c hc
  refine wpAny_storeName_cell I.ok.kind hk hc z (fun h' hc' hs=>?_)
  obtain ⟨oc,hoc,hocd⟩:=id z
  refine h { s with heap:=h' } ⟨I.ok,I.os,I.bare,⟨fun b o e n hb hx=>?_,fun b o e n hb hx=>?_,I.base.free,fun b o e hx=>?_,I.base.tups,I.base.frzs,I.base.tbls⟩,⟨m,hn.sameBut hs (Ne.symm (cne x c hc)),fun j y v' e1 e2 e3=>?_⟩,fun y c' e=>?_,I.free,I.freeC,fun p hp=>?_,tracked ⟨oc,hoc,I.freeC x c hc⟩ hs,by simpa using I.len⟩ ⟨c,hs,.inr hc⟩
  ·exact (hs.2 b (Jw (JB (Ji e) (I.ok.cab x c hfn hc)))).trans (I.base.keep b o e n hb hx)
  ·obtain ⟨sl,e1⟩:=I.base.slot b o e n hb hx
   exact ⟨sl,(hs.2 b (Jw (JB (Ji e) (I.ok.cab x c hfn hc)))).trans e1⟩
  ·obtain ⟨o',e1⟩:=I.base.there b o e hx
   exact ⟨o',(hs.2 b (Jw (JB (Ji e) (I.ok.cab x c hfn hc)))).trans e1⟩
  ·by_cases hj:j=i
   ·subst hj
    rw [hi] at e1;cases e1
    rw [List.getElem?_set_self hiσ] at e2
    cases e2
    exact ⟨u,r,.inr ⟨.inl hk,c,hc,hc'⟩⟩
   ·rw [List.getElem?_set_ne (Ne.symm hj)] at e2
    obtain ⟨u',r',q⟩:=hl j y v' e1 e2 e3
    refine ⟨u',r',?_⟩
    rcases q with q | ⟨k,c',e,z'⟩
    ·exact .inl q
    ·refine .inr ⟨k,c',e,z'.sameBut hs ?_⟩
     rintro rfl
     exact hj (zcC hN e1 (I.ok.inj _ _ _ e hc ▸ hi))
  ·by_cases hcc:c'=c
   ·subst hcc;exact ⟨_,hc'⟩
   ·obtain ⟨w2,z2⟩:=I.cell y c' e
    exact ⟨w2,z2.sameBut hs hcc⟩
  ·obtain ⟨e,n,ne,nf,d⟩:=I.pin p hp
   refine ⟨(hs.2 p.1 ?_).trans e,n,ne,nf,d⟩
   intro q
   rw [q,hoc] at e
   have q':oc=p.2:=Jq e
   exact d w' (by rw [← q'];exact hocd)
theorem zci{M:Model}{A:Around}{E:Value->Shared->Prop}{i:Nat}{x:Str}{v:V}{u:Value}{Q:Unit->Shared->Prop}(I:Inv X pins σ H s)(hN:X.N.Nodup)(hi:X.N[i]?=some x)(hx:Loc X.env.scope x)(r:RelV v u)
  (h:∀ s',Inv X pins (σ.set i (some v)) H s'->Q () s')(hf:X.fn x=true∨X.env.scope.names.lookup x=some .local:=by first | exact .inl rfl | exact .inr rfl | assumption):wpAny M A (storeName X.env x u) Q E s:=
 zfq I hN hi hx r (fun s' I' _=>h s' I') hf
theorem Inv.call'{s':Shared}{ch:List Addr}(I:Inv X pins σ H s)(ho:s'.os=s.os)(u:Un (frs X.stack) ch H H' s.heap s'.heap)(hok:HOk X.prog X.w H' s'.heap)(hg:AllBare s'.gens)
  (hch:∀ b ∈ ch,(b ∈ X.ex∨X.s₀.heap.objs.size≤b)/\b≠X.env.locals/\(∀ x c,X.env.cells.lookup x=some c->c≠b)/\∀ p ∈ X.pn++pins,p.1≠b):Inv X pins σ H' s':=by
 obtain ⟨h',g',d',t',o'⟩:=s'
 have e:o'=s.os:=ho
 subst e
 exact I.call (g':=g') (t':=t') (d':=d') u hok hg hch
end
noncomputable abbrev XK:=Value->Option Addr->Hp->Prop
noncomputable abbrev St:=List (Option V)
noncomputable abbrev VK:=V->Hp->Prop
noncomputable abbrev TE:=St->Hp->VK->Prop
noncomputable abbrev TT:=St->Hp->(Bool->Hp->Prop)->Prop
noncomputable abbrev TA:=St->Hp->(List V->Hp->Prop)->Prop
structure Ends where
 nx:St->Hp->Prop
 rt:VK
 bk:St->Hp->Prop:=fun _ _=>False
 ct:St->Hp->Prop:=fun _ _=>False
noncomputable abbrev TS:=Ends->St->Hp->Prop
noncomputable def EP(X:Cx)(pins:List [17])(σ:St)(Q:VK)(u:Value)(s':Shared):Prop:=∃ v H',Inv X pins σ H' s'/\RelV v u/\Q v H'
noncomputable def TP(X:Cx)(pins:List [17])(σ:St)(Q:Bool->Hp->Prop)(b:Bool)(s':Shared):Prop:=∃ H',Inv X pins σ H' s'/\Q b H'
noncomputable def AP(X:Cx)(pins:List [17])(σ:St)(Q:List V->Hp->Prop)(us:List Value)(s':Shared):Prop:=∃ vs H',Inv X pins σ H' s'/\Vals vs us/\Q vs H'
noncomputable def SP(X:Cx)(pins:List [17])(D:Ends)(f:Flow)(s':Shared):Prop:=
 match f with
 | .next=>∃ σ' H',Inv X pins σ' H' s'/\D.nx σ' H'
 | .brk=>∃ σ' H',Inv X pins σ' H' s'/\D.bk σ' H'
 | .cont=>∃ σ' H',Inv X pins σ' H' s'/\D.ct σ' H'
 | .ret u=>∃ v σ' H',Inv X pins σ' H' s'/\RelV v u/\D.rt v H'
noncomputable def PE(X:Cx)(e:Expr)(t:TE):Prop:=
 ∀ (pins:List [17]) (s:Shared) (σ:St) (H:Hp) (Q:VK),Inv X pins σ H s->t σ H Q->wpAny [14] X.A (eval e X.env) (EP X pins σ Q) X.xe s
noncomputable def PT(X:Cx)(e:Expr)(t:TT):Prop:=
 ∀ (pins:List [17]) (s:Shared) (σ:St) (H:Hp) (Q:Bool->Hp->Prop),Inv X pins σ H s->t σ H Q->wpAny [14] X.A (isTrue e X.env (eval e X.env)) (TP X pins σ Q) X.xe s
noncomputable def PW(X:Cx)(e:Expr)(t:TT):Prop:=
 ∀ (whole:Sem Value) (pins:List [17]) (s:Shared) (σ:St) (H:Hp) (Q:Bool->Hp->Prop),Inv X pins σ H s->t σ H Q->wpAny [14] X.A (isTrue e X.env whole) (TP X pins σ Q) X.xe s
theorem PW.pt{X:Cx}{e:Expr}{t:TT}(h:PW X e t):PT X e t:=h _
noncomputable def PA(X:Cx)(es:List Expr)(t:TA):Prop:=
 ∀ (pos:Pos) (pins:List [17]) (s:Shared) (σ:St) (H:Hp) (Q:List V->Hp->Prop),Inv X pins σ H s->t σ H Q->wpAny [14] X.A (spliced [66]) (AP X pins σ Q) X.xe s
noncomputable def PS(X:Cx)(st:Stmt)(t:TS):Prop:=
 ∀ (pins:List [17]) (s:Shared) (σ:St) (H:Hp) (D:Ends),Inv X pins σ H s->t D σ H->wpAny [14] X.A (exec st X.env) (SP X pins D) X.xe s
noncomputable def PSs(X:Cx)(st:List Stmt)(t:TS):Prop:=
 ∀ (pins:List [17]) (s:Shared) (σ:St) (H:Hp) (D:Ends),Inv X pins σ H s->t D σ H->wpAny [14] X.A (execs st X.env) (SP X pins D) X.xe s
theorem thn{α:Type}{t:Sem α}{Q Q':α->Shared->Prop}{M:Model}{A:Around}{E:Value->Shared->Prop}{s:Shared}(h:wpAny M A t Q E s)(hQ:∀ a s,Q a s->Q' a s):wpAny M A t Q' E s:=wpAny_mono h hQ fun _ _ x=>x
section
variable {X:Cx}
noncomputable def uY(i:Nat):TE:=fun σ H Q=>∃ v,σ[i]?=some (some v)/\Q v H
noncomputable def tC(v:V):TE:=fun _ H Q=>Q v H
theorem zlf{i:Nat}{x:Str}{pos:Pos}(hN:X.N[i]?=some x)(hv:Vis X.env.scope x)(hd:[48]=false:=by decide)(hcd:(x == ("__classdict__":Str))=false:=by decide):PE X (.Name x pos) (uY i):=by
 intro pins s σ H Q I h
 obtain ⟨v,e,h⟩:=h
 obtain ⟨m,hn,hl⟩:=I.loc
 obtain ⟨u,r,l⟩:=hl i x v hN e hv
 have fin:EP X pins σ Q u s:=⟨v,H,I,r,h⟩
 rcases l with ⟨hk,hm⟩ | ⟨hk,c,hc,hcell⟩
 ·exact wpAny_Name (wpAny_loadName_local I.ok.kind hk hn hm fin) hd
 ·rcases hk with hk | hk
  ·exact wpAny_Name (wpAny_loadName_cell I.ok.kind hk hc hcell fin) hd
  ·exact wpAny_Name (wpAny_loadName_free I.ok.kind hk hc hcell fin hcd) hd
theorem zhe{i j pos}:PE X (.Constant [87] j pos) (tC [87]):=fun _ _ _ H _ I h=>wpAny_Constant_int ⟨.int i,H,I.tok _,⟨_,rfl⟩,h⟩
theorem zmu{b j pos}:PE X (.Constant (.bool b) j pos) (tC (.bl b)):=fun _ _ _ H _ I h=>Constant_bool ⟨.bl b,H,I,rfl,h⟩
theorem zli{j pos}:PE X (.Constant .none j pos) (tC .non):=fun _ _ _ H _ I h=>Constant_none ⟨.non,H,I,rfl,h⟩
theorem zlh{x j pos}:PE X (.Constant (.str x) j pos) (tC (.str x)):=fun _ _ _ H _ I h=>Calls.Constant_str ⟨.str x,H,I.tok _,⟨_,rfl⟩,h⟩
noncomputable def Gl(X:Cx)(x:Str):Prop:=X.env.kindOf x=some .globalImplicit
theorem zjE{E:Value->Shared->Prop}{pins:List [17]}{s:Shared}{σ:St}{H:Hp}{x:Str}{u:Value}{pos:Pos}{Q:Value->Shared->Prop}(I:Inv X pins σ H s)(hg:Gl X x)(hm:X.mg x=some u)(h:Q u s)
  (hd:[48]=false:=by decide):wpAny [14] X.A (eval (.Name x pos) X.env) Q E s:=
 Calls.Name_function_global I.ok.kind hg (Calls.loadGlobal_global (by rw [I.ok.glob];exact I.mod.glob.keeps I.bk) hm h) hd
theorem vd{E:Value->Shared->Prop}{pins:List [17]}{s:Shared}{σ:St}{H:Hp}{x:Str}{u:Value}{pos:Pos}{Q:Value->Shared->Prop}(I:Inv X pins σ H s)(hg:Gl X x)(hm:X.mg x=none)(hv:bootBuiltins x=some u)(h:Q u s)
  (hn:x≠"__name__":=by decide)(hd:[48]=false:=by decide):wpAny [14] X.A (eval (.Name x pos) X.env) Q E s:=by
 obtain ⟨mb,h1,h2⟩:=I.mod.blt
 exact Calls.Name_function_global I.ok.kind hg (Calls.loadGlobal_builtin (by rw [I.ok.glob];exact I.mod.glob.keeps I.bk) hm (by rw [I.ok.blt];exact h1.keeps I.bk) ((h2 x hn).trans hv) h) hd
theorem zjm{x:Str}{v:V}{u:Value}{pos:Pos}(hg:Gl X x)(hm:X.mg x=none)(hv:bootBuiltins x=some u)(r:RelV v u)(hn:x≠"__name__":=by decide)(hd:[48]=false:=by decide):PE X (.Name x pos) (tC v):=
 fun _ _ _ H _ I h=>vd I hg hm hv ⟨v,H,I,r,h⟩ hn hd
variable {a b:Expr} {ta tb:TE} {pos:Pos}
variable {tA tB':TT} {rest:List Expr}
noncomputable def znI(t u:TT):TT:=fun σ H Q=>t σ H fun c H1=>if c=true then u σ H1 Q else Q false H1
noncomputable def tOr(t u:TT):TT:=fun σ H Q=>t σ H fun c H1=>if c=true then Q true H1 else u σ H1 Q
noncomputable def znE(t:TT):TT:=fun σ H Q=>t σ H fun c H1=>Q (!c) H1
theorem ziU(ha:PT X a tA):PW X (.BoolOp .And [a] pos) tA:=by
 intro wh pins s σ H Q I h
 refine isTrue_and (thn (ha pins s σ H Q I h) fun c s1 e=>?_)
 cases c with
 | true=>exact isTrue_and_nil e
 | false=>exact e
theorem zkV(ha:PT X a tA):PW X (.BoolOp .Or [a] pos) tA:=by
 intro wh pins s σ H Q I h
 refine isTrue_or (thn (ha pins s σ H Q I h) fun c s1 e=>?_)
 cases c with
 | false=>exact isTrue_or_nil e
 | true=>exact e
theorem zkW(ha:PT X a tA)(hb:PW X (.BoolOp .And (b::rest) pos) tB'):PW X (.BoolOp .And (a::b::rest) pos) (znI tA tB'):=by
 intro wh pins s σ H Q I h
 refine isTrue_and (thn (ha pins s σ H _ I h) fun c s1 hq_=>?_)
 obtain ⟨H1,I1,q1⟩:=hq_
 cases c with
 | true=>exact hb wh pins s1 σ H1 Q I1 q1
 | false=>exact ⟨H1,I1,q1⟩
theorem zmo(ha:PT X a tA)(hb:PW X (.BoolOp .Or (b::rest) pos) tB'):PW X (.BoolOp .Or (a::b::rest) pos) (tOr tA tB'):=by
 intro wh pins s σ H Q I h
 refine isTrue_or (thn (ha pins s σ H _ I h) fun c s1 hq_=>?_)
 obtain ⟨H1,I1,q1⟩:=hq_
 cases c with
 | true=>exact ⟨H1,I1,q1⟩
 | false=>exact hb wh pins s1 σ H1 Q I1 q1
theorem zkY(ha:PT X a tA):PT X (.UnaryOp .Not a pos) (znE tA):=by
 intro pins s σ H Q I h
 exact isTrue_not (ha pins s σ H (fun c H1=>Q (!c) H1) I h)
noncomputable def tIf(t:TT)(ta tb:TE):TE:=fun σ H Q=>t σ H fun c H1=>if c=true then ta σ H1 Q else tb σ H1 Q
theorem zhf{c:Expr}(hc:PT X c tA)(ha:PE X a ta)(hb:PE X b tb):PE X (.IfExp c a b pos) (tIf tA ta tb):=by
 intro pins s σ H Q I h
 refine wpAny_IfExp (thn (hc pins s σ H _ I h) fun d s1 hq_=>?_)
 obtain ⟨H1,I1,q1⟩:=hq_
 cases d with
 | true=>exact ha pins s1 σ H1 Q I1 q1
 | false=>exact hb pins s1 σ H1 Q I1 q1
end
noncomputable def SqL(K:PySem.W.Frag)(H:Hp)(a:Addr)(xs:List V):Prop:=
 Rd H a (.lst xs)∨
  ∃ (o:Obj) (its:Array Value) (n:Nat),K.lookup a=some o/\o.cls=.type "list"/\o.dict=none/\o.data=.seq its n/\its.size≤sizeLine/\Vals xs its.toList
noncomputable def SqT(K:PySem.W.Frag)(H:Hp)(a:Addr)(xs:List V):Prop:=
 Rd H a (.tup xs)∨
  ∃ (o:Obj) (its:Array Value) (n:Nat),K.lookup a=some o/\o.cls=.type "tuple"/\o.data=.seq its n/\its.size≤sizeLine/\Vals xs its.toList
noncomputable def zoj:Value->Option V
 | .none=>some .non
 | .bool b=>some (.bl b)
 | .int i _=>some [87]
 | .str x _=>some (.str x)
 | .bytes b _=>some (.byt b)
 | .float b _=>some (.flt b)
 | .ref a=>some [67]
 | .type n=>some (.ty n)
 | _=>none
theorem RelV.abs{x:V}{u:Value}(r:RelV x u):zoj u=some x:=by
 cases x with
 | non=>cases r;rfl
 | bl _=>cases r;rfl
 | int _=>obtain ⟨t,rfl⟩:=r;rfl
 | str _=>obtain ⟨t,rfl⟩:=r;rfl
 | byt _=>obtain ⟨t,rfl⟩:=r;rfl
 | flt _=>obtain ⟨t,rfl⟩:=r;rfl
 | ref _=>cases r;rfl
 | ty _=>cases r;rfl
theorem RelV.inj{x y:V}{u:Value}(r:RelV x u)(q:RelV y u):x=y:=Jq (r.abs.symm.trans q.abs)
theorem Vals.inj{xs ys:List V}{us:List Value}(h:Vals xs us):Vals ys us->xs=ys:=by
 induction h generalizing ys with
 | nil=>intro h;cases h;rfl
 | cons r t ih=>intro h;cases h with | cons r' t'=>rw [r.inj r',ih t']
section
variable {X:Cx} {pins:List [17]} {σ:St} {H:Hp} {s:Shared} {a:Addr} {xs ys:List V}
theorem SqL.of{K:PySem.W.Frag}(h:H a=some (.lst xs)):SqL K H a xs:=.inl (.inl h)
theorem SqT.of{K:PySem.W.Frag}(h:H a=some (.tup xs)):SqT K H a xs:=.inl (.inl h)
theorem Inv.list(I:Inv X pins σ H s)(h:SqL X.K H a xs):∃ its:List Value,Vals xs its/\PlainL s.heap a its.toArray/\xs.length≤sizeLine:=by
 rcases h with h | ⟨o,its,n,hk,hc,hd,hs,hz,r⟩
 ·obtain ⟨z,its,n,r,e⟩:=h.ok I.hok
  exact ⟨its,r,⟨_,n,e,rfl,rfl,rfl⟩,z⟩
 ·refine ⟨its.toList,r,⟨o,n,I.kIn a o hk,hc,hd,by simpa using hs⟩,?_⟩
  have e:=r.length
  simp only [Array.length_toList] at e
  omega
theorem Inv.tuple(I:Inv X pins σ H s)(h:SqT X.K H a xs):∃ its:List Value,Vals xs its/\IsTup s.heap a its.toArray/\xs.length≤sizeLine:=by
 rcases h with h | ⟨o,its,n,hk,hc,hs,hz,r⟩
 ·obtain ⟨z,its,r,p⟩:=h.ok I.hok
  exact ⟨its,r,p,z⟩
 ·refine ⟨its.toList,r,⟨o,I.kIn a o hk,hc,n,by simpa using hs⟩,?_⟩
  have e:=r.length
  simp only [Array.length_toList] at e
  omega
theorem Inv.list_inj(I:Inv X pins σ H s)(h:SqL X.K H a xs)(h':SqL X.K H a ys):xs=ys:=by
 obtain ⟨its,r,⟨o,n,e,_,_,d⟩,_⟩:=I.list h
 obtain ⟨its',r',⟨o',n',e',_,_,d'⟩,_⟩:=I.list h'
 rw [e] at e';cases e'
 rw [d] at d'
 injection d' with d1 _
 have:its=its':=by simpa using congrArg Array.toList d1
 subst this
 exact r.inj r'
theorem Inv.tuple_inj(I:Inv X pins σ H s)(h:SqT X.K H a xs)(h':SqT X.K H a ys):xs=ys:=by
 obtain ⟨its,r,⟨o,e,_,n,d⟩,_⟩:=I.tuple h
 obtain ⟨its',r',⟨o',e',_,n',d'⟩,_⟩:=I.tuple h'
 rw [e] at e';cases e'
 rw [d] at d'
 injection d' with d1 _
 have:its=its':=by simpa using congrArg Array.toList d1
 subst this
 exact r.inj r'
end
noncomputable abbrev Cx.wish(X:Cx)(E:Value->Shared->Prop):Cx:={ X with xe:=E }
noncomputable abbrev Cx.nox(X:Cx):Cx:=X.wish fun _ _=>False
theorem Cx.Ok.wish{X:Cx}(ok:X.Ok)(E:Value->Shared->Prop):(X.wish E).Ok:=
 ⟨ok.mod,ok.kind,ok.glob,ok.blt,ok.above,ok.inj,ok.has,ok.cab,ok.hd,ok.frames,ok.stk,ok.exf,ok.bs,ok.bsz,ok.noex,ok.exfs,ok.funs,ok.frf⟩
theorem Cx.Ok.unwish{X:Cx}{E:Value->Shared->Prop}(ok:(X.wish E).Ok):X.Ok:=
 ⟨ok.mod,ok.kind,ok.glob,ok.blt,ok.above,ok.inj,ok.has,ok.cab,ok.hd,ok.frames,ok.stk,ok.exf,ok.bs,ok.bsz,ok.noex,ok.exfs,ok.funs,ok.frf⟩
section
variable {X:Cx} {pins:List [17]} {σ:St} {H:Hp} {s:Shared} {E:Value->Shared->Prop}
theorem Inv.wish(I:Inv X pins σ H s)(E:Value->Shared->Prop):Inv (X.wish E) pins σ H s:=⟨I.ok.wish E,I.os,I.bare,I.base,I.loc,I.cell,I.free,I.freeC,I.pin,I.hok,I.len⟩
theorem Inv.unwish(I:Inv (X.wish E) pins σ H s):Inv X pins σ H s:=⟨I.ok.unwish,I.os,I.bare,I.base,I.loc,I.cell,I.free,I.freeC,I.pin,I.hok,I.len⟩
theorem SP.unwish{D:Ends}{f:Flow}{s':Shared}(h:SP (X.wish E) pins D f s'):SP X pins D f s':=by
 cases f with
 | next=>obtain ⟨σ',H',I,q⟩:=h;exact ⟨σ',H',I.unwish,q⟩
 | brk=>obtain ⟨σ',H',I,q⟩:=h;exact ⟨σ',H',I.unwish,q⟩
 | cont=>obtain ⟨σ',H',I,q⟩:=h;exact ⟨σ',H',I.unwish,q⟩
 | ret u=>obtain ⟨v,σ',H',I,r,q⟩:=h;exact ⟨v,σ',H',I.unwish,r,q⟩
theorem PSs.nox{st:List Stmt}{t:TS}(h:PSs X.nox st t):PSs X st t:=fun pins s σ H D I hw=>
 wpAny_mono (h pins s σ H D (I.wish _) hw) (fun _ _ q=>q.unwish) fun _ _ z=>False.elim z
end
section
variable {X:Cx} {st:Stmt} {rest:List Stmt} {t u:TS} {e:Expr} {te:TE} {pos:Pos}
noncomputable def zma:TS:=fun D σ H=>D.nx σ H
noncomputable def znC(t u:TS):TS:=fun D σ H=>t { D with nx:=u D } σ H
theorem pss_nil:PSs X [] zma:=fun _ _ σ H _ I h=>wpAny_execs_nil ⟨σ,H,I,h⟩
theorem zcp(h1:PS X st t)(h2:PSs X rest u):PSs X (st::rest) (znC t u):=by
 intro pins s σ H D I h
 refine wpAny_execs_cons (thn (h1 pins s σ H { D with nx:=u D } I h) fun f s1 q=>?_)
 cases f with
 | next=>
  obtain ⟨σ',H',I',q⟩:=q
  exact h2 pins s1 σ' H' D I' q
 | ret v=>exact q
 | brk=>exact q
 | cont=>exact q
theorem Inv.quiet{pins:List [17]}{σ:St}{H:Hp}{s:Shared}(I:Inv X pins σ H s):interactive X.env=false:=by simp [interactive,I.ok.kind]
noncomputable def zav(te:TE):TS:=fun D σ H=>te σ H fun _ H1=>D.nx σ H1
theorem yt(he:PE X e te)(hs:swapsWith e none pos.line X.env=pure false:=by rfl):PS X (.Expr e pos) (zav te):=by
 intro pins s σ H D I h
 exact wpAny_Expr_any (thn (he pins s σ H _ I h) fun v s1 ⟨x,H1,I1,r1,q1⟩=>⟨σ,H1,I1,q1⟩) I.quiet hs
noncomputable def znD(te:TE):TS:=fun D σ H=>te σ H D.rt
theorem zkZ(he:PE X e te):PS X (.Return (some e) pos) (znD te):=by
 intro pins s σ H D I h
 exact wpAny_Return_some (thn (he pins s σ H _ I h) fun v s1 ⟨x,H1,I1,r1,q1⟩=>⟨x,σ,H1,I1,r1,q1⟩)
noncomputable def znG(c:TT)(t u:TS):TS:=fun D σ H=>c σ H fun b H1=>if b=true then t D σ H1 else u D σ H1
theorem zmp{c:Expr}{a b:List Stmt}{tc:TT}(hc:PT X c tc)(ha:PSs X a t)(hb:PSs X b u):PS X (.If c a b pos) (znG tc t u):=by
 intro pins s σ H D I h
 refine wpAny_If (thn (hc pins s σ H _ I h) fun d s1 hq_=>?_)
 obtain ⟨H1,I1,q1⟩:=hq_
 cases d with
 | true=>exact ha pins s1 σ H1 D I1 q1
 | false=>exact hb pins s1 σ H1 D I1 q1
end
noncomputable abbrev TG:=V->St->Hp->(St->Hp->Prop)->Prop
noncomputable abbrev TGs:=List V->St->Hp->(St->Hp->Prop)->Prop
noncomputable def PG(X:Cx)(target:Expr)(t:TG):Prop:=
 ∀ (pins:List [17]) (s:Shared) (σ:St) (H:Hp) (v:V) (u:Value) (Q:St->Hp->Prop),Inv X pins σ H s->RelV v u->t v σ H Q->
  wpAny [14] X.A (assign target X.env u) (fun _ s'=>∃ σ' H',Inv X pins σ' H' s'/\Q σ' H') X.xe s
noncomputable def PGs(X:Cx)(ts:List Expr)(t:TGs):Prop:=
 ∀ (pins:List [17]) (s:Shared) (σ:St) (H:Hp) (vs:List V) (us:List Value) (Q:St->Hp->Prop),Inv X pins σ H s->Vals vs us->t vs σ H Q->
  wpAny [14] X.A (assignInOrder ((assignEach ts X.env).map (·.2)) us) (fun _ s'=>∃ σ' H',Inv X pins σ' H' s'/\Q σ' H') X.xe s
noncomputable abbrev zlP:=V->V->V->Hp->(Hp->Prop)->Prop
noncomputable def znj(X:Cx)(t:zlP):Prop:=
 ∀ (pins:List [17]) (s:Shared) (σ:St) (H:Hp) (o i v:V) (ov iv u:Value) (Q:Hp->Prop),Inv X pins σ H s->RelV o ov->RelV i iv->RelV v u->t o i v H Q->
  wpAny [14] X.A (setItem ov iv u) (fun _ s'=>∃ H',Inv X pins σ H' s'/\Q H') X.xe s
section
variable {X:Cx} {pos:Pos}
noncomputable def uj(i:Nat):TG:=fun v σ H Q=>Q (σ.set i (some v)) H
theorem zO{i:Nat}{x:Str}(hN:X.N.Nodup)(hi:X.N[i]?=some x)(hx:Loc X.env.scope x)(hf:X.fn x=true∨X.env.scope.names.lookup x=some .local:=by first | exact .inl rfl | exact .inr rfl | assumption):PG X (.Name x pos) (uj i):=by
 intro pins s σ H v u Q I r h
 exact wpAny_assign_Name (zci I hN hi hx r (fun s' I'=>⟨_,H,I',h⟩) hf)
noncomputable def znW:TGs:=fun vs σ H Q=>vs=[]/\Q σ H
noncomputable def zmN(t:TG)(u:TGs):TGs:=fun vs σ H Q=>∃ v r,vs=v::r/\t v σ H fun σ' H'=>u r σ' H' Q
theorem pgs_nil:PGs X [] znW:=by
 intro pins s σ H vs us Q I r h
 obtain ⟨e,h⟩:=h
 subst e
 cases r
 exact assignInOrder_nil ⟨σ,H,I,h⟩
theorem zha{e:Expr}{es:List Expr}{t:TG}{u:TGs}(h1:PG X e t)(h2:PGs X es u)
  (hs:(assignEach (e::es) X.env).map (·.2)=assign e X.env::(assignEach es X.env).map (·.2):=by rfl):PGs X (e::es) (zmN t u):=by
 intro pins s σ H vs us Q I r h
 obtain ⟨v,vr,e1,h⟩:=h
 subst e1
 cases r with
 | cons r rr=>
  rw [hs]
  refine assignInOrder_cons (thn (h1 pins s σ H _ _ _ I r h) fun _ s1 hq_=>?_)
  obtain ⟨σ1,H1,I1,q1⟩:=hq_
  exact h2 pins s1 σ1 H1 _ _ Q I1 rr q1
noncomputable def znV(K:PySem.W.Frag)(n:Nat)(t:TGs):TG:=fun v σ H Q=>∃ a xs,v=.ref a/\SqT K H a xs/\xs.length=n/\t xs σ H Q
theorem zld{es:List Expr}{k:Nat}{t:TGs}{n:Nat}(hc:X.calm=true)(h:PGs X es t)
  (hn:(assignEach es X.env).length=n:=by rfl)(hst:(assignEach es X.env).findIdx? (·.1)=none:=by rfl):PG X (.Tuple es k pos) (znV X.K n t):=by
 intro pins s σ H v u Q I r hw
 obtain ⟨a,xs,e1,hq,hl,hw⟩:=hw
 subst e1
 cases r
 obtain ⟨its,rv,ht,hz⟩:=I.tuple hq
 refine assign_Tuple_tuple (I.ok.hd hc) ht (by simp [hn,← hl,rv.length]) hst fun h' hx=>?_
 have I1:Inv X pins σ H { s with heap:=h' }:=I.kept (t':=s.toks) fun b o e=>hx b o (Nat.ne_of_lt (Heap.lt_size e)) e
 exact h pins _ σ H xs _ Q I1 (by simpa using rv) hw
noncomputable def zmM(to ti:TE)(t:zlP):TG:=fun v σ H Q=>to σ H fun o H1=>ti σ H1 fun i H2=>t o i v H2 fun H3=>Q σ H3
theorem zbl{o i:Expr}{to ti:TE}{t:zlP}(ho:PE X o to)(hi:PE X i ti)(hs:znj X t)
  (ha:∀ v,assign (.Subscript o i pos) X.env v=(do
   let ov ← holding [v] (eval o X.env)
   let iv ← holding [v,ov] (eval i X.env)
   standAt pos
   holding [v,ov,iv] (setItem ov iv v)
   release [v,ov,iv] []):=by intro _;rfl):PG X (.Subscript o i pos) (zmM to ti t):=by
 intro pins s σ H v u Q I r h
 rw [ha]
 refine wpAny_bind (wpAny_holding (thn (ho pins s σ H _ I h) fun ov s1 hq_=>?_))
 obtain ⟨x,H1,I1,r1,q1⟩:=hq_
 refine wpAny_bind (wpAny_holding (thn (hi pins s1 σ H1 _ I1 q1) fun iv s2 hq_=>?_))
 obtain ⟨y,H2,I2,r2,q2⟩:=hq_
 refine wpAny_bind (wpAny_standAt (wpAny_bind (wpAny_holding (thn (hs pins s2 σ H2 x y v ov iv u _ I2 r1 r2 r q2) fun _ s3 hq_=>?_))))
 obtain ⟨H3,I3,q3⟩:=hq_
 exact wpAny_release ⟨σ,H3,I3,q3⟩
noncomputable def qD(te:TE)(g:TG):TS:=fun D σ H=>te σ H fun x H1=>g x σ H1 D.nx
theorem qJ{tg e:Expr}{te:TE}{g:TG}(he:PE X e te)(hg:PG X tg g)(hs:swapsWithSole [tg] e pos.line X.env=pure false:=by rfl)(hw:swappedStores [tg] e X.env=pure none:=by rfl)
  (h1:(assignEach [tg] X.env).map (·.2)=[assign tg X.env]:=by rfl):PS X (.Assign [tg] e pos) (qD te g):=by
 intro pins s σ H D I h
 refine wpAny_Assign_stores (thn (he pins s σ H _ I h) fun v s1 ⟨x,H1,I1,r1,q1⟩=>?_) hs hw
 rw [h1]
 exact thn (hg pins s1 σ H1 x v _ I1 r1 q1) fun _ s2 q=>q
theorem za{i:Nat}{x:Str}{e:Expr}{te:TE}{pos':Pos}(hN:X.N.Nodup)(hi:X.N[i]?=some x)(hx:Loc X.env.scope x)(he:PE X e te)(hs:swapsWith e (some (.Name x pos')) pos.line X.env=pure false:=by rfl)(hf:X.fn x=true∨X.env.scope.names.lookup x=some .local:=by first | exact .inl rfl | exact .inr rfl | assumption):
  PS X (.Assign [.Name x pos'] e pos) (qD te (uj i)):=by
 intro pins s σ H D I h
 refine wpAny_Assign_Name (thn (he pins s σ H _ I h) fun v s1 ⟨y,H1,I1,r1,q1⟩=>?_) hs
 exact zci I1 hN hi hx r1 (fun s2 I2=>⟨_,H1,I2,q1⟩) hf
noncomputable def zkI(c:TT)(tb:TS):TS:=fun D σ H=>∃ W:Nat->St->Hp->Prop,(∃ m,W m σ H)/\∀ m σ H,W m σ H->
 c σ H fun b H1=>if b=true then ∃ N:St->Hp->Prop,(∀ σ' H',N σ' H'->∃ m',m'<m/\W m' σ' H')/\tb { D with nx:=N,ct:=N,bk:=D.nx } σ H1 else D.nx σ H1
theorem zgU{c:Expr}{body:List Stmt}{tc:TT}{tb:TS}(hp:PassesOwn [14] X.A X.env X.xe)(hc:PT X c tc)(hb:PSs X body tb):PS X (.While c body [] pos) (zkI tc tb):=by
 intro pins s σ H D I h
 obtain ⟨W,⟨m0,w0⟩,turn⟩:=h
 refine wpAny_While (codeAny_whileLoop (fun n s'=>∃ σ' H',Inv X pins σ' H' s'/\W n σ' H') ?_ m0 ⟨σ,H,I,w0⟩)
 rintro n s1 ⟨σ1,H1,I1,w1⟩
 refine wpAny_passesOwn hp (thn (hc pins s1 σ1 H1 _ I1 (turn n σ1 H1 w1)) fun b s2 hq_=>?_)
 obtain ⟨H2,I2,q2⟩:=hq_
 cases b with
 | true=>
  obtain ⟨N,hN,q2⟩:=q2
  rw [if_pos rfl]
  refine wpAny_passesOwn hp (thn (hb pins s2 σ1 H2 _ I2 q2) fun f s3 q3=>?_)
  cases f with
  | next=>
   obtain ⟨σ3,H3,I3,n3⟩:=q3
   obtain ⟨m',hm,w3⟩:=hN σ3 H3 n3
   exact ⟨m',hm,σ3,H3,I3,w3⟩
  | cont=>
   obtain ⟨σ3,H3,I3,n3⟩:=q3
   obtain ⟨m',hm,w3⟩:=hN σ3 H3 n3
   exact ⟨m',hm,σ3,H3,I3,w3⟩
  | brk=>exact q3
  | ret v=>exact q3
 | false=>
  rw [if_neg Je]
  exact wpAny_execs_nil ⟨σ1,H2,I2,q2⟩
end
structure It where
 go:Nat->Hp->Prop
 yld:Nat->Hp->V->Hp->Prop
 stop:Nat->Hp->Prop
noncomputable def uc(X:Cx)(pins:List [17])(H:Hp)(b:Addr):Prop:=
 H b=none/\b≠X.env.locals/\b ∉ X.fs/\(b ∈ X.ex∨X.s₀.heap.objs.size≤b)/\(∀ x c,X.env.cells.lookup x=some c->c≠b)/\∀ p ∈ X.pn++pins,p.1≠b
theorem Inv.fpOk{X:Cx}{pins:List [17]}{σ:St}{H H':Hp}{s:Shared}{b:Addr}(I:Inv X pins σ H s)(hb:s.heap.objs.size≤b)(hn:H' b=none):uc X pins H' b:=by
 refine ⟨hn,Kj (JB I.lt hb),I.nofs hb,.inr (JI I.sz hb),fun x c e z=>?_,fun p hp z=>?_⟩
 ·obtain ⟨v,q⟩:=I.cell x c e
  exact absurd (JB q.lt (by rw [z];exact hb)) (KO _)
 ·exact absurd (JB (Ji (I.pin p hp).1) (by rw [z];exact hb)) (KO _)
structure Turn (P:Program) (w:World) (K:PySem.W.Frag) (tg:Expr) (J:It) (fp:List Addr) (it:Addr) (tn:Nat->Heap->Prop):Prop where
 mem:it ∈ fp
 obj:∀ i h,tn i h->∀ b ∈ fp,∃ o,h.get? b=some o/\∀ v,o.data≠.cell v
 keep:∀ i h h',tn i h->(∀ b ∈ fp,∀ o,h.get? b=some o->h'.get? b=some o)->tn i h'
 item:∀ (X:Cx),X.prog=P->X.w=w->X.K=K->X.calm=true->∀ (i:Nat) (pins:List [17]) (s:Shared) (σ:St) (H:Hp) (E:Value->Shared->Prop),Inv X pins σ H s->(∀ b ∈ fp,uc X pins H b)->tn i s.heap->J.go i H->
  wpAny (model P w) X.A (pyNext [84]) (fun r s1=>∃ u,r=some u/\
   wpAny (model P w) X.A (letOwnedTupleGo tg [84] u) (fun _ s2=>∃ x H',Inv X pins σ H' s2/\RelV x u/\J.yld i H x H'/\tn (i+1) s2.heap/\∀ b ∈ fp,H' b=none) E s1) E s
 done:∀ (X:Cx),X.prog=P->X.w=w->X.K=K->X.calm=true->∀ (i:Nat) (pins:List [17]) (s:Shared) (σ:St) (H:Hp) (E:Value->Shared->Prop),Inv X pins σ H s->(∀ b ∈ fp,uc X pins H b)->tn i s.heap->J.stop i H->
  wpAny (model P w) X.A (pyNext [84]) (fun r s1=>r=none/\Inv X pins σ H s1) E s
 self:∀ (A:Around) (i:Nat) (s:Shared) (Q:Value->Shared->Prop) (E:Value->Shared->Prop),tn i s.heap->Q [84] s->wpAny (model P w) A (pyIter [84]) Q E s
noncomputable abbrev TI:=St->Hp->(It->Hp->Prop)->Prop
noncomputable def PIE(X:Cx)(pins:List [17])(σ:St)(tg:Expr)(R:It->Hp->Prop)(itv:Value)(s2:Shared):Prop:=
 ∃ (it:Addr) (fp:List Addr) (tn:Nat->Heap->Prop) (J:It) (H':Hp),itv=.ref it/\Inv X pins σ H' s2/\Turn X.prog X.w X.K tg J fp it tn/\tn 0 s2.heap/\(∀ b ∈ fp,uc X pins H' b)/\R J H'
noncomputable def PI(X:Cx)(tg iter:Expr)(wi:TI):Prop:=
 ∀ (pins:List [17]) (s:Shared) (σ:St) (H:Hp) (R:It->Hp->Prop),Inv X pins σ H s->wi σ H R->
  wpAny [14] X.A (eval iter X.env) (fun v s1=>wpAny [14] X.A (pyIter v) (PIE X pins σ tg R) X.xe s1) X.xe s
theorem zhO {M : Model} {A : Around} {E : Value → Shared → Prop} {s : Shared} {tg : Expr} {it : Addr} {u : Value} {o : Obj} {n : String} {vs : Array Value} {Q : Unit → Shared → Prop} (ho : s.heap.get? it = some o) (hc : o.cls = .type n) (hd : o.data = .fields vs)
    (hn : ["enumerate", "zip", "dict_itemiterator", "dict_reverseitemiterator", "odict_iterator", "itertools.zip_longest", "itertools.pairwise"].contains n = false) (hQ : Q () s) : wpAny M A (letOwnedTupleGo tg [84] u) Q E s := by
  unfold letOwnedTupleGo
  cases tg <;> first
    | exact wpAny_pure hQ
    | (cases u <;> first
        | exact wpAny_pure hQ
        | (refine wpAny_bind (wpAny_load ho ?_)
           rw [hc, hd]
           show wpAny M A (if (["enumerate", "zip", "dict_itemiterator", "dict_reverseitemiterator", "odict_iterator", "itertools.zip_longest", "itertools.pairwise"].contains n && vs[0]? == some (rawInt _)) = true then _ else _) Q E s
           rw [if_neg (by intro h; rw [hn, Bool.false_and] at h; cases h)]
           exact wpAny_pure hQ))
noncomputable def Itl(K:PySem.W.Frag)(a:Addr):It:=
 ⟨fun i H=>∃ xs x,SqL K H a xs/\xs[i]?=some x,fun i H x H'=>H'=H/\∀ xs,SqL K H a xs->xs[i]?=some x,fun i H=>∃ xs,SqL K H a xs/\xs.length≤i⟩
noncomputable def Itt(K:PySem.W.Frag)(a:Addr):It:=
 ⟨fun i H=>∃ xs x,SqT K H a xs/\xs[i]?=some x,fun i H x H'=>H'=H/\∀ xs,SqT K H a xs->xs[i]?=some x,fun i H=>∃ xs,SqT K H a xs/\xs.length≤i⟩
noncomputable def Itr(lo:Int)(n:Nat):It:=⟨fun i _=>i<n,fun i H x H'=>H'=H/\x=.int (lo+i),fun i _=>n≤i⟩
theorem zfk{P:Program}{w:World}{K:PySem.W.Frag}{tg:Expr}(a it:Addr):Turn P w K tg (Itl K a) [it] it (fun i h=>h.IsListIter it a i) where
 mem:=by simp
 obj:=fun i h st b hb=>by
  have e:b=it:=by simpa using hb
  subst e
  obtain ⟨o,e,c,d⟩:=st
  exact ⟨o,e,fun v z=>by rw [d] at z;cases z⟩
 keep:=fun i h h' st k=>st.at fun o e=>k it [12] o e
 item:=by
  intro X hP hw hK hc i pins s σ H E I hf st hg
  subst hP hw hK
  obtain ⟨xs,x,hq,hx⟩:=hg
  obtain ⟨its,rv,p,hz⟩:=I.list hq
  obtain ⟨u,hu,ru⟩:=rv.get hx
  obtain ⟨f0,f1,f2,f3,f4,f5⟩:=hf it [12]
  refine wpAny_pyNext_list_item st p.isList (x:=u) (by simpa using hu) fun h' st' sb=>?_
  have I1:Inv X pins σ H { s with heap:=h' }:=I.turned (t':=s.toks) (fun b o hb e=>(sb.2 b hb).trans e) f0 f1 f3 f4 f5
  obtain ⟨o,e,c,d⟩:=id st'
  exact ⟨u,rfl,zhO (s:={ s with heap:=h' }) e c d [9] ⟨x,H,I1,ru,⟨rfl,fun ys hy=>by rw [I.list_inj hy hq];exact hx⟩,st',fun b hb=>(hf b hb).1⟩⟩
 done:=by
  intro X hP hw hK hc i pins s σ H E I hf st hg
  subst hP hw hK
  obtain ⟨xs,hq,hx⟩:=hg
  obtain ⟨its,rv,p,hz⟩:=I.list hq
  obtain ⟨f0,f1,f2,f3,f4,f5⟩:=hf it [12]
  have hl:=rv.length
  exact wpAny_pyNext_list_end (I.ok.hd hc) st p.isList (by simp;omega) fun h' eb=>⟨rfl,I.turned (t':=s.toks) (fun b o hb e=>eb b o hb e) f0 f1 f3 f4 f5⟩
 self:=fun _ _ _ _ _ st h=>wpAny_pyIter_listiter st h
theorem zdn{P:Program}{w:World}{K:PySem.W.Frag}{tg:Expr}(a it:Addr):Turn P w K tg (Itt K a) [it] it (fun i h=>h.IsTupleIter it a i) where
 mem:=by simp
 obj:=fun i h st b hb=>by
  have e:b=it:=by simpa using hb
  subst e
  obtain ⟨o,e,c,d⟩:=st
  exact ⟨o,e,fun v z=>by rw [d] at z;cases z⟩
 keep:=fun i h h' st k=>st.at fun o e=>k it [12] o e
 item:=by
  intro X hP hw hK hc i pins s σ H E I hf st hg
  subst hP hw hK
  obtain ⟨xs,x,hq,hx⟩:=hg
  obtain ⟨its,rv,p,hz⟩:=I.tuple hq
  obtain ⟨u,hu,ru⟩:=rv.get hx
  obtain ⟨f0,f1,f2,f3,f4,f5⟩:=hf it [12]
  refine wpAny_pyNext_tuple_item st (show s.heap.IsTuple a its.toArray from p) (x:=u) (by simpa using hu) fun h' st' sb=>?_
  have I1:Inv X pins σ H { s with heap:=h' }:=I.turned (t':=s.toks) (fun b o hb e=>(sb.2 b hb).trans e) f0 f1 f3 f4 f5
  obtain ⟨o,e,c,d⟩:=id st'
  exact ⟨u,rfl,zhO (s:={ s with heap:=h' }) e c d [9] ⟨x,H,I1,ru,⟨rfl,fun ys hy=>by rw [I.tuple_inj hy hq];exact hx⟩,st',fun b hb=>(hf b hb).1⟩⟩
 done:=by
  intro X hP hw hK hc i pins s σ H E I hf st hg
  subst hP hw hK
  obtain ⟨xs,hq,hx⟩:=hg
  obtain ⟨its,rv,p,hz⟩:=I.tuple hq
  obtain ⟨f0,f1,f2,f3,f4,f5⟩:=hf it [12]
  have hl:=rv.length
  exact wpAny_pyNext_tuple_end (I.ok.hd hc) st (show s.heap.IsTuple a its.toArray from p) (by simp;omega) fun h' eb=>⟨rfl,I.turned (t':=s.toks) (fun b o hb e=>eb b o hb e) f0 f1 f3 f4 f5⟩
 self:=fun _ _ _ _ _ st h=>wpAny_pyIter_tupleiter st h
theorem zdo{P:Program}{w:World}{K:PySem.W.Frag}{tg:Expr}(it:Addr)(lo:Int)(n:Nat):Turn P w K tg (Itr lo n) [it] it (fun i h=>IsRangeIter h it (lo+(i:Nat) * 1) ((n:Int) - (i:Nat)) 1) where
 mem:=by simp
 obj:=fun i h st b hb=>by
  have e:b=it:=by simpa using hb
  subst e
  exact ⟨_,st,fun v z=>by
   have z':Data.fields _=Data.cell v:=z
   cases z'⟩
 keep:=fun i h h' st k=>k it [12] _ st
 item:=by
  intro X hP hw hK hc i pins s σ H E I hf st hg
  subst hP hw hK
  obtain ⟨f0,f1,f2,f3,f4,f5⟩:=hf it [12]
  have W:=Walks.range (prog:=X.prog) (w:=X.w) (I.ok.hd hc) it lo 1 n
  refine W.item i s _ _ hg st fun v h' tk hv st' kk=>?_
  obtain ⟨t,rfl⟩:=hv
  have I1:Inv X pins σ H { s with heap:=h',toks:=tk }:=I.turned (fun b o hb e=>kk b o (by simpa using hb) e) f0 f1 f3 f4 f5
  refine ⟨_,rfl,zhO (s:={ s with heap:=h',toks:=tk }) (n:="range_iterator") st' rfl rfl [9] ⟨.int (lo+i),H,I1,⟨t,?_⟩,⟨rfl,rfl⟩,st',fun b hb=>(hf b hb).1⟩⟩
  rw [Int.mul_one]
 done:=by
  intro X hP hw hK hc i pins s σ H E I hf st hg
  subst hP hw hK
  obtain ⟨f0,f1,f2,f3,f4,f5⟩:=hf it [12]
  exact wpAny_pyNext_range_end (I.ok.hd hc) st (by have:n≤i:=hg;omega) fun h' eb=>⟨rfl,I.turned (t':=s.toks) (fun b o hb e=>eb b o hb e) f0 f1 f3 f4 f5⟩
 self:=fun _ _ _ _ _ st h=>wpAny_pyIter_rangeiter st h
section
variable {X:Cx} {tg:Expr}
noncomputable def zmK(K:PySem.W.Frag)(tl:TE):TI:=fun σ H R=>tl σ H fun x H1=>∃ a,x=.ref a/\(∃ xs,SqL K H1 a xs)/\R (Itl K a) H1
noncomputable def znU(K:PySem.W.Frag)(tl:TE):TI:=fun σ H R=>tl σ H fun x H1=>∃ a,x=.ref a/\(∃ xs,SqT K H1 a xs)/\R (Itt K a) H1
theorem zjg{l:Expr}{tl:TE}(hl:PE X l tl):PI X tg l (zmK X.K tl):=by
 intro pins s σ H R I h
 refine thn (hl pins s σ H _ I h) fun v s1 ⟨x,H1,I1,r1,q1⟩=>?_
 obtain ⟨a,e,⟨xs,hq⟩,q⟩:=q1
 subst e
 cases r1
 obtain ⟨its,rv,p,hz⟩:=I1.list hq
 refine wpAny_pyIter_list p.isList ?_
 refine ⟨s1.heap.objs.size,[s1.heap.objs.size],_,_,H1,rfl,I1.kept (t':=s1.toks) fun b o e=>Jb _ e,zfk a _,⟨_,Jl _ rfl,rfl,rfl⟩,fun b hb=>?_,q⟩
 have e:b=s1.heap.objs.size:=by simpa using hb
 subst e
 exact I1.fpOk (Jn _) (I1.hok.fresh (Jn _))
theorem zlc{l:Expr}{tl:TE}(hl:PE X l tl):PI X tg l (znU X.K tl):=by
 intro pins s σ H R I h
 refine thn (hl pins s σ H _ I h) fun v s1 ⟨x,H1,I1,r1,q1⟩=>?_
 obtain ⟨a,e,⟨xs,hq⟩,q⟩:=q1
 subst e
 cases r1
 obtain ⟨its,rv,p,hz⟩:=I1.tuple hq
 refine wpAny_pyIter_tuple (show s1.heap.IsTuple a its.toArray from p) ?_
 refine ⟨s1.heap.objs.size,[s1.heap.objs.size],_,_,H1,rfl,I1.kept (t':=s1.toks) fun b o e=>Jb _ e,zdn a _,⟨_,Jl _ rfl,rfl,rfl⟩,fun b hb=>?_,q⟩
 have e:b=s1.heap.objs.size:=by simpa using hb
 subst e
 exact I1.fpOk (Jn _) (I1.hok.fresh (Jn _))
theorem zgM{pins:List [17]}{σ:St}{H:Hp}{s:Shared}{R:It->Hp->Prop}{E:Value->Shared->Prop}{lo hi:Int}{t u v:Tok}{tk:Nat}(I:Inv X pins σ H s)(h1 : -(2 ^ 62)≤lo)(h2:lo<2 ^ 62)(h3 : -(2 ^ 62)≤hi)(h4:hi<2 ^ 62)
  (q:R (Itr lo (hi - lo).toNat) H):wpAny [14] X.A (pyIter [38]) (PIE X pins σ tg R) E { s with heap:=s.heap.push { cls:=.type "range",data:=.fields #[.int lo t,.int hi u,.int 1 v] },toks:=tk }:=by
 refine wpAny_pyIter_range (IsRange.new ..) (small_one h1 h2 h3 h4) ?_
 have I1:Inv X pins σ H { s with heap:=s.heap.push { cls:=.type "range",data:=.fields #[.int lo t,.int hi u,.int 1 v] },toks:=tk }:=I.kept fun b o e=>Heap.get?_push_of_some _ e
 refine ⟨(s.heap.push { cls:=.type "range",data:=.fields #[.int lo t,.int hi u,.int 1 v] }).objs.size,[(s.heap.push { cls:=.type "range",data:=.fields #[.int lo t,.int hi u,.int 1 v] }).objs.size],_,_,H,rfl,
  I1.kept (t':=tk) fun b o e=>Jb _ e,zdo _ lo (hi - lo).toNat,?_,fun b hb=>?_,q⟩
 ·have e1:lo+((0:Nat):Int) * 1=lo:=by simp
  have e2:(((hi - lo).toNat:Nat):Int) - ((0:Nat):Int)=Builtin.Range.rangeSize lo hi 1:=by rw [rangeSize_one];split<;>omega
  show IsRangeIter _ _ (lo+((0:Nat):Int) * 1) ((((hi - lo).toNat:Nat):Int) - ((0:Nat):Int)) 1
  rw [e1,e2]
  exact Jl _ rfl
 ·have e:b=(s.heap.push { cls:=.type "range",data:=.fields #[.int lo t,.int hi u,.int 1 v] }).objs.size:=by simpa using hb
  subst e
  exact I1.fpOk (Jn _) (I1.hok.fresh (Jn _))
noncomputable def zmJ(ta:TA):TI:=fun σ H R=>ta σ H fun vs H1=>∃ j:Int,vs=[.int j]/\-(2 ^ 62)≤j/\j<2 ^ 62/\R (Itr 0 j.toNat) H1
theorem zfz{a:Expr}{ta:TA}{p pos:Pos}(hg:Gl X "range")(hm:X.mg "range"=none)(ha:PA X [a] ta)(hs:starEach [a] X.env=[(false,eval a X.env)]:=by rfl):PI X tg (.Call (.Name "range" p) [a] [] pos) (zmJ ta):=by
 intro pins s σ H R I h
 refine Call_ (vd I hg hm boot_range (Kr [75] hs rfl))
 obtain ⟨j,e,q1,q2,q⟩:=q1
 subst e
 cases r1 with
 | cons r rr=>
  cases rr
  obtain ⟨t,rfl⟩:=r
  exact call_range_1 (zgM I1 [8] [8] q1 q2 (by simpa using q))
noncomputable def znH(wi:TI)(g:TG)(tb:TS):TS:=fun D σ H=>wi σ H fun J H1=>∃ W:Nat->Nat->St->Hp->Prop,(∃ m,W 0 m σ H1)/\∀ i m σ H,W i m σ H->
 (J.stop i H/\D.nx σ H)∨(J.go i H/\∃ N:St->Hp->Prop,(∀ σ' H',N σ' H'->∃ m',m'<m/\W (i+1) m' σ' H')/\∀ x H',J.yld i H x H'->g x σ H' fun σ2 H2=>tb { D with nx:=N,ct:=N,bk:=D.nx } σ2 H2)
noncomputable def qL(fp:List Addr)(h:Heap):List [17]:=fp.filterMap fun b=>(h.get? b).map fun o=>(b,o)
theorem vc{fp:List Addr}{h:Heap}{b:Addr}{o:Obj}(hb:b ∈ fp)(e:h.get? b=some o):(b,o) ∈ qL fp h:=List.mem_filterMap.mpr ⟨b,hb,by rw [e];rfl⟩
theorem zfF{fp:List Addr}{h:Heap}{p:Addr × Obj}(hp:p ∈ qL fp h):p.1 ∈ fp/\h.get? p.1=some p.2:=by
 obtain ⟨b,hb,e⟩:=List.mem_filterMap.mp hp
 cases q:h.get? b with
 | none=>rw [q] at e;cases e
 | some o=>
  rw [q] at e
  have e':(b,o)=p:=Jq e
  subst e'
  exact ⟨hb,q⟩
theorem Inv.pinned{pins:List [17]}{σ:St}{H:Hp}{s:Shared}{fp:List Addr}(I:Inv X pins σ H s)(hf:∀ b ∈ fp,uc X pins H b)(ho:∀ b ∈ fp,∃ o,s.heap.get? b=some o/\∀ v,o.data≠.cell v):Inv X (pins++qL fp s.heap) σ H s:=
 I.pins_of fun p hp=>(JQ.mp hp).elim (fun z=>I.pin p (Js _ z)) fun z=>by
  obtain ⟨hb,e⟩:=zfF z
  obtain ⟨f0,f1,f2,_⟩:=hf p.1 hb
  obtain ⟨o,e',d⟩:=ho p.1 hb
  rw [e] at e';cases e'
  exact ⟨e,f0,f1,f2,d⟩
theorem Inv.unpinned{pins pl:List [17]}{σ:St}{H:Hp}{s:Shared}(I:Inv X (pins++pl) σ H s):Inv X pins σ H s:=I.pins_of fun p hp=>I.pin p (Js _ (Jm _ hp))
theorem zla{iter:Expr}{body:List Stmt}{wi:TI}{g:TG}{tb:TS}{pos:Pos}(hp:PassesOwn [14] X.A X.env X.xe)(hc:X.calm=true)(hi:PI X tg iter wi)(hg:PG X tg g)(hb:PSs X body tb)
  (hs:∀ x,foldedSetIterable iter X.env x=pure x:=by intro _;rfl):PS X (.For tg iter body [] pos) (znH wi g tb):=by
 intro pins s σ H D I h
 refine wpAny_For (thn (hi pins s σ H _ I h) fun v s1 h1=>thn h1 fun itv s2 h2=>?_) hs
 obtain ⟨it,fp,tn,J,H2,e,I2,T,st2,f2,W,⟨m0,w0⟩,turn⟩:=h2
 subst e
 -- what stays true of the iterator's objects through the loop
 have stat:∀ {H':Hp},(∀ b ∈ fp,H' b=none)->∀ b ∈ fp,uc X pins H' b:=fun hn b hb=>⟨hn b hb,(f2 b hb).2⟩
 refine codeAny_forLoop_any (fun n s'=>∃ i σ' H',Inv X pins σ' H' s'/\tn i s'.heap/\(∀ b ∈ fp,H' b=none)/\W i n σ' H') ?_ m0 ⟨0,σ,H2,I2,st2,fun b hb=>(f2 b hb).1,w0⟩
 rintro n s3 ⟨i,σ3,H3,I3,st3,fr3,w3⟩
 rcases turn i n σ3 H3 w3 with ⟨stop,qn⟩ | ⟨go,N,hN,step⟩
 ·refine wpAny_passesOwn hp (thn (T.done X rfl rfl rfl hc i pins s3 σ3 H3 X.xe I3 (stat fr3) st3 stop) fun r s4 ⟨hr,I4⟩=>?_)
  subst hr
  exact wpAny_execs_nil ⟨σ3,H3,I4,qn⟩
 ·refine wpAny_passesOwn hp (thn (T.item X rfl rfl rfl hc i pins s3 σ3 H3 X.xe I3 (stat fr3) st3 go) fun r s4 ⟨u,hr,h4⟩=>?_)
  subst hr
  refine wpAny_passesOwn hp (thn h4 fun _ s5 hq_=>?_)
  obtain ⟨x,H5,I5,r5,y5,st5,fr5⟩:=hq_
  have I5':=I5.pinned (stat fr5) (T.obj _ _ st5)
  refine wpAny_passesOwn hp (thn (hg _ s5 σ3 H5 x u _ I5' r5 (step x H5 y5)) fun _ s6 hq_=>?_)
  obtain ⟨σ6,H6,I6,q6⟩:=hq_
  refine wpAny_passesOwn hp (thn (hb _ s6 σ6 H6 _ I6 q6) fun f s7 q7=>?_)
  have again:∀ {σ7:St} {H7:Hp},Inv X (pins++qL fp s5.heap) σ7 H7 s7->N σ7 H7->∃ m,m<n/\∃ i σ' H',Inv X pins σ' H' s7/\tn i s7.heap/\(∀ b ∈ fp,H' b=none)/\W i m σ' H':=fun {σ7 H7} I7 n7=>by
   obtain ⟨m',hm,w7⟩:=hN σ7 H7 n7
   refine ⟨m',hm,i+1,σ7,H7,I7.unpinned,T.keep _ _ _ st5 fun b hb o e=>(I7.pin (b,o) (Js _ (Js _ (vc hb e)))).1,fun b hb=>?_,w7⟩
   obtain ⟨o,e,d⟩:=T.obj _ _ st5 b hb
   exact (I7.pin (b,o) (Js _ (Js _ (vc hb e)))).2.1
  cases f with
  | next=>obtain ⟨σ7,H7,I7,n7⟩:=q7;exact again I7 n7
  | cont=>obtain ⟨σ7,H7,I7,n7⟩:=q7;exact again I7 n7
  | brk=>obtain ⟨σ7,H7,I7,q7⟩:=q7;exact ⟨σ7,H7,I7.unpinned,q7⟩
  | ret v=>obtain ⟨x7,σ7,H7,I7,r7,q7⟩:=q7;exact ⟨x7,σ7,H7,I7.unpinned,r7,q7⟩
end
noncomputable abbrev R2:=V->V->Hp->VK->Prop
noncomputable def OpR(X:Cx)(f:Value->Value->Sem Value)(r:R2):Prop:=
 ∀ (pins:List [17]) (s:Shared) (σ:St) (H:Hp) (x y:V) (v u:Value) (Q:VK),Inv X pins σ H s->RelV x v->RelV y u->r x y H Q->
  wpAny [14] X.A (f v u) (EP X pins σ Q) X.xe s
noncomputable def UnR(X:Cx)(f:Value->Sem Value)(r:V->Hp->VK->Prop):Prop:=
 ∀ (pins:List [17]) (s:Shared) (σ:St) (H:Hp) (x:V) (v:Value) (Q:VK),Inv X pins σ H s->RelV x v->r x H Q->
  wpAny [14] X.A (f v) (EP X pins σ Q) X.xe s
noncomputable def CallR(X:Cx)(f:Value)(r:List V->Hp->VK->Prop):Prop:=
 ∀ (pins:List [17]) (s:Shared) (σ:St) (H:Hp) (xs:List V) (us:List Value) (Q:VK),Inv X pins σ H s->Vals xs us->r xs H Q->
  wpAny [14] X.A (call f us) (EP X pins σ Q) X.xe s
noncomputable def zok(X:Cx)(r:V->Hp->(Bool->Hp->Prop)->Prop):Prop:=
 ∀ (pins:List [17]) (s:Shared) (σ:St) (H:Hp) (x:V) (v:Value) (Q:Bool->Hp->Prop),Inv X pins σ H s->RelV x v->r x H Q->
  wpAny [14] X.A (truthy v) (TP X pins σ Q) X.xe s
noncomputable def tOp(r:R2)(ta tb:TE):TE:=fun σ H Q=>ta σ H fun x H1=>tb σ H1 fun y H2=>r x y H2 Q
noncomputable def tUn(r:V->Hp->VK->Prop)(ta:TE):TE:=fun σ H Q=>ta σ H fun x H1=>r x H1 Q
noncomputable def rI(C:Int->Int->Prop)(g:Int->Int->V):R2:=fun x y H Q=>∃ i j,x=.int i/\y=.int j/\C i j/\Q (g i j) H
noncomputable def rI0(g:Int->Int->V):R2:=fun x y H Q=>∃ i j,x=.int i/\y=.int j/\Q (g i j) H
noncomputable def rU(g:Int->V):V->Hp->VK->Prop:=fun x H Q=>∃ i,x=.int i/\Q (g i) H
section
variable {X:Cx} {a b c:Expr} {ta tb tc:TE} {pos:Pos}
theorem znc(ha:PE X a ta)(hb:PE X b tb){pins:List [17]}{s:Shared}{σ:St}{H:Hp}{R:V->V->Hp->Prop}(I:Inv X pins σ H s)
  (h:ta σ H fun x H1=>tb σ H1 fun y H2=>R x y H2){Q:Value->Shared->Prop}{f:Value->Value->Sem Value}
  (hf:∀ v u s2 x y H2,Inv X pins σ H2 s2->RelV x v->RelV y u->R x y H2->wpAny [14] X.A (f v u) Q X.xe s2):
  wpAny [14] X.A (eval a X.env) (fun v s₁=>wpAny [14] X.A (eval b X.env) (fun u s₂=>wpAny [14] X.A (f v u) Q X.xe s₂) X.xe s₁) X.xe s:=by
 refine thn (ha pins s σ H _ I h) fun v s1 ⟨x,H1,I1,r1,q1⟩=>?_
 refine thn (hb pins s1 σ H1 _ I1 q1) fun u s2 ⟨y,H2,I2,r2,q2⟩=>?_
 exact hf v u s2 x y H2 I2 r1 r2 q2
theorem zmr{op:Operator}{r:R2}(ho:OpR X (binaryOp op) r)(ha:PE X a ta)(hb:PE X b tb):PE X (.BinOp a op b pos) (tOp r ta tb):=by
 intro pins s σ H Q I h
 exact wpAny_BinOp (znc ha hb I h fun v u s2 x y H2 I2 rx ry q=>ho pins s2 σ H2 x y v u Q I2 rx ry q)
theorem zmq{op:UnaryOp}{r:V->Hp->VK->Prop}(ho:UnR X (unaryOp op) r)(ha:PE X a ta):PE X (.UnaryOp op a pos) (tUn r ta):=by
 intro pins s σ H Q I h
 exact UnaryOp_ (thn (ha pins s σ H _ I h) fun v s1 ⟨x,H1,I1,r1,q1⟩=>ho pins s1 σ H1 x v Q I1 r1 q1)
theorem opI{f:Value->Value->Sem Value}{C:Int->Int->Prop}{g:Int->Int->Int}
  (rule:∀ (i j:Int) (t u:Tok) (s:Shared) (Q:Value->Shared->Prop) (E:Value->Shared->Prop),C i j->Q (.int (g i j) s.toks) { s with toks:=s.toks+1 }->wpAny [14] X.A (f (.int i t) (.int j u)) Q E s):
  OpR X f (rI C fun i j=>.int (g i j)):=by
 intro pins s σ H x y v u Q I rx ry h
 obtain ⟨i,j,rfl,rfl,hc,q⟩:=h
 obtain ⟨t,rfl⟩:=rx
 obtain ⟨t',rfl⟩:=ry
 exact rule i j t t' s _ _ hc ⟨.int (g i j),H,I.tok _,⟨_,rfl⟩,q⟩
theorem zmA{f:Value->Value->Sem Value}{g:Int->Int->Int}
  (rule:∀ (i j:Int) (t u:Tok) (s:Shared) (Q:Value->Shared->Prop) (E:Value->Shared->Prop),Q (.int (g i j) s.toks) { s with toks:=s.toks+1 }->wpAny [14] X.A (f (.int i t) (.int j u)) Q E s):
  OpR X f (rI0 fun i j=>.int (g i j)):=by
 intro pins s σ H x y v u Q I rx ry h
 obtain ⟨i,j,rfl,rfl,q⟩:=h
 obtain ⟨t,rfl⟩:=rx
 obtain ⟨t',rfl⟩:=ry
 exact rule i j t t' s _ _ ⟨.int (g i j),H,I.tok _,⟨_,rfl⟩,q⟩
theorem zjp{f:Value->Value->Sem Value}{g:Int->Int->Bool}
  (rule:∀ (i j:Int) (t u:Tok) (s:Shared) (Q:Value->Shared->Prop) (E:Value->Shared->Prop),Q (.bool (g i j)) s->wpAny [14] X.A (f (.int i t) (.int j u)) Q E s):
  OpR X f (rI0 fun i j=>.bl (g i j)):=by
 intro pins s σ H x y v u Q I rx ry h
 obtain ⟨i,j,rfl,rfl,q⟩:=h
 obtain ⟨t,rfl⟩:=rx
 obtain ⟨t',rfl⟩:=ry
 exact rule i j t t' s _ _ ⟨.bl (g i j),H,I,rfl,q⟩
noncomputable def znl(i j:Int):Prop:=0<j/\j<1073741824
noncomputable def zoD(i j:Int):Prop:=(-(2 ^ 64)<i/\i<2 ^ 64)∨(-(2 ^ 64)<j/\j<2 ^ 64)
theorem op_add:OpR X (binaryOp .Add) (rI0 fun i j=>.int (i+j)):=zmA fun _ _ _ _ _ _ _ q=>add_int q
theorem uw:OpR X (binaryOp .Sub) (rI0 fun i j=>.int (i - j)):=zmA fun _ _ _ _ _ _ _ q=>sub_int q
theorem vZ:OpR X (binaryOp .FloorDiv) (rI znl fun i j=>.int (i / j)):=opI fun i j _ _ _ _ _ hc q=>by
 have h1:(0:Int)<j:=hc.1
 have h2:j<1073741824:=hc.2
 exact floordiv_int [8] (by rw [Int.fdiv_eq_ediv_of_nonneg i [8]];exact q) (.inl (PyProof.noPylong_small [8]))
theorem yz:OpR X (binaryOp .Mod) (rI (fun _ j=>0<j) fun i j=>.int (i % j)):=opI fun i j _ _ _ _ _ hc q=>by
 have h1:(0:Int)<j:=hc
 exact mod_int' [8] (by rw [Int.fmod_eq_emod_of_nonneg i [8]];exact q)
theorem unI{f:Value->Sem Value}{g:Int->Int}
  (rule:∀ (i:Int) (t:Tok) (s:Shared) (Q:Value->Shared->Prop) (E:Value->Shared->Prop),Q (.int (g i) s.toks) { s with toks:=s.toks+1 }->wpAny [14] X.A (f (.int i t)) Q E s):
  UnR X f (rU fun i=>.int (g i)):=by
 intro pins s σ H x v Q I rx h
 obtain ⟨i,rfl,q⟩:=h
 obtain ⟨t,rfl⟩:=rx
 exact rule i t s _ _ ⟨.int (g i),H,I.tok _,⟨_,rfl⟩,q⟩
theorem zkG:UnR X (unaryOp .USub) (rU fun i=>.int (-i)):=unI fun _ _ _ _ _ q=>neg_int q
theorem zlE{pins:List [17]}{σ:St}{H:Hp}{s:Shared}{Q:VK}{k k':Bool}(I:Inv X pins σ H s)(q:Q (.bl k) H)(e:k=k'):EP X pins σ Q (.bool k') s:=by
 subst e
 exact ⟨.bl k,H,I,rfl,q⟩
theorem zkq:OpR X (compareOp .Lt) (rI0 fun i j=>.bl (decide (i<j))):=zjp fun _ _ _ _ _ _ _ q=>lt_int q
theorem zmy:OpR X (compareOp .LtE) (rI0 fun i j=>.bl (decide (i≤j))):=zjp fun _ _ _ _ _ _ _ q=>le_int q
theorem zaC:OpR X (compareOp .Gt) (rI0 fun i j=>.bl (decide (j<i))):=zjp fun _ _ _ _ _ _ _ q=>gt_int q
theorem zmz:OpR X (compareOp .GtE) (rI0 fun i j=>.bl (decide (j≤i))):=zjp fun _ _ _ _ _ _ _ q=>ge_int q
theorem zjo:OpR X (compareOp .IsNot) (fun x y H Q=>y=.non/\Q (.bl (!decide (x=.non))) H):=by
 intro pins s σ H x y v u Q I rx ry h
 obtain ⟨rfl,q⟩:=h
 cases ry
 refine isnot_none_gen (zlE I q ?_)
 cases x<;>first
  | (cases rx;rfl)
  | (obtain ⟨t,rfl⟩:=rx;rfl)
theorem OpR.or{f:Value->Value->Sem Value}{r r':R2}(h:OpR X f r)(h':OpR X f r'):OpR X f (fun x y H Q=>r x y H Q∨r' x y H Q):=by
 intro pins s σ H x y v u Q I rx ry q
 rcases q with q | q
 ·exact h pins s σ H x y v u Q I rx ry q
 ·exact h' pins s σ H x y v u Q I rx ry q
theorem zy(b:Expr){op:CmpOp}(h:op≠.In:=by decide)(h2:op≠.NotIn:=by decide):behindInMarks op b=false:=by
 have e1:(op == CmpOp.In)=false:=by cases op<;>first | rfl | exact absurd rfl h
 have e2:(op == CmpOp.NotIn)=false:=by cases op<;>first | rfl | exact absurd rfl h2
 cases b<;>simp [behindInMarks,e1,e2]
noncomputable def zgy(t:TE):TT:=fun σ H Q=>t σ H fun x H'=>∃ k,x=.bl k/\Q k H'
theorem ziZ{op:CmpOp}{r:R2}(ho:OpR X (compareOp op) r)(ha:PE X a ta)(hb:PE X b tb)(hm:behindInMarks op b=false):PT X (.Compare a [op] [b] pos) (zgy (tOp r ta tb)):=by
 intro pins s σ H Q I h
 refine wpAny_isTrue_Compare1 (thn (ha pins s σ H _ I h) fun v s1 ⟨x,H1,I1,r1,q1⟩=>thn (hb pins s1 σ H1 _ I1 q1) fun u s2 ⟨y,H2,I2,r2,q2⟩=>
  thn (ho pins s2 σ H2 x y v u _ I2 r1 r2 q2) fun c s3 ⟨z,H3,I3,r3,k,e,q3⟩=>?_) hm
 subst e
 cases r3
 exact wpAny_truthy_bool ⟨H3,I3,q3⟩
noncomputable def zgC(r r':R2)(ta tb tc:TE):TE:=fun σ H Q=>ta σ H fun x H1=>tb σ H1 fun y H2=>r x y H2 fun z H3=>∃ k,z=.bl k/\
 (if k=true then tc σ H3 fun w' H4=>r' y w' H4 Q else Q (.bl false) H3)
theorem zgT{op op':CmpOp}{r r':R2}(ho:OpR X (compareOp op) r)(ho':OpR X (compareOp op') r')(ha:PE X a ta)(hb:PE X b tb)(hc:PE X c tc)
  (hm:lastMarks [op,op'] [b,c]=false:=by with_unfolding_all rfl):PT X (.Compare a [op,op'] [b,c] pos) (zgy (zgC r r' ta tb tc)):=by
 intro pins s σ H Q I h
 refine isTrue_chain (thn (ha pins s σ H _ I h) fun v s1 ⟨x,H1,I1,r1,q1⟩=>test_link (thn (hb pins s1 σ H1 _ I1 q1) fun u s2 ⟨y,H2,I2,r2,q2⟩=>
  thn (ho pins s2 σ H2 x y v u _ I2 r1 r2 q2) fun d s3 ⟨z,H3,I3,r3,k,e,q3⟩=>?_)) hm
 subst e
 cases r3
 refine wpAny_truthy_bool ?_
 cases k with
 | false=>
  obtain ⟨k',e',q'⟩:=q3
  cases e'
  exact ite_ff ⟨H3,I3,q'⟩
 | true=>
  refine ite_tt (test_last (thn (hc pins s3 σ H3 _ I3 q3) fun w' s4 ⟨z',H4,I4,r4,q4⟩=>thn (ho' pins s4 σ H4 y z' u w' _ I4 r2 r4 q4) fun d' s5 ⟨z2,H5,I5,r5,k2,e2,q5⟩=>?_))
  subst e2
  cases r5
  exact wpAny_truthy_bool ⟨H5,I5,q5⟩
noncomputable def zni(K:PySem.W.Frag)(x:V)(H:Hp)(k:Bool):Prop:=
 match x with
 | .non=>k=false
 | .bl b=>k=b
 | .int i=>k=(i != 0)
 | .str y=>y.length≤sizeLine/\k=((y.length:Int) != 0)
 | .byt y=>y.size≤sizeLine/\k=((y.size:Int) != 0)
 | .ref p=>(∃ xs,SqL K H p xs/\k=!xs.isEmpty)∨(∃ xs,SqT K H p xs/\k=!xs.isEmpty)∨∃ kvs,H p=some (.dK kvs)/\k=!kvs.isEmpty
 | _=>False
theorem zdT{κ:Type}{kvs:List (κ × V)}{vs:List (κ × Value)}(r:KV kvs vs):(!vs.isEmpty)=!kvs.isEmpty:=by
 cases r<;>rfl
theorem qj{xs:List V}{its:List Value}(r:Vals xs its):(!its.toArray.isEmpty)=!xs.isEmpty:=by
 cases r<;>simp
theorem uy:(sizeLine:Nat)<2 ^ 63:=by rw [sizeLine_eq];decide
theorem zkH:zok X (fun x H Q=>∃ k,zni X.K x H k/\Q k H):=by
 intro pins s σ H x v Q I rx h
 obtain ⟨k,e,q⟩:=h
 have hl:=uy
 have hs:sizeLine=16777216:=sizeLine_eq
 cases x with
 | non=>
  cases rx
  have e':k=false:=e
  subst e'
  exact truthy_none ⟨H,I,q⟩
 | bl b=>
  cases rx
  have e':k=b:=e
  subst e'
  exact wpAny_truthy_bool ⟨H,I,q⟩
 | int i=>
  obtain ⟨t,rfl⟩:=rx
  have e':k=(i != 0):=e
  subst e'
  exact PySem.P.truthy_int ⟨H,I,q⟩
 | str y=>
  obtain ⟨t,rfl⟩:=rx
  obtain ⟨hy,e'⟩:y.length≤sizeLine/\k=((y.length:Int) != 0):=e
  subst e'
  exact PySem.P.truthy_str [8] ⟨H,I.tok _,q⟩
 | byt y=>
  obtain ⟨t,rfl⟩:=rx
  obtain ⟨hy,e'⟩:y.size≤sizeLine/\k=((y.size:Int) != 0):=e
  subst e'
  exact PySem.W.truthy_bytes [8] ⟨H,I.tok _,q⟩
 | ref p=>
  cases rx
  have e':(∃ xs,SqL X.K H p xs/\k=!xs.isEmpty)∨(∃ xs,SqT X.K H p xs/\k=!xs.isEmpty)∨∃ kvs,H p=some (.dK kvs)/\k=!kvs.isEmpty:=e
  rcases e' with ⟨xs,hx,e'⟩ | ⟨xs,hx,e'⟩ | ⟨kvs,hx,e'⟩
  ·subst e'
   obtain ⟨its,r,pl,hz⟩:=I.list hx
   have hlen:=r.length
   exact wpAny_truthy_list pl.isList (by simp only [List.size_toArray];omega) ⟨H,I.tok _,by rw [qj r];exact q⟩
  ·subst e'
   obtain ⟨its,r,pl,hz⟩:=I.tuple hx
   have hlen:=r.length
   exact truthy_tuple pl (by simp only [List.size_toArray];omega) ⟨H,I.tok _,by rw [qj r];exact q⟩
  ·subst e'
   obtain ⟨hz,hS,vs,r,m⟩:kvs.length≤sizeLine/\(p == sysModules)=false/\∃ vs,KV kvs vs/\s.heap.DictOf (zK X.prog X.w) p vs:=I.hok p _ hx
   have hlen:kvs.length=vs.length:=Paired.length r
   exact wpAny_truthy_dict hS m [8] ⟨H,I.tok _,by rw [zdT r];exact q⟩
 | _=>exact (show False from e).elim
theorem zgS(ha:PE X a ta)(he:∀ whole,isTrue a X.env whole=(do let v ← whole;standAt a.pos;holding [v] (truthy v))):
  PT X a (fun σ H Q=>ta σ H fun x H'=>∃ k,zni X.K x H' k/\Q k H'):=by
 intro pins s σ H Q I h
 exact isTrue_plain (thn (ha pins s σ H _ I h) fun v s1 ⟨x,H1,I1,r1,q1⟩=>zkH pins s1 σ H1 x v Q I1 r1 q1) (he _)
theorem zdF:OpR X (binaryOp .Add) (fun x y H Q=>∃ i j,x=.str i/\y=.str j/\i.length+j.length≤sizeLine/\Q (.str (i++j)) H):=by
 intro pins s σ H x y v u Q I rx ry h
 obtain ⟨i,j,rfl,rfl,hz,q⟩:=h
 obtain ⟨t,rfl⟩:=rx
 obtain ⟨t',rfl⟩:=ry
 exact add_str (fun t' tk=>⟨.str (i++j),H,I.tok _,⟨_,rfl⟩,q⟩) hz
theorem zat{x:V}{us:List Value}(r:Vals [x] us):∃ u,us=[u]/\RelV x u:=by
 cases r with
 | cons r1 r2=>cases r2;exact ⟨_,rfl,r1⟩
theorem zkf{x y:V}{us:List Value}(r:Vals [x,y] us):∃ u w',us=[u,w']/\RelV x u/\RelV y w':=by
 cases r with
 | cons r1 r2=>
  cases r2 with
  | cons r3 r4=>cases r4;exact ⟨_,_,rfl,r1,r3⟩
end
structure ObjM (h:Heap) (x dx C:Addr) (mA:Str->Option Value):Prop where
 obj:h.get? x=some (PySem.W.instObj C dx)
 ns:h.Ns1 dx mA
 ne:dx≠x
theorem RelO.some_of{v:V}{o:Option Value}(r:RelO (some v) o):∃ u,o=some u/\RelV v u:=by
 cases o with
 | none=>exact (show False from r).elim
 | some u=>exact ⟨u,rfl,r⟩
structure Cls (K:PySem.W.Frag) (C:Addr):Prop where
 pg:PySem.W.plainGet K C Str.empty=true
 hd:PySem.W.hasDictIn K C=true
 po:PySem.W.plainOver K C=true
 sa:PySem.W.findIn K (.ref C) "__setattr__"=some (some (.builtin "object.__setattr__"))
structure Con (K:PySem.W.Frag) (C:Addr) (f:Str) (v:V) (u:Value):Prop where
 at_:PySem.W.findIn K (.ref C) f=some (some u)
 rel:RelV v u
 get:PySem.W.specialIn K u "__get__"=some none
 cp:PySem.W.copiedNames.contains f=false
structure Meth (K:PySem.W.Frag) (C:Addr) (m:Str) (f:Addr):Prop where
 at_:PySem.W.findIn K (.ref C) m=some (some (.ref f))
 fn:PySem.W.isFn K (.ref f)=true
 kp:PySem.W.keepIn K (.ref f)=true
section
variable {X:Cx} {pins:List [17]} {σ:St} {H:Hp} {s:Shared} {A:Around} {E:Value->Shared->Prop} {Q:Value->Shared->Prop} {c:Value} {b:Bool}
inductive TyOf (K:PySem.W.Frag) (H:Hp):V->Value->Prop where
 | non:TyOf K H .non (.type "NoneType")
 | bl (x:Bool):TyOf K H (.bl x) (.type "bool")
 | int (i:Int):TyOf K H [87] (.type "int")
 | str (x:Str):TyOf K H (.str x) (.type "str")
 | flt (x:UInt64):TyOf K H (.flt x) (.type "float")
 | lst {a:Addr} {xs:List V} (e:H a=some (.lst xs)):TyOf K H [67] (.type "list")
 | frz {a:Addr} {o:Obj} {xs:List V} (e:H a=some (.frz o (.lst xs))):TyOf K H [67] (.type "list")
 | tup {a:Addr} {xs:List V} (e:H a=some (.tup xs)):TyOf K H [67] (.type "tuple")
 | dK {a:Addr} {kvs:List (Key × V)} (e:H a=some (.dK kvs)):TyOf K H [67] (.type "dict")
 | dT {a:Addr} {kvs:List (List Key × V)} (e:H a=some (.dT kvs)):TyOf K H [67] (.type "dict")
 | ins {a C dx:Addr} {fs:List (Str × V)} (e:H a=some (.ins C dx fs)) (cl:Cls K C) (ha:PySem.W.findIn K (.ref C) "__class__"=some (some (.builtin "object.__class__")))
   (hn:PySem.W.specialIn K (.builtin "object.__class__") "__get__"=some (some (.builtin "getset_descriptor.__get__"))) (htk:PySem.W.takesIn K (.builtin "object.__class__")=some true)
   (hm:PySem.W.mroIn K C (.type "object")=some true):TyOf K H [67] (.ref C)
end
structure Room (k:Nat) (A:Around):Prop where
 hd:A.handled=none
 dp:A.depth+3 * k+5<recursionLimit
 un:A.units+16 * k+200<cLine
theorem Room.mono{j k:Nat}{A:Around}(r:Room k A)(h:j≤k):Room j A:=⟨r.hd,by have:=r.dp;omega,by have:=r.un;omega⟩
theorem Room.deeper{k:Nat}{A:Around}(r:Room (k+1) A)(env:Env):Room k (A.deeper env):=
 ⟨r.hd,by have:=r.dp;show A.depth+1+3 * k+5<_;omega,by have:=r.un;show A.units+3+16 * k+200<_;omega⟩
theorem Room.depth{k:Nat}{A:Around}(r:Room k A):A.depth<recursionLimit:=by have:=r.dp;omega
theorem Room.units{k:Nat}{A:Around}(r:Room k A):A.units+64<cLine:=by have:=r.un;omega
noncomputable def zfn:TA:=fun _ H Q=>Q [] H
noncomputable def zaw(ta:TE)(tr:TA):TA:=fun σ H Q=>ta σ H fun x H1=>tr σ H1 fun xs H2=>Q (x::xs) H2
section
variable {X:Cx} {e:Expr} {es:List Expr} {te:TE} {t:TA} {pos:Pos}
theorem pa_nil:PA X [] zfn:=fun _ _ _ _ H Q I h=>Calls.spliced_nil ⟨[],H,I,.nil,h⟩
theorem yR(ha:PE X e te)(hr:PA X es t)(hs:starEach (e::es) X.env=[41]::starEach es X.env:=by rfl):PA X (e::es) (zaw te t):=by
 intro pos pins s σ H Q I h
 rw [hs]
 show wpAny _ _ (spliced ([41]::backTo pos (starEach es X.env))) _ _ s
 refine Qa (thn (ha pins s σ H _ I h) fun u s1 hq_=>?_)
 obtain ⟨x,H1,I1,r1,q1⟩:=hq_
 exact thn (hr pos pins s1 σ H1 _ I1 q1) fun us s2 ⟨xs,H2,I2,r2,q2⟩=>⟨x::xs,H2,I2,.cons r1 r2,q2⟩
noncomputable def znB(t:TA):TE:=fun σ H Q=>t σ H fun xs H1=>xs.length≤sizeLine/\∀ p,H1 p=none->Q (.ref p) (upd H1 p (.tup xs))
noncomputable def znF(t:TA):TE:=fun σ H Q=>t σ H fun xs H1=>xs.length≤sizeLine/\∀ p,H1 p=none->Q (.ref p) (upd H1 p (.lst xs))
theorem zlg{x1}(h:PA X es t):PE X (.Tuple es x1 pos) (znB t):=by
 intro pins s σ H Q I hq
 refine wpAny_Tuple_spliced (thn (h pos pins s σ H _ I hq) fun us s1 ⟨xs,H1,I1,r,z,q⟩=>⟨by rw [← r.length];exact z,?_⟩)
 have hf:H1 s1.heap.objs.size=none:=I1.hok.fresh (Jn _)
 refine ⟨.ref s1.heap.objs.size,upd H1 s1.heap.objs.size (.tup xs),I1.laid (t':=s1.toks) (fun b u e=>Jb _ e) (Jn _) ?_,rfl,q _ hf⟩
 exact ⟨z,us,r,⟨_,Jl _ rfl,rfl,_,rfl⟩⟩
theorem zlj(h:PA X es t):PE X (.List es pos) (znF t):=by
 intro pins s σ H Q I hq
 refine wpAny_List_spliced (thn (h pos pins s σ H _ I hq) fun us s1 ⟨xs,H1,I1,r,z,q⟩=>⟨by rw [← r.length];exact z,?_⟩)
 have hf:H1 s1.heap.objs.size=none:=I1.hok.fresh (Jn _)
 refine ⟨.ref s1.heap.objs.size,upd H1 s1.heap.objs.size (.lst xs),I1.laid (t':=s1.toks) (fun b u e=>Jb _ e) (Jn _) ?_,rfl,q _ hf⟩
 exact ⟨z,us,0,r,Jl _ rfl⟩
end
noncomputable abbrev Sp:=List V->Hp->VK->XK->Prop
noncomputable abbrev CXT:=List Env->Hp->Shared->XK->Value->Shared->Prop
structure Env0 (P:Program) (w:World) (K:PySem.W.Frag) (mg:Str->Option Value) (base:Heap) (A:Around) (outer:List Env) (s:Shared) (H:Hp):Prop where
 frames:A.frames=some outer
 mod:Mod K mg base
 bs:∀ b o,base.get? b=some o->s.heap.get? b=some o/\H b=none
 bsz:base.objs.size≤s.heap.objs.size
 funs:s.heap.FunFrames base outer
 frf:∀ b ∈ frs outer,H b=none
 hok:HOk P w H s.heap
 bare:AllBare s.gens
noncomputable def CE(outer:List Env)(P:Program)(w:World)(H:Hp)(s:Shared)(Q:VK)(u:Value)(s':Shared):Prop:=
 ∃ v H',s'.os=s.os/\AllBare s'.gens/\Un (frs outer) [] H H' s.heap s'.heap/\HOk P w H' s'.heap/\RelV v u/\Q v H'
noncomputable def CR(CX:CXT)(outer:List Env)(P:Program)(w:World)(H:Hp)(s:Shared)(Q:VK)(E:XK)(r:Result)(s':Shared):Prop:=
 match r with
 | .ok (.ret u)=>CE outer P w H s Q u s'
 | .ok _=>False
 | .error e=>CX outer H s E e s'
structure FnOk (P:Program) (w:World) (K:PySem.W.Frag) (mg:Str->Option Value) (base:Heap) (CX:CXT) (k:Nat) (f:Addr) (fd:FuncData) (ps:List Str) (sp:Sp):Prop where
 len:∀ vs H Q E,sp vs H Q E->vs.length=ps.length
 run:∀ (A:Around) (outer:List Env) (s:Shared) (H:Hp) (args:Args) (us:List Value) (vs:List V) (Q:VK) (E:XK),Room k A->Env0 P w K mg base A outer s H->BindsTo s fd args (ps.zip us)->Vals vs us->sp vs H Q E->
  codeAny (model P w) A (.call (.ref f) args) (CR CX outer P w H s Q E) s
section
variable {X:Cx} {pins:List [17]} {σ:St} {H:Hp} {s s':Shared}
theorem Inv.env0(I:Inv X pins σ H s):Env0 X.prog X.w X.K X.mg X.base X.A X.stack s H:=
 ⟨I.ok.frames,I.ok.mod,I.bs,JI I.ok.bsz I.sz,I.stack,I.stkFree,I.hok,I.bare⟩
theorem Inv.after{Q:VK}{u:Value}(I:Inv X pins σ H s)(h:CE X.stack X.prog X.w H s Q u s'):EP X pins σ Q u s':=by
 obtain ⟨v,H',os,bare,un,hok,r,q⟩:=h
 obtain ⟨hh,g,d,t,os'⟩:=s'
 obtain rfl:os'=s.os:=os
 exact ⟨v,H',I.call (h':=hh) (g':=g) (d':=d) (t':=t) (ch:=[]) un hok bare (fun b z=>absurd z [12]),r,q⟩
end
noncomputable def zkk(sp:Sp)(dvs:List V)(E:XK)(t:TA):TE:=fun σ H Q=>t σ H fun vs H1=>sp (vs++dvs) H1 Q E
noncomputable def Binds(K:PySem.W.Frag)(fd:FuncData)(ps:List Str)(ds:List Value):Prop:=
 ∀ (s:Shared) (us:List Value),K.In s.heap->(us++ds).length=ps.length->BindsTo s fd ⟨us,[]⟩ (ps.zip (us++ds))
theorem Binds.all{K:PySem.W.Frag}{fd:FuncData}{ps:List Str}(h:∀ us:List Value,us.length=ps.length->bindArgs fd ⟨us,[]⟩=pure (ps.zip us)):Binds K fd ps []:=fun s us _ hl=>by
 rw [Kk] at hl ⊢
 exact .of_eq (h us hl)
noncomputable def zen(CX:CXT)(X:Cx)(E:XK):Prop:=∀ (pins:List [17]) (σ:St) (H:Hp) (s:Shared) (e:Value) (s':Shared),Inv X pins σ H s->CX X.stack H s E e s'->X.xe e s'
section
variable {X:Cx} {CX:CXT} {k:Nat} {f C:Addr} {fd:FuncData} {ps:List Str} {sp:Sp} {dvs:List V} {ds:List Value} {E:XK} {x m:Str} {p pos apos:Pos} {e o:Expr} {es:List Expr} {ta:TE} {t:TA}
theorem zkR{pins:List [17]}{σ:St}{H:Hp}{s:Shared}{Q:VK}{us:List Value}{vs:List V}(F:FnOk X.prog X.w X.K X.mg X.base CX k f fd ps sp)(hr:Room k X.A)(hb:Binds X.K fd ps ds)(hd:Vals dvs ds)(hx:zen CX X E)
  (I:Inv X pins σ H s)(r:Vals vs us)(h:sp (vs++dvs) H Q E):wpAny [14] X.A (call (.ref f) us) (EP X pins σ Q) X.xe s:=by
 have r2:Vals (vs++dvs) (us++ds):=r.append hd
 have hl:(us++ds).length=ps.length:=by rw [← r2.length];exact F.len _ _ _ _ h
 refine wpAny_call (codeAny_mono (F.run X.A X.stack s H ⟨us,[]⟩ (us++ds) (vs++dvs) Q E hr I.env0 (hb s us I.kIn hl) r2 h) fun r s' hq=>?_)
 cases r with
 | error e=>exact hx pins σ H s e s' I hq
 | ok fl=>
  cases fl with
  | ret u=>exact I.after hq
  | next=>exact False.elim hq
  | brk=>exact False.elim hq
  | cont=>exact False.elim hq
theorem zjl(F:FnOk X.prog X.w X.K X.mg X.base CX k f fd ps sp)(hr:Room k X.A)(hg:Gl X x)(hm:X.mg x=some (.ref f))(hk:PySem.W.keepIn X.K (.ref f)=true)(hb:Binds X.K fd ps ds)(hd:Vals dvs ds)(hx:zen CX X E)
  (ha:PA X (e::es) t)(hdb:[48]=false:=by decide)(he:starEach (e::es) X.env=[41]::starEach es X.env:=by rfl)(hpl:[66].any (·.1)=false:=by rfl):
  PE X [78] (zkk sp dvs E t):=by
 intro pins s σ H Q I h
 refine wpAny_Call_Name_kw (zjE I hg hm ?_ hdb)
 refine PySem.W.callWith_K (h₀:=X.base) I.ok.mod.kin hk (thn (ha pos pins s σ H _ I h) fun us s1 ⟨vs,H1,I1,r,q⟩=>⟨I1.kIn,?_⟩) he hpl
 exact zkR F hr hb hd hx I1 r q
structure Mk (K:PySem.W.Frag) (C f:Addr):Prop where
 makes:PySem.W.makesIn K C=true
 init:PySem.W.findIn K (.ref C) "__init__"=some (some (.ref f))
 fn:PySem.W.isFn K (.ref f)=true
 kp:PySem.W.keepIn K (.ref C)=true
end
section
variable {X:Cx} {CX:CXT} {k:Nat} {f C:Addr} {fd:FuncData} {ps ks:List Str} {sp:Sp} {E:XK} {x m:Str} {p pos apos kpos:Pos} {e o:Expr} {es:List Expr} {kws:List Keyword} {te ta:TE} {t tk:TA} {nm:Option Str}
structure KBinds (K:PySem.W.Frag) (fd:FuncData) (ps ks:List Str) (g:List Value->List Value->List Value) (gV:List V->List V->List V):Prop where
 to:∀ (s:Shared) (us ws:List Value),K.In s.heap->(g us ws).length=ps.length->BindsTo s fd ⟨us,ks.zip ws⟩ (ps.zip (g us ws))
 rel:∀ {vs:List V} {us:List Value} {zs:List V} {ws:List Value},Vals vs us->Vals zs ws->Vals (gV vs zs) (g us ws)
variable {g:List Value->List Value->List Value} {gV:List V->List V->List V}
end
structure FnScope (N P:List Str) (sc:Scope):Prop where
 kind:sc.kind=.function
 co:sc.isCoroutine=false
 gen:sc.isGenerator=false
 nd:N.Nodup
 pre:N.take P.length=P
 par:∀ x ∈ P,sc.names.lookup x=some .local∨sc.names.lookup x=some .cell
 nofree:∀ y ∈ sc.names,y.2≠.free
theorem zaU{kindOf:Str->Option NameKind}{x:Str}:∀ {binds:List (Str × Value)} {m:Str->Option Value},(∀ v,(x,v) ∉ binds)->bindL kindOf binds m x=m x
 | [],_,_=>rfl
 | (n,v)::r,m,h=>by
  unfold bindL
  rw [zaU fun w hw=>h w (Jf _ hw)]
  split
  ·have:x≠n:=by rintro rfl;exact h v Jg
   simp [this]
  ·rfl
theorem zaW{kindOf:Str->Option NameKind}{x:Str}:∀ {binds:List (Str × Value)} {m:Str->Option Value},(∀ v,(x,v) ∉ binds)->bindC kindOf binds m x=m x
 | [],_,_=>rfl
 | (n,v)::r,m,h=>by
  unfold bindC
  rw [zaW fun w hw=>h w (Jf _ hw)]
  split
  ·rfl
  ·have:x≠n:=by rintro rfl;exact h v Jg
   simp [this]
theorem zaV{kindOf:Str->Option NameKind}{x:Str}{v:Value}:∀ {P:List Str} {vs:List Value} {i:Nat} {m:Str->Option Value},P.Nodup->P[i]?=some x->vs[i]?=some v->kindOf x=some .local->
  bindL kindOf (P.zip vs) m x=some v
 | [],_,_,_,_,h,_,_=>by simp at h
 | _::_,[],_,_,_,_,h,_=>by simp at h
 | p::P,w::vs,0,m,nd,h1,h2,hk=>by
  simp at h1 h2;subst h1;subst h2
  show bindL kindOf ((p,w)::P.zip vs) m p=_
  unfold bindL
  rw [zaU fun v hv=>(JF.mp nd).1 (List.of_mem_zip hv).1,if_pos hk]
  simp
 | p::P,w::vs,i+1,m,nd,h1,h2,hk=>by
  show bindL kindOf ((p,w)::P.zip vs) m x=_
  unfold bindL
  exact zaV (i:=i) (List.nodup_cons.mp nd).2 (by simpa using h1) (by simpa using h2) hk
theorem zaX{kindOf:Str->Option NameKind}{x:Str}{v:Value}:∀ {P:List Str} {vs:List Value} {i:Nat} {m:Str->Option Value},P.Nodup->P[i]?=some x->vs[i]?=some v->kindOf x≠some .local->
  bindC kindOf (P.zip vs) m x=some v
 | [],_,_,_,_,h,_,_=>by simp at h
 | _::_,[],_,_,_,_,h,_=>by simp at h
 | p::P,w::vs,0,m,nd,h1,h2,hk=>by
  simp at h1 h2;subst h1;subst h2
  show bindC kindOf ((p,w)::P.zip vs) m p=_
  unfold bindC
  rw [zaW fun v hv=>(JF.mp nd).1 (List.of_mem_zip hv).1,if_neg hk]
  simp
 | p::P,w::vs,i+1,m,nd,h1,h2,hk=>by
  show bindC kindOf ((p,w)::P.zip vs) m x=_
  unfold bindC
  exact zaX (i:=i) (List.nodup_cons.mp nd).2 (by simpa using h1) (by simpa using h2) hk
noncomputable def start(N:List Str)(vs:List V):St:=vs.map some++List.replicate (N.length - vs.length) none
noncomputable def zdY(CX:CXT)(P:Program)(w:World)(K:PySem.W.Frag)(mg:Str->Option Value)(base:Heap)(N:List Str)(qual:Str)(scope:Scope)(f:Addr)(cd:Value)(A:Around)(outer:List Env)(s:Shared)(H:Hp)(E:XK):Cx where
 prog:=P
 w:=w
 K:=K
 mg:=mg
 base:=base
 A:=A.deeper (envOfC qual scope s.heap.objs.size f cd)
 N:=N
 s₀:=s
 H₀:=H
 env:=envOfC qual scope s.heap.objs.size f cd
 outer:=outer
 stack:=envOfC qual scope s.heap.objs.size f cd::outer
 ex:=[]
 calm:=true
 fn:=fun _=>true
 pn:=[]
 xe:=fun e s'=>wpAny (model P w) (A.deeper (envOfC qual scope s.heap.objs.size f cd)) (leaving (envOfC qual scope s.heap.objs.size f cd) e) (fun _ s''=>CX outer H s E e s'') (fun e' s''=>CX outer H s E e' s'') s'
theorem zdd{sc:Scope}{n:Nat}{x:Str}(h:sc.names.lookup x=some .cell):∃ c,(cellsFrom n sc.names []).lookup x=some c:=by
 have q:=PySem.W.cellsFrom_some sc.names n [] (.inl h)
 exact Option.isSome_iff_exists.mp q
theorem zfL{CX:CXT}{P:Program}{w:World}{K:PySem.W.Frag}{mg:Str->Option Value}{base:Heap}{N ps:List Str}{qual:Str}{scope:Scope}{f:Addr}{cd:Value}{A:Around}{outer:List Env}{s s1:Shared}{H:Hp}{E:XK}{us:List Value}{vs:List V}
  (S:FnScope N ps scope)(hd:A.handled=none)(e0:Env0 P w K mg base A outer s H)(hl:vs.length=ps.length)(r:Vals vs us)
  (x:InCallC s s.heap.objs.size (bindL (envOfC qual scope s.heap.objs.size f cd).kindOf (ps.zip us) fun _=>none) (cellsFrom [59] scope.names []) (bindC (envOfC qual scope s.heap.objs.size f cd).kindOf (ps.zip us) fun _=>none) s1):
  Inv (zdY CX P w K mg base N qual scope f cd A outer s H E) [] (start N vs) H s1:=by
 have hpl:ps.length≤N.length:=by have:=congrArg List.length S.pre;rw [Ku] at this;omega
 obtain ⟨h1,tk,rfl,hk⟩:=x.done
 have noA:∀ b:Addr,b ∉ (zdY CX P w K mg base N qual scope f cd A outer s H E).ex:=fun b z=>absurd (show b ∈ ([]:List Addr) from z) [12]
 refine ⟨⟨e0.mod,S.kind,rfl,rfl,Jn _,fun y z c h1 h2=>?_,fun y hy=>?_,fun y c _ h=>?_,fun _=>hd,Around.frames_deeper e0.frames,.inr ⟨rfl,rfl⟩,fun b z=>absurd z (noA b),e0.bs,e0.bsz,fun b _ _=>noA b,fun b z=>absurd z (noA b),e0.funs,e0.frf⟩,
  rfl,e0.bare,Un.kept hk,⟨_,x.toInCall.ns,fun i y v h1 h2 h3=>?_⟩,fun y c h=>⟨_,x.cell y c h⟩,e0.hok.fresh (Nat.le_refl _),fun y c h=>?_,fun p hp=>absurd (show p ∈ ([]:List [17]) from hp) [12],e0.hok.kept hk,?_⟩
 ·exact name_of_addr x.apart (Qp h1) (Qp h2)
 ·have hy:scope.names.lookup y=some .cell∨scope.names.lookup y=some .free:=hy
  rcases hy with hy | hy
  ·exact zdd hy
  ·exact absurd rfl (S.nofree _ (Qp hy))
 ·exact Nat.le_of_lt (x.above y c (Qp h))
 ·have hi:i<vs.length:=by
   unfold start at h2
   by_cases hi:i<vs.length
   ·exact hi
   ·rw [List.getElem?_append_right (by simpa using hi)] at h2
    rw [List.getElem?_replicate] at h2
    split at h2<;>cases h2
  have ha:vs[i]?=some v:=by
   unfold start at h2
   rw [List.getElem?_append_left (by simpa using hi),List.getElem?_map] at h2
   cases e:vs[i]? with
   | none=>rw [e] at h2;cases h2
   | some a=>rw [e] at h2;cases h2;rfl
  obtain ⟨u,hu,rv⟩:=r.get ha
  have hp:ps[i]?=some y:=by
   rw [← S.pre,List.getElem?_take_of_lt [8]];exact h1
  have ndP:ps.Nodup:=by rw [← S.pre];exact S.nd.sublist (List.take_sublist _ _)
  refine ⟨u,rv,?_⟩
  rcases S.par y (List.mem_of_getElem? hp) with k | k
  ·exact .inl ⟨k,zaV ndP hp hu k⟩
  ·obtain ⟨c,e⟩:=zdd (n:=s.heap.objs.size+1) k
   refine .inr ⟨.inl k,c,e,?_⟩
   have q:=x.cell y c e
   rw [zaX ndP hp hu (by show scope.names.lookup y≠_;rw [k];decide)] at q
   exact q
 ·exact e0.hok.fresh (Nat.le_of_lt (x.above y c (Qp h)))
 ·unfold start
  show _=N.length
  rw [Jo,Jj,List.length_replicate]
  omega
theorem zmO {CX : CXT} {P : Program} {w : World} {K : PySem.W.Frag} {mg : Str → Option Value} {base : Heap} {k : Nat} {f : Addr} {name qual : Str} {params : Arguments} {body : List Stmt} {scope : Scope} {dV kV doc pm cdv ct oc : Value} {an od : Option Addr}
    {osl : Array (Option Value)} {N ps : List Str} {sp : Sp} (lk : K.lookup f = some ⟨oc, od, .func (PySem.W.fnOf name qual params body scope dV kV doc pm an cdv ct), osl⟩) (hcd : PySem.W.codeIn K cdv qual = true) (S : FnScope N ps scope)
    (len : ∀ vs H Q E, sp vs H Q E → vs.length = ps.length)
    (hbody : ∀ (A : Around) (outer : List Env) (s : Shared) (H : Hp) (vs : List V) (Q : VK) (E : XK), Room k (A.deeper (envOfC qual scope s.heap.objs.size f cdv)) → sp vs H Q E →
      ∃ t, PSs (zdY CX P w K mg base N qual scope f cdv A outer s H E) body t ∧ t { nx := fun _ H' => Q .non H', rt := Q } (start N vs) H) :
    FnOk P w K mg base CX (k + 1) f (PySem.W.fnOf name qual params body scope dV kV doc pm an cdv ct) ps sp := by
  refine ⟨len, fun A outer s H args us vs Q E hr e0 hb r hsp => ?_⟩
  have hl := len _ _ _ _ hsp
  have KX : K.In s.heap := e0.mod.kin.keeps fun b o e => (e0.bs b o e).1
  have lim : s.heap.NoLimit := e0.mod.nolimit.keeps fun b o e => (e0.bs b o e).1
  have hkind : ∀ y ∈ ps.zip us, scope.names.lookup y.1 = some .local ∨ (scope.names.lookup y.1 = some .cell ∧ ((cellsFrom (s.heap.objs.size + 1) scope.names []).lookup y.1).isSome = true) := fun ⟨n, v⟩ hy => by
    rcases S.par n (List.of_mem_zip hy).1 with q | q
    · exact .inl q
    · exact .inr ⟨q, PySem.W.cellsFrom_some _ _ _ (.inl q)⟩
  refine codeAny_call_function hr.depth (KX _ _ lk) rfl S.co S.gen rfl (PySem.W.codeRec_of KX hcd) (hb _ _ _ _ ?_)
  refine wpAny_newFunctionEnv_cells S.kind hkind fun env he s1 x => ?_
  subst he
  refine ⟨lim.keeps x.toInCall.keep, codeAny_func ?_⟩
  obtain ⟨t, ht, hq⟩ := hbody A outer s H vs Q E (hr.deeper _) hsp
  have I : Inv (zdY CX P w K mg base N qual scope f cdv A outer s H E) [] (start N vs) H s1 := zfL S hr.hd e0 hl r x
  refine wpAny_mono (ht [] s1 (start N vs) H _ I hq) (fun fl s' hs => ?_) fun e s' hs => hs
  have fin : ∀ {σ' : St} {H' : Hp} {v : V} {u : Value}, Inv (zdY CX P w K mg base N qual scope f cdv A outer s H E) [] σ' H' s' → RelV v u → Q v H' → CE outer P w H s Q u s' :=
    fun {σ' H' v u} J rv q => ⟨v, H', J.os, J.bare, J.base, J.hok, rv, q⟩
  cases fl with
  | ret u =>
    obtain ⟨v, σ', H', J, rv, q⟩ := hs
    exact fin J rv q
  | next =>
    obtain ⟨σ', H', J, q⟩ := hs
    exact fin (v := V.non) (u := Value.none) J rfl q
  | brk =>
    obtain ⟨_, _, _, q⟩ := hs
    exact False.elim q
  | cont =>
    obtain ⟨_, _, _, q⟩ := hs
    exact False.elim q
section
variable {X:Cx} {x:Str} {p pos:Pos} {e:Expr} {es:List Expr} {t:TA} {id T:String} {r:List V->Hp->VK->Prop}
noncomputable def tCB(r:List V->Hp->VK->Prop)(t:TA):TE:=fun σ H Q=>t σ H fun vs H1=>r vs H1 Q
theorem zcu(hc:CallR X (.builtin id) r)(hg:Gl X x)(hm:X.mg x=none)(hv:bootBuiltins x=some (.builtin id))(ha:PA X (e::es) t)(hn:x≠"__name__":=by decide)(hdb:[48]=false:=by decide)
  (he:starEach (e::es) X.env=[41]::starEach es X.env:=by rfl)(hpl:[66].any (·.1)=false:=by rfl):PE X [78] (tCB r t):=by
 intro pins s σ H Q I h
 refine wpAny_Call_Name_kw (vd I hg hm hv ?_ hn hdb)
 exact PyProof.Rows.callWith_builtin1 (thn (ha pos pins s σ H _ I h) fun us s1 ⟨vs,H1,I1,r1,q1⟩=>hc pins s1 σ H1 vs us Q I1 r1 q1) he hpl
theorem zfA(hc:CallR X (.type T) r)(hg:Gl X x)(hm:X.mg x=none)(hv:bootBuiltins x=some (.type T))(ha:PA X (e::es) t)(hn:x≠"__name__":=by decide)(hdb:[48]=false:=by decide)
  (he:starEach (e::es) X.env=[41]::starEach es X.env:=by rfl)(hpl:[66].any (·.1)=false:=by rfl):PE X [78] (tCB r t):=by
 intro pins s σ H Q I h
 refine wpAny_Call_Name_kw (vd I hg hm hv ?_ hn hdb)
 exact Kr (thn (ha pos pins s σ H _ I h) fun us s1 ⟨vs,H1,I1,r1,q1⟩=>hc pins s1 σ H1 vs us Q I1 r1 q1) he hpl
end
end L2
namespace HT
open PySem PyProof.Rows
section
variable {prog:Program} {w:World} {A:Around} {E:Value->Shared->Prop} {s:Shared}
theorem cat_tup{t b:Addr}{vs ws:List Value}{Q:Value->Shared->Prop}(ht:IsTup s.heap t vs.toArray)(hb:IsTup s.heap b ws.toArray)(hv:vs≠[])
  (h1:ws=[]->Q (.ref t) s)(h2:ws≠[]->Q [38] { s with heap:=s.heap.push { cls:=.type "tuple",data:=.seq (vs++ws).toArray } })
  (hsz:vs.length+ws.length≤sizeLine):wpAny [11] A (binaryOp .Add (.ref t) (.ref b)) Q E s:=by
 obtain ⟨⟨cls,dd,data,sl⟩,ho,hc,n,hd⟩:=id ht
 obtain ⟨⟨cls2,dd2,data2,sl2⟩,ho2,hc2,n2,hd2⟩:=id hb
 simp only at hc hd hc2 hd2
 subst hc hd hc2 hd2
 have e:vs.toArray++ws.toArray=(vs++ws).toArray:=by simp
 by_cases hw:ws=[]
 ·exact concat_meets ⟨_,ho,rfl⟩ ⟨_,ho2,rfl⟩ noFill_tuple_add seq_tuple_add PySem.F.slot_tuple_add PySem.F.entry_tuple_add (PySem.F.args_tuple_add_2 _ _)
   (tuple_addW1 t b vs.toArray ws.toArray n n2 dd dd2 sl sl2 (by simpa using hv) (by simp [hw])) ⟨ho,ho2,h1 hw⟩
 ·refine concat_meets ⟨_,ho,rfl⟩ ⟨_,ho2,rfl⟩ noFill_tuple_add seq_tuple_add PySem.F.slot_tuple_add PySem.F.entry_tuple_add (PySem.F.args_tuple_add_2 _ _)
   (tuple_addW2 t b vs.toArray ws.toArray n n2 dd dd2 sl sl2 (by simpa using hv) (by simpa using hw) (by rw [List.size_toArray,List.size_toArray];exact hsz)) ⟨ho,ho2,?_⟩
  rw [e]
  exact h2 hw
noncomputable def sIx(n d:Nat):Option Int->Nat
 | none=>d
 | some v=>if v<0 then (v+(n:Int)).toNat else min v.toNat n
theorem zkP(n d:Nat)(hd:d≤n)(o:Option Int):sIx n d o≤n:=by
 cases o with
 | none=>exact hd
 | some v=>
  show (if v<0 then (v+(n:Int)).toNat else min v.toNat n)≤n
  by_cases hv:v<0
  ·rw [if_pos hv];omega
  ·rw [if_neg hv];exact Nat.min_le_right _ _
theorem zeV(v:Int)(n d:Nat):(if v<0 then max (v+(n:Int)) 0 else min v (n:Int))=((sIx n d (some v):Nat):Int):=by
 show (if v<0 then max (v+(n:Int)) 0 else min v (n:Int))=(((if v<0 then (v+(n:Int)).toNat else min v.toNat n):Nat):Int)
 by_cases hv:v<0
 ·simp only [if_pos hv];omega
 ·simp only [if_neg hv];omega
theorem zek(lo hi:Option Int)(n:Nat):Builtin.Slice.sliceAdjust lo hi 1 (n:Int)=(((sIx n 0 lo:Nat):Int),((sIx n n hi:Nat):Int)):=by
 have h1:¬ ((1:Int)<0):=by omega
 unfold Builtin.Slice.sliceAdjust
 simp only [h1,if_false]
 refine Prod.ext ?_ ?_
 ·cases lo with
  | none=>rfl
  | some v=>exact zeV v n 0
 ·cases hi with
  | none=>rfl
  | some v=>exact zeV v n n
theorem zdD(i j:Nat):Builtin.Slice.slicePlaces (i:Int) (j:Int) 1=j - i:=by
 unfold Builtin.Slice.slicePlaces
 have h1:(1:Int) > 0:=by omega
 simp only [h1,if_true,Int.ediv_one]
 split<;>omega
theorem qE{v:Value}{o:Option Int}{Q:Option Int->Shared->Prop}(p:IsPart v o)(h:Q o s):wpAny [11] A (Builtin.Slice.slicePartIndex v) Q E s:=by
 cases p with
 | none=>exact slicePart_none h
 | int i t=>exact slicePart_int h
theorem sliceApplied_gen{sl:Addr}{vl vu:Value}{lo hi:Option Int}{n:Nat}{Q:Int × Int × Nat->Shared->Prop}(hs:s.heap.IsSliceOf sl vl vu .none)(pl:IsPart vl lo)(pu:IsPart vu hi)
  (h:Q (((sIx n 0 lo:Nat):Int),1,sIx n n hi - sIx n 0 lo) s):wpAny [11] A (Builtin.Slice.sliceApplied (.ref sl) (pure (n:Int))) Q E s:=by
 obtain ⟨os,hos,hcs,hds⟩:=id hs
 unfold Builtin.Slice.sliceApplied Builtin.Slice.sliceFields
 refine wpAny_bind (wpAny_bind (wpAny_field hos hds (x:=vl) rfl (wpAny_bind (wpAny_field hos hds (x:=vu) rfl (wpAny_bind (wpAny_field hos hds (x:=.none) rfl [19]))))))
 refine wpAny_bind (slicePart_none ?_)
 show wpAny _ _ (if ((1:Int) == 0)=true then _ else _) _ _ s
 rw [if_neg [9]]
 refine wpAny_bind (qE pl (wpAny_bind (qE pu (wpAny_bind [19]))))
 show wpAny _ _ (match Builtin.Slice.sliceAdjust lo hi 1 (n:Int) with | (lo,hi)=>pure (lo,(1:Int),Builtin.Slice.slicePlaces lo hi 1)) _ _ s
 rw [zek lo hi n]
 show wpAny _ _ (pure (((sIx n 0 lo:Nat):Int),(1:Int),Builtin.Slice.slicePlaces ((sIx n 0 lo:Nat):Int) ((sIx n n hi:Nat):Int) 1)) _ _ s
 rw [zdD]
 exact wpAny_pure h
theorem zgY(xs:Array Value)(i k:Nat):((List.range k).filterMap fun (m:Nat)=>xs[((i:Int)+(m:Int) * 1).toNat]?).toArray=((xs.toList.drop i).take k).toArray:=by
 have e:(fun (m:Nat)=>xs[((i:Int)+(m:Int) * 1).toNat]?)=fun m=>xs[i+m]?:=by
  funext m
  have:((i:Int)+(m:Int) * 1).toNat=i+m:=by omega
  rw [this]
 rw [e]
 have:=pick_run xs i k
 rw [List.filterMap_map] at this
 have e2:((fun x=>xs[x]?) ∘ fun x=>i+x)=fun m=>xs[i+m]?:=rfl
 rw [e2] at this
 rw [this]
theorem getItem_tuple_cut{t sl:Addr}{items:Array Value}{vl vu:Value}{lo hi:Option Int}{Q:Value->Shared->Prop}(ht:IsTup s.heap t items)(hs:s.heap.IsSliceOf sl vl vu .none)(pl:IsPart vl lo)(pu:IsPart vu hi)
  (hw:¬ (sIx items.size 0 lo=0/\sIx items.size items.size hi=items.size))
  (h:Q [38] { s with heap:=s.heap.push { cls:=.type "tuple",data:=.seq [71].toArray } })
  (hsz:items.size≤sizeLine):wpAny [11] A (getItem (.ref t) (.ref sl)) Q E s:=by
 have htake:sizeOk (.seq [71].toArray):=by
  show [71].toArray.size≤sizeLine
  rw [Ju,Ku,KP,Jk]
  omega
 have hj:sIx items.size items.size hi≤items.size:=zkP _ _ (Jn _) hi
 obtain ⟨os,hos,hcs,hds⟩:=id hs
 have hTs:s.TypeIs (.ref sl) "slice":=⟨os,hos,hcs⟩
 unfold getItem
 try with_reducible refine wpAny_holding ?_
 first | refine wpAny_bind [19] | skip
 refine wpAny_bind (wpAny_sequenceKey ht.typeIs [9] ?_)
 refine wpAny_bind (wpAny_callSpecial?_slot (name:=Str.ofString "__getitem__") ht.typeIs KS
  (wpAny_call_entry KS ht.typeIs entry_tuple_getitem ?_ (args_tuple_getitem _ _)))
 show wpAny _ _ (Builtin.Tuple.tupleItemsOf (.ref t) >>= _) _ _ s
 refine wpAny_bind (tupleItemsOf_ ht ?_)
 refine wpAny_bind (wpAny_typeOf hTs ?_)
 rw [if_pos [9]]
 refine wpAny_bind (sliceApplied_gen hs pl pu ?_)
 have hno:¬ ((((sIx items.size 0 lo:Nat):Int) == 0 && (1:Int) == 1 && (sIx items.size items.size hi - sIx items.size 0 lo) == items.size)=true):=by
  intro q
  rw [JO,JO] at q
  have q1:((sIx items.size 0 lo:Nat):Int)=0:=eq_of_beq q.1.1
  have q2:sIx items.size items.size hi - sIx items.size 0 lo=items.size:=eq_of_beq q.2
  exact hw ⟨by omega,by omega⟩
 show wpAny _ _ (if (((sIx items.size 0 lo:Nat):Int) == 0 && (1:Int) == 1 && (sIx items.size items.size hi - sIx items.size 0 lo) == items.size)=true then _ else _) _ _ s
 rw [if_neg hno,zgY]
 first
  | exact wpAny_bind (m:=Builtin.Tuple.tupleExact _) (wpAny_newObj_type [63] htake)
  | exact wpAny_bind (m:=Builtin.Tuple.tupleExact _) (wpAny_newObj_type (wpAny_bind (wpAny_pure [63])) htake)
  | exact wpAny_bind (wpAny_bind (m:=Builtin.Tuple.tupleExact _) (wpAny_newObj_type (wpAny_pure [63]) htake))
  | exact wpAny_bind (wpAny_bind (m:=Builtin.Tuple.tupleExact _) (wpAny_newObj_type [63] htake))
end
end HT
namespace L2
open PySem PySem.Spec PyProof.Rows
noncomputable abbrev TO:=St->Hp->(Option Int->Hp->Prop)->Prop
noncomputable def PO(X:Cx)(e:Option Expr)(t:TO):Prop:=
 ∀ (pins:List [17]) (s:Shared) (σ:St) (H:Hp) (Q:Option Int->Hp->Prop),Inv X pins σ H s->t σ H Q->
  wpAny [14] X.A (evalPart e X.env) (fun u s'=>∃ o H',Inv X pins σ H' s'/\IsPart u o/\Q o H') X.xe s
noncomputable def ziH:TO:=fun _ H Q=>Q none H
noncomputable def zlZ(t:TE):TO:=fun σ H Q=>t σ H fun x H1=>∃ i,x=.int i/\Q (some i) H1
section
variable {X:Cx} {e:Expr} {te:TE} {lo hi:Option Expr} {tl th:TO} {pos p2:Pos}
theorem zjf:PO X none ziH:=by
 intro pins s σ H Q I h
 rw [evalPart_none]
 exact wpAny_pure ⟨none,H,I,.none,h⟩
theorem zje(h:PE X e te):PO X (some e) (zlZ te):=by
 intro pins s σ H Q I hw
 rw [evalPart_some]
 refine thn (h pins s σ H _ I hw) fun u s1 ⟨x,H1,I1,r1,q1⟩=>?_
 obtain ⟨i,rfl,q⟩:=q1
 obtain ⟨t,rfl⟩:=r1
 exact ⟨some i,H1,I1,.int i t,q⟩
noncomputable def SlR(X:Cx)(r:V->Option Int->Option Int->Hp->VK->Prop):Prop:=
 ∀ (pins:List [17]) (s:Shared) (σ:St) (H:Hp) (x:V) (v vl vu:Value) (lo hi:Option Int) (sl:Addr) (Q:VK),Inv X pins σ H s->RelV x v->s.heap.IsSliceOf sl vl vu .none->IsPart vl lo->IsPart vu hi->r x lo hi H Q->
  ∃ T id,typeLookup (.type T) "__getitem__"=pure (some (.builtin id))/\s.TypeIs v T/\wpAny [14] X.A (getItem v (.ref sl)) (EP X pins σ Q) X.xe s
theorem SlR.or{r r':V->Option Int->Option Int->Hp->VK->Prop}(h:SlR X r)(h':SlR X r'):SlR X (fun x lo hi H Q=>r x lo hi H Q∨r' x lo hi H Q):=by
 intro pins s σ H x v vl vu lo hi sl Q I rx hs pl pu q
 rcases q with q | q
 ·exact h pins s σ H x v vl vu lo hi sl Q I rx hs pl pu q
 ·exact h' pins s σ H x v vl vu lo hi sl Q I rx hs pl pu q
noncomputable def tSl(r:V->Option Int->Option Int->Hp->VK->Prop)(te:TE)(tl th:TO):TE:=fun σ H Q=>te σ H fun x H1=>tl σ H1 fun l H2=>th σ H2 fun u H3=>r x l u H3 Q
theorem zhd{r:V->Option Int->Option Int->Hp->VK->Prop}(hr:SlR X r)(he:PE X e te)(hl:PO X lo tl)(hu:PO X hi th):PE X (.Subscript e (.Slice lo hi none p2) pos) (tSl r te tl th):=by
 intro pins s σ H Q I h
 refine Subscript_ (thn (he pins s σ H _ I h) fun v s1 hq_=>?_)
 obtain ⟨x,H1,I1,r1,q1⟩:=hq_
 refine wpAny_Slice (thn (hl pins s1 σ H1 _ I1 q1) fun vl s2 ⟨l,H2,I2,pl,q2⟩=>thn (hu pins s2 σ H2 _ I2 q2) fun vu s3 ⟨u,H3,I3,pu,q3⟩=>?_)
 rw [evalPart_none]
 refine wpAny_pure ?_
 have I4:Inv X pins σ H3 { s3 with heap:=s3.heap.push { cls:=.type "slice",data:=.fields #[vl,vu,.none] } }:=I3.kept (t':=s3.toks) fun b ob q=>Heap.get?_push_of_some _ q
 obtain ⟨T,id,hT,ht,hg⟩:=hr pins { s3 with heap:=s3.heap.push { cls:=.type "slice",data:=.fields #[vl,vu,.none] } } σ H3 x v vl vu l u s3.heap.objs.size Q I4 r1 (Heap.IsSliceOf.new ..) pl pu q3
 show wpAny [14] X.A (subscriptTail e (.Slice lo hi none p2) v (.ref s3.heap.objs.size)) (EP X pins σ Q) X.xe { s3 with heap:=s3.heap.push { cls:=.type "slice",data:=.fields #[vl,vu,.none] } }
 exact tail_any (ops:=[.ref s3.heap.objs.size,v]) ht hT hg [28]
noncomputable def qw(xs:List V)(lo hi:Option Int):List V:=(xs.drop (HT.sIx xs.length 0 lo)).take (HT.sIx xs.length xs.length hi - HT.sIx xs.length 0 lo)
theorem kQ(xs:List V)(lo hi:Option Int):(qw xs lo hi).length≤xs.length:=by
 unfold qw
 rw [Ku,KP]
 exact JI (Nat.min_le_right _ _) (Nat.sub_le _ _)
noncomputable def znK(K:PySem.W.Frag):V->Option Int->Option Int->Hp->VK->Prop:=fun x lo hi H Q=>∃ a xs,x=.ref a/\SqT K H a xs/\
 ¬ (HT.sIx xs.length 0 lo=0/\HT.sIx xs.length xs.length hi=xs.length)/\∀ p,H p=none->Q (.ref p) (upd H p (.tup (qw xs lo hi)))
theorem zkM:SlR X (znK X.K):=by
 intro pins s σ H x v vl vu lo hi sl Q I rx hs pl pu h
 obtain ⟨a,xs,rfl,hx,hw,q⟩:=h
 cases rx
 obtain ⟨its,r,ht,hz⟩:=I.tuple hx
 have hlen:its.toArray.size=xs.length:=by rw [Ju];exact r.length.symm
 refine ⟨"tuple",_,PyProof.Rows.slot_tuple_getitem.lookup,ht.typeIs,?_⟩
 refine HT.getItem_tuple_cut ht hs pl pu (by rw [hlen];exact hw) ?_ (by rw [hlen];exact hz)
 rw [hlen]
 refine ⟨.ref s.heap.objs.size,_,I.laid (t':=s.toks) (o:=.tup (qw xs lo hi)) (fun b ob q=>Jb _ q) (Jn _) ?_,rfl,q _ (I.hok.fresh (Jn _))⟩
 exact ⟨JI (kQ xs lo hi) hz,_,(r.drop (HT.sIx xs.length 0 lo)).take (HT.sIx xs.length xs.length hi - HT.sIx xs.length 0 lo),IsTup.new _ _⟩
noncomputable def zgP(K:PySem.W.Frag):R2:=fun x y H Q=>∃ a b xs ys,x=.ref a/\y=.ref b/\SqT K H a xs/\SqT K H b ys/\xs≠[]/\xs.length+ys.length≤sizeLine/\
 (ys=[]->Q [67] H)/\(ys≠[]->∀ p,H p=none->Q (.ref p) (upd H p (.tup (xs++ys))))
theorem Vals.nil_iff{xs:List V}{us:List Value}(r:Vals xs us):us=[] ↔ xs=[]:=by
 cases r with
 | nil=>simp
 | cons _ _=>simp
theorem op_catT:OpR X (binaryOp .Add) (zgP X.K):=by
 intro pins s σ H x y v u Q I rx ry h
 obtain ⟨a,b,xs,ys,rfl,rfl,ha,hb,hx,hz,q1,q2⟩:=h
 cases rx
 cases ry
 obtain ⟨its,r1,p1,_⟩:=I.tuple ha
 obtain ⟨its2,r2,p2,_⟩:=I.tuple hb
 refine HT.cat_tup p1 p2 (fun z=>hx (r1.nil_iff.mp z)) (fun z=>⟨.ref a,H,I,rfl,q1 (r2.nil_iff.mp z)⟩) (fun z=>?_) (by rw [← r1.length,← r2.length];exact hz)
 refine ⟨.ref s.heap.objs.size,_,I.laid (t':=s.toks) (o:=.tup (xs++ys)) (fun b ob q=>Jb _ q) (Jn _) ?_,rfl,q2 (fun w=>z (r2.nil_iff.mpr w)) _ (I.hok.fresh (Jn _))⟩
 exact ⟨by rw [Jo];exact hz,_,r1.append r2,IsTup.new _ _⟩
end
noncomputable def ixN(n:Nat)(i:Int):Option Nat:=if 0≤i then (if i<n then some i.toNat else none) else if -(n:Int)≤i then some (i+n).toNat else none
noncomputable def atI{α:Type}(xs:List α)(i:Int):Option α:=(ixN xs.length i).bind fun j=>xs[j]?
theorem zeL{n:Nat}{i:Int}{j:Nat}(h:ixN n i=some j):seqIndex? i n=some j/\j<n/\-(n:Int)≤i/\i<n:=by
 unfold ixN at h
 by_cases h0:0≤i
 ·rw [if_pos h0] at h
  by_cases h1:i<n
  ·rw [if_pos h1] at h
   have e:i.toNat=j:=Jq h
   exact ⟨by rw [seqIndex_of h0 h1,e],by omega,by omega,h1⟩
  ·rw [if_neg h1] at h;cases h
 ·rw [if_neg h0] at h
  by_cases h1 : -(n:Int)≤i
  ·rw [if_pos h1] at h
   have e:(i+n).toNat=j:=Jq h
   exact ⟨by rw [seqIndex_neg [8] h1,e],by omega,h1,by omega⟩
  ·rw [if_neg h1] at h;cases h
theorem zbP{α:Type}{xs:List α}{i:Int}{v:α}(h:atI xs i=some v):∃ j,seqIndex? i xs.length=some j/\xs[j]?=some v/\j<xs.length/\-(xs.length:Int)≤i/\i<xs.length:=by
 unfold atI at h
 cases e:ixN xs.length i with
 | none=>rw [e] at h;cases h
 | some j=>
  rw [e] at h
  obtain ⟨h1,h2,h3,h4⟩:=zeL e
  exact ⟨j,h1,h,h2,h3,h4⟩
theorem atI_nat{α:Type}{xs:List α}{j:Nat}{v:α}(h:xs[j]?=some v):atI xs (j:Int)=some v:=by
 have hj:j<xs.length:=(Jp.mp h).1
 have e:ixN xs.length (j:Int)=some j:=by
  unfold ixN
  rw [if_pos [8],if_pos [8]];simp
 unfold atI;rw [e];exact h
noncomputable def zfc(b:Expr):Prop:=∀ o i,subscripted b false o i=operate [o,i] (getItem o i)
noncomputable def IxR(X:Cx)(r:R2):Prop:=
 ∀ (value slice:Expr) (pins:List [17]) (s:Shared) (σ:St) (H:Hp) (x y:V) (v u:Value) (Q:VK),Inv X pins σ H s->RelV x v->RelV y u->r x y H Q->
  subscripted slice false v u=operate [v,u] (getItem v u)->wpAny [14] X.A (subscriptTail value slice v u) (EP X pins σ Q) X.xe s
noncomputable def MtR(X:Cx)(id:String)(r:V->List V->Hp->VK->Prop):Prop:=
 ∀ (pins:List [17]) (s:Shared) (σ:St) (H:Hp) (x:V) (xs:List V) (v:Value) (us:List Value) (Q:VK),Inv X pins σ H s->RelV x v->Vals xs us->r x xs H Q->
  wpAny [14] X.A (call (.builtin id) (v::us)) (EP X pins σ Q) X.xe s
section
variable {X:Cx} {a b:Expr} {ta tb:TE} {pos:Pos}
theorem IxR.or{r r':R2}(h:IxR X r)(h':IxR X r'):IxR X (fun x y H Q=>r x y H Q∨r' x y H Q):=by
 intro value slice pins s σ H x y v u Q I rx ry q hs
 rcases q with q | q
 ·exact h value slice pins s σ H x y v u Q I rx ry q hs
 ·exact h' value slice pins s σ H x y v u Q I rx ry q hs
theorem zko{r:R2}(hr:IxR X r)(ha:PE X a ta)(hb:PE X b tb)(hs:zfc b):PE X (.Subscript a b pos) (tOp r ta tb):=by
 intro pins s σ H Q I h
 exact Subscript_ (znc ha hb I h fun v u s2 x y H2 I2 rx ry q=>hr a b pins s2 σ H2 x y v u Q I2 rx ry q (hs _ _))
noncomputable def zmn(K:PySem.W.Frag):R2:=fun x y H Q=>∃ p xs i v,x=.ref p/\y=.int i/\SqL K H p xs/\atI xs i=some v/\Q v H
noncomputable def zml(K:PySem.W.Frag):R2:=fun x y H Q=>∃ p xs i v,x=.ref p/\y=.int i/\SqT K H p xs/\atI xs i=some v/\Q v H
noncomputable def zmm:R2:=fun x y H Q=>∃ z i c,x=.str z/\y=.int i/\z.length≤sizeLine/\atI z.cps.toList i=some c/\Q (.str ⟨#[c]⟩) H
theorem ix_list:IxR X (zmn X.K):=by
 intro value slice pins s σ H x y v u Q I rx ry h hs
 obtain ⟨p,xs,i,z,rfl,rfl,hq,he,q⟩:=h
 cases rx
 obtain ⟨t,rfl⟩:=ry
 obtain ⟨its,r,pl,hz⟩:=I.list hq
 obtain ⟨j,h1,h2,h3,h4,h5⟩:=zbP he
 obtain ⟨w,ew,rw'⟩:=r.get h2
 have hl:=r.length
 have hn:=uy
 have fin:EP X pins σ Q w s:=⟨z,H,I,rw',q⟩
 by_cases h0:0≤i
 ·have hj:i.toNat=j:=by
   rw [seqIndex_of h0 h5] at h1
   exact Jq h1
  exact item_listR pl.isList h0 [8] (by rw [hj];simpa using ew) fin hs
 ·have hj:(i+(its.toArray.size:Int)).toNat=j:=by
   rw [seqIndex_neg [8] h4] at h1
   rw [Ju,← hl]
   exact Jq h1
  exact subscriptTail_builtinR (x:=w) pl.isList.typeIs slot_list_getitem.lookup
   (wpAny_getItem_list_neg (Q:=fun r s'=>r=w/\EP X pins σ Q r s') pl.isList [8] (by rw [List.size_toArray]<;>omega) [8] (by rw [hj];simpa using ew) ⟨rfl,fin⟩) hs
theorem ix_tup:IxR X (zml X.K):=by
 intro value slice pins s σ H x y v u Q I rx ry h hs
 obtain ⟨p,xs,i,z,rfl,rfl,hq,he,q⟩:=h
 cases rx
 obtain ⟨t,rfl⟩:=ry
 obtain ⟨its,r,pl,hz⟩:=I.tuple hq
 obtain ⟨j,h1,h2,h3,h4,h5⟩:=zbP he
 obtain ⟨w,ew,rw'⟩:=r.get h2
 have hl:=r.length
 have hn:=uy
 have fin:EP X pins σ Q w s:=⟨z,H,I,rw',q⟩
 exact subscriptTail_builtinR (x:=w) pl.typeIs slot_tuple_getitem.lookup
  (getItem_tuple (j:=j) (Q:=fun r s'=>r=w/\EP X pins σ Q r s') pl [8] [8] (by rw [List.size_toArray,← hl];exact h1) (by simpa using ew) ⟨rfl,fin⟩) hs
theorem zly:IxR X zmm:=by
 intro value slice pins s σ H x y v u Q I rx ry h hs
 obtain ⟨z,i,c,rfl,rfl,hz,he,q⟩:=h
 obtain ⟨t,rfl⟩:=rx
 obtain ⟨t',rfl⟩:=ry
 obtain ⟨j,h1,h2,h3,h4,h5⟩:=zbP he
 have hl:z.cps.toList.length=z.length:=by simp [Str.length]
 rw [hl] at h1 h4 h5
 have hn:=uy
 exact tail_any (typeIs_str s z t) slot_str_getitem.lookup (getItem_str (c:=c) (by
  have e1:decide (i < -(2 ^ 63:Int))=false:=decide_eq_false [8]
  have e2:decide (i ≥ 2 ^ 63)=false:=decide_eq_false [8]
  rw [e1,e2,Bool.or_false]) (by rw [h1];simpa using h2) ⟨.str ⟨#[c]⟩,H,I.tok _,⟨_,rfl⟩,q⟩) hs
noncomputable def rIx(K:PySem.W.Frag):R2:=fun x y H Q=>zmn K x y H Q∨zml K x y H Q∨zmm x y H Q
theorem zhD:IxR X (rIx X.K):=ix_list.or (ix_tup.or zly)
theorem zdN(its:List Value)(n j:Nat)(u:Value):Obj.mapSeq (·.setIfInBounds j u) { cls:=.type "list",data:=.seq its.toArray n }={ cls:=.type "list",data:=.seq (its.set j u).toArray n }:=by
 simp [Obj.mapSeq]
theorem Inv.lst{pins:List [17]}{σ:St}{H:Hp}{s:Shared}{p:Addr}{xs:List V}(I:Inv X pins σ H s)(h:H p=some (.lst xs)):
  ∃ (its:List Value) (n:Nat),Vals xs its/\s.heap.get? p=some { cls:=.type "list",data:=.seq its.toArray n }/\xs.length≤sizeLine:=by
 obtain ⟨z,its,n,r,e⟩:=I.hok p _ h
 exact ⟨its,n,r,e,z⟩
theorem Inv.lstUpd{pins:List [17]}{σ:St}{H:Hp}{s:Shared}{p:Addr}{xs ys:List V}{its its':List Value}{n n':Nat}{f:Obj->Obj}(I:Inv X pins σ H s)(h:H p=some (.lst xs))
  (ho:s.heap.get? p=some { cls:=.type "list",data:=.seq its.toArray n })(hf:f { cls:=.type "list",data:=.seq its.toArray n }={ cls:=.type "list",data:=.seq its'.toArray n' })(r:Vals ys its')(hz:ys.length≤sizeLine)(t:Nat):
  Inv X pins σ (upd H p (.lst ys)) { s with heap:=s.heap.update p f,toks:=t }:=by
 have e:(s.heap.update p f).get? p=some { cls:=.type "list",data:=.seq its'.toArray n' }:=by
  rw [JX f ho (by rw [hf]<;>rfl),hf]
 refine I.write (x:=p) (e:=p) (by rw [h];trivial) [76] (fun b u hb q=>(KL _ _ (Ne.symm hb)).trans q) ⟨_,e⟩ ?_
 exact ⟨hz,its',n',r,e⟩
noncomputable def zkm:V->V->V->Hp->(Hp->Prop)->Prop:=fun o i v H Q=>∃ p xs k j,o=.ref p/\i=.int k/\H p=some (.lst xs)/\ixN xs.length k=some j/\Q (upd H p (.lst (xs.set j v)))
theorem jK:znj X zkm:=by
 intro pins s σ H o i v ov iv u Q I ro ri rv h
 obtain ⟨p,xs,k,j,rfl,rfl,hp,hj,q⟩:=h
 cases ro
 obtain ⟨t,rfl⟩:=ri
 obtain ⟨its,n,r,ho,hz⟩:=I.lst hp
 obtain ⟨h1,h2,h3,h4⟩:=zeL hj
 have hl:=r.length
 have hn:=uy
 have I':Inv X pins σ (upd H p (.lst (xs.set j v))) { s with heap:=s.heap.update p (Obj.mapSeq (·.setIfInBounds j u)) }:=
  I.lstUpd hp ho (zdN its n j u) (r.set rv j) (by rw [List.length_set];exact hz) s.toks
 by_cases h0:0≤k
 ·have hk:k.toNat=j:=by
   rw [seqIndex_of h0 h4] at h1
   exact Jq h1
  exact PySem.W.ki_setAt ho h0 [8] (by rw [Ju,← hl];exact h4) (by rw [hk];exact ⟨_,I',q⟩)
 ·have hk:(k+(its.toArray.size:Int)).toNat=j:=by
   rw [seqIndex_neg [8] h3] at h1
   rw [Ju,← hl]
   exact Jq h1
  exact PySem.W.ki_setBack ho [8] (by rw [Ju,← hl];exact h3) [8] (by rw [hk];exact ⟨_,I',q⟩)
theorem zbf(lo hi:Option Int)(n:Nat):(sliceBounds lo hi none n).1=((HT.sIx n 0 lo:Nat):Int)/\(sliceBounds lo hi none n).2.1=((HT.sIx n n hi:Nat):Int)/\(sliceBounds lo hi none n).2.2=1:=by
 refine ⟨?_,?_,rfl⟩
 ·cases lo with
  | none=>simp [sliceBounds,HT.sIx]
  | some i=>
   simp only [sliceBounds,HT.sIx,Option.getD_none,show (1:Int) > 0 by decide,if_true]
   by_cases h:i<0
   ·simp only [h,if_true]<;>omega
   ·simp only [h,if_false]<;>omega
 ·cases hi with
  | none=>simp [sliceBounds,HT.sIx]
  | some i=>
   simp only [sliceBounds,HT.sIx,Option.getD_none,show (1:Int) > 0 by decide,if_true]
   by_cases h:i<0
   ·simp only [h,if_true]<;>omega
   ·simp only [h,if_false]<;>omega
theorem zaj(its:List Value)(lo hi:Option Int):slicePick its.toArray lo hi none=((its.drop (HT.sIx its.length 0 lo)).take (HT.sIx its.length its.length hi - HT.sIx its.length 0 lo)).toArray:=by
 obtain ⟨h1,h2,h3⟩:=zbf lo hi its.toArray.size
 unfold slicePick
 rw [h1,h2,h3]
 simp only [sliceRange_one,pick_run,List.size_toArray]<;>rfl
noncomputable def znL(K:PySem.W.Frag):V->Option Int->Option Int->Hp->VK->Prop:=fun x lo hi H Q=>∃ a xs,x=.ref a/\SqL K H a xs/\∀ p,H p=none->Q (.ref p) (upd H p (.lst (qw xs lo hi)))
theorem sl_list:SlR X (znL X.K):=by
 intro pins s σ H x v vl vu lo hi sl Q I rx hs pl pu h
 obtain ⟨a,xs,rfl,hx,q⟩:=h
 cases rx
 obtain ⟨its,r,ht,hz⟩:=I.list hx
 have hlen:=r.length
 refine ⟨"list",_,slot_list_getitem.lookup,ht.isList.typeIs,?_⟩
 refine wpAny_getItem_list_slice ht.isList hs pl pu .none [12] ?_ (by rw [List.size_toArray]<;>omega)
 rw [zaj,← hlen]
 refine ⟨.ref s.heap.objs.size,_,I.laid (t':=s.toks) (o:=.lst (qw xs lo hi)) (fun b ob q=>Jb _ q) (Jn _) ?_,rfl,q _ (I.hok.fresh (Jn _))⟩
 exact ⟨JI (kQ xs lo hi) hz,_,0,(r.drop (HT.sIx xs.length 0 lo)).take (HT.sIx xs.length xs.length hi - HT.sIx xs.length 0 lo),Jl _ rfl⟩
noncomputable def vx:V->Bool
 | .non=>true
 | .bl _=>true
 | .int _=>true
 | .str _=>true
 | _=>false
noncomputable def eqV:V->V->Bool
 | .non,.non=>true
 | .bl a,.bl b=>a == b
 | .bl a,.int b=>(if a then 1 else 0) == b
 | .int a,.bl b=>a == (if b then 1 else 0)
 | .int a,.int b=>a == b
 | .str a,.str b=>a == b
 | _,_=>false
theorem zlI{A:Around}{s:Shared}{y x:V}{u v:Value}(ry:RelV y u)(rx:RelV x v)(fy:vx y=true)(fx:vx x=true):SeqAt.EqAt A s u v (eqV y x):=by
 cases y with
 | non=>
  cases ry
  cases x with
  | non=>cases rx;exact SeqAt.EqAt.same _
  | bl b=>cases rx;exact SeqAt.EqAt.none_bool b
  | int b=>obtain ⟨t,rfl⟩:=rx;exact SeqAt.EqAt.none_int b t
  | str b=>obtain ⟨t,rfl⟩:=rx;exact SeqAt.EqAt.none_str b t
  | _=>exact absurd (show false=true from fx) Je
 | bl a=>
  cases ry
  cases x with
  | non=>cases rx;exact SeqAt.EqAt.bool_none a
  | bl b=>cases rx;exact SeqAt.EqAt.bool_bool a b
  | int b=>obtain ⟨t,rfl⟩:=rx;exact SeqAt.EqAt.bool_int a b t
  | str b=>obtain ⟨t,rfl⟩:=rx;exact SeqAt.EqAt.bool_str a b t
  | _=>exact absurd (show false=true from fx) Je
 | int a=>
  obtain ⟨t',rfl⟩:=ry
  cases x with
  | non=>cases rx;exact SeqAt.EqAt.int_none a t'
  | bl b=>cases rx;exact SeqAt.EqAt.int_bool a t' b
  | int b=>obtain ⟨t,rfl⟩:=rx;exact SeqAt.EqAt.int_int a t' b t
  | str b=>obtain ⟨t,rfl⟩:=rx;exact SeqAt.EqAt.int_str a t' b t
  | _=>exact absurd (show false=true from fx) Je
 | str a=>
  obtain ⟨t',rfl⟩:=ry
  cases x with
  | non=>cases rx;exact SeqAt.EqAt.str_none a t'
  | bl b=>cases rx;exact SeqAt.EqAt.str_bool a t' b
  | int b=>obtain ⟨t,rfl⟩:=rx;exact SeqAt.EqAt.str_int a t' b t
  | str b=>obtain ⟨t,rfl⟩:=rx;exact SeqAt.EqAt.str_str a t' b t
  | _=>exact absurd (show false=true from fx) Je
 | _=>exact absurd (show false=true from fy) Je
noncomputable def eqU(x:V)(u:Value):Bool:=match u with
 | .none=>eqV .non x
 | .bool b=>eqV (.bl b) x
 | .int i _=>eqV [87] x
 | .str z _=>eqV (.str z) x
 | _=>false
theorem zhZ{x y:V}{u:Value}(r:RelV y u)(f:vx y=true):eqU x u=eqV y x:=by
 cases y with
 | non=>cases r;rfl
 | bl b=>cases r;rfl
 | int i=>obtain ⟨t,rfl⟩:=r;rfl
 | str z=>obtain ⟨t,rfl⟩:=r;rfl
 | _=>exact absurd (show false=true from f) Je
theorem jh{x:V}:∀ {xs:List V} {us:List Value},Vals xs us->xs.all vx=true->us.any (eqU x)=xs.any fun y=>eqV y x
 | _,_,.nil,_=>rfl
 | y::xs,u::us,.cons r t,f=>by
  rw [List.all_cons,JO] at f
  rw [KC,KC,zhZ r f.1,jh t f.2]
theorem uF{A:Around}{s:Shared}{x:V}{v:Value}(rx:RelV x v)(fx:vx x=true):∀ {xs:List V} {us:List Value},Vals xs us->xs.all vx=true->∀ u ∈ us,SeqAt.EqAt A s u v (eqU x u)
 | _,_,.nil,_=>fun u hu=>by cases hu
 | y::xs,u::us,.cons r t,f=>fun u' hu=>by
  rw [List.all_cons,JO] at f
  rcases List.mem_cons.mp hu with rfl | hu
  ·rw [zhZ r f.1];exact zlI r rx f.1 fx
  ·exact uF rx fx t f.2 u' hu
noncomputable def inV(x:V)(xs:List V):Bool:=xs.any fun y=>eqV y x
noncomputable def rIn(K:PySem.W.Frag)(neg:Bool):R2:=fun x y H Q=>∃ p xs,y=.ref p/\(SqL K H p xs∨SqT K H p xs)/\vx x=true/\xs.all vx=true/\Q (.bl (if neg then !inV x xs else inV x xs)) H
theorem zfB:OpR X (compareOp .In) (rIn X.K false):=by
 intro pins s σ H x y v u Q I rx ry h
 obtain ⟨p,xs,rfl,hq,fx,fs,q⟩:=h
 cases ry
 rcases hq with hq | hq
 ·obtain ⟨its,r,pl,hz⟩:=I.list hq
  refine SeqAt.in_listAt (eqU x) pl.isList (fun w hw=>uF rx fx r fs w (by simpa using hw)) ⟨.bl _,H,I,rfl,?_⟩
  rw [show its.toArray.any (eqU x)=its.any (eqU x) by simp,jh r fs]
  exact q
 ·obtain ⟨its,r,pl,hz⟩:=I.tuple hq
  refine SeqAt.in_tupleAt (eqU x) pl (fun w hw=>uF rx fx r fs w (by simpa using hw)) ⟨.bl _,H,I,rfl,?_⟩
  rw [show its.toArray.any (eqU x)=its.any (eqU x) by simp,jh r fs]
  exact q
theorem zbo:OpR X (compareOp .NotIn) (rIn X.K true):=by
 intro pins s σ H x y v u Q I rx ry h
 obtain ⟨p,xs,rfl,hq,fx,fs,q⟩:=h
 cases ry
 rcases hq with hq | hq
 ·obtain ⟨its,r,pl,hz⟩:=I.list hq
  refine SeqAt.notIn_listAt (eqU x) pl.isList (fun w hw=>uF rx fx r fs w (by simpa using hw)) ⟨.bl _,H,I,rfl,?_⟩
  rw [show its.toArray.any (eqU x)=its.any (eqU x) by simp,jh r fs]
  exact q
 ·obtain ⟨its,r,pl,hz⟩:=I.tuple hq
  refine SeqAt.notIn_tupleAt (eqU x) pl (fun w hw=>uF rx fx r fs w (by simpa using hw)) ⟨.bl _,H,I,rfl,?_⟩
  rw [show its.toArray.any (eqU x)=its.any (eqU x) by simp,jh r fs]
  exact q
theorem call_len_seq:CallR X (.builtin "len") (fun xs H Q=>∃ p ys,xs=[.ref p]/\(SqL X.K H p ys∨SqT X.K H p ys)/\Q (.int ys.length) H):=by
 intro pins s σ H xs us Q I r h
 obtain ⟨p,ys,rfl,hq,q⟩:=h
 obtain ⟨u,rfl,rx⟩:=zat r
 cases rx
 have hn:=uy
 rcases hq with hq | hq
 ·obtain ⟨its,r',pl,hz⟩:=I.list hq
  have hlen:=r'.length
  exact Calls.call_len_list pl.isList (by simp only [List.size_toArray]<;>omega) ⟨.int ys.length,H,I.tok _,⟨s.toks+1,by rw [List.size_toArray,hlen]⟩,q⟩
 ·obtain ⟨its,r',pl,hz⟩:=I.tuple hq
  have hlen:=r'.length
  exact len_tuple pl (by simp only [List.size_toArray]<;>omega) ⟨.int ys.length,H,I.tok _,⟨s.toks+1,by rw [List.size_toArray,hlen]⟩,q⟩
theorem zbL:CallR X (.builtin "len") (fun xs H Q=>∃ z,xs=[.str z]/\z.length≤sizeLine/\Q (.int z.length) H):=by
 intro pins s σ H xs us Q I r h
 obtain ⟨z,rfl,hz,q⟩:=h
 obtain ⟨u,rfl,t,rfl⟩:=zat r
 have hn:=uy
 exact len_str [8] ⟨.int z.length,H,I.tok _,⟨_,rfl⟩,q⟩
theorem CallR.or{f:Value}{r r':List V->Hp->VK->Prop}(h:CallR X f r)(h':CallR X f r'):CallR X f (fun xs H Q=>r xs H Q∨r' xs H Q):=by
 intro pins s σ H xs us Q I rs q
 rcases q with q | q
 ·exact h pins s σ H xs us Q I rs q
 ·exact h' pins s σ H xs us Q I rs q
theorem call_list_of:CallR X (.type "list") (fun xs H Q=>∃ p ys,xs=[.ref p]/\(SqL X.K H p ys∨SqT X.K H p ys)/\∀ l,H l=none->Q (.ref l) (upd H l (.lst ys))):=by
 intro pins s σ H xs us Q I r h
 obtain ⟨p,ys,rfl,hq,q⟩:=h
 obtain ⟨u,rfl,rx⟩:=zat r
 cases rx
 have fin:∀ (its:List Value),Vals ys its->ys.length≤sizeLine->∀ (h':Heap) (c':Nat),(∀ b o',s.heap.get? b=some o'->h'.get? b=some o')->
   h'.get? s.heap.objs.size=some { cls:=.type "list",dict:=none,data:=.seq its.toArray c',slots:=#[] }->EP X pins σ Q [38] { s with heap:=h' }:=fun its r' hz h' c' kp e=>
  ⟨.ref s.heap.objs.size,_,I.laid (t':=s.toks) kp (Jn _) (show ObjOk X.prog X.w _ h' _ (.lst ys) from ⟨hz,its,c',r',e⟩),rfl,q _ (I.hok.fresh (Jn _))⟩
 rcases hq with hq | hq
 ·obtain ⟨its,r',pl,hz⟩:=I.list hq
  have hlen:=r'.length
  obtain ⟨o,ho,hc,n,hd⟩:=pl.isList
  exact call_list_seq p [76] ho hc hd (fun h' c' kp e=>fin its r' hz h' c' kp e) (by simp only [List.size_toArray]<;>omega)
 ·obtain ⟨its,r',pl,hz⟩:=I.tuple hq
  have hlen:=r'.length
  obtain ⟨o,ho,hc,n,hd⟩:=pl
  exact call_list_seq p (.inr rfl) ho hc hd (fun h' c' kp e=>fin its r' hz h' c' kp e) (by simp only [List.size_toArray]<;>omega)
theorem um:CallR X (.type "tuple") (fun xs H Q=>∃ p ys,xs=[.ref p]/\((SqL X.K H p ys/\∀ l,H l=none->Q (.ref l) (upd H l (.tup ys)))∨(SqT X.K H p ys/\Q (.ref p) H))):=by
 intro pins s σ H xs us Q I r h
 obtain ⟨p,ys,rfl,h⟩:=h
 obtain ⟨u,rfl,rx⟩:=zat r
 cases rx
 rcases h with ⟨hq,q⟩ | ⟨hq,q⟩
 ·obtain ⟨its,r',pl,hz⟩:=I.list hq
  have hlen:=r'.length
  refine call_tuple_list pl.isList (fun h' kp=>?_) (by simp only [List.size_toArray]<;>omega)
  have I1:Inv X pins σ H { s with heap:=h' }:=I.kept (t':=s.toks) kp
  have I2:Inv X pins σ (upd H h'.objs.size (.tup ys)) { s with heap:=h'.push { cls:=.type "tuple",data:=.seq its.toArray } }:=
   I1.laid (t':=s.toks) (fun b o e=>Jb _ e) (Jn _) (show ObjOk X.prog X.w _ _ _ (.tup ys) from ⟨hz,its,r',IsTup.new _ _⟩)
  exact ⟨.ref h'.objs.size,_,I2,rfl,q _ (I1.hok.fresh (Jn _))⟩
 ·obtain ⟨its,r',pl,hz⟩:=I.tuple hq
  exact call_tuple_same pl ⟨.ref p,H,I,rfl,q⟩
noncomputable def tyV(K:PySem.W.Frag)(T:String)(x:V)(H:Hp):Prop:=match x with
 | .str _=>T="str"
 | .int _=>T="int"
 | .ref p=>(T="list"/\∃ xs,SqL K H p xs)∨(T="tuple"/\∃ o,K.lookup p=some o/\o.cls=.type "tuple"/\o.dict=none)∨
   (T="dict"/\((∃ kvs,H p=some (.dK kvs))∨∃ kvs,H p=some (.dT kvs)))∨(T="set"/\∃ S n,H p=some (.set S n))
 | _=>False
theorem zgt{pins:List [17]}{σ:St}{H:Hp}{s:Shared}{T:String}{x:V}{v:Value}(I:Inv X pins σ H s)(r:RelV x v)(ty:tyV X.K T x H):
  s.TypeIs v T/\∀ a,v=.ref a->∃ ob,s.heap.get? a=some ob/\ob.dict=none:=by
 cases x with
 | str z=>
  obtain ⟨t,rfl⟩:=r
  cases (show T="str" from ty)
  exact ⟨typeIs_str s z t,fun _ e=>nomatch e⟩
 | int i=>
  obtain ⟨t,rfl⟩:=r
  cases (show T="int" from ty)
  exact ⟨typeIs_int s i t,fun _ e=>nomatch e⟩
 | ref p=>
  cases r
  rcases ty with ⟨rfl,xs,hq⟩ | ⟨rfl,o,hk,hc,hd⟩ | ⟨rfl,hk⟩ | ⟨rfl,S,n,hk⟩
  ·obtain ⟨its,_,pl,_⟩:=I.list hq
   refine ⟨pl.isList.typeIs,fun a e=>?_⟩
   cases e
   obtain ⟨o,n,e,c,hd,_⟩:=pl
   exact ⟨o,e,hd⟩
  ·refine ⟨⟨o,I.kIn p o hk,hc⟩,fun a e=>?_⟩
   cases e
   exact ⟨o,I.kIn _ o hk,hd⟩
  ·have z:∃ o,s.heap.get? p=some o/\o.ExactDict:=by
    rcases hk with ⟨kvs,hk⟩ | ⟨kvs,hk⟩
    ·obtain ⟨_,_,_,_,o,_,_,e,ex,_⟩:=I.hok p _ hk
     exact ⟨o,e,ex⟩
    ·obtain ⟨_,_,_,_,o,_,_,e,ex,_⟩:=I.hok p _ hk
     exact ⟨o,e,ex⟩
   obtain ⟨o,e,ex⟩:=z
   refine ⟨⟨o,e,ex.1⟩,fun a e2=>?_⟩
   cases e2
   exact ⟨o,e,ex.2.1⟩
  ·obtain ⟨o,_,_,_,e,ex,_⟩:=I.hok p _ hk
   refine ⟨⟨o,e,ex.1⟩,fun a e2=>?_⟩
   cases e2
   exact ⟨o,e,ex.2.1⟩
 | _=>exact False.elim ty
noncomputable def zkK(K:PySem.W.Frag)(T:String)(r:V->List V->Hp->VK->Prop)(to:TE):TE:=fun σ H Q=>to σ H fun x H1=>tyV K T x H1/\r x [] H1 Q
noncomputable def tBM(K:PySem.W.Frag)(T:String)(r:V->List V->Hp->VK->Prop)(to:TE)(t:TA):TE:=fun σ H Q=>to σ H fun x H1=>tyV K T x H1/\t σ H1 fun xs H2=>r x xs H2 Q
variable {o e:Expr} {es:List Expr} {to:TE} {t:TA} {name:Str} {apos cpos:Pos} {T id:String} {r:V->List V->Hp->VK->Prop}
theorem zhg(pa:PlainAttrs T)(slot:Slot T name id)(hty:typeOf (.builtin id)=pure (.type "method_descriptor"))(hm:MtR X id r)(ho:PE X o to)
  (hbase:attributeBase o name X.env (eval o X.env)=eval o X.env:=by rfl)(hline:(apos.endLine == cpos.line)=true:=by rfl):PE X (.Call (.Attribute o name apos) [] [] cpos) (zkK X.K T r to):=by
 intro pins s σ H Q I h
 refine wpAny_Call_method0_late hbase hline (thn (ho pins s σ H _ I h) fun v s1 hq_=>?_)
 obtain ⟨x,H1,I1,r1,ty,q1⟩:=hq_
 obtain ⟨h1,h2⟩:=zgt I1 r1 ty
 exact ⟨T,id,pa,slot,hty,h1,h2,Qu rfl (PySem.evalArgs_none (hm pins s1 σ H1 x [] v [] Q I1 r1 .nil q1))⟩
theorem vD(pa:PlainAttrs T)(slot:Slot T name id)(hty:typeOf (.builtin id)=pure (.type "method_descriptor"))(hm:MtR X id r)(ho:PE X o to)(ha:PA X (e::es) t)
  (hbase:attributeBase o name X.env (eval o X.env)=eval o X.env:=by rfl)
  (hfew:((backTo cpos (starEach (e::es) X.env)).all (fun x=>!x.1) && (backToKw cpos (keywordEach [] X.env)).all (fun x=>x.1.isSome)
   && decide ((e::es).length+([]:List Keyword).length+(if ([]:List Keyword).isEmpty then 0 else 1)<30))=true:=by rfl)
  (hline:(apos.endLine == cpos.line)=true:=by rfl)(hs:starEach (e::es) X.env=[41]::starEach es X.env:=by rfl)(hplain:(backTo cpos (starEach es X.env)).any (·.1)=false:=by rfl):
  PE X (.Call (.Attribute o name apos) (e::es) [] cpos) (tBM X.K T r to t):=by
 intro pins s σ H Q I h
 refine wpAny_Call_method_late hbase hfew hline rfl (thn (ho pins s σ H _ I h) fun v s1 hq_=>?_)
 obtain ⟨x,H1,I1,r1,ty,q1⟩:=hq_
 obtain ⟨h1,h2⟩:=zgt I1 r1 ty
 refine ⟨T,id,pa,slot,hty,h1,h2,?_⟩
 have hA:=ha cpos pins s1 σ H1 _ I1 q1
 rw [hs] at hA ⊢
 refine Qu (by show (false || (backTo cpos (starEach es X.env)).any (·.1))=false;rw [hplain]<;>rfl) (Calls.evalArgs_plain ?_)
 exact thn hA fun us s2 ⟨vs,H2,I2,r2,q2⟩=>hm pins s2 σ H2 x vs v us Q I2 r1 r2 q2
end
noncomputable def MtM(X:Cx)(id:String)(r:V->List V->Hp->VK->Prop):Prop:=
 ∀ (pins:List [17]) (s:Shared) (σ:St) (H:Hp) (x:V) (xs:List V) (v:Value) (us:List Value) (Q:VK),Inv X pins σ H s->RelV x v->Vals xs us->r x xs H Q->
  wpAny [14] X.A (call (.builtin id) (v::us)) (EP X pins σ Q) X.xe s
theorem Vals.one{x:V}{us:List Value}(h:Vals [x] us):∃ u,us=[u]/\RelV x u:=by
 cases h with | cons r t=>cases t;exact ⟨_,rfl,r⟩
theorem Vals.zero:∀ {us:List Value},Vals [] us->us=[]
 | _,.nil=>rfl
theorem Vals.dropLast{xs:List V}{us:List Value}(h:Vals xs us):Vals xs.dropLast us.dropLast:=by
 induction h with
 | nil=>exact .nil
 | cons r t ih=>
  cases t with
  | nil=>exact .nil
  | cons q t'=>exact .cons r ih
theorem Vals.eraseIdx:∀ {xs:List V} {us:List Value} (i:Nat),Vals xs us->Vals (xs.eraseIdx i) (us.eraseIdx i)
 | _,_,_,.nil=>.nil
 | _,_,0,.cons _ t=>t
 | _,_,i+1,.cons r t=>.cons r (Vals.eraseIdx i t)
theorem Vals.rep{xs:List V}{us:List Value}(h:Vals xs us):∀ k:Nat,Vals (List.replicate k xs).flatten (List.replicate k us).flatten
 | 0=>.nil
 | k+1=>by
  rw [Kn,Kn,KF,KF]
  exact Vals.append h (Vals.rep h k)
theorem zdW{α:Type}(l:List α):l.eraseIdx (l.length - 1)=l.dropLast:=List.eraseIdx_length_sub_one
theorem zaG{α:Type}:∀ (l:List α) (i:Nat),(l.eraseIdx i).length≤l.length
 | [],_=>Jn _
 | _::_,0=>Nat.le_succ _
 | _::r,i+1=>Nat.succ_le_succ (zaG r i)
theorem zaL(its:List Value):∀ (k:Nat) (acc:List Value),
  List.foldl (fun x1 x2=>x1++x2) acc.toArray (List.replicate k its.toArray)=(acc++(List.replicate k its).flatten).toArray
 | 0,acc=>by simp
 | k+1,acc=>by
  have e:acc.toArray++its.toArray=(acc++its).toArray:=by simp
  have e2:(acc++its)++(List.replicate k its).flatten=acc++(List.replicate (k+1) its).flatten:=by
   rw [Kn,KF,JC]
  rw [← e2,← zaL its k (acc++its),← e,Kn,List.foldl_cons]
section
variable {X:Cx} {pins:List [17]} {σ:St} {H:Hp} {s:Shared} {l b:Addr} {xs ys zs:List V}
theorem Inv.lset{its its':List Value}{n:Nat}{f:Array Value->Array Value}{t':Nat}(I:Inv X pins σ H s)(hH:H l=some (.lst xs))
  (e:s.heap.get? l=some { cls:=.type "list",data:=.seq its.toArray n })(hf:f its.toArray=its'.toArray)(hv:Vals ys its')(hz:ys.length≤sizeLine):
  Inv X pins σ (upd H l (.lst ys)) { s with heap:=s.heap.update l (Obj.mapSeq f),toks:=t' }:=by
 have q:=PySem.IsL.update e f
 rw [hf] at q
 refine I.write (x:=l) (e:=l) (by rw [hH];exact trivial) [76] (fun b' u hb hu=>(KL s.heap (Obj.mapSeq f) (Ne.symm hb)).trans hu) ⟨_,q⟩ ?_
 exact ⟨hz,its',_,hv,q⟩
theorem Inv.lnew{its:List Value}{t':Nat}(I:Inv X pins σ H s)(hv:Vals ys its)(hz:ys.length≤sizeLine):
  Inv X pins σ (upd H s.heap.objs.size (.lst ys)) { s with heap:=s.heap.push { cls:=.type "list",data:=.seq its.toArray },toks:=t' }:=
 I.laid (fun _ _ q=>Jb _ q) (Jn _) ⟨hz,its,0,hv,Jl _ rfl⟩
theorem Inv.fresh(I:Inv X pins σ H s):H s.heap.objs.size=none:=I.hok.fresh (Jn _)
theorem Inv.lstM(I:Inv X pins σ H s)(hH:H l=some (.lst xs)):xs.length≤sizeLine/\∃ (its:List Value) (n:Nat),Vals xs its/\xs.length=its.length/\s.heap.get? l=some { cls:=.type "list",data:=.seq its.toArray n }:=by
 obtain ⟨z,its,n,r,e⟩:=I.hok l _ hH
 exact ⟨z,its,n,r,r.length,e⟩
theorem qV{n:Nat}(h:n≤sizeLine):Builtin.List.listTooLong n=false:=by
 unfold Builtin.List.listTooLong
 exact decide_eq_false [8]
end
section
variable {X:Cx}
noncomputable def kZ:V->List V->Hp->VK->Prop:=fun x vs H Q=>∃ l xs y,x=.ref l/\vs=[y]/\H l=some (.lst xs)/\xs.length<sizeLine/\Q .non (upd H l (.lst (xs++[y])))
theorem yV:MtM X "list.append" kZ:=by
 intro pins s σ H x vs v us Q I rx rv h
 obtain ⟨l,xs,y,rfl,rfl,hH,hz,q⟩:=h
 cases rx
 obtain ⟨u,rfl,ru⟩:=rv.one
 obtain ⟨z,its,n,r,hl,e⟩:=I.lstM hH
 refine call_meets F.slot_list_append ⟨_,e,rfl⟩ F.entry_list_append (F.args_list_append_2 _ _) (PySem.list_append l its.toArray n u (by rw [Ju];omega)) ⟨e,?_⟩
 refine ⟨.non,_,I.lset (its':=its++[u]) hH e [12] (r.append (.cons ru .nil)) ?_,rfl,q⟩
 rw [Jo,Qz]
 omega
noncomputable def zbj:V->List V->Hp->VK->Prop:=fun x vs H Q=>∃ l b xs zs,x=.ref l/\vs=[.ref b]/\H l=some (.lst xs)/\H b=some (.lst zs)/\xs.length+zs.length≤sizeLine/\Q .non (upd H l (.lst (xs++zs)))
theorem mt_extend:MtM X "list.extend" zbj:=by
 intro pins s σ H x vs v us Q I rx rv h
 obtain ⟨l,b,xs,zs,rfl,rfl,hH,hB,hz,q⟩:=h
 cases rx
 obtain ⟨u,rfl,ru⟩:=rv.one
 cases ru
 obtain ⟨z,its,n,r,hl,e⟩:=I.lstM hH
 obtain ⟨z2,its2,n2,r2,hl2,e2⟩:=I.lstM hB
 have hsz:its.toArray.size+its2.toArray.size≤sizeLine:=by rw [Ju,Ju];omega
 have hlong:¬ (!its.toArray.isEmpty && Builtin.List.listTooLong (its.toArray.size+its2.toArray.size))=true:=by
  rw [qV hsz,Bool.and_false]
  exact Je
 refine call_meets F.slot_list_extend ⟨_,e,rfl⟩ F.entry_list_extend (F.args_list_extend_2 _ _)
  (AutoSeq1.list_extend_list_list_0 l its.toArray n b its2.toArray n2 hlong (by rw [Ju];omega) [8]) ⟨e,e2,?_⟩
 refine ⟨.non,_,I.lset (its':=its++its2) hH e [12] (r.append r2) ?_,rfl,q⟩
 rw [Jo]
 omega
noncomputable def zmk:V->List V->Hp->VK->Prop:=fun x vs H Q=>∃ l xs y,x=.ref l/\vs=[]/\H l=some (.lst xs)/\xs[xs.length - 1]?=some y/\Q y (upd H l (.lst xs.dropLast))
theorem zlp:MtM X "list.pop" zmk:=by
 intro pins s σ H x vs v us Q I rx rv h
 obtain ⟨l,xs,y,rfl,rfl,hH,hy,q⟩:=h
 cases rx
 have hus:=rv.zero
 subst hus
 obtain ⟨z,its,n,r,hl,e⟩:=I.lstM hH
 obtain ⟨u,hu,ru⟩:=r.get hy
 have hy':its.toArray[its.toArray.size - 1]?=some u:=by
  show its.toArray[its.length - 1]?=some u
  rw [← Jx,← hl]
  exact hu
 refine call_meets F.slot_list_pop ⟨_,e,rfl⟩ F.entry_list_pop (F.args_list_pop_1 _) (MeetsSeq.list_pop_last l its.toArray n u hy' (by rw [Ju];omega)) ⟨e,?_⟩
 refine ⟨y,_,I.lset (its':=its.dropLast) hH e ?_ r.dropLast ?_,ru,q⟩
 ·show its.toArray.eraseIdxIfInBounds (its.toArray.size - 1)=its.dropLast.toArray
  rw [Ju,List.eraseIdxIfInBounds_toArray,zdW]
 ·rw [List.length_dropLast]
  omega
noncomputable def zgN:V->List V->Hp->VK->Prop:=fun x vs H Q=>∃ l xs i k y,x=.ref l/\vs=[.int i]/\H l=some (.lst xs)/\-(2 ^ 63)≤i/\i<2 ^ 63/\seqIndex? i xs.length=some k/\xs[k]?=some y/\Q y (upd H l (.lst (xs.eraseIdx k)))
theorem zhp:MtM X "list.pop" zgN:=by
 intro pins s σ H x vs v us Q I rx rv h
 obtain ⟨l,xs,i,k,y,rfl,rfl,hH,h1,h2,hk,hy,q⟩:=h
 cases rx
 obtain ⟨u,rfl,ru⟩:=rv.one
 obtain ⟨t,rfl⟩:=ru
 obtain ⟨z,its,n,r,hl,e⟩:=I.lstM hH
 obtain ⟨w,hw,rw'⟩:=r.get hy
 refine call_meets F.slot_list_pop ⟨_,e,rfl⟩ F.entry_list_pop (F.args_list_pop_2 _ _)
  (MeetsSeq.list_pop_at l its.toArray n i t k w (fitsIndex_both h1 h2) (by rw [Ju,← hl];exact hk) (by rw [← Jx];exact hw) (by rw [Ju];omega)) ⟨e,?_⟩
 refine ⟨y,_,I.lset (its':=its.eraseIdx k) hH e ?_ (r.eraseIdx k) ?_,rw',q⟩
 ·show its.toArray.eraseIdxIfInBounds k=(its.eraseIdx k).toArray
  rw [List.eraseIdxIfInBounds_toArray]
 ·have:=zaG xs k
  omega
noncomputable def zgO:V->List V->Hp->VK->Prop:=fun x vs H Q=>∃ l xs,x=.ref l/\vs=[]/\H l=some (.lst xs)/\Q .non (upd H l (.lst []))
theorem zhq:MtM X "list.clear" zgO:=by
 intro pins s σ H x vs v us Q I rx rv h
 obtain ⟨l,xs,rfl,rfl,hH,q⟩:=h
 cases rx
 have hus:=rv.zero
 subst hus
 obtain ⟨z,its,n,r,hl,e⟩:=I.lstM hH
 refine call_meets F.slot_list_clear ⟨_,e,rfl⟩ F.entry_list_clear (F.args_list_clear_1 _) (AutoSeq1.list_clear_list_0 l its.toArray n (by rw [Ju];omega)) ⟨e,?_⟩
 exact ⟨.non,_,I.lset (its':=[]) (ys:=[]) hH e rfl .nil (Km _),rfl,q⟩
noncomputable def zkU:R2:=fun x y H Q=>∃ l b xs zs,x=.ref l/\y=.ref b/\H l=some (.lst xs)/\H b=some (.lst zs)/\xs.length+zs.length≤sizeLine/\∀ p,H p=none->Q (.ref p) (upd H p (.lst (xs++zs)))
theorem op_cat:OpR X (binaryOp .Add) zkU:=by
 intro pins s σ H x y v u Q I rx ry h
 obtain ⟨l,b,xs,zs,rfl,rfl,hH,hB,hz,q⟩:=h
 cases rx
 cases ry
 obtain ⟨z,its,n,r,hl,e⟩:=I.lstM hH
 obtain ⟨z2,its2,n2,r2,hl2,e2⟩:=I.lstM hB
 refine PySem.P.add_list e e2 ?_ (by rw [Ju,Ju];omega)
 have ea:its.toArray++its2.toArray=(its++its2).toArray:=by simp
 rw [ea]
 exact ⟨.ref _,_,I.lnew (t':=s.toks) (r.append r2) (by rw [Jo];omega),rfl,q _ I.fresh⟩
noncomputable def zkS:R2:=fun x y H Q=>∃ l k xs,x=.ref l/\y=.int k/\H l=some (.lst xs)/\-(2 ^ 63)≤k/\k<2 ^ 63/\xs.length * k.toNat≤sizeLine/\
 ∀ p,H p=none->Q (.ref p) (upd H p (.lst (List.replicate k.toNat xs).flatten))
theorem zjC{α:Type}(xs:List α)(k:Nat):(List.replicate k xs).flatten.length=k * xs.length:=by
 induction k with
 | zero=>simp
 | succ k ih=>rw [Kn,KF,Jo,ih,Nat.succ_mul,Nat.add_comm]
theorem zlk:OpR X (binaryOp .Mult) zkS:=by
 intro pins s σ H x y v u Q I rx ry h
 obtain ⟨l,k,xs,rfl,rfl,hH,h1,h2,hz,q⟩:=h
 cases rx
 obtain ⟨t,rfl⟩:=ry
 obtain ⟨z,its,n,r,hl,e⟩:=I.lstM hH
 have hlen:its.toArray.size * k.toNat≤sizeLine:=by rw [Ju,← hl];exact hz
 have hcap:¬ its.toArray.size * k.toNat > (2 ^ 63 - 1) / 8:=by
  have:(sizeLine:Nat)≤(2 ^ 63 - 1) / 8:=by decide
  omega
 have hfit:¬ (!Builtin.List.listFitsIndex k)=true:=by
  rw [fitsIndex_both h1 h2]
  exact Je
 have hlong:¬ Builtin.List.listTooLong (its.toArray.size * k.toNat)=true:=by
  rw [qV hlen]
  exact Je
 have hnew:List.foldl (fun x1 x2=>x1++x2) #[] (List.replicate (if its.toArray.isEmpty=true then 0 else k.toNat) its.toArray)=(List.replicate k.toNat its).flatten.toArray:=by
  have f0:∀ m:Nat,List.foldl (fun x1 x2=>x1++x2) #[] (List.replicate m its.toArray)=(List.replicate m its).flatten.toArray:=fun m=>by
   have:=zaL its m []
   rw [List.nil_append] at this
   exact this
  rw [f0]
  cases its with
  | nil=>simp
  | cons a r'=>rw [if_neg [12]]
 refine wpAny_binaryOp_repeat_ref (T:="list") (U:="int") [9] ⟨_,e,rfl⟩ (fun s'=>typeIs_int s' k t) noFill_list_mul F.fills_int_mul F.slot_int_rmul repeat_list F.slot_int_index.lookup
  (call_meets F.slot_int_rmul (typeIs_int s k t) F.entry_int_rmul (F.args_int_rmul_2 _ _) (int___rmul___int_list k t l its.toArray n)
   ⟨e,rfl,⟨_,e,rfl⟩,call_meets F.slot_list_mul ⟨_,e,rfl⟩ F.entry_list_mul (F.args_list_mul_2 _ _) (AutoListH.list___mul___list_int_3 l its.toArray n k t hfit hcap hlong) ⟨e,?_⟩⟩)
 rw [hnew]
 exact ⟨.ref _,_,I.lnew (t':=s.toks) (r.rep k.toNat) (by rw [zjC,Nat.mul_comm];exact hz),rfl,q _ I.fresh⟩
end
section
variable {κ:Type} [DecidableEq κ]
noncomputable def xj(kvs:List (κ × V))(k:κ):Option V:=(kvs.find? fun kv=>decide (kv.1=k)).map (·.2)
noncomputable def xt(kvs:List (κ × V))(k:κ)(v:V):List (κ × V):=
 if (kvs.any fun kv=>decide (kv.1=k))=true then kvs.map (fun kv=>if kv.1=k then (kv.1,v) else kv) else kvs++[(k,v)]
noncomputable def zot(kvs:List (κ × V))(k:κ):List (κ × V):=kvs.filter fun kv=>decide (kv.1≠k)
theorem jG{p:κ × V}{r:List (κ × V)}{k:κ}(e:p.1=k):xj (p::r) k=some p.2:=by simp [xj,List.find?_cons,e]
theorem k9{p:κ × V}{r:List (κ × V)}{k:κ}(e:¬ p.1=k):xj (p::r) k=xj r k:=by simp [xj,List.find?_cons,e]
theorem jH(k:κ):∀ kvs:List (κ × V),(kvs.any fun kv=>decide (kv.1=k))=(xj kvs k).isSome
 | []=>rfl
 | p::r=>by
  rw [KC]
  by_cases e:p.1=k
  ·simp only [jG e,decide_eq_true e,Bool.true_or,Option.isSome_some]
  ·rw [k9 e,decide_eq_false e,Bool.false_or];exact jH k r
theorem we(kvs:List (κ × V))(k:κ)(v:V):(xt kvs k v).length≤kvs.length+1:=by
 unfold xt
 split
 ·rw [Jj];omega
 ·rw [Jo,JD,List.length_nil];omega
theorem RelO.isSome_eq{o:Option V}{u:Option Value}(r:RelO o u):o.isSome=u.isSome:=by
 cases o with
 | none=>cases u with
  | none=>rfl
  | some _=>exact (show False from r).elim
 | some _=>cases u with
  | none=>exact (show False from r).elim
  | some _=>rfl
theorem RelO.getD{o:Option V}{u:Option Value}{d:V}{d':Value}(r:RelO o u)(rd:RelV d d'):RelV (o.getD d) (u.getD d'):=by
 cases o with
 | none=>cases u with
  | none=>exact rd
  | some _=>exact (show False from r).elim
 | some _=>cases u with
  | none=>exact (show False from r).elim
  | some _=>exact r
theorem KV.val{kvs:List (κ × V)}{vs:List (κ × Value)}(r:KV kvs vs)(k:κ):RelO (xj kvs k) (valueAt vs k):=by
 unfold KV at r
 induction r with
 | nil=>exact True.intro
 | @cons p q ps qs h t ih=>
  obtain ⟨h1,h2⟩:=h
  by_cases e:p.1=k
  ·have e':q.1=k:=h1.symm.trans e
   have b:valueAt (q::qs) k=some q.2:=by simp [valueAt,List.find?_cons,e']
   rw [jG e,b];exact h2
  ·have e':¬ q.1=k:=fun z=>e (h1.trans z)
   have b:valueAt (q::qs) k=valueAt qs k:=by simp [valueAt,List.find?_cons,e']
   rw [k9 e,b];exact ih
theorem KV.any{kvs:List (κ × V)}{vs:List (κ × Value)}(r:KV kvs vs)(k:κ):(kvs.any fun kv=>decide (kv.1=k))=vs.any fun kv=>decide (kv.1=k):=by
 unfold KV at r
 induction r with
 | nil=>rfl
 | cons h t ih=>rw [KC,KC,ih,h.1]
theorem KV.repl{kvs:List (κ × V)}{vs:List (κ × Value)}(r:KV kvs vs)(k:κ){y:V}{u:Value}(ry:RelV y u):
  KV (kvs.map fun kv=>if kv.1=k then (kv.1,y) else kv) (vs.map fun kv=>if kv.1=k then (kv.1,u) else kv):=by
 unfold KV at r ⊢
 induction r with
 | nil=>exact .nil
 | @cons p q ps qs h t ih=>
  rw [Jr,Jr]
  refine .cons ?_ ih
  obtain ⟨h1,h2⟩:=h
  by_cases e:p.1=k
  ·rw [if_pos e,if_pos (h1.symm.trans e)];exact ⟨h1,ry⟩
  ·rw [if_neg e,if_neg (fun z=>e (h1.trans z))];exact ⟨h1,h2⟩
theorem KV.put{kvs:List (κ × V)}{vs:List (κ × Value)}(r:KV kvs vs)(k:κ){y:V}{u:Value}(ry:RelV y u):KV (xt kvs k y) (stored vs k u):=by
 unfold xt stored
 rw [r.any k]
 by_cases e:(vs.any fun kv=>decide (kv.1=k))=true
 ·rw [if_pos e,if_pos e];exact r.repl k ry
 ·rw [if_neg e,if_neg e];exact Paired.snoc r ⟨rfl,ry⟩
theorem KV.length{kvs:List (κ × V)}{vs:List (κ × Value)}(r:KV kvs vs):kvs.length=vs.length:=Paired.length r
end
theorem kL{P:Program}{w:World}{k:Key}{u:Value}(r:RelV (kV k) u):(zK P w).is k u=true:=by
 cases k with
 | inl i=>obtain ⟨t,e⟩:=(show ∃ t,u=Value.int i t from r);subst e;exact zcF P w i t
 | inr x=>obtain ⟨t,e⟩:=(show ∃ t,u=Value.str x t from r);subst e;exact zcE P w x t
theorem jz{P:Program}{w:World}:∀ {ks:List Key} {us:List Value},Vals (ks.map kV) us->ItemsAre (zK P w) ks us
 | [],_,r=>by rw [List.map_nil] at r;cases r;exact .nil
 | k::ks,_,r=>by
  rw [Jr] at r
  cases r with
  | cons h t=>exact .cons (kL h) (jz t)
noncomputable abbrev KT(H:Hp):List (List Key × V)->List (List Key × Addr × Value)->Prop:=Paired fun p q=>p.1=q.1/\H q.2.1=some (.tup (p.1.map kV))/\RelV p.2 q.2.2
theorem KT.val{H:Hp}{kvs:List (List Key × V)}{xs:List (List Key × Addr × Value)}(r:KT H kvs xs)(k:List Key):RelO (xj kvs k) ((atKey xs k).map (·.2)):=by
 induction r with
 | nil=>exact True.intro
 | @cons p q ps qs h t ih=>
  obtain ⟨h1,_,h2⟩:=h
  by_cases e:p.1=k
  ·have e':q.1=k:=h1.symm.trans e
   have b:atKey (q::qs) k=some q.2:=by simp [atKey,List.find?_cons,e']
   rw [jG e,b];exact h2
  ·have e':¬ q.1=k:=fun z=>e (h1.trans z)
   have b:atKey (q::qs) k=atKey qs k:=by simp [atKey,List.find?_cons,e']
   rw [k9 e,b];exact ih
theorem KT.repl{H:Hp}{kvs:List (List Key × V)}{xs:List (List Key × Addr × Value)}(r:KT H kvs xs)(k:List Key){y:V}{u:Value}(ry:RelV y u):
  KT H (kvs.map fun kv=>if kv.1=k then (kv.1,y) else kv) (xs.map (putAt k u)):=by
 induction r with
 | nil=>exact .nil
 | @cons p q ps qs h t ih=>
  rw [Jr,Jr]
  refine .cons ?_ ih
  obtain ⟨h1,h2,h3⟩:=h
  unfold putAt
  by_cases e:p.1=k
  ·rw [if_pos e,if_pos (h1.symm.trans e)];exact ⟨h1,h2,ry⟩
  ·rw [if_neg e,if_neg (fun z=>e (h1.trans z))];exact ⟨h1,h2,h3⟩
theorem KT.put{H:Hp}{kvs:List (List Key × V)}{xs:List (List Key × Addr × Value)}(r:KT H kvs xs)(k:List Key){b:Addr}{y:V}{u:Value}(hb:H b=some (.tup (k.map kV)))(ry:RelV y u):
  KT H (xt kvs k y) (storedH xs k b u):=by
 have e:(kvs.any fun kv=>decide (kv.1=k))=(atKey xs k).isSome:=by
  rw [jH,(r.val k).isSome_eq,Option.isSome_map]
 unfold xt storedH
 rw [e]
 by_cases q:(atKey xs k).isSome=true
 ·rw [if_pos q,if_pos q];exact r.repl k ry
 ·rw [if_neg q,if_neg q];exact Paired.snoc r ⟨rfl,hb,ry⟩
theorem KT.keeps{H H':Hp}{kvs:List (List Key × V)}{xs:List (List Key × Addr × Value)}(r:KT H kvs xs)(ht:∀ b ys,H b=some (.tup ys)->H' b=some (.tup ys)):KT H' kvs xs:=
 Paired.mapP r fun _ _ z=>⟨z.1,ht _ _ z.2.1,z.2.2⟩
section
variable {P:Program} {w:World} {H:Hp} {h:Heap} {a:Addr}
theorem zkl{u:HO}(ok:HOk P w H h)(e:Rd H a u):ObjOk P w H h a u:=e.ok ok
theorem kO{kvs:List (Key × V)}(ok:HOk P w H h)(e:Rd H a (.dK kvs)):kvs.length≤sizeLine/\(a == sysModules)=false/\∃ vs,KV kvs vs/\h.DictOf (zK P w) a vs:=
 show ObjOk P w H h a (.dK kvs) from zkl ok e
theorem zaO{kvs:List (Key × V)}(ok:HOk P w H h)(e:H a=some (.dK kvs)):kvs.length≤sizeLine/\(a == sysModules)=false/\∃ vs,KV kvs vs/\h.DictOf (zK P w) a vs:=kO ok (.inl e)
theorem jy{ks:List Key}(ok:HOk P w H h)(e:H a=some (.tup (ks.map kV))):(tupleKind (zK P w)).is h ks a:=by
 obtain ⟨_,its,r,o,h1,h2,n,h3⟩:=(show ObjOk P w H h a (.tup (ks.map kV)) from ok a _ e)
 exact ⟨o,its.toArray,n,h1,h2,h3,by simpa using jz r⟩
theorem qt{kvs:List (List Key × V)}(ok:HOk P w H h)(e:Rd H a (.dT kvs)):kvs.length≤sizeLine/\(a == sysModules)=false/\
  ∃ xs,KT H kvs xs/\h.DictOfH (tupleKind (zK P w)) a xs:=by
 obtain ⟨z,y,xs,r,o,es,ep,h1,h2,h3,h4,h5⟩:=(show ObjOk P w H h a (.dT kvs) from zkl ok e)
 refine ⟨z,y,xs,r,o,es,ep,h1,h2,h3,h4,fun x hx=>?_,h5⟩
 have all:∀ {l:List (List Key × V)} {m:List (List Key × Addr × Value)},KT H l m->∀ x ∈ m,(tupleKind (zK P w)).is h x.1 x.2.1:=by
  intro l m q
  induction q with
  | nil=>intro x hx;exact nomatch hx
  | @cons p q ps qs hq t ih=>
   intro x hx
   rcases List.mem_cons.mp hx with e | hx
   ·subst e
    exact jy ok (by rw [← hq.1];exact hq.2.1)
   ·exact ih x hx
 exact all r x hx
theorem zmW{kvs:List (List Key × V)}(ok:HOk P w H h)(e:H a=some (.dT kvs)):kvs.length≤sizeLine/\(a == sysModules)=false/\
  ∃ xs,KT H kvs xs/\h.DictOfH (tupleKind (zK P w)) a xs:=qt ok (.inl e)
end
noncomputable def DGet(H:Hp)(a:Addr)(y:V)(r:Option V):Prop:=
 (∃ kvs k,Rd H a (.dK kvs)/\y=kV k/\r=xj kvs k)∨∃ kvs k b,Rd H a (.dT kvs)/\y=.ref b/\H b=some (.tup (k.map kV))/\r=xj kvs k
noncomputable def DPut(H:Hp)(a:Addr)(y v:V)(H':Hp):Prop:=
 (∃ kvs k,H a=some (.dK kvs)/\y=kV k/\kvs.length<sizeLine/\H'=upd H a (.dK (xt kvs k v)))∨
 ∃ kvs k b,H a=some (.dT kvs)/\y=.ref b/\H b=some (.tup (k.map kV))/\kvs.length<sizeLine/\H'=upd H a (.dT (xt kvs k v))
theorem DGet.k{H:Hp}{a:Addr}{kvs:List (Key × V)}{k:Key}(e:H a=some (.dK kvs)):DGet H a (kV k) (xj kvs k):=.inl ⟨kvs,k,.inl e,rfl,rfl⟩
theorem DPut.k{H:Hp}{a:Addr}{kvs:List (Key × V)}{k:Key}{v:V}(e:H a=some (.dK kvs))(hl:kvs.length<sizeLine):DPut H a (kV k) v (upd H a (.dK (xt kvs k v))):=.inl ⟨kvs,k,e,rfl,hl,rfl⟩
section
variable {X:Cx} {pins:List [17]} {σ:St} {H:Hp} {s:Shared} {a:Addr} {y v:V} {u r:Value} {o:Option V} {A:Around} {E:Value->Shared->Prop}
theorem Inv.big(I:Inv X pins σ H s):sysModules<s.heap.objs.size:=by
 have h:mainGlobals<s.heap.objs.size:=(I.mod.glob.keeps I.bk).lt
 exact Nat.lt_trans [9] h
theorem zfV{Q:Value->Shared->Prop}(hu:A.units+1<cLine)(I:Inv X pins σ H s)(g:DGet H a y (some v))(ry:RelV y u)(h:∀ w' s',Inv X pins σ H s'->RelV v w'->Q w' s'):
  wpAny [14] A (getItem [67] u) Q E s:=by
 rcases g with ⟨kvs,k,e,ey,l⟩ | ⟨kvs,k,b,e,ey,eb,l⟩
 ·subst ey
  obtain ⟨z,hd,vs,rel,dd⟩:=kO I.hok e
  obtain ⟨w',hw,rw'⟩:=RelO.some_of (v:=v) (o:=valueAt vs k) (by rw [l];exact rel.val k)
  exact wpAny_getItem_of (kL ry) dd.mapOf hw (h w' _ (I.tok _) rw')
 ·subst ey
  cases (show u=Value.ref b from ry)
  obtain ⟨z,hd,xs,rel,dd⟩:=qt I.hok e
  obtain ⟨w',hw,rw'⟩:=RelO.some_of (v:=v) (o:=(atKey xs k).map (·.2)) (by rw [l];exact rel.val k)
  obtain ⟨p,hp,hp2⟩:=JM.mp hw
  refine wpAny_getItem_heap (tupleKind_room_in1 hu) (jy I.hok eb) dd hp ?_
  rw [hp2]
  exact h w' _ (I.tok _) rw'
theorem zob{Q:Value->Shared->Prop}(hu:A.units+1<cLine)(I:Inv X pins σ H s)(g:DGet H a y o)(ry:RelV y u)(h:∀ s',Inv X pins σ H s'->Q (.bool o.isSome) s'):
  wpAny [14] A (compareOp .In u [67]) Q E s:=by
 rcases g with ⟨kvs,k,e,ey,l⟩ | ⟨kvs,k,b,e,ey,eb,l⟩
 ·subst ey
  obtain ⟨z,hd,vs,rel,dd⟩:=kO I.hok e
  refine wpAny_in_of (kL ry) hd dd.mapOf ?_
  rw [← (rel.val k).isSome_eq,← l]
  exact h _ (I.tok _)
 ·subst ey
  cases (show u=Value.ref b from ry)
  obtain ⟨z,hd,xs,rel,dd⟩:=qt I.hok e
  refine wpAny_in_heap (tupleKind_room_in1 hu) (jy I.hok eb) hd dd ?_
  have q:=(rel.val k).isSome_eq
  rw [Option.isSome_map] at q
  rw [← q,← l]
  exact h _ (I.tok _)
theorem zka{Q:Value->Shared->Prop}(hu:A.units+1<cLine)(I:Inv X pins σ H s)(g:DGet H a y o)(ry:RelV y u)(h:∀ s',Inv X pins σ H s'->Q (.bool (!o.isSome)) s'):
  wpAny [14] A (compareOp .NotIn u [67]) Q E s:=by
 rcases g with ⟨kvs,k,e,ey,l⟩ | ⟨kvs,k,b,e,ey,eb,l⟩
 ·subst ey
  obtain ⟨z,hd,vs,rel,dd⟩:=kO I.hok e
  refine wpAny_notIn_of (kL ry) hd dd.mapOf ?_
  rw [← (rel.val k).isSome_eq,← l]
  exact h _ (I.tok _)
 ·subst ey
  cases (show u=Value.ref b from ry)
  obtain ⟨z,hd,xs,rel,dd⟩:=qt I.hok e
  refine wpAny_notIn_heap (tupleKind_room_in1 hu) (jy I.hok eb) hd dd ?_
  have q:=(rel.val k).isSome_eq
  rw [Option.isSome_map] at q
  rw [← q,← l]
  exact h _ (I.tok _)
theorem km{h':Heap}{t':Nat}{ob:HO}(I:Inv X pins σ H s)(mu:Mut (H a))(hs:Heap.SameBut a s.heap h')(he:∃ q,h'.get? a=some q)(new:ObjOk X.prog X.w (upd H a ob) h' a ob):
  Inv X pins σ (upd H a ob) { s with heap:=h',toks:=t' }:=
 I.write (x:=a) (e:=a) mu [76] (fun b q hb z=>(hs.2 b hb).trans z) he new
theorem zdX{P:Program}{w:World}{H':Hp}{h':Heap}{kvs:List (Key × V)}{vs:List (Key × Value)}(z:kvs.length≤sizeLine)(hd:(a == sysModules)=false)(rel:KV kvs vs)(dd:h'.DictOf (zK P w) a vs):
  ObjOk P w H' h' a (.dK kvs):=⟨z,hd,vs,rel,dd⟩
theorem zfU{H':Hp}{Q:Unit->Shared->Prop}(hu:A.units+1<cLine)(I:Inv X pins σ H s)(g:DPut H a y v H')(ry:RelV y u)(rv:RelV v r)(h:∀ s',Inv X pins σ H' s'->Q () s'):
  wpAny [14] A (setItem [67] u r) Q E s:=by
 rcases g with ⟨kvs,k,e,ey,l,eH⟩ | ⟨kvs,k,b,e,ey,eb,l,eH⟩
 ·subst ey eH
  obtain ⟨z,hd,vs,rel,dd⟩:=zaO I.hok e
  have hz:vs.length≤sizeLine:=by rw [← rel.length];exact z
  have hl:(xt kvs k v).length≤sizeLine:=by have:=we kvs k v;omega
  refine wpAny_setItem_pairs (hsz:=hz) (kL ry) dd fun h' dd' hs=>h _ ?_
  have he:∃ q,h'.get? a=some q:=let ⟨q,_,_,hq,_⟩:=dd';⟨q,hq⟩
  exact km I (by rw [e];exact True.intro) hs he (zdX hl hd (rel.put k rv) dd')
 ·subst ey eH
  cases (show u=Value.ref b from ry)
  obtain ⟨z,hd,xs,rel,dd⟩:=zmW I.hok e
  have hz:xs.length≤sizeLine:=by rw [← Paired.length rel];exact z
  have hl:(xt kvs k v).length≤sizeLine:=by have:=we kvs k v;omega
  refine wpAny_setItem_heap (hsz:=hz) (tupleKind_room_in1 hu) (jy I.hok eb) dd fun h' dd' hs=>h _ ?_
  obtain ⟨q,es,ep,hq,h2,h3,h4,_,h5⟩:=dd'
  refine km I (by rw [e];exact True.intro) hs ⟨q,hq⟩ ⟨hl,hd,_,(rel.put k eb rv).keeps fun c ys ec=>?_,q,es,ep,hq,h2,h3,h4,h5⟩
  rw [zb (zmB ec e [68])]
  exact ec
end
section
variable {X:Cx} {pins:List [17]} {σ:St} {H:Hp} {s:Shared} {a:Addr} {kvs:List (Key × V)} {k:Key} {u:Value} {A:Around} {E:Value->Shared->Prop}
theorem zmZ{Q:Value->Shared->Prop}(I:Inv X pins σ H s)(e:Rd H a (.dK kvs))(h:∀ t s',Inv X pins σ H s'->Q (.int kvs.length t) s'):wpAny [14] A (call (.builtin "len") [.ref a]) Q E s:=by
 obtain ⟨z,hd,vs,rel,dd⟩:=kO I.hok e
 refine call_len_dict hd dd (by rw [← rel.length];rw [sizeLine_eq] at z;omega) ?_
 rw [← rel.length]
 exact h _ _ (I.tok _)
end
noncomputable def znk(i:Expr):Prop:=∀ ov iv,subscripted i false ov iv=operate [ov,iv] (getItem ov iv)
theorem ziI{prog:Program}{w:World}{A:Around}{E:Value->Shared->Prop}{s:Shared}{env:Env}{value slice:Expr}{pos:Pos}{T id:String}{Q:Value->Shared->Prop}
  (hl:typeLookup (.type T) "__getitem__"=pure (some (.builtin id)))(hs:znk slice)
  (h:wpAny [11] A (eval value env) (fun o s₁=>wpAny [11] A (eval slice env) (fun i s₂=>s₂.TypeIs o T/\wpAny [11] A (getItem o i) Q E s₂) E s₁) E s):
  wpAny [11] A (eval (.Subscript value slice pos) env) Q E s:=by
 refine Subscript_ (wpAny_mono h (fun o s₁ h₁=>wpAny_mono h₁ (fun i s₂ h₂=>?_) fun _ _ x=>x) fun _ _ x=>x)
 obtain ⟨hT,h₂⟩:=h₂
 unfold subscriptTail
 refine wpAny_bind ?_
 rw [getitemInPython_of_ne hT.not_modules]
 refine wpAny_bind (wpAny_specialOf hT hl ?_)
 have fin:wpAny [11] A (subscripted slice false o i) (fun r s₃=>wpAny [11] A (letTemporaryGo value o r >>= fun _=>pure r) Q E s₃) E s₂:=by
  rw [hs o i]
  exact wpAny_operating (wpAny_mono h₂ (fun r s₃ h₃=>wpAny_bind (wpAny_letTemporaryGo (wpAny_pure h₃))) fun _ _ x=>x)
 first
  | exact wpAny_pure (wpAny_bind fin)
  | exact wpAny_bind (wpAny_pure (wpAny_bind fin))
  | exact wpAny_bind fin
theorem zcY{X:Cx}{pins:List [17]}{σ:St}{H:Hp}{s:Shared}{a:Addr}{y:V}{o:Option V}(I:Inv X pins σ H s)(g:DGet H a y o):s.TypeIs [67] "dict":=by
 rcases g with ⟨kvs,k,e,_,_⟩ | ⟨kvs,k,b,e,_,_,_⟩
 ·obtain ⟨_,_,vs,_,dd⟩:=kO I.hok e
  exact dd.typeIs
 ·obtain ⟨_,_,xs,_,dd⟩:=qt I.hok e
  exact dd.typeIs
noncomputable def zmc(td ty:TE):TE:=fun σ H Q=>td σ H fun x H1=>ty σ H1 fun y H2=>∃ a v,x=.ref a/\DGet H2 a y (some v)/\Q v H2
noncomputable def zey(td ty tv:TE):TS:=fun D σ H=>tv σ H fun v H1=>td σ H1 fun x H2=>ty σ H2 fun y H3=>∃ a H4,x=.ref a/\DPut H3 a y v H4/\D.nx σ H4
section
variable {X:Cx} {o i e value:Expr} {pos pos' tpos:Pos} {td ty tv:TE}
theorem zjk(hu:X.A.units+1<cLine)(ho:PE X o td)(hi:PE X i ty)(hs:znk i):PE X (.Subscript o i pos) (zmc td ty):=by
 intro pins s σ H Q I h
 refine ziI PySem.F.slot_dict_getitem.lookup hs (thn (ho pins s σ H _ I h) fun u s1 ⟨x,H1,I1,rx,q1⟩=>thn (hi pins s1 σ H1 _ I1 q1) fun iv s2 ⟨y,H2,I2,ry,a,v,ex,g,q2⟩=>?_)
 subst ex
 obtain rfl:u=Value.ref a:=rx
 exact ⟨zcY I2 g,zfV hu I2 g ry fun w' s3 I3 rw'=>⟨v,H2,I3,rw',q2⟩⟩
theorem jP(hu:X.A.units+1<cLine)(ho:PE X o td)(hi:PE X i ty)(hv:PE X value tv)(hs:swapsWith value (some (.Subscript o i pos')) pos.line X.env=pure false):
  PS X (.Assign [.Subscript o i pos'] value pos) (zey td ty tv):=by
 intro pins s σ H D I h
 refine wpAny_Assign_Subscript (thn (hv pins s σ H _ I h) fun r s1 ⟨v,H1,I1,rv,q1⟩=>thn (ho pins s1 σ H1 _ I1 q1) fun u s2 ⟨x,H2,I2,rx,q2⟩=>thn (hi pins s2 σ H2 _ I2 q2) fun iv s3 ⟨y,H3,I3,ry,a,H4,ex,g,q3⟩=>?_) hs
 subst ex
 obtain rfl:u=Value.ref a:=rx
 exact zfU hu I3 g ry rv fun s4 I4=>⟨σ,H4,I4,q3⟩
end
theorem zcX{P:Program}{w:World}{H:Hp}(h:Heap)(hb:sysModules<h.objs.size):ObjOk P w H (h.push { cls:=.type "dict",data:=.dict #[] }) h.objs.size (.dK []):=
 ⟨Km _,beq_eq_false_iff_ne.mpr (Ne.symm (Jw hb)),[],.nil,Heap.DictOf.new h⟩
noncomputable def zgA:TE:=fun _ H Q=>∀ p,H p=none->Q (.ref p) (upd H p (.dK []))
section
variable {X:Cx} {pos:Pos}
theorem jQ:PE X (.Dict [] [] pos) zgA:=fun pins s σ H Q I h=>
 wpAny_Dict_empty ⟨.ref s.heap.objs.size,_,I.laid (a:=s.heap.objs.size) (o:=.dK []) (t':=s.toks) (fun _ _ q=>Jb _ q) (Jn _) (zcX s.heap I.big),rfl,h _ (I.hok.fresh (Jn _))⟩
end
noncomputable def zdr:List (TE × TE)->St->Hp->(List (V × V)->Hp->Prop)->Prop
 | [],_,H,Q=>Q [] H
 | (tk,tv)::r,σ,H,Q=>tk σ H fun x H1=>tv σ H1 fun y H2=>zdr r σ H2 fun ps H3=>Q ((x,y)::ps) H3
noncomputable abbrev VV:List (V × V)->List (Value × Value)->Prop:=Paired fun p q=>RelV p.1 q.1/\RelV p.2 q.2
noncomputable def PPs(X:Cx)(pos:Pos)(keys:List (Option Expr))(values:List Expr)(trs:List (TE × TE)):Prop:=
 ∀ (pins:List [17]) (s:Shared) (σ:St) (H:Hp) (Q:List (V × V)->Hp->Prop),Inv X pins σ H s->zdr trs σ H Q->
  wpAny [14] X.A (evalPairs (pairTrees keys values X.env pos)) (fun vs s'=>∃ ps H',Inv X pins σ H' s'/\VV ps vs/\Q ps H') X.xe s
theorem zjd{X:Cx}{pos:Pos}:PPs X pos [] [] []:=fun pins s σ H Q I h=>pairTrees_nil_walk ⟨[],H,I,.nil,h⟩
theorem zgX{X:Cx}{pos:Pos}{k v:Expr}{ks:List (Option Expr)}{vs:List Expr}{tk tv:TE}{trs:List (TE × TE)}(hk:PE X k tk)(hv:PE X v tv)(hr:PPs X pos ks vs trs):
  PPs X pos (some k::ks) (v::vs) ((tk,tv)::trs):=fun pins s σ H Q I h=>
 pairTrees_cons_walk (thn (hk pins s σ H _ I h) fun u s1 ⟨x,H1,I1,rx,q1⟩=>thn (hv pins s1 σ H1 _ I1 q1) fun w2 s2 ⟨y,H2,I2,ry,q2⟩=>
  thn (hr pins s2 σ H2 _ I2 q2) fun ws s3 ⟨ps,H3,I3,rel,q3⟩=>⟨(x,y)::ps,H3,I3,.cons ⟨rx,ry⟩ rel,q3⟩)
noncomputable def jx(kvs more:List (Key × V)):List (Key × V):=more.foldl (fun acc kv=>xt acc kv.1 kv.2) kvs
theorem KV.merge:∀ {more:List (Key × V)} {rs:List (Key × Value)} {kvs:List (Key × V)} {vs:List (Key × Value)},KV more rs->KV kvs vs->KV (jx kvs more) (merged vs rs):=by
 intro more rs kvs vs r
 unfold KV at r
 induction r generalizing kvs vs with
 | nil=>intro q;exact q
 | @cons p q ps qs h t ih=>
  intro r0
  have e:KV (xt kvs p.1 p.2) (stored vs q.1 q.2):=by
   have:=r0.put p.1 h.2
   rw [← h.1];exact this
  exact ih e
theorem uh:∀ (more kvs:List (Key × V)),(jx kvs more).length≤kvs.length+more.length
 | [],kvs=>by show kvs.length≤kvs.length+0;omega
 | p::r,kvs=>by
  have h1:=uh r (xt kvs p.1 p.2)
  have h2:=we kvs p.1 p.2
  show (jx (xt kvs p.1 p.2) r).length≤_
  rw [JD];omega
theorem zaa{P:Program}{w:World}:∀ {kvs:List (Key × V)} {ws:List (Value × Value)},VV (kvs.map fun kv=>(kV kv.1,kv.2)) ws->∃ rs,Carries (zK P w) ws rs/\KV kvs rs
 | [],_,r=>by rw [List.map_nil] at r;cases r;exact ⟨[],True.intro,.nil⟩
 | p::kvs,_,r=>by
  rw [Jr] at r
  cases r with
  | @cons a b as bs h t=>
   obtain ⟨rs,c,q⟩:=zaa (P:=P) (w:=w) t
   obtain ⟨b1,b2⟩:=b
   exact ⟨(p.1,b2)::rs,⟨kL h.1,rfl,c⟩,.cons ⟨rfl,h.2⟩ q⟩
noncomputable def zmb(trs:List (TE × TE)):TE:=fun σ H Q=>∀ p,H p=none->zdr trs σ (upd H p (.dK [])) fun ps H2=>H2 p=some (.dK [])/\∃ kvs:List (Key × V),ps=kvs.map (fun kv=>(kV kv.1,kv.2))/\kvs.length≤15/\Q (.ref p) (upd H2 p (.dK (jx [] kvs)))
theorem zjj{X:Cx}{pos:Pos}{keys:List (Option Expr)}{values:List Expr}{trs:List (TE × TE)}(h:PPs X pos keys values trs)(hall:keys.all (·.isSome)=true)(hl:keys.length=values.length)(h0:keys≠[])
  (h15:keys.length≤15):PE X (.Dict keys values pos) (zmb trs):=by
 intro pins s σ H Q I q
 have hn:=I.hok.fresh (Jn s.heap.objs.size)
 have I1:=I.laid (a:=s.heap.objs.size) (o:=.dK []) (h':=s.heap.push { cls:=.type "dict",data:=.dict #[] }) (t':=s.toks) (fun _ _ q=>Jb _ q) (Jn _) (zcX s.heap I.big)
 refine wpAny_Dict_walk (knd:=zK X.prog X.w) hall hl h0 h15 (thn (h pins _ σ _ _ I1 (q _ hn)) fun ws s2 hq_=>?_)
 obtain ⟨ps,H2,I2,rel,e,kvs,ep,lk,q2⟩:=hq_
 subst ep
 obtain ⟨rs,c,rk⟩:=zaa (P:=X.prog) (w:=X.w) rel
 obtain ⟨z,hd,vs0,r0,dd⟩:=zaO I2.hok e
 cases r0
 refine ⟨rs,c,dd,fun h' dd' hs=>⟨.ref s.heap.objs.size,_,?_,rfl,q2⟩⟩
 have hz:(jx [] kvs).length≤sizeLine:=by
  have h1:=uh kvs []
  rw [List.length_nil] at h1
  rw [sizeLine_eq];omega
 have he:∃ q,h'.get? s.heap.objs.size=some q:=let ⟨q,_,_,hq,_⟩:=dd';⟨q,hq⟩
 exact km I2 (by rw [e];exact True.intro) hs he (zdX hz hd (rk.merge .nil) dd')
structure M1 (X:Cx) (o:Expr) (m:Str) (apos:Pos) (e:Expr) (cpos:Pos):Prop where
 base:attributeBase o m X.env (eval o X.env)=eval o X.env
 few:((backTo cpos (starEach [e] X.env)).all (fun x=>!x.1) && (backToKw cpos (keywordEach [] X.env)).all (fun x=>x.1.isSome)
  && decide (([e]:List Expr).length+([]:List Keyword).length+(if ([]:List Keyword).isEmpty then 0 else 1)<30))=true
 line:(apos.endLine == cpos.line)=true
 trees:backTo cpos (starEach [e] X.env)=[[41]]
structure M2 (X:Cx) (o:Expr) (m:Str) (apos:Pos) (e f:Expr) (cpos:Pos):Prop where
 base:attributeBase o m X.env (eval o X.env)=eval o X.env
 few:((backTo cpos (starEach [e,f] X.env)).all (fun x=>!x.1) && (backToKw cpos (keywordEach [] X.env)).all (fun x=>x.1.isSome)
  && decide (([e,f]:List Expr).length+([]:List Keyword).length+(if ([]:List Keyword).isEmpty then 0 else 1)<30))=true
 line:(apos.endLine == cpos.line)=true
 trees:backTo cpos (starEach [e,f] X.env)=[[41],(false,eval f X.env)]
noncomputable def IsD(H:Hp)(a:Addr):Prop:=(∃ kvs,Rd H a (.dK kvs))∨∃ kvs,Rd H a (.dT kvs)
theorem zhI{X:Cx}{pins:List [17]}{σ:St}{H:Hp}{s:Shared}{a:Addr}(I:Inv X pins σ H s)(d:IsD H a):
  s.TypeIs [67] "dict"/\(∀ b,Value.ref a=.ref b->∃ ob,s.heap.get? b=some ob/\ob.dict=none)/\(a == sysModules)=false:=by
 rcases d with ⟨kvs,e⟩ | ⟨kvs,e⟩
 ·obtain ⟨_,hd,vs,_,dd⟩:=kO I.hok e
  refine ⟨dd.typeIs,fun b q=>?_,hd⟩
  cases q
  obtain ⟨ob,_,_,h1,h2,_⟩:=dd
  exact ⟨ob,h1,h2.2.1⟩
 ·obtain ⟨_,hd,xs,_,dd⟩:=qt I.hok e
  refine ⟨dd.typeIs,fun b q=>?_,hd⟩
  cases q
  obtain ⟨ob,_,_,h1,h2,_⟩:=dd
  exact ⟨ob,h1,h2.2.1⟩
section
variable {X:Cx} {pins:List [17]} {σ:St} {H:Hp} {s:Shared} {a:Addr} {y d:V} {u r:Value} {o:Option V} {A:Around} {E:Value->Shared->Prop}
theorem zlM{Q:Value->Shared->Prop}(hu:A.units+1<cLine)(I:Inv X pins σ H s)(g:DGet H a y o)(ry:RelV y u)(rd:RelV d r)(h:∀ w' s',Inv X pins σ H s'->RelV (o.getD d) w'->Q w' s'):
  wpAny [14] A (call (.builtin "dict.get") [.ref a,u,r]) Q E s:=by
 rcases g with ⟨kvs,k,e,ey,l⟩ | ⟨kvs,k,b,e,ey,eb,l⟩
 ·subst ey
  obtain ⟨z,hd,vs,rel,dd⟩:=kO I.hok e
  refine call_meetsIn PySem.F.slot_dict_get dd.typeIs PySem.F.entry_dict_get (PySem.F.args_dict_get_3 _ _ _) (meets_dict_get_default (zK X.prog X.w) a (kL ry) hd r) ⟨_,dd.mapOf,h _ _ (I.tok _) ?_⟩
  rw [l]
  exact (rel.val k).getD rd
 ·subst ey
  cases (show u=Value.ref b from ry)
  obtain ⟨z,hd,xs,rel,dd⟩:=qt I.hok e
  refine call_meetsIn PySem.F.slot_dict_get dd.typeIs PySem.F.entry_dict_get (PySem.F.args_dict_get_3 _ _ _) (meetsH_dict_get_default (tupleKind (zK X.prog X.w)) a b hd r) ⟨tupleKind_room_in1 hu,k,xs,jy I.hok eb,dd,h _ _ (I.tok _) ?_⟩
  rw [l]
  exact (rel.val k).getD rd
end
noncomputable def zkJ(td ty tx:TE):TE:=fun σ H Q=>td σ H fun x H1=>∃ a,x=.ref a/\IsD H1 a/\ty σ H1 fun y H2=>tx σ H2 fun z H3=>∃ o,DGet H3 a y o/\Q (o.getD z) H3
section
variable {X:Cx} {o e f:Expr} {apos cpos:Pos} {td ty tx:TE}
theorem zct(hu:X.A.units+1<cLine)(ho:PE X o td)(he:PE X e ty)(hf:PE X f tx)(m:M2 X o "get" apos e f cpos):PE X (.Call (.Attribute o "get" apos) [e,f] [] cpos) (zkJ td ty tx):=by
 intro pins s σ H Q I h
 refine wpAny_Call_method m.base m.few m.line PySem.F.plainAttrs_dict PySem.F.slot_dict_get PySem.F.type_dict_get (thn (ho pins s σ H _ I h) fun u s1 hq_=>?_)
 obtain ⟨x,H1,I1,rx,a,ex,d,q1⟩:=hq_
 subst ex
 obtain rfl:u=Value.ref a:=rx
 obtain ⟨t1,t2,_⟩:=zhI I1 d
 refine ⟨t1,t2,?_⟩
 rw [m.trees]
 refine Qu rfl (Calls.evalArgs_plain (Qa (thn (he pins s1 σ H1 _ I1 q1) fun iv s2 ⟨y,H2,I2,ry,q2⟩=>
  Qa (thn (hf pins s2 σ H2 _ I2 q2) fun fv s3 ⟨z,H3,I3,rz,ov,g,q3⟩=>Calls.spliced_nil ?_))))
 exact zlM hu I3 g ry rz fun w' s4 I4 rw'=>⟨_,H3,I4,rw',q3⟩
end
end L2
namespace Att
open PySem PySem.W PySem.Calls PyProof.Rows
theorem kW{P:Params}{h:Heap}:∀ (ns:List Int) (vs:List Value),WellAll P h vs (ns.map WData.int)->IntsAre vs ns:=by
 intro ns
 induction ns with
 | nil=>
  intro vs w
  rw [List.map_nil] at w
  cases w
  exact .nil
 | cons n ns ih=>
  intro vs w
  rw [Jr] at w
  cases w with
  | cons a b=>
   cases a
   exact .cons _ _ (ih _ b)
theorem zft{l:OpenLaw}{n:Nat}(hn:l.most=some n){P:Params}{h:Heap}{args:List WData}{vals:List Value}
  (hpre:l.row.toRowW.claim.pre args=true)(hwl:WellAll P h vals args):
  ∃ a vs ns,vals=[Value.ref a]/\args=[WData.list (ns.map WData.int)]/\h.get? a=some { cls:=.type "list",data:=.seq vs.toArray }/\IntsAre vs ns/\ns.length≤n:=by
 have hsh:WShape.hasAll [] args [.list .int]=true:=(pre_splitW hpre).1
 have hc:l.pre.holds [] { args:=args }=true:=(pre_splitW hpre).2
 obtain ⟨d,r,rfl,h1,h2⟩:=hasAllW_cons hsh
 obtain rfl:=hasAllW_nil h2
 obtain ⟨xs,rfl,h3⟩:=hasW_list h1
 obtain ⟨ns,rfl⟩:=items_int h3
 have hlen:ns.length≤n:=by
  unfold OpenLaw.pre at hc
  have h4:(WTm.not (.lt (.lit (.int (n:Int))) (.len (.arg 0)))).holds [] { args:=[.list (ns.map .int)] }=true:=by
   have h4:=(holds_andW hc).1
   rw [hn] at h4
   exact h4
  have h5:=condW_of h4 (w_not (w_lt w_lit (w_len_list (w_arg rfl))))
  rw [Jj] at h5
  refine QB fun q=>?_
  have q':(n:Int)<((ns.length:Nat):Int):=by omega
  first
   | (rw [decide_eq_true q'] at h5;exact absurd h5 [9])
   | (simp at h5;omega)
 cases hwl with
 | cons w1 w2=>
  cases w2
  cases w1 with
  | list ho hall=>exact ⟨_,_,ns,rfl,rfl,ho,kW ns _ hall,hlen⟩
theorem zfx(l:OpenLaw)(args:List WData):l.row.toRowW.claim.post args (.bool true) args=true:=
 postW_of (r:=l.row.toRowW) (X:=(true == true))
  (show WShape.has [] (.bool true) .bool=true by first | rfl | decide | simp [WShape.has,WShape.arms,WShape.armsAll])
  (show (WTm.eq .res (.lit (.bool true))).value [] { args:=args,res:=some (.bool true),after:=args }=some (.bool (true == true)) from w_eq_bool (w_res rfl) w_lit) rfl
end Att
namespace L2
open PySem PySem.Spec PyProof.Rows
theorem zas:∀ {vs:List Value} {ns:List Int},IntsAre vs ns->Vals (ns.map V.int) vs
 | _,_,.nil=>.nil
 | _,_,.cons n t h=>.cons ⟨t,rfl⟩ (zas h)
noncomputable def zkd(H:Hp):Prop:=∀ b,H b=none∨∃ o xs,H b=some (.frz o (.lst xs))
theorem zhz{P:Program}{w:World}{K:PySem.W.Frag}{mg mb:Str->Option Value}{CX:CXT}{k:Nat}{fa a:Addr}{fd:FuncData}{x:Str}{sp:Sp}{s₁:Shared}{vs:List Value}{ns:List Int}
  (KX:K.In s₁.heap)(hns:s₁.heap.Ns mainGlobals mg)(hb:s₁.heap.Ns builtinsNs mb)(hbb:∀ x:Str,x≠"__name__"->mb x=bootBuiltins x)(hlim:s₁.heap.NoLimit)(hg:s₁.gens=#[])
  (ha:s₁.heap.get? a=some { cls:=.type "list",data:=.seq vs.toArray })(hi:IntsAre vs ns)(hl:ns.length≤sizeLine)(hr:Room k callerA)
  (F:∀ base:Heap,K.In base->base.Ns mainGlobals mg->FnOk P w K mg base CX k fa fd [x] sp)(hbind:∀ (s:Shared) (u:Value),BindsTo s fd ⟨[u],[]⟩ [(x,u)])
  (hsp:∀ H:Hp,zkd H->SqL K H a (ns.map V.int)->sp [.ref a] H (fun v _=>v=.bl true) fun _ _ _=>False)
  (hCX:∀ H e s',CX [] H s₁ (fun _ _ _=>False) e s'->False):
  codeAny (model P w) callerA (.call (.ref fa) ⟨[.ref a],[]⟩) (fun r s'=>r=.ok (.ret (.bool true))/\OldK s₁.heap s'.heap/\s'.os=s₁.os/\AllBare s'.gens) s₁:=by
 have rv:=zas hi
 have lenV:=hi.length
 -- from an abstract heap in which nothing but the script may be tracked
 have core:∀ H:Hp,zkd H->SqL K H a (ns.map V.int)->HOk P w H s₁.heap->(∀ b,H b≠none->b=a)->(H a≠none->K.lookup a=none)->
   codeAny (model P w) callerA (.call (.ref fa) ⟨[.ref a],[]⟩) (fun r s'=>r=.ok (.ret (.bool true))/\OldK s₁.heap s'.heap/\s'.os=s₁.os/\AllBare s'.gens) s₁:=by
  intro H hO hS hok hA hK
  have base_of:∀ {b:Addr} {o:Obj},s₁.heap.get? b=some o->H b=none->(zbB s₁.heap H).get? b=some o:=fun e n=>zhM e n
  have noA:∀ {b:Addr} {o:Obj} {es:Array DictEntry} {ep:Nat},s₁.heap.get? b=some o->o.data=.dict es ep->H b=none:=fun {b o es ep} e d=>by
   cases q:H b with
   | none=>rfl
   | some u=>
    have e':b=a:=hA b (by rw [q];simp)
    subst e'
    rw [ha] at e;cases e
    have d':Data.seq vs.toArray _=Data.dict es ep:=d
    cases d'
  have nsK:∀ {b:Addr} {m:Str->Option Value},s₁.heap.Ns b m->(zbB s₁.heap H).Ns b m:=fun {b m} ⟨o,es,ep,e,d,r⟩=>⟨o,es,ep,base_of e (noA e d),d,r⟩
  have hKb:K.In (zbB s₁.heap H):=fun b o e=>base_of (KX b o e) (by
   cases q:H b with
   | none=>rfl
   | some u=>
    have e':b=a:=hA b (by rw [q];simp)
    subst e'
    rw [hK (by rw [q];simp)] at e;cases e)
  have hM:Mod K mg (zbB s₁.heap H):=⟨hKb,nsK hns,⟨mb,nsK hb,hbb⟩,let ⟨mc,h1,h2⟩:=hlim;⟨mc,nsK h1,h2⟩⟩
  have e0:Env0 P w K mg (zbB s₁.heap H) callerA [] s₁ H:=⟨rfl,hM,fun b o e=>zjt e,Nat.le_of_eq (zfN _ _),trivial,fun b hb=>absurd (show b ∈ ([]:List Addr) from hb) [12],hok,.of_eq hg⟩
  refine codeAny_mono ((F _ hKb (nsK hns)).run callerA [] s₁ H ⟨[.ref a],[]⟩ [.ref a] [.ref a] _ _ hr e0 (hbind s₁ [67]) (.cons rfl .nil) (hsp H hO hS)) fun r s' h=>?_
  cases r with
  | error e=>exact (hCX H e s' h).elim
  | ok fl=>
   cases fl with
   | next=>exact False.elim h
   | brk=>exact False.elim h
   | cont=>exact False.elim h
   | ret u=>
    obtain ⟨v,H',os,bare,un,hok',r',q⟩:=h
    have q':v=.bl true:=q
    subst q'
    obtain rfl:u=Value.bool true:=r'
    refine ⟨rfl,OldK.of_keep fun b o e=>?_,os,bare⟩
    cases q:H b with
    | none=>exact un.keep b o e q (by intro z;exact absurd (show b ∈ ([]:List Addr) from z) [12]) [12]
    | some u=>
     rcases hO b with z | ⟨ob,xs,z⟩
     ·rw [q] at z;cases z
     ·have z2:=un.frzs b ob _ z
      obtain ⟨e1,_⟩:=hok b _ z
      obtain ⟨e2,_⟩:=hok' b _ z2
      rw [e] at e1;cases e1
      exact e2
 cases hk:K.lookup a with
 | some o=>
  -- the script is one of the module's own objects
  have e:=KX a o hk
  rw [ha] at e
  cases e
  refine core (fun _=>none) (fun _=>.inl rfl) (.inr ⟨_,vs.toArray,_,hk,rfl,rfl,rfl,by rw [List.size_toArray,lenV];exact hl,by simpa using rv⟩) (fun b u z=>by have z':(none:Option HO)=some u:=z;cases z') (fun b z=>absurd rfl z) fun z=>absurd rfl z
 | none=>
  refine core (fun b=>if b=a then some (.frz { cls:=.type "list",data:=.seq vs.toArray } (.lst (ns.map V.int))) else none) (fun b=>?_) (.inl (.inr ⟨{ cls:=.type "list",data:=.seq vs.toArray },if_pos rfl⟩)) (fun b u z=>?_) (fun b z=>?_) fun _=>hk
  ·by_cases hb:b=a
   ·exact .inr ⟨_,_,if_pos hb⟩
   ·exact .inl (if_neg hb)
  ·by_cases hb:b=a
   ·have z':=(if_pos hb).symm.trans z
    cases z'
    subst hb
    exact ⟨ha,by rw [Jj];exact hl,vs,_,rv,ha⟩
   ·have z':=(if_neg hb).symm.trans z
    cases z'
  ·by_cases hb:b=a
   ·exact hb
   ·exact absurd (if_neg hb) z
noncomputable def vo(s:Stmt):Arguments:=match s with
 | .FunctionDef _ a _ _ _ _ _ _ _ _=>a
 | _=>{ posonlyargs:=[],args:=[],vararg:=none,kwonlyargs:=[],kw_defaults:=[],kwarg:=none,defaults:=[] }
noncomputable def wD(s:Stmt):List Stmt:=match s with
 | .FunctionDef _ _ b _ _ _ _ _ _ _=>b
 | _=>[]
noncomputable def zM(s:Stmt):Scope:=match s with
 | .FunctionDef _ _ _ _ _ _ sc _ _ _=>sc
 | _=>{ kind:=.function,names:=[],isGenerator:=false,isCoroutine:=false }
noncomputable abbrev CX0:CXT:=fun _ _ _ _ _ _=>False
noncomputable abbrev E0:XK:=fun _ _ _=>False
theorem zmv{X:Cx}:zen CX0 X E0:=fun _ _ _ _ _ _ _ h=>h.elim
structure Fun (K:PySem.W.Frag) (x qual:Str) (st:Stmt) (f:Addr) (fd:FuncData):Prop where
 ex:∃ (oc:Value) (od:Option Addr) (kV doc pm:Value) (an:Option Addr) (cdv ct:Value) (osl:Array (Option Value)),
  fd=PySem.W.fnOf x qual (vo st) (wD st) (zM st) .none kV doc pm an cdv ct/\K.lookup f=some ⟨oc,od,.func fd,osl⟩/\PySem.W.codeIn K cdv qual=true
 kp:PySem.W.keepIn K (.ref f)=true
section
variable {P:Program} {w:World} {K:PySem.W.Frag} {mg:Str->Option Value} {base:Heap}
theorem Fun.ok{x qual:Str}{st:Stmt}{f:Addr}{fd:FuncData}{N ps:List Str}{k:Nat}{sp:Sp}(F:Fun K x qual st f fd)(S:FnScope N ps (zM st))(len:∀ vs H Q E,sp vs H Q E->vs.length=ps.length)
  (hbody:∀ (cdv:Value) (A:Around) (outer:List Env) (s:Shared) (H:Hp) (vs:List V) (Q:VK) (E:XK),Room k (A.deeper (envOfC qual (zM st) s.heap.objs.size f cdv))->sp vs H Q E->
   ∃ t,PSs (zdY CX0 P w K mg base N qual (zM st) f cdv A outer s H E).nox (wD st) t/\t { nx:=fun _ H'=>Q .non H',rt:=Q } (start N vs) H):FnOk P w K mg base CX0 (k+1) f fd ps sp:=by
 obtain ⟨oc,od,kV,doc,pm,an,cdv,ct,osl,rfl,lk,hcd⟩:=F.ex
 refine zmO lk hcd S len fun A outer s H vs Q E hr hsp=>?_
 obtain ⟨t,h,q⟩:=hbody cdv A outer s H vs Q E hr hsp
 exact ⟨t,h.nox,q⟩
theorem Fun.binds{x qual:Str}{st:Stmt}{f:Addr}{fd:FuncData}{ps:List Str}(F:Fun K x qual st f fd)
  (h:∀ (kV doc pm:Value) (an:Option Addr) (cdv ct:Value) (us:List Value),us.length=ps.length->bindArgs (PySem.W.fnOf x qual (vo st) (wD st) (zM st) .none kV doc pm an cdv ct) ⟨us,[]⟩=pure (ps.zip us)):Binds K fd ps []:=by
 obtain ⟨oc,od,kV,doc,pm,an,cdv,ct,osl,rfl,lk,hcd⟩:=F.ex
 exact .all (h kV doc pm an cdv ct)
theorem zhP{x qual:Str}{st:Stmt}{f:Addr}{oc:Value}{od an:Option Addr}{osl:Array (Option Value)}{kV doc pm cdv ct:Value}(l:K.lookup f=some ⟨oc,od,.func (PySem.W.fnOf x qual (vo st) (wD st) (zM st) .none kV doc pm an cdv ct),osl⟩)
  (c:PySem.W.codeIn K cdv qual=true)(k:PySem.W.keepIn K (.ref f)=true):Fun K x qual st f (PySem.W.fnOf x qual (vo st) (wD st) (zM st) .none kV doc pm an cdv ct):=⟨⟨oc,od,kV,doc,pm,an,cdv,ct,osl,rfl,l,c⟩,k⟩
end
theorem yW{A:Around}{k:Nat}(hr:Room k A):A.units+1<cLine:=Qs (Nat.add_le_add_left (by decide:1≤64) _) hr.units
section
variable {X:Cx}
theorem pv(i:Nat){x:Str}{pos:Pos}(hN:X.N[i]?=some x:=by rfl)(hv:Vis X.env.scope x:=by first | exact Or.inl rfl | exact Or.inr [81] | exact Or.inr (Or.inr rfl))(hd:[48]=false:=by decide)
  (hcd:(x == ("__classdict__":Str))=false:=by decide):PE X (.Name x pos) (uY i):=zlf hN hv hd hcd
theorem call_lenD:CallR X (.builtin "len") (fun xs H Q=>∃ a kvs,xs=[V.ref a]/\H a=some (.dK kvs)/\Q (.int kvs.length) H):=by
 intro pins s σ H xs us Q I r h
 obtain ⟨a,kvs,rfl,ha,q⟩:=h
 obtain ⟨u,rfl,ru⟩:=zat r
 cases ru
 exact zmZ I (.inl ha) fun t s' I'=>⟨.int kvs.length,H,I',⟨t,rfl⟩,q⟩
end
noncomputable def Same(H H':Hp):Prop:=∀ b o,H b=some o->H' b=some o
theorem Same.refl(H:Hp):Same H H:=fun _ _ h=>h
theorem Same.trans{H H1 H2:Hp}(a:Same H H1)(b:Same H1 H2):Same H H2:=fun c o h=>b c o (a c o h)
theorem Same.free{H H':Hp}(e:Same H H'){l:Addr}(h:H' l=Option.none):H l=Option.none:=by
 cases q:H l with
 | none=>rfl
 | some o=>
  rw [e l o q] at h
  cases h
theorem Same.seq{K:PySem.W.Frag}{H H':Hp}{a:Addr}{xs:List V}(e:Same H H')(h:SqL K H a xs):SqL K H' a xs:=by
 rcases h with (h | ⟨o,h⟩) | h
 ·exact .inl (.inl (e _ _ h))
 ·exact .inl (.inr ⟨o,e _ _ h⟩)
 ·exact .inr h
theorem qo{α β:Type}{f:α->β->Sem (ForInStep β)}(g:β->α->β):∀ (l:List α) (c:β),(∀ x ∈ l,∀ c,f x c=pure (.yield (g c x)))->forIn l c f=pure (l.foldl g c)
 | [],_,_=>rfl
 | x::l,c,h=>by
  rw [List.forIn_cons,h x Jg,pure_bind]
  exact qo g l _ fun y hy=>h y (Jf _ hy)
noncomputable def xW(cells:List (Str × Addr))(cs:List (Str × Addr))(y:Str × NameKind):List (Str × Addr):=
 if (y.2 == NameKind.free)=true then (match cells.lookup y.1 with | some c=>(y.1,c)::cs | none=>cs) else cs
noncomputable def zed(scope:Scope)(cells:List (Str × Addr)):List (Str × Addr):=scope.names.foldl (xW cells) []
theorem q9{scope:Scope}{env:Env}(h:∀ y ∈ scope.names,(y.2 == NameKind.free)=true->∃ c,env.cells.lookup y.1=some c):closureFor scope env=pure (zed scope env.cells):=by
 simp only [closureFor]
 rw [qo (xW env.cells) _ _ (fun y hy c=>?_)]
 ·rfl
 ·obtain ⟨n,k⟩:=y
  by_cases e:(k == NameKind.free)=true
  ·obtain ⟨a,ha⟩:=h _ hy e
   have ha':List.lookup n env.cells=some a:=ha
   simp [xW,cellOf,ha',e]
  ·simp [xW,e]
theorem zm{x n:Str}{α:Type}{c:α}{r:List (Str × α)}:List.lookup x ((n,c)::r)=if x=n then some c else r.lookup x:=by
 rw [List.lookup_cons]
 by_cases e:x=n
 ·subst e;simp
 ·rw [if_neg e]
  have:(x == n)=false:=by simpa using e
  rw [this]
theorem zec{cells:List (Str × Addr)}:∀ (names:List (Str × NameKind)) (acc:List (Str × Addr)),(∀ x c,acc.lookup x=some c->cells.lookup x=some c)->∀ x c,(names.foldl (xW cells) acc).lookup x=some c->cells.lookup x=some c
 | [],_,h=>h
 | y::r,acc,h=>by
  refine zec r (xW cells acc y) fun x c e=>?_
  unfold xW at e
  split at e
  ·split at e
   ·rename_i c' hc'
    rw [zm] at e
    split at e
    ·rename_i hx;cases e;rw [hx];exact hc'
    ·exact h x c e
   ·exact h x c e
  ·exact h x c e
theorem zeW{cells:List (Str × Addr)}{x:Str}:∀ (names:List (Str × NameKind)) (acc:List (Str × Addr)),(acc.lookup x).isSome=true->((names.foldl (xW cells) acc).lookup x).isSome=true
 | [],_,h=>h
 | y::r,acc,h=>by
  refine zeW r (xW cells acc y) ?_
  unfold xW
  split
  ·split
   ·rw [zm];split
    ·rfl
    ·exact h
   ·exact h
  ·exact h
theorem zih{cells:List (Str × Addr)}{x:Str}(hc:(cells.lookup x).isSome=true):∀ (names:List (Str × NameKind)) (acc:List (Str × Addr)) (k:NameKind),(k == NameKind.free)=true->(x,k) ∈ names->((names.foldl (xW cells) acc).lookup x).isSome=true
 | [],_,_,_,h=>nomatch h
 | y::r,acc,k,hk,h=>by
  rcases List.mem_cons.mp h with e | h
  ·refine zeW r (xW cells acc y) ?_
   subst e
   obtain ⟨c,hc⟩:=Option.isSome_iff_exists.mp hc
   unfold xW
   rw [if_pos hk]
   simp [hc]
  ·exact zih hc r _ k hk h
theorem jN{env:Env}{x:Str}{k:NameKind}:∀ {names:List (Str × NameKind)},
  (names.map fun (n,k)=>if [54] then (n,NameKind.cell) else (n,k)).lookup x=some k->∃ k0,(x,k0) ∈ names/\(k=k0∨(k0 == NameKind.free)=true)
 | [],h=>by simp at h
 | (n,j)::r,h=>by
  rw [Jr] at h
  by_cases hx:x=n
  ·subst hx
   by_cases hc:(j == NameKind.free && env.scope.kind == .function && env.kindOf x == some .cell)=true
   ·refine ⟨j,Jg,.inr ?_⟩
    simp only [Bool.and_eq_true] at hc
    exact hc.1.1
   ·dsimp only at h
    rw [if_neg hc,zm,if_pos rfl] at h
    cases h
    exact ⟨k,Jg,.inl rfl⟩
  ·have h':(r.map fun (n,k)=>if [54] then (n,NameKind.cell) else (n,k)).lookup x=some k:=by
    dsimp only at h
    by_cases hc:(j == NameKind.free && env.scope.kind == .function && env.kindOf n == some .cell)=true
    ·rw [if_pos hc,zm,if_neg hx] at h;exact h
    ·rw [if_neg hc,zm,if_neg hx] at h;exact h
   obtain ⟨k0,h1,h2⟩:=jN h'
   exact ⟨k0,Jf _ h1,h2⟩
theorem jO{env:Env}{x:Str}:∀ {names:List (Str × NameKind)},names.lookup x=some .free->
  (names.map fun (n,k)=>if [54] then (n,NameKind.cell) else (n,k)).lookup x=some .cell∨
  (names.map fun (n,k)=>if [54] then (n,NameKind.cell) else (n,k)).lookup x=some .free
 | [],h=>by simp at h
 | (n,j)::r,h=>by
  rw [Jr]
  dsimp only
  by_cases hx:x=n
  ·subst hx
   rw [zm,if_pos rfl] at h
   cases h
   by_cases hc:(NameKind.free == NameKind.free && env.scope.kind == .function && env.kindOf x == some .cell)=true
   ·rw [if_pos hc,zm,if_pos rfl];exact .inl rfl
   ·rw [if_neg hc,zm,if_pos rfl];exact .inr rfl
  ·rw [zm,if_neg hx] at h
   have ih:=jO (env:=env) h
   by_cases hc:(j == NameKind.free && env.scope.kind == .function && env.kindOf n == some .cell)=true
   ·rw [if_pos hc,zm,if_neg hx];exact ih
   ·rw [if_neg hc,zm,if_neg hx];exact ih
noncomputable def cN(own:List Str)(js:List Nat)(N:List Str):List Str:=own++js.map fun j=>N.getD j ""
noncomputable def cS(own:List Str)(js:List Nat)(σ:St):St:=own.map (fun _=>none)++js.map fun j=>(σ[j]?).join
noncomputable def yg (X : Cx) (own : List Str) (js : List Nat) (scope : Scope) (C : Addr) (s₀ : Shared) (H₀ : Hp) (fp : List Addr) : Cx :=
  { prog := X.prog, w := X.w, K := X.K, mg := X.mg, base := X.base, A := X.A, N := cN own js X.N, s₀ := s₀, H₀ := H₀, env := compEnvC scope (zed scope X.env.cells) C X.env, outer := X.stack, stack := X.stack,
    ex := fp, fn := fun _ => false, calm := X.calm, pn := [], xe := fun _ _ => False }
noncomputable def zaS(js:List Nat)(scope:Scope)(kindOf:Str->Option NameKind)(N:List Str):Bool:=
 (scope.kind == .function) && scope.names.all (fun y=>!(y.2 == .cell) && (!(y.2 == .free) || kindOf y.1 == some .cell || kindOf y.1 == some .free) && (!(y.2 == .local) || scope.names.lookup y.1 == some .local)) &&
  js.all fun j=>scope.names.lookup (N.getD j "") == some .free
structure CompOk (js:List Nat) (scope:Scope) (kindOf:Str->Option NameKind) (N:List Str):Prop where
 kind:scope.kind=.function
 nocell:∀ y ∈ scope.names,y.2≠.cell
 free:∀ y ∈ scope.names,(y.2 == NameKind.free)=true->kindOf y.1=some .cell∨kindOf y.1=some .free
 loc:∀ y ∈ scope.names,y.2=.local->scope.names.lookup y.1=some .local
 used:∀ j ∈ js,scope.names.lookup (N.getD j "")=some .free
theorem zaR{js:List Nat}{scope:Scope}{kindOf:Str->Option NameKind}{N:List Str}(h:zaS js scope kindOf N=true):CompOk js scope kindOf N:=by
 unfold zaS at h
 simp only [Bool.and_eq_true,List.all_eq_true] at h
 obtain ⟨⟨h1,h2⟩,h3⟩:=h
 refine ⟨by simpa using h1,fun y hy e=>?_,fun y hy e=>?_,fun y hy e=>?_,fun j hj=>by simpa using h3 j hj⟩
 ·have:=(h2 y hy).1.1
  rw [e] at this
  exact absurd this [9]
 ·have:=(h2 y hy).1.2
  rw [e] at this
  simpa using this
 ·have:=(h2 y hy).2
  rw [e] at this
  simpa using this
theorem qd{α:Type}{x:Str}{a:α}:∀ {l:List (Str × α)},l.lookup x=some a->(x,a) ∈ l
 | [],h=>by simp at h
 | (n,c)::r,h=>by
  rw [zm] at h
  split at h
  ·rename_i e;cases h;subst e;exact List.mem_cons_self
  ·exact Jf _ (qd h)
section
variable {X:Cx} {pins:List [17]} {σ:St} {H:Hp} {s:Shared} {own:List Str} {js:List Nat} {scope:Scope}
theorem zea {C : Addr} {h₁ : Heap} {t : Nat} {fp : List Addr} {m0 : Str → Option Value} (ok : CompOk js scope X.env.kindOf X.N) (I : Inv X pins σ H s) (hC : C = s.heap.objs.size) (hns : h₁.Ns C m0)
    (keep : ∀ b o, s.heap.get? b = some o → h₁.get? b = some o) (hf : ∀ b ∈ fp, uc X pins H b) (hlt : ∀ b ∈ fp, b < s.heap.objs.size) :
    Inv (yg X own js scope C s H fp) [] (cS own js σ) H { s with heap := h₁, toks := t } := by
  have sub := zec (cells := X.env.cells) scope.names [] [12]
  have has : ∀ x k0, (x, k0) ∈ scope.names → (k0 == NameKind.free) = true → ∃ c, (zed scope X.env.cells).lookup x = some c := fun x k0 m hk => by
    obtain ⟨c, hc⟩ := I.ok.has x (ok.free _ m hk)
    exact Option.isSome_iff_exists.mp (zih (by rw [hc]; rfl) scope.names [] k0 hk m)
  refine ⟨⟨I.ok.mod, ok.kind, I.ok.glob, I.ok.blt, Nat.le_of_eq hC.symm, fun x y c hx hy => I.ok.inj x y c (sub x c hx) (sub y c hy), fun x hx => ?_, fun x c h => absurd (show false = true from h) [9], I.ok.hd, I.ok.frames, .inl rfl, fun b hb => ⟨?_, fun x c hc => (hf b hb).2.2.2.2.1 x c (sub x c hc)⟩, I.bs, JI I.ok.bsz I.sz, fun b o e hb => ?_, fun b hb hb2 => ?_, I.stack, I.stkFree⟩,
    rfl, I.bare, Un.kept keep, ⟨m0, hns, fun i x v e1 e2 e3 => ?_⟩, fun x c e => ?_, ?_, fun x c e => I.freeC x c (sub x c e), (fun p hp => nomatch hp), I.hok.kept keep, ?_⟩
  · have hx' : ∃ k, (k = NameKind.cell ∨ k = NameKind.free) ∧ (relabel scope X.env).names.lookup x = some k := by
      rcases hx with hx | hx
      · exact ⟨_, .inl rfl, hx⟩
      · exact ⟨_, .inr rfl, hx⟩
    obtain ⟨k, hk, hl⟩ := hx'
    obtain ⟨k0, m, e⟩ := jN hl
    have hfree : (k0 == NameKind.free) = true := by
      rcases e with e | e
      · subst e
        rcases hk with hk | hk
        · exact absurd hk (ok.nocell _ m)
        · rw [hk]; rfl
      · exact e
    exact has x k0 m hfree
  · rw [hC]; exact Jw (hlt b hb)
  · rcases (hf b hb).2.2.2.1 with z | z
    · exact I.ok.noex b o e z
    · exact absurd (JB (Ji e) (JI I.ok.bsz z)) (KO _)
  · rcases List.mem_cons.mp (I.stkSub b hb2) with e | e
    · exact (hf b hb).2.1 e
    · exact (hf b hb).2.2.1 e
  · have key : ∃ j, j ∈ js ∧ x = X.N.getD j "" ∧ σ[j]? = some (some v) := by
      have e1 : (own ++ js.map fun j => X.N.getD j "")[i]? = some x := e1
      have e2 : (own.map (fun _ => none) ++ js.map fun j => (σ[j]?).join)[i]? = some (some v) := e2
      by_cases hi : i < own.length
      · rw [List.getElem?_append_left (by simpa using hi), List.getElem?_map] at e2
        cases q : own[i]? with
        | none => rw [q] at e2; simp at e2
        | some y => rw [q] at e2; simp at e2
      · have hi' : own.length ≤ i := QB hi
        rw [Kv hi', JK] at e1
        rw [List.getElem?_append_right (by simpa using hi'), List.getElem?_map, List.length_map] at e2
        cases q : js[i - own.length]? with
        | none => rw [q] at e1; simp at e1
        | some j =>
          rw [q] at e1 e2
          refine ⟨j, JN q, ?_, ?_⟩
          · have := Jq e1; exact this.symm
          · have e2' : (σ[j]?).join = some v := Jq e2
            cases z : σ[j]? with
            | none => rw [z] at e2'; simp at e2'
            | some w => rw [z] at e2'; have : w = some v := by simpa using e2'
                        rw [this]
    obtain ⟨j, hj, hx, hσ⟩ := key
    have hu := ok.used j hj
    rw [← hx] at hu
    have hm := qd hu
    obtain ⟨m, hn, hl⟩ := I.loc
    have hjl : j < X.N.length := by rw [← I.len]; exact (Jp.mp hσ).1
    have hN : X.N[j]? = some x := by
      rw [hx, Jd hjl]
      simp [List.getD, List.getElem?_eq_getElem hjl]
    have kx := ok.free _ hm rfl
    obtain ⟨u, r, l⟩ := hl j x v hN hσ (.inr kx)
    refine ⟨u, r, .inr ⟨jO hu, ?_⟩⟩
    rcases l with ⟨hk, _⟩ | ⟨hk, c, hc, cell⟩
    · have kx' : X.env.kindOf x = some .cell ∨ X.env.kindOf x = some .free := kx
      rw [hk] at kx'
      rcases kx' with z | z <;> cases z
    · obtain ⟨c', hc'⟩ := has x _ hm rfl
      have := sub x c' hc'
      rw [hc] at this; cases this
      obtain ⟨o, ho, hd⟩ := cell
      exact ⟨c, hc', o, keep _ _ ho, hd⟩
  · obtain ⟨v, o, ho, hd⟩ := I.cell x c (sub x c e)
    exact ⟨v, o, keep _ _ ho, hd⟩
  · show H C = none
    rw [hC]; exact I.hok.fresh (Jn _)
  · show (own.map (fun _ => none) ++ js.map fun j => (σ[j]?).join).length = (own ++ js.map fun j => X.N.getD j "").length
    simp
theorem zfZ{C:Addr}{s':Shared}{p2:List [17]}{σ2:St}{H2:Hp}{fp:List Addr}(I:Inv X pins σ H s)(hf:∀ b ∈ fp,uc X pins H b)(J:Inv (yg X own js scope C s H fp) p2 σ2 H2 s'):Inv X pins σ H2 s':=
 I.call' J.os J.base J.hok J.bare fun b hb=>⟨(hf b hb).2.2.2.1,(hf b hb).2.1,(hf b hb).2.2.2.2.1,(hf b hb).2.2.2.2.2⟩
end
noncomputable def PTs(X:Cx)(ifs:List Expr)(t:TT):Prop:=
 ∀ (pins:List [17]) (s:Shared) (σ:St) (H:Hp) (Q:Bool->Hp->Prop),Inv X pins σ H s->t σ H Q->
  wpAny [14] X.A (forIn ifs true fun c r=>if r=true then do let ok ← isTrue c X.env (eval c X.env);pure (ForInStep.yield ok) else pure (ForInStep.yield r)) (TP X pins σ Q) X.xe s
noncomputable def znz:TT:=fun _ H Q=>Q true H
theorem ziY{X:Cx}:PTs X [] znz:=fun _ _ _ H _ I h=>wpAny_tests_nil ⟨H,I,h⟩
theorem ziX{X:Cx}{c:Expr}{t:TT}(h:PT X c t):PTs X [c] t:=fun pins s σ H Q I hw=>wpAny_tests_one (h pins s σ H Q I hw)
theorem zfY{prog:Program}{w:World}{A:Around}{R:Result->Shared->Prop}{s:Shared}{elt target iter:Expr}{ifs:List Expr}{scope:Scope}{pos:Pos}{it acc:Value}{env:Env}(I:Nat->Shared->Prop)
  (turn:∀ n s,I n s->wpAny [11] A (pyNext it) (fun r s₁=>match r with
   | none=>R (.ok .next) s₁
   | some v=>wpAny [11] A (letOwnedTupleGo target it v) (fun _ s₁'=>wpAny [11] A (assign target env v) (fun _ s₂=>
     wpAny [11] A (forIn ifs true fun c r=>if r=true then do let ok ← isTrue c env (eval c env);pure (ForInStep.yield ok) else pure (ForInStep.yield r)) (fun ok s₃=>
      if ok=true then wpAny [11] A (eval elt env) (fun x s₄=>
       wpAny [11] A (call (.builtin "list.append") [acc,x]) (fun _ s₅=>∃ m,m<n/\I m s₅) (fun _ _=>False) s₄) (fun _ _=>False) s₃
      else ∃ m,m<n/\I m s₃) (fun _ _=>False) s₂) (fun _ _=>False) s₁') (fun _ _=>False) s₁) (fun _ _=>False) s)
  (n:Nat)(h:I n s):codeAny [11] A (.compLoop (.ListComp elt [⟨target,iter,ifs,0⟩] scope pos) 0 it acc env) R s:=by
 refine codeAny_loop rfl I (fun n s hI=>?_) n h
 show wpAny _ A ((compTurn (.ListComp elt [⟨target,iter,ifs,0⟩] scope pos) 0 it acc env).onRaise (fun x=>do noteFrame x env;theTreesLotGoes x)) _ _ s
 refine wpAny_noted ?_
 rw [compTurn_list]
 refine wpAny_bind (wpAny_standAt (wpAny_bind (wpAny_mono (turn n s hI) (fun r s₁ h₁=>?_) fun _ _ h'=>h'.elim)))
 cases r with
 | none=>exact wpAny_pure h₁
 | some v=>
  refine wpAny_bind (wpAny_mono h₁ (fun _ s₁' h₁'=>?_) fun _ _ h'=>h'.elim)
  refine wpAny_bind (wpAny_mono h₁' (fun _ s₂ h₂=>wpAny_bind (wpAny_mono h₂ (fun ok s₃ h₃=>?_) fun _ _ h'=>h'.elim)) fun _ _ h'=>h'.elim)
  cases ok with
  | false=>exact wpAny_pure ⟨rfl,h₃⟩
  | true=>
   exact wpAny_bind (wpAny_bind (wpAny_mono h₃ (fun x s₄ h₄=>wpAny_bind (wpAny_mono h₄ (fun _ s₅ h₅=>wpAny_pure (wpAny_pure ⟨rfl,h₅⟩)) fun _ _ h'=>h'.elim)) fun _ _ h'=>h'.elim))
noncomputable def zmf(t:TT)(σ:St)(H:Hp)(Q:Bool->Hp->Prop):Prop:=t σ H Q
noncomputable def zmh(t:TE)(σ:St)(H:Hp)(Q:VK):Prop:=t σ H Q
noncomputable def zmg(g:TG)(v:V)(σ:St)(H:Hp)(Q:St->Hp->Prop):Prop:=g v σ H Q
noncomputable def znb(Q:VK)(D:Addr)(H:Hp):Prop:=Q (.ref D) H
noncomputable def zgB(wi:TI)(own:List Str)(js:List Nat)(g:Addr->Shared->Hp->List Addr->TG)(tt:Addr->Shared->Hp->List Addr->TT)(te:Addr->Shared->Hp->List Addr->TE):TE:=fun σ H Q=>wi σ H fun J H1=>∀ C s₀ H₀ fp D,H1 D=none->
 ∃ W:Nat->Nat->St->Hp->Prop,(∃ m,W 0 m (cS own js σ) (upd H1 D (.lst [])))/\∀ i m σ1 H2,W i m σ1 H2->
  (J.stop i H2/\znb Q D H2)∨(J.go i H2/\∀ x H3,J.yld i H2 x H3->zmg (g C s₀ H₀ fp) x σ1 H3 fun σ2 H4=>zmf (tt C s₀ H₀ fp) σ2 H4 fun b H5=>
   if b=true then zmh (te C s₀ H₀ fp) σ2 H5 fun y H6=>∃ ys,H6 D=some (.lst ys)/\ys.length<sizeLine/\∃ m',m'<m/\W (i+1) m' σ2 (upd H6 D (.lst (ys++[y]))) else ∃ m',m'<m/\W (i+1) m' σ2 H5)
section
variable {X:Cx} {own:List Str} {js:List Nat} {scope:Scope} {tg elt iter:Expr} {ifs:List Expr} {pos:Pos} {g:Addr->Shared->Hp->List Addr->TG} {tt:Addr->Shared->Hp->List Addr->TT} {te:Addr->Shared->Hp->List Addr->TE}
theorem qy{pins:List [17]}{σ:St}{H1:Hp}{s2:Shared}{it:Addr}{fp:List Addr}{tn:Nat->Heap->Prop}{J:It}{E:Value->Shared->Prop}{RR:Value->Addr->Result->Shared->Prop}{Qv:V->Hp->Prop}
  (hc:X.calm=true)(ok:CompOk js scope X.env.kindOf X.N)(hg:∀ C s₀ H₀ fp,PG [49] tg (g C s₀ H₀ fp))(ht:∀ C s₀ H₀ fp,PTs [49] ifs (tt C s₀ H₀ fp))(he:∀ C s₀ H₀ fp,PE [49] elt (te C s₀ H₀ fp))
  (I:Inv X pins σ H1 s2)(T:Turn X.prog X.w X.K tg J fp it tn)(st:tn 0 s2.heap)(hf:∀ b ∈ fp,uc X pins H1 b)
  (h:∀ C s₀ H₀ fp D,H1 D=none->∃ W:Nat->Nat->St->Hp->Prop,(∃ m,W 0 m (cS own js σ) (upd H1 D (.lst [])))/\∀ i m σ1 H2,W i m σ1 H2->
   (J.stop i H2/\znb Qv D H2)∨(J.go i H2/\∀ x H3,J.yld i H2 x H3->zmg (g C s₀ H₀ fp) x σ1 H3 fun σ2 H4=>zmf (tt C s₀ H₀ fp) σ2 H4 fun b H5=>
    if b=true then zmh (te C s₀ H₀ fp) σ2 H5 fun y H6=>∃ ys,H6 D=some (.lst ys)/\ys.length<sizeLine/\∃ m',m'<m/\W (i+1) m' σ2 (upd H6 D (.lst (ys++[y]))) else ∃ m',m'<m/\W (i+1) m' σ2 H5))
  (hRR:∀ D C H2 s' oC m,s'.heap.get? C=some oC->s'.heap.Ns C m->(∀ v,oC.data≠.cell v)->uc X pins H2 C->Inv X pins σ H2 s'->Qv (.ref D) H2->RR (.ref D) C (.ok .next) s'):
  wpAny [14] X.A (newList []) (fun acc s₃=>wpAny [14] X.A (newFunctionEnv scope X.env.globals (zed scope X.env.cells) [] X.env.qual none .none (some X.env)) (fun cenv s₄=>
   codeAny [14] X.A (.compStart [35] 0 [84] acc { cenv with scope:=relabel scope X.env }) (RR acc cenv.locals) s₄) E s₃) E s2:=by
 refine wpAny_newObj_type (wpAny_newFunctionEnv ok.nocell (by intro y hy;simp at hy) (fun h₁ hns₁ hsb₁=>?_) ok.kind)
 dsimp only at hns₁ hsb₁ ⊢
 have hD:H1 s2.heap.objs.size=none:=I.hok.fresh (Jn _)
 have I3:Inv X pins σ (upd H1 s2.heap.objs.size (.lst [])) { s2 with heap:=s2.heap.push { cls:=.type "list",dict:=none,data:=.seq ([]:List Value).toArray } }:=
  I.laid (t':=s2.toks) (fun b u e=>Jb _ e) (Jn _) ⟨Km _,[],0,.nil,Jl _ rfl⟩
 have hlt2:∀ b ∈ fp,b<s2.heap.objs.size:=fun b hb=>let ⟨o,e,_⟩:=T.obj 0 _ st b hb;Ji e
 generalize hH2:s2.heap.push { cls:=.type "list",dict:=none,data:=.seq ([]:List Value).toArray }=heap2 at hns₁ hsb₁ I3 ⊢
 have sz2:heap2.objs.size=s2.heap.objs.size+1:=by rw [← hH2,KD]
 have keep12:∀ b o,s2.heap.get? b=some o->heap2.get? b=some o:=fun b o e=>hH2 ▸ Jb _ e
 have keep:∀ b o,heap2.get? b=some o->h₁.get? b=some o:=fun b o e=>hsb₁.extBut b o (Jw (Ji e)) (Jb _ e)
 have hf3:∀ b ∈ fp,uc X pins (upd H1 s2.heap.objs.size (.lst [])) b:=fun b hb=>⟨by rw [zb (Jw (hlt2 b hb))];exact (hf b hb).1,(hf b hb).2⟩
 have hlt3:∀ b ∈ fp,b<heap2.objs.size:=fun b hb=>by rw [sz2];exact KG (hlt2 b hb)
 generalize hDd:s2.heap.objs.size=D at *
 have I4:=zea (own:=own) (js:=js) (t:=s2.toks+([]:List (Str × Value)).length) ok I3 rfl hns₁ keep hf3 hlt3
 have st4:tn 0 h₁:=T.keep 0 _ _ st fun b _ o e=>keep b o (keep12 b o e)
 obtain ⟨W,⟨m0,w0⟩,turn⟩:=h heap2.objs.size { s2 with heap:=heap2 } (upd H1 D (.lst [])) fp D hD
 -- facts about the block's frame
 have hXl:X.env.locals<heap2.objs.size:=I3.lt
 have loop:∀ s₃:Shared,s₃={ s2 with heap:=h₁,toks:=s2.toks+([]:List (Str × Value)).length }->
   codeAny [14] X.A (.compLoop [35] 0 [84] (.ref D) (compEnvC scope (zed scope X.env.cells) heap2.objs.size X.env)) (RR (.ref D) heap2.objs.size) s₃:=by
  rintro s₃ rfl
  generalize hXX:yg X own js scope heap2.objs.size { s2 with heap:=heap2 } (upd H1 D (.lst [])) fp=X' at I4
  have eP:X'.prog=X.prog:=by rw [← hXX];rfl
  have eW:X'.w=X.w:=by rw [← hXX];rfl
  have eK:X'.K=X.K:=by rw [← hXX];rfl
  have eA:X'.A=X.A:=by rw [← hXX];rfl
  have eC:X'.calm=true:=by rw [← hXX];exact hc
  have eE:X'.env=compEnvC scope (zed scope X.env.cells) heap2.objs.size X.env:=by rw [← hXX];rfl
  have eL:X'.env.locals=heap2.objs.size:=by rw [← hXX];rfl
  have eX:X'.xe=fun _ _=>False:=by rw [← hXX];rfl
  have eex:X'.ex=fp:=by rw [← hXX];rfl
  have epn:X'.pn=[]:=by rw [← hXX];rfl
  have efs:X'.fs=frs X.stack:=by rw [← hXX];rfl
  have ecl:X'.env.cells=zed scope X.env.cells:=by rw [← hXX];rfl
  have sub:=zec (cells:=X.env.cells) scope.names [] [12]
  have stat:∀ {H':Hp},(∀ b ∈ fp,H' b=none)->∀ b ∈ fp,uc X' [] H' b:=fun {H'} hn b hb=>by
   refine ⟨hn b hb,by rw [eL];exact Jw (hlt3 b hb),?_,.inl (by rw [eex];exact hb),fun x c hc=>?_,fun p hp=>?_⟩
   ·rw [efs]
    intro hb2
    rcases List.mem_cons.mp (I3.stkSub b hb2) with e | e
    ·exact (hf3 b hb).2.1 e
    ·exact (hf3 b hb).2.2.1 e
   ·rw [ecl] at hc
    exact (hf3 b hb).2.2.2.2.1 x c (sub x c hc)
   ·rw [epn] at hp;exact nomatch hp
  have hg':=hg heap2.objs.size { s2 with heap:=heap2 } (upd H1 D (.lst [])) fp
  have ht':=ht heap2.objs.size { s2 with heap:=heap2 } (upd H1 D (.lst [])) fp
  have he':=he heap2.objs.size { s2 with heap:=heap2 } (upd H1 D (.lst [])) fp
  rw [hXX] at hg' ht' he'
  rw [← eE]
  refine zfY (fun n s'=>∃ i σ' H',Inv X' [] σ' H' s'/\tn i s'.heap/\(∀ b ∈ fp,H' b=none)/\W i n σ' H') ?_ m0 ⟨0,_,_,I4,st4,fun b hb=>(hf3 b hb).1,w0⟩
  rintro n s3 ⟨i,σ3,H3,I3',st3,fr3,w3⟩
  rcases turn i n σ3 H3 w3 with ⟨stop,qn⟩ | ⟨go,step⟩
  ·have:=T.done X' eP eW eK eC i [] s3 σ3 H3 (fun _ _=>False) I3' (stat fr3) st3 stop
   rw [eA] at this
   refine thn this fun r s4 ⟨hr,I5⟩=>?_
   subst hr
   obtain ⟨m,hn,_⟩:=I5.loc
   obtain ⟨oC,es,ep,hoC,hd,_⟩:=id hn
   rw [eL] at hoC hn
   have hback:Inv X pins σ H3 s4:=zfZ I3 hf3 (hXX ▸ I5)
   refine hRR _ _ H3 s4 oC m hoC hn (fun v z=>by rw [hd] at z;cases z) ?_ hback qn
   have hfree:H3 heap2.objs.size=none:=by have:=I5.free;rw [eL] at this;exact this
   refine ⟨hfree,Kj hXl,I3.nofs (Jn _),.inr I3.sz,fun x c e z=>?_,fun p hp z=>?_⟩
   ·obtain ⟨v,q⟩:=I3.cell x c e
    exact absurd q.lt (by rw [z];exact KO _)
   ·exact absurd (Ji (I3.pin p hp).1) (by rw [z];exact KO _)
  ·have:=T.item X' eP eW eK eC i [] s3 σ3 H3 (fun _ _=>False) I3' (stat fr3) st3 go
   rw [eA] at this
   refine thn this fun r s4 ⟨u,hr,h4⟩=>?_
   subst hr
   refine thn h4 fun _ s5 ⟨x,H5,I5,r5,y5,st5,fr5⟩=>?_
   have I5':=I5.pinned (stat fr5) (T.obj _ _ st5)
   have h6:=hg' _ s5 σ3 H5 x u _ I5' r5 (step x H5 y5)
   rw [eP,eW,eA,eX] at h6
   refine thn h6 fun _ s6 ⟨σ6,H6,I6,q6⟩=>?_
   have h7:=ht' _ s6 σ6 H6 _ I6 q6
   rw [eP,eW,eA,eX] at h7
   refine thn h7 fun b s7 ⟨H7,I7,q7⟩=>?_
   have again:∀ {s8:Shared} {H8:Hp},Inv X' ([]++qL fp s5.heap) σ6 H8 s8->(∃ m',m'<n/\W (i+1) m' σ6 H8)->∃ m,m<n/\∃ i σ' H',Inv X' [] σ' H' s8/\tn i s8.heap/\(∀ b ∈ fp,H' b=none)/\W i m σ' H':=fun {s8 H8} I8 ⟨m',hm,w8⟩=>by
    refine ⟨m',hm,i+1,σ6,H8,I8.unpinned,T.keep _ _ _ st5 fun b hb o e=>(I8.pin (b,o) (Js _ (Js _ (vc hb e)))).1,fun b hb=>?_,w8⟩
    obtain ⟨o,e,d⟩:=T.obj _ _ st5 b hb
    exact (I8.pin (b,o) (Js _ (Js _ (vc hb e)))).2.1
   cases b with
   | false=>exact again I7 q7
   | true=>
    have h8:=he' _ s7 σ6 H7 _ I7 q7
    rw [eP,eW,eA,eX] at h8
    refine thn h8 fun v s8 ⟨y,H8,I8,r8,ys,hys,hz,q8⟩=>?_
    have h9:=yV (X:=X') _ s8 σ6 H8 (.ref D) [y] (.ref D) [v] (fun _ H9=>H9=upd H8 D (.lst (ys++[y]))) I8 rfl (.cons r8 .nil) ⟨D,ys,y,rfl,rfl,hys,hz,rfl⟩
    rw [eP,eW,eA,eX] at h9
    refine thn h9 fun _ s9 ⟨v9,H9,I9,r9,e9⟩=>?_
    subst e9
    exact again I9 q8
 exact codeAny_compStart_list (loop _ rfl) (T.self _ 0 _ _ _ st4 (loop _ rfl))
theorem zms{wi:TI}(hc:X.calm=true)(hi:PI X tg iter wi)(hg:∀ C s₀ H₀ fp,PG [49] tg (g C s₀ H₀ fp))(ht:∀ C s₀ H₀ fp,PTs [49] ifs (tt C s₀ H₀ fp))(he:∀ C s₀ H₀ fp,PE [49] elt (te C s₀ H₀ fp))
  (ok:zaS js scope X.env.kindOf X.N=true:=by first | rfl | decide +kernel)(hs:∀ x,foldedSetIterable iter X.env x=pure x:=by intro _;rfl):
  PE X [35] (zgB wi own js g tt te):=by
 intro pins s σ H Q I h
 have ok:=zaR ok
 rw [eval_ListComp]
 refine wpAny_comprehension_free (use:=none) rfl hs (q9 fun y hy e=>I.ok.has _ (ok.free y hy e)) ok.kind ok.loc (thn (hi pins s σ H _ I h) fun v s1 h1=>thn h1 fun itv s2 h2=>?_)
 obtain ⟨it,fp,tn,J,H2,e,I2,T,st2,f2,q⟩:=h2
 subst e
 refine qy (RR:=fun acc C=>compPost [14] X.A X.xe none (EP X pins σ Q) acc C) hc ok hg ht he I2 T st2 f2 q ?_
 intro D C H3 s' oC m hoC hn hd hfp I' q'
 refine ⟨m,hn,fun h' hs'=>⟨.ref D,H3,?_,rfl,q'⟩⟩
 exact I'.turned (t':=s'.toks) (fun b o hb e=>(hs'.2 b hb).trans e) hfp.1 hfp.2.1 hfp.2.2.2.1 hfp.2.2.2.2.1 hfp.2.2.2.2.2
theorem zja{wi:TI}{i:Nat}{y:Str}{py spos:Pos}(hN:X.N.Nodup)(hi':X.N[i]?=some y)(hx:Loc X.env.scope y)(hc:X.calm=true)(hi:PI X tg iter wi)(hg:∀ C s₀ H₀ fp,PG [49] tg (g C s₀ H₀ fp))
  (ht:∀ C s₀ H₀ fp,PTs [49] ifs (tt C s₀ H₀ fp))(he:∀ C s₀ H₀ fp,PE [49] elt (te C s₀ H₀ fp))
  (ok:zaS js scope X.env.kindOf X.N=true:=by first | rfl | decide +kernel)(hs:∀ x,foldedSetIterable iter X.env x=pure x:=by intro _;rfl)
  (hsw:swapsWith [35] (some (.Name y py)) spos.line X.env=pure true:=by rfl)(hf:X.fn y=true∨X.env.scope.names.lookup y=some .local:=by first | exact .inl rfl | exact .inr rfl | assumption):
  PS X (.Assign [.Name y py] [35] spos) (qD (zgB wi own js g tt te) (uj i)):=by
 intro pins s σ H D I h
 have ok:=zaR ok
 rw [exec_Assign_Name_used _ _ _ _ hsw]
 refine wpAny_bind (wpAny_standAt (wpAny_bind ?_))
 show wpAny _ X.A (do let _ ← comprehension [35] scope X.env _ (newList []) false (eval iter X.env) (some (assign (.Name y py) X.env))) _ _ s
 refine wpAny_bind (wpAny_mono (wpAny_comprehension_free (use:=some (assign (.Name y py) X.env)) (Q:=fun _ s'=>SP X pins D .next s') rfl hs (q9 fun y hy e=>I.ok.has _ (ok.free y hy e)) ok.kind ok.loc (thn (hi pins s σ H _ I h) fun v s1 h1=>thn h1 fun itv s2 h2=>?_))
  (fun _ s' hq=>wpAny_pure (wpAny_pure hq)) fun _ _ e=>e)
 obtain ⟨it,fp,tn,J,H2,e,I2,T,st2,f2,q⟩:=h2
 subst e
 refine qy (Qv:=fun x H1=>uj i x σ H1 D.nx) (RR:=fun acc C=>compPost [14] X.A X.xe (some (assign (.Name y py) X.env)) (fun _ s'=>SP X pins D .next s') acc C) hc ok hg ht he I2 T st2 f2 q ?_
 intro Da C H3 s' oC m hoC hn hd hfp I' q'
 have I'':Inv X (pins++[(C,oC)]) σ H3 s':=I'.pins_of fun p hp=>(JQ.mp hp).elim (fun z=>I'.pin p (Js _ z)) fun z=>by
  rw [Jh.mp z]
  exact ⟨hoC,hfp.1,hfp.2.1,hfp.2.2.1,hd⟩
 refine thn (zO (pos:=py) hN hi' hx hf _ s' σ H3 (.ref Da) (.ref Da) _ I'' rfl q') fun _ s'' ⟨σ4,H4,I4,q4⟩=>?_
 have hC4:=I4.pin (C,oC) (Js _ (Js _ Jg))
 refine ⟨m,hn.at' fun o e=>?_,fun h' hs'=>⟨σ4,H4,?_,q4⟩⟩
 ·rw [hoC] at e;cases e;exact hC4.1
 ·have I5:Inv X pins σ4 H4 s'':=I4.unpinned
  exact I5.turned (t':=s''.toks) (fun b o hb e=>(hs'.2 b hb).trans e) hC4.2.1 hfp.2.1 hfp.2.2.2.1 hfp.2.2.2.2.1 hfp.2.2.2.2.2
end
structure Fn (P:Program) (w:World) (K:PySem.W.Frag) (mg:Str->Option Value) (base:Heap) (x:Str) (k:Nat) (ps:List Str) (sp:Sp):Prop where
 ex:∃ f fd,FnOk P w K mg base CX0 k f fd ps sp/\mg x=some (.ref f)/\PySem.W.keepIn K (.ref f)=true/\Binds K fd ps []
theorem zmt{X:Cx}{x:Str}{k:Nat}{ps:List Str}{sp:Sp}{e:Expr}{es:List Expr}{t:TA}{p pos:Pos}(F:Fn X.prog X.w X.K X.mg X.base x k ps sp)(hr:Room k X.A)(hg:Gl X x)(ha:PA X (e::es) t)
  (hdb:[48]=false:=by decide)(he:starEach (e::es) X.env=[41]::starEach es X.env:=by rfl)(hpl:[66].any (·.1)=false:=by rfl):
  PE X [78] (zkk sp [] E0 t):=by
 obtain ⟨f,fd,F,hm,hk,hb⟩:=F.ex
 exact zjl F hr hg hm hk hb .nil zmv ha hdb he hpl
section
variable {prog:Program} {w:World} {A:Around} {E:Value->Shared->Prop} {s:Shared}
theorem zaN{it t:Addr}{items:Array Value}(hne:t≠it):∀ (n i:Nat) (s:Shared) (Q:List Value->Shared->Prop),s.heap.IsListIter it t i->s.heap.IsList t items->i+n≤items.size->
  (∀ h',h'.IsListIter it t (i+n)->Heap.SameBut it s.heap h'->Q ((items.toList.drop i).take n) { s with heap:=h' })->wpAny [11] A (draw [84] n) Q E s
 | 0,i,s,Q,hit,_,_,hQ=>by
  show wpAny _ _ (pure []) Q E s
  exact wpAny_pure (by simpa using hQ s.heap hit (Heap.SameBut.refl ..))
 | n+1,i,s,Q,hit,ht,hle,hQ=>by
  have hlt:i<items.size:=by omega
  show wpAny _ _ (pyNext [84] >>= _) Q E s
  refine wpAny_bind (wpAny_pyNext_list_item hit ht (x:=items[i]) (by simp [hlt]) fun h₁ hit₁ hs₁=>?_)
  refine wpAny_bind (wpAny_holding (zaN hne n (i+1) _ _ hit₁ (ht.extBut hs₁.extBut hne) [8] fun h₂ hit₂ hs₂=>wpAny_pure ?_))
  have hd:items.toList.drop i=items[i]::items.toList.drop (i+1):=by simp [List.drop_eq_getElem_cons,hlt]
  have:=hQ h₂ (by rw [show i+(n+1)=i+1+n by omega];exact hit₂) (hs₁.trans hs₂)
  rw [hd,List.take_succ_cons] at this
  exact this
theorem jo{t:Addr}{items:Array Value}{Q:List Value->Shared->Prop}(hh:A.handled=none)(ht:s.heap.IsList t items)
  (hQ:∀ h',Heap.ExtBut s.heap.objs.size s.heap h'->Q items.toList { s with heap:=h' }):wpAny [11] A (unpackItems (.ref t) items.size none) Q E s:=by
 have hlt:t≠s.heap.objs.size:=by obtain ⟨o,ho,_⟩:=ht;exact Jw (Ji ho)
 unfold unpackItems
 refine wpAny_bind ?_
 ·unfold notIterableAtAll
  refine wpAny_bind (wpAny_specialOf ht.typeIs slot_list_iter.lookup ?_)
  refine wpAny_pure ?_
  simp only [Bool.false_eq_true,if_false]
  refine wpAny_bind (wpAny_holding (wpAny_pyIter_list ht ?_))
  have hpush:(s.heap.push { cls:=.type "list_iterator",data:=.fields #[.ref t,.int 0 0] }).IsList t items:=by
   obtain ⟨o,ho,r⟩:=ht
   exact ⟨o,Jb _ ho,r⟩
  refine wpAny_bind (wpAny_holding (zaN hlt items.size 0 _ _ ⟨_,Jl _ rfl,rfl,rfl⟩ hpush [8] fun h₁ hit₁ hs₁=>?_))
  have hall:List.take items.size (List.drop 0 items.toList)=items.toList:=by
   rw [List.drop_zero];exact List.take_of_length_le [12]
  rw [hall]
  rw [if_neg [12]]
  have ht₁:h₁.IsList t items:=hpush.extBut hs₁.extBut hlt
  refine wpAny_bind (wpAny_holding (wpAny_pyNext_list_end hh hit₁ ht₁ [12] fun h₂ he₂=>?_))
  simp only [Option.isSome_none,Bool.false_eq_true,if_false]
  refine wpAny_pure (hQ h₂ fun b o hb e=>he₂ b o hb (hs₁.extBut b o hb (Jb _ e)))
theorem je{env:Env}{elts:List Expr}{x1}{pos:Pos}{t:Addr}{items:Array Value}{Q:Unit->Shared->Prop}(hh:A.handled=none)(ht:s.heap.IsList t items)
  (hn:(assignEach elts env).length=items.size)(hstar:(assignEach elts env).findIdx? (·.1)=none)
  (h:∀ h',Heap.ExtBut s.heap.objs.size s.heap h'->wpAny [11] A (assignInOrder ((assignEach elts env).map (·.2)) items.toList) Q E { s with heap:=h' }):
  wpAny [11] A (assign (.Tuple elts x1 pos) env (.ref t)) Q E s:=by
 rw [assign_Tuple]
 refine wpAny_bind (wpAny_standAt ?_)
 unfold unpack
 rw [hn,hstar]
 exact wpAny_bind (wpAny_holding (jo hh ht h))
end
section
variable {X:Cx} {pos:Pos}
noncomputable def znX(K:PySem.W.Frag)(n:Nat)(t:TGs):TG:=fun v σ H Q=>∃ a xs,v=.ref a/\SqL K H a xs/\xs.length=n/\t xs σ H Q
theorem zle{es:List Expr}{k:Nat}{t:TGs}{n:Nat}(hc:X.calm=true)(h:PGs X es t)
  (hn:(assignEach es X.env).length=n:=by rfl)(hst:(assignEach es X.env).findIdx? (·.1)=none:=by rfl):PG X (.Tuple es k pos) (znX X.K n t):=by
 intro pins s σ H v u Q I r hw
 obtain ⟨a,xs,e1,hq,hl,hw⟩:=hw
 subst e1
 cases r
 obtain ⟨its,rv,ht,hz⟩:=I.list hq
 refine je (I.ok.hd hc) ht.isList (by simp [hn,← hl,rv.length]) hst fun h' hx=>?_
 have I1:Inv X pins σ H { s with heap:=h' }:=I.kept (t':=s.toks) fun b o e=>hx b o (Nat.ne_of_lt (Heap.lt_size e)) e
 exact h pins _ σ H xs _ Q I1 (by simpa using rv) hw
end
section
variable {prog:Program} {w:World} {A:Around} {E:Value->Shared->Prop} {s:Shared}
theorem ua{t sl:Addr}{items:Array Value}{vl vu:Value}{lo hi:Option Int}{Q:Value->Shared->Prop}(ht:IsTup s.heap t items)(hs:s.heap.IsSliceOf sl vl vu .none)(pl:IsPart vl lo)(pu:IsPart vu hi)
  (hw:HT.sIx items.size 0 lo=0/\HT.sIx items.size items.size hi=items.size)(h:Q (.ref t) s):wpAny [11] A (getItem (.ref t) (.ref sl)) Q E s:=by
 obtain ⟨os,hos,hcs,hds⟩:=id hs
 have hTs:s.TypeIs (.ref sl) "slice":=⟨os,hos,hcs⟩
 unfold getItem
 try with_reducible refine wpAny_holding ?_
 first | refine wpAny_bind [19] | skip
 refine wpAny_bind (wpAny_sequenceKey ht.typeIs [9] ?_)
 refine wpAny_bind (wpAny_callSpecial?_slot (name:=Str.ofString "__getitem__") ht.typeIs KS
  (wpAny_call_entry KS ht.typeIs entry_tuple_getitem ?_ (args_tuple_getitem _ _)))
 show wpAny _ _ (Builtin.Tuple.tupleItemsOf (.ref t) >>= _) _ _ s
 refine wpAny_bind (tupleItemsOf_ ht ?_)
 refine wpAny_bind (wpAny_typeOf hTs ?_)
 rw [if_pos [9]]
 refine wpAny_bind (HT.sliceApplied_gen hs pl pu ?_)
 have hyes:(((HT.sIx items.size 0 lo:Nat):Int) == 0 && (1:Int) == 1 && (HT.sIx items.size items.size hi - HT.sIx items.size 0 lo) == items.size)=true:=by
  rw [hw.1,hw.2];simp
 show wpAny _ _ (if (((HT.sIx items.size 0 lo:Nat):Int) == 0 && (1:Int) == 1 && (HT.sIx items.size items.size hi - HT.sIx items.size 0 lo) == items.size)=true then _ else _) _ _ s
 rw [if_pos hyes]
 refine wpAny_bind ?_
 unfold Builtin.Tuple.tupleIsExact
 refine wpAny_bind (wpAny_typeOf ht.typeIs [19])
 rw [if_pos [9]]
 first
  | exact wpAny_bind (wpAny_rule [63])
  | exact wpAny_bind (wpAny_rule (wpAny_bind (wpAny_pure [63])))
  | exact wpAny_bind (wpAny_rule (wpAny_bind [63]))
end
section
variable {X:Cx}
noncomputable def zmj(K:PySem.W.Frag):V->Option Int->Option Int->Hp->VK->Prop:=fun x lo hi H Q=>∃ a xs,x=.ref a/\SqT K H a xs/\(qw xs lo hi=xs->Q [67] H)/\∀ p,H p=none->Q (.ref p) (upd H p (.tup (qw xs lo hi)))
theorem ziM:SlR X (zmj X.K):=by
 intro pins s σ H x v vl vu lo hi sl Q I rx hs pl pu h
 obtain ⟨a,xs,rfl,hx,q1,q2⟩:=h
 by_cases hw:HT.sIx xs.length 0 lo=0/\HT.sIx xs.length xs.length hi=xs.length
 ·cases rx
  obtain ⟨its,r,ht,hz⟩:=I.tuple hx
  have hlen:its.toArray.size=xs.length:=by rw [Ju];exact r.length.symm
  refine ⟨"tuple",_,PyProof.Rows.slot_tuple_getitem.lookup,ht.typeIs,?_⟩
  refine ua ht hs pl pu (by rw [hlen];exact hw) ⟨.ref a,H,I,rfl,q1 ?_⟩
  unfold qw
  rw [hw.1,hw.2]
  simp
 ·exact zkM pins s σ H _ v vl vu lo hi sl Q I rx hs pl pu ⟨a,xs,rfl,hx,hw,q2⟩
theorem zet:∀ {ns:List String} {us:List Value},Vals (ns.map V.ty) us->us=ns.map Value.type
 | [],_,h=>by cases h;rfl
 | n::ns,_,h=>by
  cases h with
  | cons r t=>cases r;rw [zet t];rfl
theorem op_mulB:OpR X (binaryOp .Mult) (rI IntMulOk fun i j=>.int (i * j)):=opI fun _ _ _ _ _ _ _ hc q=>mul_int q hc
theorem qN(hu:X.A.units+1<cLine):OpR X (compareOp .In) (fun x y H Q=>∃ a o,y=.ref a/\DGet H a x o/\Q (.bl o.isSome) H):=by
 intro pins s σ H x y v u Q I rx ry h
 obtain ⟨a,o,rfl,g,q⟩:=h
 cases ry
 exact zob hu I g rx fun s' I'=>⟨.bl _,H,I',rfl,q⟩
theorem zak(hu:X.A.units+1<cLine):OpR X (compareOp .NotIn) (fun x y H Q=>∃ a o,y=.ref a/\DGet H a x o/\Q (.bl (!o.isSome)) H):=by
 intro pins s σ H x y v u Q I rx ry h
 obtain ⟨a,o,rfl,g,q⟩:=h
 cases ry
 exact zka hu I g rx fun s' I'=>⟨.bl _,H,I',rfl,q⟩
noncomputable def zke(K:PySem.W.Frag)(H:Hp)(y x:V)(b:Bool):Prop:=
 (∃ p xs,y=.ref p/\(SqL K H p xs∨SqT K H p xs)/\vx x=true/\xs.all vx=true/\b=inV x xs)∨∃ a o,y=.ref a/\DGet H a x o/\b=o.isSome
theorem zfC(hu:X.A.units+1<cLine):OpR X (compareOp .In) (fun x y H Q=>∃ b,zke X.K H y x b/\Q (.bl b) H):=by
 intro pins s σ H x y v u Q I rx ry h
 obtain ⟨b,h | h,q⟩:=h
 ·obtain ⟨p,xs,rfl,h1,h2,h3,rfl⟩:=h
  exact zfB pins s σ H x _ v u Q I rx ry ⟨p,xs,rfl,h1,h2,h3,q⟩
 ·obtain ⟨a,o,rfl,h1,rfl⟩:=h
  exact qN hu pins s σ H x _ v u Q I rx ry ⟨a,o,rfl,h1,q⟩
theorem zbp(hu:X.A.units+1<cLine):OpR X (compareOp .NotIn) (fun x y H Q=>∃ b,zke X.K H y x b/\Q (.bl (!b)) H):=by
 intro pins s σ H x y v u Q I rx ry h
 obtain ⟨b,h | h,q⟩:=h
 ·obtain ⟨p,xs,rfl,h1,h2,h3,rfl⟩:=h
  exact zbo pins s σ H x _ v u Q I rx ry ⟨p,xs,rfl,h1,h2,h3,q⟩
 ·obtain ⟨a,o,rfl,h1,rfl⟩:=h
  exact zak hu pins s σ H x _ v u Q I rx ry ⟨a,o,rfl,h1,q⟩
theorem zab(hc:X.calm=true):CallR X (.type "list") (fun xs H Q=>∃ p kvs,xs=[.ref p]/\H p=some (.dK kvs)/\∀ l,H l=none->Q (.ref l) (upd H l (.lst (kvs.map fun kv=>kV kv.1)))):=by
 intro pins s σ H xs us Q I r h
 obtain ⟨p,kvs,rfl,hp,q⟩:=h
 obtain ⟨u,rfl,rx⟩:=zat r
 cases rx
 obtain ⟨hz,hS,vs,rel,o,es,ep,h1,h2,h3,h4⟩:=zaO I.hok hp
 have hlen:kvs.length=vs.length:=rel.length
 have hn:H s.heap.objs.size=none:=I.hok.fresh (Jn _)
 refine PySem.W.kdl_call (PySem.W.kdl_dict (kvs:=vs) (ep:=ep) hS) (I.ok.hd hc) ⟨o,es,h1,h2,h3,h4⟩ [8] fun h' tk acc' c' hk hl hi=>?_
 have rv:Vals (kvs.map fun kv=>kV kv.1) acc'.toList:=by
  have key:∀ (l:List (Key × V)) (m:List (Key × Value)) (us:List Value),KV l m->us.length=m.length->(∀ (j:Nat) (v:Value),us[j]?=some v->∃ k x,m[j]?=some (k,x)/\(zK X.prog X.w).is k v=true)->Vals (l.map fun kv=>kV kv.1) us:=by
   intro l m us hr
   unfold KV at hr
   induction hr generalizing us with
   | nil=>intro hl _;cases us with
    | nil=>exact .nil
    | cons _ _=>simp at hl
   | @cons a b l m hab t ih=>
    intro hl hv
    cases us with
    | nil=>simp at hl
    | cons u us=>
     refine .cons ?_ (ih us (by simpa using hl) fun j v hj=>by simpa using hv (j+1) v (by simpa using hj))
     obtain ⟨k,x,e,hk⟩:=hv 0 u rfl
     simp only [List.getElem?_cons_zero,Option.some.injEq] at e
     have e1:b.1=k:=by rw [e]
     show RelV (kV a.1) u
     rw [hab.1,e1]
     rw [zdL] at hk
     rcases zU hk with ⟨i,t,rfl,rfl⟩ | ⟨x,t,rfl,rfl⟩
     ·exact ⟨t,rfl⟩
     ·exact ⟨t,rfl⟩
  refine key kvs vs _ rel (by rw [Jk];exact hi.1) fun j v hj=>hi.2 j v (by rw [← Jx];exact hj)
 refine ⟨.ref s.heap.objs.size,_,I.laid hk (Jn _) (show ObjOk X.prog X.w _ h' _ (.lst (kvs.map fun kv=>kV kv.1)) from ⟨by rw [Jj];exact hz,acc'.toList,c',rv,by rw [Array.toArray_toList];exact hl⟩),rfl,q _ hn⟩
end
mutual
inductive Rep (K:PySem.W.Frag) (H:Hp):V->PyData->Prop
 | non:Rep K H .non .none
 | bl (b:Bool):Rep K H (.bl b) (.bool b)
 | int (i:Int):Rep K H [87] [87]
 | str (x:Str):Rep K H (.str x) (.str x)
 | list {a:Addr} {xs:List V} {ds:List PyData}:SqL K H a xs->Reps K H xs ds->Rep K H [67] (.list ds)
 | tuple {a:Addr} {xs:List V} {ds:List PyData}:SqT K H a xs->Reps K H xs ds->Rep K H [67] (.tuple ds)
inductive Reps (K:PySem.W.Frag) (H:Hp):List V->List PyData->Prop
 | nil:Reps K H [] []
 | cons {x:V} {d:PyData} {xs:List V} {ds:List PyData}:Rep K H x d->Reps K H xs ds->Reps K H (x::xs) (d::ds)
end
theorem Same.tup{K:PySem.W.Frag}{H H':Hp}{a:Addr}{xs:List V}(e:Same H H')(h:SqT K H a xs):SqT K H' a xs:=by
 rcases h with (h | ⟨o,h⟩) | h
 ·exact .inl (.inl (e _ _ h))
 ·exact .inl (.inr ⟨o,e _ _ h⟩)
 ·exact .inr h
mutual
theorem Rep.same{K:PySem.W.Frag}{H H':Hp}(e:Same H H'):∀ {x:V} {d:PyData},Rep K H x d->Rep K H' x d
 | _,_,.non=>.non
 | _,_,.bl b=>.bl b
 | _,_,.int i=>.int i
 | _,_,.str x=>.str x
 | _,_,.list h r=>.list (e.seq h) (Reps.same e r)
 | _,_,.tuple h r=>.tuple (e.tup h) (Reps.same e r)
theorem Reps.same{K:PySem.W.Frag}{H H':Hp}(e:Same H H'):∀ {xs:List V} {ds:List PyData},Reps K H xs ds->Reps K H' xs ds
 | _,_,.nil=>.nil
 | _,_,.cons h t=>.cons (Rep.same e h) (Reps.same e t)
end
mutual
theorem Rep.reads{X:Cx}{pins:List [17]}{σ:St}{H:Hp}{s:Shared}(I:Inv X pins σ H s):∀ {x:V} {d:PyData} {u:Value},Rep X.K H x d->RelV x u->∃ as,Reads s.heap u d as
 | _,_,_,.non,r=>by cases r;exact ⟨_,.none⟩
 | _,_,_,.bl b,r=>by cases r;exact ⟨_,.bool b⟩
 | _,_,_,.int i,r=>by obtain ⟨t,rfl⟩:=r;exact ⟨_,.int i t⟩
 | _,_,_,.str x,r=>by obtain ⟨t,rfl⟩:=r;exact ⟨_,.str x t⟩
 | _,_,_,.list h q,r=>by
  cases r
  obtain ⟨its,rv,⟨o,n,e,c,d,hd⟩,hz⟩:=I.list h
  obtain ⟨as,ra⟩:=Reps.reads I q rv
  exact ⟨_,.list e c hd (by simpa using ra)⟩
 | _,_,_,.tuple h q,r=>by
  cases r
  obtain ⟨its,rv,⟨o,e,c,n,hd⟩,hz⟩:=I.tuple h
  obtain ⟨as,ra⟩:=Reps.reads I q rv
  exact ⟨_,.tuple e c hd (by simpa using ra)⟩
theorem Reps.reads{X:Cx}{pins:List [17]}{σ:St}{H:Hp}{s:Shared}(I:Inv X pins σ H s):∀ {xs:List V} {ds:List PyData} {us:List Value},Reps X.K H xs ds->Vals xs us->∃ as,ReadsAll s.heap us ds as
 | _,_,_,.nil,r=>by cases r;exact ⟨_,.nil⟩
 | _,_,_,.cons h t,r=>by
  cases r with
  | cons r1 r2=>
   obtain ⟨as,ra⟩:=Rep.reads I h r1
   obtain ⟨bs,rb⟩:=Reps.reads I t r2
   exact ⟨_,.cons ra rb⟩
end
section
variable {X:Cx}
open PySem.SeqAt in
theorem wt(hu:X.A.units+64<cLine):OpR X (compareOp .Eq) (fun x y H Q=>∃ d e,Rep X.K H x d/\Rep X.K H y e/\d.canLay0=true/\e.canLay0=true/\d.depth≤64/\Q (.bl (PyData.eqv d e)) H):=by
 intro pins s σ H x y v u Q I rx ry h
 obtain ⟨d,e,hd,he,h1,h2,h3,q⟩:=h
 obtain ⟨as,ra⟩:=hd.reads I rx
 obtain ⟨bs,rb⟩:=he.reads I ry
 exact compareEq_reads ra rb h1 h2 (by have:=Nat.min_le_left d.depth e.depth;omega) ⟨.bl _,H,I,rfl,q⟩
open PySem.SeqAt in
theorem jv(hu:X.A.units+64<cLine):OpR X (compareOp .NotEq) (fun x y H Q=>∃ d e,Rep X.K H x d/\Rep X.K H y e/\d.canLay0=true/\e.canLay0=true/\d.depth≤64/\Q (.bl (!PyData.eqv d e)) H):=by
 intro pins s σ H x y v u Q I rx ry h
 obtain ⟨d,e,hd,he,h1,h2,h3,q⟩:=h
 obtain ⟨as,ra⟩:=hd.reads I rx
 obtain ⟨bs,rb⟩:=he.reads I ry
 exact compareNe_reads ra rb h1 h2 (by have:=Nat.min_le_left d.depth e.depth;omega) ⟨.bl _,H,I,rfl,q⟩
end
section
variable {X:Cx} {pos:Pos}
theorem zbm{x:Str}{T:String}(hg:Gl X x)(hm:X.mg x=none)(hv:bootBuiltins x=some (.type T))(hn:x≠"__name__":=by decide)(hd:[48]=false:=by decide):PE X (.Name x pos) (tC (.ty T)):=
 zjm hg hm hv (show RelV (.ty T) (.type T) from rfl) hn hd
end
noncomputable def cW(D:Addr)(xs:List V)(τ:St)(Pv:Nat->List V->Hp->Prop)(i m:Nat)(σ:St)(H:Hp):Prop:=
 ∃ o ys,σ=o::τ/\H D=some (.lst ys)/\ys.length≤i/\i≤xs.length/\m=xs.length - i/\Pv i ys H
noncomputable def zoz(D:Addr)(xs:List V)(τ:St)(Pv:Nat->List V->Hp->Prop)(i:Nat)(x:V)(y:V)(H6:Hp):Prop:=
 ∃ ys,H6 D=some (.lst ys)/\ys.length<sizeLine/\∃ m',m'<xs.length - i/\cW D xs τ Pv (i+1) m' (some x::τ) (upd H6 D (.lst (ys++[y])))
noncomputable def zou(D:Addr)(xs:List V)(τ:St)(Pv:Nat->List V->Hp->Prop)(i:Nat)(x:V)(H5:Hp):Prop:=
 ∃ m',m'<xs.length - i/\cW D xs τ Pv (i+1) m' (some x::τ) H5
theorem yF{H H':Hp}{D:Addr}{o:HO}(s:Same H H')(hD:H D=none):Same H (upd H' D o):=fun b u e=>by
 rw [zb (yG e hD)]
 exact s b u e
theorem bits_of_weight:∀ (ns:List Int),PySem.W.WData.weightAll (ns.map PySem.W.WData.int)≤2 ^ 20->∀ n ∈ ns,Builtin.Int.intBits n≤1048576
 | [],_,_,h=>nomatch h
 | m::ns,hw,n,h=>by
  rw [Jr] at hw
  unfold PySem.W.WData.weightAll at hw
  rcases List.mem_cons.mp h with rfl | h
  ·have:PySem.W.WData.weight (PySem.W.WData.int n)=Builtin.Int.intBits n:=by unfold PySem.W.WData.weight Builtin.Int.intBits;rfl
   omega
  ·exact bits_of_weight ns [8] n h
end L2
namespace Att
open PySem PySem.W PySem.Calls PyProof.Rows
theorem attach_callB{l:OpenLaw}{n:Nat}{q:Program}{loose:List Str}{XP:(Str->Option Value)->Heap->Prop}{YP:World->Heap->Prop}{d:DefRec}
  (hn:l.most=some n)(hdf:d.params.defaults=[])
  (call:∀ (w:World) (s₀ s₁:Shared) (mg mb:Str->Option Value) (fa:Addr) (o:Obj) (pm cd doc:Value) (a:Addr) (vs:List Value) (ns:List Int),
   Ground q loose [] XP w s₀ mg mb s₁.heap->YP w s₁.heap->
   s₁.heap.get? fa=some o->o.data=.func (docDef d.name d.params d.body d.scope pm cd doc)->s₁.heap.CodeRec cd d.name->mg d.name=some (.ref fa)->
   s₁.heap.get? a=some { cls:=.type "list",data:=.seq vs.toArray }->IntsAre vs ns->ns.length≤n->(∀ m ∈ ns,Builtin.Int.intBits m≤1048576)->s₁.gens=#[]->
   codeAny (model l.prog w) callerA (.call (.ref fa) ⟨[.ref a],[]⟩) (fun r s'=>r=.ok (.ret (.bool true))/\OldK s₁.heap s'.heap/\s'.os=s₁.os/\AllBare s'.gens) s₁):
  WalkO q loose XP YP l.row.toRowW d [] (fun f vs=>PySem.call f vs):=by
 intro w s₀ s₁ mg mb G Y fa o pm cd doc dV kV ho hd hcd hD hmg hg args vals as hpre hlay hrd hwl hlo
 obtain rfl:dV=.none:=Dflts.none hD hdf
 obtain rfl:kV=.none:=Dflts.noKw hD
 obtain ⟨a,vs,ns,rfl,rfl,hobj,hints,hlen⟩:=zft hn hpre hwl
 have hb:∀ m ∈ ns,Builtin.Int.intBits m≤1048576:=by
  refine L2.bits_of_weight ns ?_
  have h1:WData.layable (WData.list (ns.map WData.int))=true:=by simpa [WData.layableAll] using hlay
  unfold WData.layable at h1
  have h2:=of_decide_eq_true (QC.mp h1).2
  unfold WData.weight at h2
  exact h2
 refine enter_call (codeAny_mono (call w s₀ s₁ mg mb fa o pm cd doc a vs ns G Y ho (fd_plain hd) hcd hmg hobj hints hlen hb hg) fun r s' hq=>?_)
 obtain ⟨rfl,h2,h3,h4⟩:=hq
 exact ⟨.inl ⟨.bool true,.bool true,[],rfl,fun _=>rfl,.bool true,zfx l _,fun _=>⟨List.Pairwise.nil,fun _ hm=>(nomatch hm)⟩⟩,h2,h3,h4⟩
end Att
namespace L2
open PySem PySem.Spec PyProof.Rows
theorem walk_ofB{l:PySem.W.OpenLaw}{n k:Nat}{q:Program}{loose:List Str}{XP:(Str->Option Value)->Heap->Prop}{YP:World->Heap->Prop}{d:DefRec}{K:Params->PySem.W.Frag}{CX:World->CXT}{sp:World->Sp}{x:Str}
  (hn:l.most=some n)(hn2:n≤sizeLine)(hdf:d.params.defaults=[])(hr:Room k callerA)
  (hY:∀ (w:World) (h:Heap),YP w h->(K w.params).In h)
  (F:∀ (w:World) (mg:Str->Option Value) (fa:Addr) (h:Heap),(K w.params).In h->h.Ns mainGlobals mg->mg d.name=some (.ref fa)->
   ∃ fd:FuncData,(∀ (s:Shared) (u:Value),BindsTo s fd ⟨[u],[]⟩ [(x,u)])/\
    ∀ base:Heap,(K w.params).In base->base.Ns mainGlobals mg->FnOk l.prog w (K w.params) mg base (CX w) k fa fd [x] (sp w))
  (hsp:∀ (w:World) (H:Hp) (a:Addr) (ns:List Int),ns.length≤n->(∀ m ∈ ns,Builtin.Int.intBits m≤1048576)->zkd H->SqL (K w.params) H a (ns.map V.int)->sp w [.ref a] H (fun v _=>v=.bl true) fun _ _ _=>False)
  (hCX:∀ (w:World) (H:Hp) (s:Shared) (e:Value) (s':Shared),CX w [] H s (fun _ _ _=>False) e s'->False):
  PySem.W.WalkO q loose XP YP l.row.toRowW d [] (fun f vs=>PySem.call f vs):=by
 refine Att.attach_callB hn hdf fun w s₀ s₁ mg mb fa o pm cd doc a vs ns G Y ho hd hcd hmg hobj hints hlen hb hg=>?_
 have KX:=hY w _ Y
 obtain ⟨fd,hbd,hF⟩:=F w mg fa _ KX G.T.g hmg
 exact zhz KX G.T.g G.T.b G.T.builtins G.T.nolimit hg hobj hints (JI hlen hn2) hr hF hbd (fun H hO hS=>hsp w H a ns hlen hb hO hS) fun H e s'=>hCX w H s₁ e s'
section
variable {prog:Program} {w:World} {A:Around} {E:Value->Shared->Prop} {s:Shared}
theorem wc(s:Shared):s.TypeIs .none "NoneType":=by first | exact rfl | trivial | (unfold Shared.TypeIs;trivial)
theorem jE{Q:Int->Shared->Prop}(h:Q 0xFCA86420 { s with toks:=s.toks+1 }):wpAny [11] A (pyHash .none) Q E s:=by
 unfold pyHash
 unfold pyHashByItsType
 have hv:[Value.none].any Value.onHeap=false:=rfl
 refine wpAny_bind ?_
 rw [cRoomFor,if_neg (by rw [hv];exact Je)];refine wpAny_pure ?_
 refine wpAny_bind (wpAny_specialOf (wc s) PySem.F.slot_NoneType_hash.lookup ?_)
 show wpAny _ _ (if (some (Value.builtin "NoneType.__hash__") == some Value.none)=true then _ else _) Q E s
 rw [if_neg (by rw [beq_builtin_none];exact Je)]
 refine wpAny_bind (wpAny_specialOf (wc s) PySem.F.slot_NoneType_hash.lookup ?_)
 show wpAny _ _ (callSpecialIfBoundUnlessNone? .none "__hash__" _ >>= _) Q E s
 refine wpAny_bind (wpAny_callSpecialIfBoundUnlessNone?_slot (wc s) PySem.F.slot_NoneType_hash
  (wpAny_call_entry PySem.F.slot_NoneType_hash (wc s) PySem.F.entry_NoneType_hash
   (show wpAny _ _ (do ret (← mkInt 0xFCA86420)) _ _ s from wpAny_ret_mkInt ?_) (PySem.F.args_NoneType_hash_1 _)))
 show wpAny _ _ (if (decide (-(2:Int) ^ 63≤0xFCA86420) && decide ((0xFCA86420:Int)<2 ^ 63))=true then _ else _) Q E _
 rw [if_pos [9]]
 exact wpAny_pure h
end
noncomputable def zbn(prog:Program)(w:World):PySem.KeyKind prog w (Option Key) where
 is:=fun o v=>match o with | some k=>ui k v | none=>(v == Value.none)
 hash:=fun o=>match o with | some k=>zmG w k | none=>0xFCA86420
 inj:=fun v a b ha hb=>by
  cases a with
  | none=>
   have ha:v=Value.none:=eq_of_beq ha
   subst ha
   cases b with
   | none=>rfl
   | some k=>rcases zU hb with ⟨_,_,_,e⟩ | ⟨_,_,_,e⟩<;>cases e
  | some k=>
   cases b with
   | none=>
    have hb:v=Value.none:=eq_of_beq hb
    subst hb
    rcases zU ha with ⟨_,_,_,e⟩ | ⟨_,_,_,e⟩<;>cases e
   | some k'=>rw [[39].inj v k k' ha hb]
 byValue:=fun k v h=>by
  cases k with
  | none=>have h:v=Value.none:=eq_of_beq h;subst h;rfl
  | some k=>exact [39].byValue k v h
 pyHash:=fun {A E s k v Q} hv h=>by
  cases k with
  | none=>have hv:v=Value.none:=eq_of_beq hv;subst hv;exact jE h
  | some k=>exact [39].pyHash (k:=k) hv h
 eqBool:=fun {A E s a b u v Q} hu hv h=>by
  cases a with
  | none=>
   have hu:u=Value.none:=eq_of_beq hu
   subst hu
   cases b with
   | none=>
    have hv:v=Value.none:=eq_of_beq hv
    subst hv
    exact SeqAt.EqAt.same .none _ _ _ _ (by simpa using h)
   | some k=>
    have h:Q false s:=by simpa using h
    rcases zU hv with ⟨i,t,rfl,rfl⟩ | ⟨x,t,rfl,rfl⟩
    ·exact SeqAt.EqAt.none_int i t _ _ _ _ h
    ·exact SeqAt.EqAt.none_str x t _ _ _ _ h
  | some k=>
   cases b with
   | none=>
    have hv:v=Value.none:=eq_of_beq hv
    subst hv
    have h:Q false s:=by simpa using h
    rcases zU hu with ⟨i,t,rfl,rfl⟩ | ⟨x,t,rfl,rfl⟩
    ·exact SeqAt.EqAt.int_none i t _ _ _ _ h
    ·exact SeqAt.EqAt.str_none x t _ _ _ _ h
   | some k'=>
    refine [39].eqBool (a:=k) (b:=k') hu hv ?_
    have e:decide (some k=some k')=decide (k=k'):=by by_cases z:k=k'<;>simp [z]
    rw [e] at h
    exact h
 «strs»:=fun k x t v h=>by
  cases k with
  | none=>
   have z:Value.str x t=Value.none:=eq_of_beq h
   cases z
  | some k=>exact [39].strs k x t v h
theorem zcI{P:Program}{w:World}{h:Heap}{a:Addr}{f:Key->Option Value}(m:h.MapOf (zK P w) a f):h.MapOf (zbn P w) a (fun o=>match o with | some k=>f k | none=>none):=by
 obtain ⟨o,es,ep,h1,h2,h3,h4,h5⟩:=m
 refine ⟨o,es,ep,h1,h2,h3,fun e he=>?_,fun k=>?_⟩
 ·obtain ⟨k,a1,a2⟩:=h4 e he
  exact ⟨some k,a1,a2⟩
 ·cases k with
  | some k=>exact h5 k
  | none=>
   unfold findBy
   rw [Option.map_eq_none_iff,Array.find?_eq_none]
   intro e he z
   obtain ⟨k,a1,a2⟩:=h4 e he
   have z:e.key=Value.none:=eq_of_beq z
   rw [z] at a1
   rcases zU a1 with ⟨_,_,_,e⟩ | ⟨_,_,_,e⟩<;>cases e
section
variable {X:Cx}
theorem zcv(hu:X.A.units+1<cLine):OpR X (compareOp .In) (fun x y H Q=>∃ a,y=.ref a/\((∃ o,DGet H a x o/\Q (.bl o.isSome) H)∨(∃ kvs,x=.non/\H a=some (.dK kvs)/\Q (.bl false) H))):=by
 intro pins s σ H x y v u Q I rx ry h
 obtain ⟨a,rfl,h | h⟩:=h
 ·obtain ⟨o,g,q⟩:=h
  exact qN hu pins s σ H x _ v u Q I rx ry ⟨a,o,rfl,g,q⟩
 ·obtain ⟨kvs,rfl,ha,q⟩:=h
  cases ry
  cases rx
  obtain ⟨z,hd,vs,rel,dd⟩:=zaO I.hok ha
  exact wpAny_in_of (knd:=zbn X.prog X.w) (k:=none) rfl hd (zcI dd.mapOf) ⟨.bl false,H,I.tok _,rfl,q⟩
end
end L2
namespace CB
inductive Reach (R:Int->Int->Prop) (S A:Int->Prop):Int->Prop where
 | start {p:Int}:A p->S p->Reach R S A p
 | step {p q:Int}:Reach R S A p->R p q->S q->Reach R S A q
theorem Reach.inS{R S A}{p:Int}(h:Reach R S A p):S p:=by
 cases h with
 | start _ h=>exact h
 | step _ _ h=>exact h
theorem Reach.mono{R:Int->Int->Prop}{S S' A A':Int->Prop}(hA:∀ p,A p->S p->Reach R S' A' p)(hS:∀ p,Reach R S A p->S' p){p:Int}(h:Reach R S A p):Reach R S' A' p:=by
 induction h with
 | start a s=>exact hA _ a s
 | step h r s ih=>exact .step ih r (hS _ (.step h r s))
theorem zS:∀ (xs ys:List Int),xs.Nodup->(∀ x ∈ xs,x ∈ ys)->xs.length≤ys.length
 | [],ys,_,_=>Km _
 | x::xs,ys,nd,h=>by
  have hx:x ∈ ys:=h x Jg
  have nd':=JF.mp nd
  have ih:=zS xs (ys.erase x) nd'.2 fun z hz=>by
   have hzx:z≠x:=fun e=>nd'.1 (e ▸ hz)
   exact (List.mem_erase_of_ne hzx).mpr (h z (Jf _ hz))
  rw [List.length_erase_of_mem hx] at ih
  have:0<ys.length:=List.length_pos_of_mem hx
  simp only [List.length_cons]
  omega
structure Dfs (R:Int->Int->Prop) (S A:Int->Prop) (found waiting:List Int):Prop where
 nd:found.Nodup
 sound:∀ p ∈ found,Reach R S A p
 soundW:∀ p ∈ waiting,Reach R S A p
 starts:∀ p,A p->S p->p ∈ found∨p ∈ waiting
 closed:∀ p ∈ found,∀ q,R p q->S q->q ∈ found∨q ∈ waiting
section
variable {R:Int->Int->Prop} {S A:Int->Prop} {found ws nbs:List Int} {p:Int}
theorem Dfs.init{starts:List Int}(h:∀ q,q ∈ starts ↔ A q/\S q):Dfs R S A [] starts:=
 ⟨List.nodup_nil,(fun _ h=>nomatch h),fun p hp=>.start ((h p).mp hp).1 ((h p).mp hp).2,fun p a s=>.inr ((h p).mpr ⟨a,s⟩),(fun _ h=>nomatch h)⟩
theorem Dfs.old(d:Dfs R S A found (ws++[p]))(hp:p ∈ found):Dfs R S A found ws:=by
 refine ⟨d.nd,d.sound,fun q hq=>d.soundW q (Jm _ hq),fun q a s=>?_,fun q hq r hr s=>?_⟩
 ·rcases d.starts q a s with h | h
  ·exact .inl h
  ·rcases List.mem_append.mp h with h | h
   ·exact .inr h
   ·rw [Jh.mp h];exact .inl hp
 ·rcases d.closed q hq r hr s with h | h
  ·exact .inl h
  ·rcases List.mem_append.mp h with h | h
   ·exact .inr h
   ·rw [Jh.mp h];exact .inl hp
theorem Dfs.new(d:Dfs R S A found (ws++[p]))(hp:p ∉ found)(hn:∀ q,q ∈ nbs ↔ R p q/\S q):Dfs R S A (found++[p]) (ws++nbs):=by
 have rp:Reach R S A p:=d.soundW p (Js _ Jg)
 have mv:∀ q,q ∈ found∨q ∈ ws++[p]->q ∈ found++[p]∨q ∈ ws++nbs:=fun q h=>by
  rcases h with h | h
  ·exact .inl (Jm _ h)
  ·rcases List.mem_append.mp h with h | h
   ·exact .inr (Jm _ h)
   ·exact .inl (Js _ h)
 refine ⟨?_,fun q hq=>?_,fun q hq=>?_,fun q a s=>mv q (d.starts q a s),fun q hq r hr s=>?_⟩
 ·rw [Jz]
  refine ⟨d.nd,by simp,fun a ha b hb=>?_⟩
  rw [Jh.mp hb]
  exact fun e=>hp (e ▸ ha)
 ·rcases List.mem_append.mp hq with h | h
  ·exact d.sound q h
  ·rw [Jh.mp h];exact rp
 ·rcases List.mem_append.mp hq with h | h
  ·exact d.soundW q (Jm _ h)
  ·exact .step rp ((hn q).mp h).1 ((hn q).mp h).2
 ·rcases List.mem_append.mp hq with h | h
  ·exact mv r (d.closed q h r hr s)
  ·rw [Jh.mp h] at hr
   exact .inr (Js _ ((hn r).mpr ⟨hr,s⟩))
theorem Dfs.done(d:Dfs R S A found [])(q:Int):q ∈ found ↔ Reach R S A q:=by
 refine ⟨d.sound q,fun h=>?_⟩
 induction h with
 | start a s=>rcases d.starts _ a s with h | h;exact h;exact nomatch h
 | step h r s ih=>rcases d.closed _ ih _ r s with h | h;exact h;exact nomatch h
end
noncomputable def Place(w h p:Int):Prop:=0≤p/\p<w * h
noncomputable def Adj(w p q:Int):Prop:=(q=p+1/\p / w=q / w)∨(q+1=p/\p / w=q / w)∨q=p+w∨q+w=p
noncomputable def Rim(w h p:Int):Prop:=p % w=0∨p % w=w - 1∨p / w=0∨p / w=h - 1
noncomputable def xJ(w h p:Int):List Int:=
 (if 0<p % w then [p - 1] else [])++(if p % w<w - 1 then [p+1] else [])++(if 0<p / w then [p - w] else [])++(if p / w<h - 1 then [p+w] else [])
theorem six{w:Int}(h1:1≤w)(h6:w≤6):w=1∨w=2∨w=3∨w=4∨w=5∨w=6:=by omega
theorem zgF{w p:Int}(w1:1≤w)(h:p % w<w - 1):(p+1) / w=p / w/\(p+1) % w=p % w+1:=by
 have e:=Kz p w
 have:=JY p (show w≠0 by omega)
 exact (QD [8]).mpr ⟨by omega,by omega,by omega⟩
theorem zad{w p:Int}(w1:1≤w)(h:0<p % w):(p - 1) / w=p / w/\(p - 1) % w=p % w - 1:=by
 have e:=Kz p w
 have:=JW p (show 0<w by omega)
 exact (QD [8]).mpr ⟨by omega,by omega,by omega⟩
theorem zgE{w p:Int}(w1:1≤w)(h:¬ (p+1) % w=0):(p+1) / w=p / w:=by
 have:=JY (p+1) (show w≠0 by omega)
 have:=(zad (p:=p+1) w1 [8]).1
 rw [Int.add_sub_cancel] at this
 exact this.symm
theorem zht{c:Prop}[Decidable c]{a q:Int}:(q ∈ (if c then [a] else []:List Int)) ↔ c/\q=a:=by
 by_cases h:c
 ·simp [h]
 ·simp [h]
theorem zin{w p:Int}(w1:1≤w)(h:p % w=0):(p - 1) / w=p / w - 1:=by
 have e:=Kz p w
 refine ((QD (r:=w - 1) (show 0<w by omega)).mpr ⟨?_,by omega,by omega⟩).1
 rw [Int.mul_sub,Int.mul_one];omega
theorem zhQ{w p:Int}(w1:1≤w)(h:p % w=w - 1):(p+1) / w=p / w+1:=by
 have e:=Kz p w
 refine ((QD (r:=0) (show 0<w by omega)).mpr ⟨?_,by omega,by omega⟩).1
 rw [Int.mul_add,Int.mul_one];omega
theorem ziR{w h p:Int}(w1:1≤w)(hp:Place w h p):0≤p / w/\p / w<h/\(0≤p - w ↔ 0<p / w)/\(p+w<w * h ↔ p / w<h - 1)/\(p % w<w - 1->p+1<w * h)/\p % w≤p:=by
 have e:=Kz p w
 have a0:=JY p (show w≠0 by omega)
 have a1:=JW p (show 0<w by omega)
 have hw:0≤w:=by omega
 have mono:∀ {a b:Int},a≤b->w * a≤w * b:=fun h=>Int.mul_le_mul_of_nonneg_left h hw
 obtain ⟨p0,p1⟩:=hp
 have q0:0≤p / w:=Int.ediv_nonneg p0 hw
 have q1:p / w<h:=by
  refine JJ fun z=>?_
  have:=mono (show h≤p / w by omega)
  omega
 have m1:=mono (show p / w+1≤h by omega)
 rw [Int.mul_add,Int.mul_one] at m1
 refine ⟨q0,q1,⟨fun z=>JJ fun y=>?_,fun z=>?_⟩,⟨fun z=>JJ fun y=>?_,fun z=>?_⟩,fun z=>by omega,by have:=Int.mul_nonneg hw q0;omega⟩
 ·have:p / w=0:=by omega
  rw [this,Int.mul_zero] at e
  omega
 ·have:=mono (show 1≤p / w by omega)
  rw [Int.mul_one] at this
  omega
 ·have:=mono (show h≤p / w+1 by omega)
  rw [Int.mul_add,Int.mul_one] at this
  omega
 ·have:=mono (show p / w+2≤h by omega)
  rw [Int.mul_add] at this
  omega
theorem zdM{w h p q:Int}(w1:1≤w)(w6:w≤6)(hp:Place w h p):q ∈ xJ w h p ↔ Place w h q/\Adj w p q:=by
 obtain ⟨r0,r1,r2,r3,r4,r5⟩:=ziR w1 hp
 have a0:=JY p (show w≠0 by omega)
 have a1:=JW p (show 0<w by omega)
 obtain ⟨p0,p1⟩:=hp
 have b1:=fun z=>(zad (w:=w) (p:=p) w1 z).1
 have b2:=fun z=>zin (w:=w) (p:=p) w1 z
 have f1:=fun z=>(zgF (w:=w) (p:=p) w1 z).1
 have f2:=fun z=>zhQ (w:=w) (p:=p) w1 z
 unfold xJ
 simp only [List.mem_append,zht]
 generalize p % w=b at *
 generalize ha:p / w=a at *
 unfold Place Adj
 rw [ha]
 constructor
 ·rintro (((⟨z,rfl⟩ | ⟨z,rfl⟩) | ⟨z,rfl⟩) | ⟨z,rfl⟩)
  ·exact ⟨⟨by omega,by omega⟩,.inr (.inl ⟨by omega,(b1 z).symm⟩)⟩
  ·exact ⟨⟨by omega,r4 z⟩,.inl ⟨rfl,(f1 z).symm⟩⟩
  ·exact ⟨⟨r2.mpr z,by omega⟩,.inr (.inr (.inr [8]))⟩
  ·exact ⟨⟨by omega,r3.mpr z⟩,.inr (.inr [76])⟩
 ·rintro ⟨⟨q0,q1⟩,⟨rfl,z⟩ | ⟨y,z⟩ | rfl | y⟩
  ·refine .inl (.inl (.inr ⟨JJ fun x=>?_,rfl⟩))
   have:=f2 [8]
   omega
  ·obtain rfl:q=p - 1:=by omega
   refine .inl (.inl (.inl ⟨JJ fun x=>?_,rfl⟩))
   have:=b2 [8]
   omega
  ·exact .inr ⟨r3.mp q1,rfl⟩
  ·obtain rfl:q=p - w:=by omega
   exact .inl (.inr ⟨r2.mp q0,rfl⟩)
theorem Adj.symm{w p q:Int}(h:Adj w p q):Adj w q p:=by
 unfold Adj at *
 rcases h with ⟨a,b⟩ | ⟨a,b⟩ | a | a
 ·exact .inr (.inl ⟨by omega,b.symm⟩)
 ·exact .inl ⟨by omega,b.symm⟩
 ·exact .inr (.inr (.inr [8]))
 ·exact .inr (.inr (.inl [8]))
theorem zaq(w h p:Int):(xJ w h p).length≤4:=by
 unfold xJ
 have:∀ (c:Prop) [Decidable c] (a:Int),(if c then [a] else []:List Int).length≤1:=fun c _ a=>by
  by_cases h:c<;>simp [h]
 have h1:=this (0<p % w) (p - 1)
 have h2:=this (p % w<w - 1) (p+1)
 have h3:=this (0<p / w) (p - w)
 have h4:=this (p / w<h - 1) (p+w)
 simp only [List.length_append]
 omega
structure IsFloor (w h:Int) (F:List Int):Prop where
 w1:1≤w
 w6:w≤6
 h1:1≤h
 h6:h≤6
 ne:F≠[]
 rise:F.Pairwise (·<·)
 inn:∀ p ∈ F,Place w h p
 conn:∀ p ∈ F,Reach (Adj w) (· ∈ F) (fun q=>F.head?=some q) p
 noh:∀ p,Place w h p->p ∉ F->Reach (Adj w) (fun q=>Place w h q/\q ∉ F) (Rim w h) p
theorem y6{F:List Int}(h:F.Pairwise (·<·)):F.Nodup:=h.imp fun h e=>by omega
noncomputable def zZ(w h:Int):List Int:=(List.range (w * h).toNat).map fun (n:Nat)=>(n:Int)
theorem mem_places{w h p:Int}:p ∈ zZ w h ↔ Place w h p:=by
 unfold zZ Place
 simp only [List.mem_map,List.mem_range]
 constructor
 ·rintro ⟨n,hn,rfl⟩;omega
 ·intro hp;exact ⟨p.toNat,by omega,by omega⟩
theorem zcr(w h:Int):(zZ w h).Pairwise (·<·):=by
 unfold zZ
 rw [Kw]
 exact List.pairwise_lt_range.imp fun h=>by omega
theorem zlF{w h:Int}(w1:1≤w)(w6:w≤6)(h1:1≤h)(h6:h≤6){L O:Int->Prop}{a:Int}(hL:∀ p,L p->Place w h p)(ha:L a)
  (conn:∀ p,L p->Reach (Adj w) L (·=a) p)(hO:∀ p,O p ↔ Reach (Adj w) (fun q=>Place w h q/\¬ L q) (Rim w h) p)[DecidablePred O]:
  IsFloor w h [52]:=by
 have mem:∀ p,p ∈ [52] ↔ Place w h p/\¬ O p:=fun p=>by
  rw [Ki,mem_places]
  simp
 have LO:∀ p,L p->¬ O p:=fun p hp ho=>((hO p).mp ho).inS.2 hp
 have hne:[52]≠[]:=fun e=>by
  have:a ∈ [52]:=(mem a).mpr ⟨hL a ha,LO a ha⟩
  rw [e] at this;exact nomatch this
 -- within: from any field a row of fields leads left to L
 have toL:∀ (n:Nat) (p:Int),(p % w).toNat=n->Place w h p->¬ O p->¬ L p->∃ q,L q/\Reach (Adj w) (fun q=>Place w h q/\¬ O q) (·=q) p/\Reach (Adj w) (fun q=>Place w h q/\¬ O q) (·=p) q:=by
  intro n
  induction n with
  | zero=>
   intro p e hp ho hl
   refine absurd ((hO p).mpr (.start (.inl ?_) ⟨hp,hl⟩)) ho
   have:=JY p (show w≠0 by omega)
   omega
  | succ n ih=>
   intro p e hp ho hl
   have hm:0<p % w:=by omega
   obtain ⟨m1,m2⟩:=zad w1 hm
   have pl:Place w h (p - 1):=by
    have hp0:p≠0:=fun e=>by rw [e,Int.zero_emod] at hm;omega
    exact ⟨by have:=hp.1;omega,by have:=hp.2;omega⟩
   have e':((p - 1) % w).toNat=n:=by omega
   have adj:Adj w p (p - 1):=.inr (.inl ⟨Int.sub_add_cancel p 1,m1.symm⟩)
   by_cases hl':L (p - 1)
   ·exact ⟨p - 1,hl',.step (.start rfl ⟨pl,LO _ hl'⟩) adj.symm ⟨hp,ho⟩,.step (.start rfl ⟨hp,ho⟩) adj ⟨pl,LO _ hl'⟩⟩
   ·have ho':¬ O (p - 1):=fun z=>ho ((hO p).mpr (.step ((hO _).mp z) adj.symm ⟨hp,hl⟩))
    obtain ⟨q,hq,r1,r2⟩:=ih (p - 1) e' pl ho' hl'
    refine ⟨q,hq,.step r1 adj.symm ⟨hp,ho⟩,r2.mono (fun z e _=>?_) fun z hz=>hz.inS⟩
    rw [e]
    exact .step (.start rfl ⟨hp,ho⟩) adj ⟨pl,ho'⟩
 -- L is within one reach of a
 have mono:∀ p,L p->Reach (Adj w) (fun q=>Place w h q/\¬ O q) (·=a) p:=fun p hp=>(conn p hp).mono (fun q e s=>.start e ⟨hL q s,LO q s⟩) fun q r=>⟨hL q r.inS,LO q r.inS⟩
 have fromA:∀ p,Place w h p->¬ O p->Reach (Adj w) (fun q=>Place w h q/\¬ O q) (·=a) p:=fun p hp ho=>by
  by_cases hl:L p
  ·exact mono p hl
  ·obtain ⟨q,hq,r1,_⟩:=toL _ p rfl hp ho hl
   exact r1.mono (fun z e _=>e ▸ mono q hq) fun z r=>r.inS
 have rev:∀ (S:Int->Prop) (b p:Int),Reach (Adj w) S (·=b) p->Reach (Adj w) S (·=p) b:=fun S b p r=>by
  induction r with
  | start e s=>subst e;exact .start rfl s
  | @step p q r adj s ih=>exact ih.mono (fun z e sz=>by subst e;exact .step (.start rfl s) adj.symm sz) fun z r=>r.inS
 have cn:∀ (S:Int->Prop) (b p:Int),Reach (Adj w) S (·=a) b->Reach (Adj w) S (·=a) p->Reach (Adj w) S (·=b) p:=fun S b p rb rp=>
  rp.mono (fun z e s=>by subst e;exact rev S _ _ rb) fun z r=>r.inS
 refine ⟨w1,w6,h1,h6,hne,(zcr w h).sublist List.filter_sublist,fun p hp=>((mem p).mp hp).1,fun p hp=>?_,fun p hp hn=>?_⟩
 ·cases hF:[52] with
  | nil=>exact absurd hF hne
  | cons b r=>
   have hb:b ∈ [52]:=by rw [hF];exact Jg
   rw [hF] at hp
   have hp':p ∈ [52]:=by rw [hF];exact hp
   have:=cn _ b p (fromA b ((mem b).mp hb).1 ((mem b).mp hb).2) (fromA p ((mem p).mp hp').1 ((mem p).mp hp').2)
   refine this.mono (fun q e s=>.start (by subst e;rfl) ?_) fun q r=>?_
   ·rw [← hF];exact (mem q).mpr s
   ·rw [← hF];exact (mem q).mpr r.inS
 ·have ho:O p:=JJ fun z=>hn ((mem p).mpr ⟨hp,z⟩)
  have all:∀ q,Reach (Adj w) (fun q=>Place w h q/\¬ L q) (Rim w h) q->Place w h q/\q ∉ [52]:=fun q r=>
   ⟨r.inS.1,fun z=>((mem q).mp z).2 ((hO q).mpr r)⟩
  exact ((hO p).mp ho).mono (fun q ri s=>.start ri (all q (.start ri s))) fun q r=>all q r
noncomputable abbrev Pt:=Int × Int
noncomputable def Nb(p q:Pt):Prop:=(q.1=p.1+1/\q.2=p.2)∨(q.1+1=p.1/\q.2=p.2)∨(q.1=p.1/\q.2=p.2+1)∨(q.1=p.1/\q.2+1=p.2)
noncomputable def Clo(a u:Int->Int->Int)(p:Pt):Prop:=a p.1 p.2+u (p.1+1) p.2=u p.1 p.2+a p.1 (p.2+1)
noncomputable def AcS(S:Pt->Prop)(x y:Int):Prop:=S (x,y)∨S (x,y - 1)
noncomputable def UpS(S:Pt->Prop)(x y:Int):Prop:=S (x,y)∨S (x - 1,y)
noncomputable def zcf(f:Int->Int->Int)(x y v:Int):Int->Int->Int:=fun i j=>if i=x/\j=y then v else f i j
theorem uP{f:Int->Int->Int}{x y v:Int}:zcf f x y v x y=v:=by simp [zcf]
theorem wa{f:Int->Int->Int}{x y v i j:Int}(h:¬ (i=x/\j=y)):zcf f x y v i j=f i j:=by simp [zcf,h]
noncomputable def Ord(G:Pt->Prop):List Pt->Prop
 | []=>True
 | p::r=>(∃ q,Nb p q/\(q ∈ r∨¬ G q))/\p ∉ r/\Ord G r
theorem extend(G:Pt->Prop):∀ (L:List Pt) (S:Pt->Prop) (a u:Int->Int->Int),(∀ p,S p->G p)->(∀ p ∈ L,G p/\¬ S p)->Ord G L->(∀ p,S p->Clo a u p)->
  ∃ a' u',(∀ x y,AcS S x y->a' x y=a x y)/\(∀ x y,UpS S x y->u' x y=u x y)/\∀ p,(S p∨p ∈ L)->Clo a' u' p
 | [],S,a,u,_,_,_,hc=>⟨a,u,fun _ _ _=>rfl,fun _ _ _=>rfl,fun p h=>h.elim (hc p) fun z=>nomatch z⟩
 | p::L,S,a,u,hS,hL,hO,hc=>by
  obtain ⟨⟨q,nb,hq⟩,hp,hO⟩:=hO
  obtain ⟨x,y⟩:=p
  obtain ⟨i,j⟩:=q
  have qS:¬ S (i,j):=fun z=>hq.elim (fun m=>(hL _ (Jf _ m)).2 z) fun g=>g (hS _ z)
  have pS:¬ S (x,y):=(hL _ Jg).2
  -- the exit's side takes what is lacking
  have key:∃ a1 u1,(∀ X Y,AcS S X Y->a1 X Y=a X Y)/\(∀ X Y,UpS S X Y->u1 X Y=u X Y)/\Clo a1 u1 (x,y):=by
   have ne:∀ X Y,S (X,Y)->¬ (X=x/\Y=y)/\¬ (X=i/\Y=j):=fun X Y z=>⟨fun e=>pS (by rw [← e.1,← e.2];exact z),fun e=>qS (by rw [← e.1,← e.2];exact z)⟩
   unfold Nb at nb
   dsimp only at nb
   rcases nb with ⟨e1,e2⟩ | ⟨e1,e2⟩ | ⟨e1,e2⟩ | ⟨e1,e2⟩
   ·refine ⟨a,zcf u (x+1) y (u x y+a x (y+1) - a x y),fun _ _ _=>rfl,fun X Y h=>wa fun e=>?_,?_⟩
    ·unfold UpS at h
     rcases h with h | h
     ·exact (ne _ _ h).2 [8]
     ·exact (ne _ _ h).1 [8]
    ·unfold Clo;dsimp only
     rw [uP,wa [8]];omega
   ·refine ⟨a,zcf u x y (a x y+u (x+1) y - a x (y+1)),fun _ _ _=>rfl,fun X Y h=>wa fun e=>?_,?_⟩
    ·unfold UpS at h
     rcases h with h | h
     ·exact (ne _ _ h).1 [8]
     ·exact (ne _ _ h).2 [8]
    ·unfold Clo;dsimp only
     rw [uP,wa [8]];omega
   ·refine ⟨zcf a x (y+1) (a x y+u (x+1) y - u x y),u,fun X Y h=>wa fun e=>?_,fun _ _ _=>rfl,?_⟩
    ·unfold AcS at h
     rcases h with h | h
     ·exact (ne _ _ h).2 [8]
     ·exact (ne _ _ h).1 [8]
    ·unfold Clo;dsimp only
     rw [uP,wa [8]];omega
   ·refine ⟨zcf a x y (u x y+a x (y+1) - u (x+1) y),u,fun X Y h=>wa fun e=>?_,fun _ _ _=>rfl,?_⟩
    ·unfold AcS at h
     rcases h with h | h
     ·exact (ne _ _ h).1 [8]
     ·exact (ne _ _ h).2 [8]
    ·unfold Clo;dsimp only
     rw [uP,wa [8]];omega
  obtain ⟨a1,u1,k1,k2,k3⟩:=key
  have clo1:∀ r,S r->Clo a1 u1 r:=fun r hr=>by
   obtain ⟨X,Y⟩:=r
   have h1:=hc _ hr
   unfold Clo at h1 ⊢
   dsimp only at h1 ⊢
   rw [k1 X Y (.inl hr),k1 X (Y+1) (.inr (by rw [show Y+1 - 1=Y by omega];exact hr)),k2 X Y (.inl hr),k2 (X+1) Y (.inr (by rw [show X+1 - 1=X by omega];exact hr))]
   exact h1
  obtain ⟨a2,u2,g1,g2,g3⟩:=extend G L (fun r=>S r∨r=(x,y)) a1 u1 (fun r h=>h.elim (hS r) fun e=>by rw [e];exact (hL _ Jg).1)
   (fun r hr=>⟨(hL r (Jf _ hr)).1,fun z=>z.elim (hL r (Jf _ hr)).2 fun e=>hp (e ▸ hr)⟩) hO (fun r h=>h.elim (clo1 r) fun e=>by rw [e];exact k3)
  refine ⟨a2,u2,fun X Y h=>?_,fun X Y h=>?_,fun r h=>?_⟩
  ·rw [g1 X Y (h.elim (fun z=>.inl (.inl z)) fun z=>.inr (.inl z)),k1 X Y h]
  ·rw [g2 X Y (h.elim (fun z=>.inl (.inl z)) fun z=>.inr (.inl z)),k2 X Y h]
  ·refine g3 r ?_
   rcases h with h | h
   ·exact .inl (.inl h)
   ·rcases List.mem_cons.mp h with h | h
    ·exact .inl (.inr h)
    ·exact .inr h
noncomputable def pt(w p:Int):Pt:=(p % w,p / w)
end CB
set_option maxHeartbeats 4000000
namespace CB
noncomputable def zr(d s:Int)(k:Nat):List Int:=(List.range k).map fun (i:Nat)=>s+i * d
theorem mem_chain{d s x:Int}{k:Nat}:x ∈ zr d s k ↔ ∃ i:Nat,i<k/\x=s+i * d:=by
 unfold zr
 rw [Jv]
 exact ⟨fun ⟨i,h,e⟩=>⟨i,Jt.mp h,e.symm⟩,fun ⟨i,h,e⟩=>⟨i,Jt.mpr h,e.symm⟩⟩
theorem jB(d s:Int)(k:Nat):zr d s (k+1)=zr d s k++[s+k * d]:=by
 unfold zr
 rw [List.range_succ,Kd];rfl
theorem zeX(d s:Int):zr d s 1=[s]:=by simp [zr]
theorem zaT(d s:Int)(k:Nat):(zr d s k).length=k:=by simp [zr]
theorem zck(i:Nat)(d:Int):((i+1:Nat):Int) * d=i * d+d:=by rw [Int.natCast_succ,Int.add_mul,Int.one_mul]
theorem zeF{i j:Nat}{d:Int}(hd:0<d)(h:i<j):(i:Int) * d<j * d:=Int.mul_lt_mul_of_pos_right [8] hd
theorem zho{i j:Nat}{d:Int}(hd:0<d)(h:(i:Int) * d=j * d):i=j:=by
 rcases Nat.lt_trichotomy i j with z | z | z
 ·have:=zeF hd z;omega
 ·exact z
 ·have:=zeF hd z;omega
theorem uN{d:Int}(hd:0<d)(s:Int)(k:Nat):(zr d s k).Nodup:=by
 unfold zr
 rw [Ka,Kw]
 exact List.Pairwise.imp (fun h e=>h (zho hd [8])) (Ka.mp List.nodup_range)
section
variable {F:List Int} {d:Int} {stop:Int->Bool} {pre:List Int} {ps qs:List [88]} {f:Int}
noncomputable def yu(F:List Int)(d:Int)(stop:Int->Bool)(f:Int):Bool:=stop f || !decide (f - d ∈ F)
structure Runs0 (F:List Int) (d:Int) (stop:Int->Bool) (pre:List Int) (ps:List [88]):Prop where
 heads:ps.map (·.1)=pre.filter (yu F d stop)
 pos:∀ x ∈ ps,1≤x.2
 inn:∀ x ∈ ps,∀ i:Nat,i<x.2->x.1+i * d ∈ pre/\(0<i->stop (x.1+i * d)=false)
 mx:∀ x ∈ ps,x.1+x.2 * d ∈ pre->stop (x.1+x.2 * d)=true
structure Runs (F:List Int) (d:Int) (stop:Int->Bool) (pre:List Int) (ps:List [88]):Prop extends Runs0 F d stop pre ps where
 cov:∀ f ∈ pre,∃ x ∈ ps,∃ i:Nat,i<x.2/\f=x.1+i * d
theorem Runs.start(r:Runs0 F d stop pre ps){x:Int × Nat}(hx:x ∈ ps):x.1 ∈ pre/\yu F d stop x.1=true:=by
 have:x.1 ∈ ps.map (·.1):=Jv.mpr ⟨x,hx,rfl⟩
 rw [r.heads] at this
 exact Ki.mp this
theorem Runs.same(r:Runs0 F d stop pre ps)(sub:∀ p ∈ pre,p ∈ F){x y:Int × Nat}(hx:x ∈ ps)(hy:y ∈ ps){i j:Nat}(hi:i<x.2)(hj:j<y.2)(e:x.1+i * d=y.1+j * d):x.1=y.1:=by
 have key:∀ {x y:Int × Nat},x ∈ ps->y ∈ ps->∀ {i j:Nat},j<y.2->x.1+i * d=y.1+j * d->i<j->False:=by
  intro x y hx hy i j hj e h
  obtain ⟨m,rfl⟩:∃ m,j=i+(m+1):=⟨j - i - 1,by omega⟩
  have e1:x.1=y.1+((m+1:Nat):Int) * d:=by
   have:((i+(m+1):Nat):Int) * d=i * d+((m+1:Nat):Int) * d:=by rw [Int.natCast_add,Int.add_mul]
   omega
  have i1:=r.inn y hy (m+1) [8]
  have i2:=r.inn y hy m [8]
  have e2:x.1 - d=y.1+m * d:=by have:=zck m d;omega
  have s:=(Runs.start r hx).2
  unfold yu at s
  rw [e2,e1,i1.2 [8]] at s
  simp [sub _ i2.1] at s
 rcases Nat.lt_trichotomy i j with h | h | h
 ·exact (key hx hy hj e h).elim
 ·subst h;omega
 ·exact (key hy hx hi e.symm h).elim
theorem Runs.clash(r:Runs0 F d stop pre ps)(sub:∀ p ∈ pre,p ∈ F){x y:Int × Nat}(hx:x ∈ ps)(hy:y ∈ ps){q:Nat}(e:x.1=y.1+((q+1:Nat):Int) * d)(hq:q+1<y.2):False:=by
 have i1:=r.inn y hy (q+1) hq
 have i2:=r.inn y hy q [8]
 have e2:x.1 - d=y.1+q * d:=by have:=zck q d;omega
 have s:=(Runs.start r hx).2
 unfold yu at s
 rw [e2,e,i1.2 [8]] at s
 simp [sub _ i2.1] at s
theorem Runs.heads_nd(r:Runs0 F d stop pre ps)(nd:pre.Nodup):(ps.map (·.1)).Nodup:=by rw [r.heads];exact nd.filter _
theorem Runs.ix(r:Runs0 F d stop pre ps)(nd:pre.Nodup){i j:Nat}{x y:Int × Nat}(hi:ps[i]?=some x)(hj:ps[j]?=some y)(e:x.1=y.1):i=j:=by
 have h:=Runs.heads_nd r nd
 obtain ⟨l1,rfl⟩:=Jp.mp hi
 obtain ⟨l2,rfl⟩:=Jp.mp hj
 rcases Nat.lt_trichotomy i j with z | z | z
 ·have:=List.pairwise_iff_getElem.mp h i j (by simpa using l1) (by simpa using l2) z
  exact absurd (by simpa using e) this
 ·exact z
 ·have:=List.pairwise_iff_getElem.mp h j i (by simpa using l2) (by simpa using l1) z
  exact absurd (by simpa using e.symm) this
theorem Runs.one(r:Runs F d stop pre ps)(sub:∀ p ∈ pre,p ∈ F)(nd:pre.Nodup)(hf:f ∈ pre):∃ k,k<ps.length/\∀ j x,ps[j]?=some x->(f ∈ zr d x.1 x.2 ↔ j=k):=by
 obtain ⟨x,hx,i,hi,e⟩:=r.cov f hf
 obtain ⟨k,hk,rfl⟩:=JZ hx
 refine ⟨k,hk,fun j y hj=>⟨fun h=>?_,fun h=>?_⟩⟩
 ·obtain ⟨i',hi',e'⟩:=mem_chain.mp h
  exact Runs.ix r.toRuns0 nd hj (Jd hk) (Runs.same r.toRuns0 sub (JN hj) hx hi' hi [8])
 ·subst h
  rw [Jd hk] at hj
  cases hj
  exact mem_chain.mpr ⟨i,hi,e⟩
theorem Runs.nil:Runs F d stop [] []:=⟨⟨rfl,by simp,by simp,by simp⟩,by simp⟩
theorem Runs.new(r:Runs F d stop pre ps)(hd:0<d)(sub:∀ p ∈ pre,p ∈ F)(lt:∀ p ∈ pre,p<f)(hs:yu F d stop f=true):Runs F d stop (pre++[f]) (ps++[(f,1)]):=by
 refine ⟨⟨?_,?_,?_,?_⟩,?_⟩
 ·rw [List.map_append,List.filter_append,r.heads];simp [hs]
 ·intro x hx
  rcases List.mem_append.mp hx with hx | hx
  ·exact r.pos x hx
  ·rw [Jh.mp hx];exact Jn _
 ·intro x hx i hi
  rcases List.mem_append.mp hx with hx | hx
  ·have:=r.inn x hx i hi
   exact ⟨Jm _ this.1,this.2⟩
  ·rw [Jh.mp hx] at hi ⊢
   have:i=0:=by simp at hi;exact hi
   subst this
   simp
 ·intro x hx hm
  rcases List.mem_append.mp hx with hx | hx
  ·rcases List.mem_append.mp hm with hm | hm
   ·exact r.mx x hx hm
   ·have e:=Jh.mp hm
    have p:=r.pos x hx
    obtain ⟨m,hm'⟩:∃ m,x.2=m+1:=⟨x.2 - 1,by omega⟩
    have i1:=r.inn x hx m [8]
    have e2:f - d=x.1+m * d:=by rw [← e,hm'];have:=zck m d;omega
    rw [e]
    unfold yu at hs
    rw [e2] at hs
    simpa [sub _ i1.1] using hs
  ·rw [Jh.mp hx] at hm ⊢
   simp only [Int.natCast_one,Int.one_mul] at hm
   rcases List.mem_append.mp hm with hm | hm
   ·have:=lt _ hm;omega
   ·have:=Jh.mp hm;omega
 ·intro g hg
  rcases List.mem_append.mp hg with hg | hg
  ·obtain ⟨x,hx,i,hi,e⟩:=r.cov g hg
   exact ⟨x,Jm _ hx,i,hi,e⟩
  ·exact ⟨(f,1),by simp,0,by simp,by rw [List.mem_singleton.mp hg];simp⟩
theorem Runs.ext(r:Runs F d stop pre ps)(hd:0<d)(sub:∀ p ∈ pre,p ∈ F)(nd:pre.Nodup)(lt:∀ p ∈ pre,p<f)(hs:yu F d stop f=false){a:Nat}{s:Int}{k:Nat}(ha:ps[a]?=some (s,k))(e:f=s+k * d):Runs F d stop (pre++[f]) (ps.set a (s,k+1)):=by
 obtain ⟨al,ae⟩:=Jp.mp ha
 have hx:(s,k) ∈ ps:=JN ha
 have st:stop f=false:=by unfold yu at hs;rw [Bool.or_eq_false_iff] at hs;exact hs.1
 have cases':∀ x ∈ ps.set a (s,k+1),x=(s,k+1)∨∃ b,b≠a/\ps[b]?=some x:=by
  intro x hx
  obtain ⟨b,hb⟩:=Qd.mp hx
  rw [KH] at hb
  by_cases hba:a=b
  ·rw [if_pos hba] at hb
   exact .inl (by split at hb<;>(cases hb;rfl))
  ·rw [if_neg hba] at hb
   exact .inr ⟨b,fun z=>hba z.symm,hb⟩
 refine ⟨⟨?_,?_,?_,?_⟩,?_⟩
 ·rw [Qb,← r.heads,List.map_set]
  simp only [List.filter_cons,hs,Bool.false_eq_true,if_false,List.filter_nil,List.append_nil]
  refine List.ext_getElem [12] fun i h1 h2=>?_
  rw [List.getElem_set]
  split
  ·rename_i hia
   subst hia
   simp [ae]
  ·rfl
 ·intro x hx'
  rcases cases' x hx' with rfl | ⟨b,_,hb⟩
  ·exact KM _
  ·exact r.pos x (JN hb)
 ·intro x hx' i hi
  rcases cases' x hx' with rfl | ⟨b,_,hb⟩
  ·by_cases h:i<k
   ·have:=r.inn _ hx i h
    exact ⟨Jm _ this.1,this.2⟩
   ·have hik:i=k:=by simp at hi;omega
    subst hik
    refine ⟨by rw [← e];simp,fun _=>by rw [← e];exact st⟩
  ·have:=r.inn x (JN hb) i hi
   exact ⟨Jm _ this.1,this.2⟩
 ·intro x hx' hm
  rcases cases' x hx' with rfl | ⟨b,hba,hb⟩
  ·rw [zck] at hm ⊢
   have h1:s+(k * d+d)=f+d:=by omega
   rw [h1] at hm ⊢
   rcases List.mem_append.mp hm with hm | hm
   ·have:=lt _ hm;omega
   ·have:=Jh.mp hm;omega
  ·rcases List.mem_append.mp hm with hm | hm
   ·exact r.mx x (JN hb) hm
   ·have e2:=Jh.mp hm
    have hx2:=JN hb
    have p:=r.pos x hx2
    obtain ⟨m,hm'⟩:∃ m,x.2=m+1:=⟨x.2 - 1,by omega⟩
    have pk:=r.pos _ hx
    obtain ⟨n,hn⟩:∃ n,k=n+1:=⟨k - 1,by simp at pk;omega⟩
    -- the last ones of both are f - d
    have e3:x.1+m * d=s+n * d:=by
     rw [hm'] at e2
     rw [hn] at e
     have:=zck m d
     have:=zck n d
     omega
    have same:∀ {i j:Nat} {x y:Int × Nat},ps[i]?=some x->ps[j]?=some y->x.1=y.1->i=j:=fun h1 h2 h3=>Runs.ix r.toRuns0 nd h1 h2 h3
    exfalso
    -- both heads begin,so they are one
    rcases Nat.lt_trichotomy m n with z | z | z
    ·obtain ⟨q,rfl⟩:∃ q,n=m+(q+1):=⟨n - m - 1,by omega⟩
     have e4:x.1=s+((q+1:Nat):Int) * d:=by
      have:((m+(q+1):Nat):Int) * d=m * d+((q+1:Nat):Int) * d:=by rw [Int.natCast_add,Int.add_mul]
      omega
     exact Runs.clash r.toRuns0 sub hx2 hx e4 (by rw [hn];omega)
    ·subst z
     exact hba (same hb ha (by simp;omega))
    ·obtain ⟨q,rfl⟩:∃ q,m=n+(q+1):=⟨m - n - 1,by omega⟩
     have e4:s=x.1+((q+1:Nat):Int) * d:=by
      have:((n+(q+1):Nat):Int) * d=n * d+((q+1:Nat):Int) * d:=by rw [Int.natCast_add,Int.add_mul]
      omega
     exact Runs.clash r.toRuns0 sub hx hx2 e4 (by rw [hm'];omega)
 ·intro g hg
  rcases List.mem_append.mp hg with hg | hg
  ·obtain ⟨x,hx',i,hi,e'⟩:=r.cov g hg
   obtain ⟨b,hb,rfl⟩:=JZ hx'
   by_cases hba:a=b
   ·subst hba
    rw [ae] at hi e'
    exact ⟨(s,k+1),List.mem_iff_getElem?.mpr ⟨a,by rw [List.getElem?_set,if_pos rfl,if_pos al]⟩,i,by simp at hi ⊢;omega,e'⟩
   ·exact ⟨ps[b],Qd.mpr ⟨b,by rw [KH,if_neg hba];exact Jd hb⟩,i,hi,e'⟩
  ·exact ⟨(s,k+1),List.mem_iff_getElem?.mpr ⟨a,by rw [List.getElem?_set,if_pos rfl,if_pos al]⟩,k,by simp,by rw [List.mem_singleton.mp hg];exact e⟩
end
end CB
namespace F
open PySem PySem.Spec PyProof.Rows L2
inductive PV where
 | non | bl (b : Bool) | int (i : Int) | str (x : Str) | ty (n : String)
 | tup (xs : List PV) | lst (xs : List PV)
 | fls (xs : List PV)
 | dct (ks : List Key) (vs : List PV)
 | any
 | pen (a : Addr) (ns : List Int)
 | adr (a : Addr)
noncomputable abbrev En:=List (Option PV)
noncomputable abbrev St:=L2.St
noncomputable abbrev FE:=En->Option PV
noncomputable abbrev FT:=En->Option Bool
noncomputable abbrev FA:=En->Option (List PV)
mutual
noncomputable def zj:PV->Bool
 | .lst _=>false
 | .dct _ _=>false
 | .pen _ _=>false
 | .adr _=>false
 | .tup xs=>isDatas xs
 | .fls xs=>isDatas xs
 | _=>true
noncomputable def isDatas:List PV->Bool
 | []=>true
 | x::r=>zj x && isDatas r
end
theorem xC:∀ (xs ys:List PV),isDatas (xs++ys)=(isDatas xs && isDatas ys)
 | [],ys=>by simp [isDatas]
 | x::r,ys=>by simp [isDatas,xC r ys,Bool.and_assoc]
theorem wf:∀ (xs:List PV),isDatas xs=true ↔ ∀ x ∈ xs,zj x=true
 | []=>by simp [isDatas]
 | x::r=>by simp [isDatas,wf r]
theorem xB{α:Type}(f:α->PV)(h:∀ a,zj (f a)=true)(xs:List α):isDatas (xs.map f)=true:=by
 rw [wf]
 intro x hx
 obtain ⟨a,_,rfl⟩:=Jv.mp hx
 exact h a
theorem zbz(xs:List Int):isDatas [64]=true:=xB _ (fun _=>by simp [zj]) xs
noncomputable def Fz(K:PySem.W.Frag)(H:Hp)(a:Addr)(xs:List V):Prop:=
 (∃ o,H a=some (.frz o (.lst xs)))∨∃ (o:Obj) (its:Array Value) (n:Nat),K.lookup a=some o/\o.cls=.type "list"/\o.dict=none/\o.data=.seq its n/\its.size≤sizeLine/\Vals xs its.toList
theorem Fz.seq{K:PySem.W.Frag}{H:Hp}{a:Addr}{xs:List V}(h:Fz K H a xs):SqL K H a xs:=h.elim (fun z=>.inl (.inr z)) .inr
theorem Fz.same{K:PySem.W.Frag}{H H':Hp}{a:Addr}{xs:List V}(e:Same H H')(h:Fz K H a xs):Fz K H' a xs:=h.elim (fun ⟨o,z⟩=>.inl ⟨o,e _ _ z⟩) .inr
mutual
noncomputable def Rp(K:PySem.W.Frag)(H:Hp):PV->V->List Addr->Prop
 | .non,v,A=>v=.non/\A=[]
 | .bl b,v,A=>v=.bl b/\A=[]
 | .int i,v,A=>v=.int i/\A=[]
 | .str x,v,A=>v=.str x/\A=[]
 | .ty n,v,A=>v=.ty n/\A=[]
 | .any,_,A=>A=[]
 | .pen a ns,v,A=>v=.ref a/\A=[a]/\H a=some (.lst (ns.map V.int))
 | .adr a,v,A=>v=.ref a/\A=[]
 | .tup ps,v,A=>∃ a xs,v=.ref a/\SqT K H a xs/\Rps K H ps xs A
 | .lst ps,v,A=>∃ a xs B,v=.ref a/\H a=some (.lst xs)/\A=a::B/\Rps K H ps xs B
 | .fls ps,v,A=>∃ a xs,v=.ref a/\Fz K H a xs/\Rps K H ps xs A
 | .dct ks ps,v,A=>∃ a xs B,v=.ref a/\H a=some (.dK (ks.zip xs))/\ks.length=ps.length/\A=a::B/\Rps K H ps xs B
noncomputable def Rps(K:PySem.W.Frag)(H:Hp):List PV->List V->List Addr->Prop
 | [],vs,A=>vs=[]/\A=[]
 | p::ps,vs,A=>∃ v r A1 A2,vs=v::r/\A=A1++A2/\Rp K H p v A1/\Rps K H ps r A2
end
section
variable {K:PySem.W.Frag} {H H':Hp}
mutual
theorem Rp.same(e:Same H H'):∀ (p:PV) {v:V} {A:List Addr},Rp K H p v A->Rp K H' p v A
 | .non,_,_,h=>by unfold Rp at h ⊢;exact h
 | .bl _,_,_,h=>by unfold Rp at h ⊢;exact h
 | .int _,_,_,h=>by unfold Rp at h ⊢;exact h
 | .str _,_,_,h=>by unfold Rp at h ⊢;exact h
 | .ty _,_,_,h=>by unfold Rp at h ⊢;exact h
 | .any,_,_,h=>by unfold Rp at h ⊢;exact h
 | .adr _,_,_,h=>by unfold Rp at h ⊢;exact h
 | .pen _ _,_,_,h=>by unfold Rp at h ⊢;exact ⟨h.1,h.2.1,e _ _ h.2.2⟩
 | .tup ps,_,_,h=>by
  unfold Rp at h ⊢
  obtain ⟨a,xs,h1,h2,h3⟩:=h
  exact ⟨a,xs,h1,e.tup h2,Rps.same e ps h3⟩
 | .lst ps,_,_,h=>by
  unfold Rp at h ⊢
  obtain ⟨a,xs,B,h1,h2,h3,h4⟩:=h
  exact ⟨a,xs,B,h1,e _ _ h2,h3,Rps.same e ps h4⟩
 | .fls ps,_,_,h=>by
  unfold Rp at h ⊢
  obtain ⟨a,xs,h1,h2,h3⟩:=h
  exact ⟨a,xs,h1,h2.same e,Rps.same e ps h3⟩
 | .dct ks ps,_,_,h=>by
  unfold Rp at h ⊢
  obtain ⟨a,xs,B,h1,h2,h3,h4,h5⟩:=h
  exact ⟨a,xs,B,h1,e _ _ h2,h3,h4,Rps.same e ps h5⟩
theorem Rps.same(e:Same H H'):∀ (ps:List PV) {vs:List V} {A:List Addr},Rps K H ps vs A->Rps K H' ps vs A
 | [],_,_,h=>by unfold Rps at h ⊢;exact h
 | p::ps,_,_,h=>by
  unfold Rps at h ⊢
  obtain ⟨v,r,A1,A2,h1,h2,h3,h4⟩:=h
  exact ⟨v,r,A1,A2,h1,h2,Rp.same e p h3,Rps.same e ps h4⟩
end
noncomputable def MutH(H:Hp)(a:Addr):Prop:=(∃ xs,H a=some (.lst xs))∨∃ kvs,H a=some (.dK kvs)
theorem MutH.tup{a b:Addr}{xs:List V}{o:HO}(m:MutH H a)(h:SqT K H b xs):SqT K (upd H a o) b xs:=by
 rcases h with (h | ⟨u,h⟩) | h
 ·have:b≠a:=by rintro rfl;rcases m with ⟨_,m⟩ | ⟨_,m⟩<;>(rw [h] at m;cases m)
  exact .inl (.inl (by rw [zb this];exact h))
 ·have:b≠a:=by rintro rfl;rcases m with ⟨_,m⟩ | ⟨_,m⟩<;>(rw [h] at m;cases m)
  exact .inl (.inr ⟨u,by rw [zb this];exact h⟩)
 ·exact .inr h
theorem MutH.fz{a b:Addr}{xs:List V}{o:HO}(m:MutH H a)(h:Fz K H b xs):Fz K (upd H a o) b xs:=by
 rcases h with ⟨u,h⟩ | h
 ·have:b≠a:=by rintro rfl;rcases m with ⟨_,m⟩ | ⟨_,m⟩<;>(rw [h] at m;cases m)
  exact .inl ⟨u,by rw [zb this];exact h⟩
 ·exact .inr h
mutual
theorem Rp.upd{a:Addr}{o:HO}(m:MutH H a):∀ (p:PV) {v:V} {A:List Addr},a ∉ A->Rp K H p v A->Rp K (L2.upd H a o) p v A
 | .non,_,_,_,h=>by unfold Rp at h ⊢;exact h
 | .bl _,_,_,_,h=>by unfold Rp at h ⊢;exact h
 | .int _,_,_,_,h=>by unfold Rp at h ⊢;exact h
 | .str _,_,_,_,h=>by unfold Rp at h ⊢;exact h
 | .ty _,_,_,_,h=>by unfold Rp at h ⊢;exact h
 | .any,_,_,_,h=>by unfold Rp at h ⊢;exact h
 | .adr _,_,_,_,h=>by unfold Rp at h ⊢;exact h
 | .pen b _,_,_,n,h=>by
  unfold Rp at h ⊢
  refine ⟨h.1,h.2.1,?_⟩
  rw [zb (fun z=>n (by rw [h.2.1,z];exact Jg))]
  exact h.2.2
 | .tup ps,_,_,n,h=>by
  unfold Rp at h ⊢
  obtain ⟨b,xs,h1,h2,h3⟩:=h
  exact ⟨b,xs,h1,m.tup h2,Rps.upd m ps n h3⟩
 | .lst ps,_,_,n,h=>by
  unfold Rp at h ⊢
  obtain ⟨b,xs,B,h1,h2,rfl,h4⟩:=h
  have nb:b≠a:=fun z=>n (z ▸ Jg)
  exact ⟨b,xs,B,h1,by rw [zb nb];exact h2,rfl,Rps.upd m ps (fun z=>n (Jf _ z)) h4⟩
 | .fls ps,_,_,n,h=>by
  unfold Rp at h ⊢
  obtain ⟨b,xs,h1,h2,h3⟩:=h
  exact ⟨b,xs,h1,m.fz h2,Rps.upd m ps n h3⟩
 | .dct ks ps,_,_,n,h=>by
  unfold Rp at h ⊢
  obtain ⟨b,xs,B,h1,h2,h3,rfl,h5⟩:=h
  have nb:b≠a:=fun z=>n (z ▸ Jg)
  exact ⟨b,xs,B,h1,by rw [zb nb];exact h2,h3,rfl,Rps.upd m ps (fun z=>n (Jf _ z)) h5⟩
theorem Rps.upd{a:Addr}{o:HO}(m:MutH H a):∀ (ps:List PV) {vs:List V} {A:List Addr},a ∉ A->Rps K H ps vs A->Rps K (L2.upd H a o) ps vs A
 | [],_,_,_,h=>by unfold Rps at h ⊢;exact h
 | p::ps,_,_,n,h=>by
  unfold Rps at h ⊢
  obtain ⟨v,r,A1,A2,h1,rfl,h3,h4⟩:=h
  exact ⟨v,r,A1,A2,h1,rfl,Rp.upd m p (fun z=>n (Jm _ z)) h3,Rps.upd m ps (fun z=>n (Js _ z)) h4⟩
end
mutual
theorem Rp.mut:∀ (p:PV) {v:V} {A:List Addr},Rp K H p v A->∀ a ∈ A,MutH H a
 | .non,_,_,h=>by unfold Rp at h;rw [h.2];simp
 | .bl _,_,_,h=>by unfold Rp at h;rw [h.2];simp
 | .int _,_,_,h=>by unfold Rp at h;rw [h.2];simp
 | .str _,_,_,h=>by unfold Rp at h;rw [h.2];simp
 | .ty _,_,_,h=>by unfold Rp at h;rw [h.2];simp
 | .any,_,_,h=>by unfold Rp at h;rw [h];simp
 | .adr _,_,_,h=>by unfold Rp at h;rw [h.2];simp
 | .pen _ _,_,_,h=>by
  unfold Rp at h
  rw [h.2.1]
  intro b hb
  rw [Jh.mp hb]
  exact .inl ⟨_,h.2.2⟩
 | .tup ps,_,_,h=>by
  unfold Rp at h
  obtain ⟨b,xs,h1,h2,h3⟩:=h
  exact Rps.mut ps h3
 | .lst ps,_,_,h=>by
  unfold Rp at h
  obtain ⟨b,xs,B,h1,h2,rfl,h4⟩:=h
  intro a ha
  rcases List.mem_cons.mp ha with rfl | ha
  ·exact .inl ⟨xs,h2⟩
  ·exact Rps.mut ps h4 a ha
 | .fls ps,_,_,h=>by
  unfold Rp at h
  obtain ⟨b,xs,h1,h2,h3⟩:=h
  exact Rps.mut ps h3
 | .dct ks ps,_,_,h=>by
  unfold Rp at h
  obtain ⟨b,xs,B,h1,h2,h3,rfl,h5⟩:=h
  intro a ha
  rcases List.mem_cons.mp ha with rfl | ha
  ·exact .inr ⟨_,h2⟩
  ·exact Rps.mut ps h5 a ha
theorem Rps.mut:∀ (ps:List PV) {vs:List V} {A:List Addr},Rps K H ps vs A->∀ a ∈ A,MutH H a
 | [],_,_,h=>by unfold Rps at h;rw [h.2];simp
 | p::ps,_,_,h=>by
  unfold Rps at h
  obtain ⟨v,r,A1,A2,h1,rfl,h3,h4⟩:=h
  intro a ha
  rcases List.mem_append.mp ha with ha | ha
  ·exact Rp.mut p h3 a ha
  ·exact Rps.mut ps h4 a ha
end
theorem MutH.same{a:Addr}(h:MutH H a)(s:Same H H'):MutH H' a:=h.elim (fun ⟨x,z⟩=>.inl ⟨x,s _ _ z⟩) fun ⟨x,z⟩=>.inr ⟨x,s _ _ z⟩
theorem MutH.some{a:Addr}(h:MutH H a):∃ o,H a=some o:=by
 rcases h with ⟨_,h⟩ | ⟨_,h⟩<;>exact ⟨_,h⟩
theorem Rp.alloc{p:PV}{v:V}{A:List Addr}(h:Rp K H p v A){a:Addr}(ha:a ∈ A):∃ o,H a=some o:=(Rp.mut p h a ha).some
mutual
theorem Rp.data:∀ (p:PV) {v:V} {A:List Addr},zj p=true->Rp K H p v A->A=[]
 | .non,_,_,_,h=>by unfold Rp at h;exact h.2
 | .bl _,_,_,_,h=>by unfold Rp at h;exact h.2
 | .int _,_,_,_,h=>by unfold Rp at h;exact h.2
 | .str _,_,_,_,h=>by unfold Rp at h;exact h.2
 | .ty _,_,_,_,h=>by unfold Rp at h;exact h.2
 | .any,_,_,_,h=>by unfold Rp at h;exact h
 | .pen _ _,_,_,d,_=>by simp [zj] at d
 | .adr _,_,_,d,_=>by simp [zj] at d
 | .tup ps,_,_,d,h=>by
  unfold Rp at h
  unfold zj at d
  obtain ⟨b,xs,h1,h2,h3⟩:=h
  exact Rps.data ps d h3
 | .lst ps,_,_,d,h=>by simp [zj] at d
 | .fls ps,_,_,d,h=>by
  unfold Rp at h
  unfold zj at d
  obtain ⟨b,xs,h1,h2,h3⟩:=h
  exact Rps.data ps d h3
 | .dct ks ps,_,_,d,h=>by simp [zj] at d
theorem Rps.data:∀ (ps:List PV) {vs:List V} {A:List Addr},isDatas ps=true->Rps K H ps vs A->A=[]
 | [],_,_,_,h=>by unfold Rps at h;exact h.2
 | p::ps,_,_,d,h=>by
  unfold Rps at h
  unfold isDatas at d
  rw [JO] at d
  obtain ⟨v,r,A1,A2,h1,h2,h3,h4⟩:=h
  rw [h2,Rp.data p d.1 h3,Rps.data ps d.2 h4];rfl
end
theorem Rps.length:∀ {ps:List PV} {vs:List V} {A:List Addr},Rps K H ps vs A->ps.length=vs.length
 | [],_,_,h=>by unfold Rps at h;rw [h.1];rfl
 | p::ps,_,_,h=>by
  unfold Rps at h
  obtain ⟨v,r,A1,A2,h1,h2,h3,h4⟩:=h
  rw [h1,JD,JD,Rps.length h4]
theorem Rps.get:∀ {ps:List PV} {vs:List V} {A:List Addr} {i:Nat} {p:PV},Rps K H ps vs A->ps[i]?=some p->∃ v C,vs[i]?=some v/\Rp K H p v C/\C.Sublist A
 | [],_,_,_,_,_,e=>by simp at e
 | q::ps,_,_,0,p,h,e=>by
  unfold Rps at h
  obtain ⟨v,r,A1,A2,h1,h2,h3,h4⟩:=h
  simp at e
  subst e
  exact ⟨v,A1,by rw [h1];rfl,h3,by rw [h2];exact List.sublist_append_left _ _⟩
 | q::ps,_,_,i+1,p,h,e=>by
  unfold Rps at h
  obtain ⟨v,r,A1,A2,h1,h2,h3,h4⟩:=h
  obtain ⟨w,C,g1,g2,g3⟩:=Rps.get (i:=i) h4 (by simpa using e)
  exact ⟨w,C,by rw [h1];simpa using g1,g2,by rw [h2];exact g3.trans (List.sublist_append_right _ _)⟩
theorem Rps.append:∀ {ps qs:List PV} {vs ws:List V} {A B:List Addr},Rps K H ps vs A->Rps K H qs ws B->Rps K H (ps++qs) (vs++ws) (A++B)
 | [],_,_,_,_,_,h,h'=>by unfold Rps at h;rw [h.1,h.2];exact h'
 | p::ps,qs,_,ws,_,B,h,h'=>by
  unfold Rps at h
  obtain ⟨v,r,A1,A2,h1,h2,h3,h4⟩:=h
  show Rps K H (p::(ps++qs)) _ _
  unfold Rps
  exact ⟨v,r++ws,A1,A2++B,by rw [h1];rfl,by rw [h2,JC],h3,Rps.append h4 h'⟩
theorem Rps.nil:Rps K H [] [] []:=by unfold Rps;exact ⟨rfl,rfl⟩
theorem Rps.cons{p:PV}{ps:List PV}{v:V}{vs:List V}{A B:List Addr}(h:Rp K H p v A)(h':Rps K H ps vs B):Rps K H (p::ps) (v::vs) (A++B):=by
 unfold Rps;exact ⟨v,vs,A,B,rfl,rfl,h,h'⟩
theorem Rps.one{p:PV}{v:V}{A:List Addr}(h:Rp K H p v A):Rps K H [p] [v] A:=by
 have:=Rps.cons h (Rps.nil (K:=K) (H:=H))
 rwa [Kk] at this
theorem Rps.inv{p:PV}{ps:List PV}{vs:List V}{A:List Addr}(h:Rps K H (p::ps) vs A):∃ v r A1 A2,vs=v::r/\A=A1++A2/\Rp K H p v A1/\Rps K H ps r A2:=by
 unfold Rps at h;exact h
theorem Rps.inv0{vs:List V}{A:List Addr}(h:Rps K H [] vs A):vs=[]/\A=[]:=by unfold Rps at h;exact h
theorem Rps.split:∀ {ps qs:List PV} {vs:List V} {A:List Addr},Rps K H (ps++qs) vs A->∃ v1 v2 A1 A2,vs=v1++v2/\A=A1++A2/\Rps K H ps v1 A1/\Rps K H qs v2 A2
 | [],qs,vs,A,h=>⟨[],vs,[],A,rfl,rfl,.nil,h⟩
 | p::ps,qs,vs,A,h=>by
  obtain ⟨v,r,A1,A2,h1,h2,h3,h4⟩:=Rps.inv (show Rps K H (p::(ps++qs)) vs A from h)
  obtain ⟨v1,v2,B1,B2,g1,g2,g3,g4⟩:=Rps.split h4
  exact ⟨v::v1,v2,A1++B1,B2,by rw [h1,g1];rfl,by rw [h2,g2,JC],.cons h3 g3,g4⟩
theorem Rp.mkI(i:Int):Rp K H [87] [87] []:=by unfold Rp;exact ⟨rfl,rfl⟩
theorem Rp.mkB(b:Bool):Rp K H (.bl b) (.bl b) []:=by unfold Rp;exact ⟨rfl,rfl⟩
theorem Rp.mkS(x:Str):Rp K H (.str x) (.str x) []:=by unfold Rp;exact ⟨rfl,rfl⟩
theorem Rp.mkN:Rp K H .non .non []:=by unfold Rp;exact ⟨rfl,rfl⟩
theorem Rp.mkTy(n:String):Rp K H (.ty n) (.ty n) []:=by unfold Rp;exact ⟨rfl,rfl⟩
theorem Rp.mkT{a:Addr}{ps:List PV}{xs:List V}{A:List Addr}(h:SqT K H a xs)(r:Rps K H ps xs A):Rp K H (.tup ps) [67] A:=by unfold Rp;exact ⟨a,xs,rfl,h,r⟩
theorem Rp.mkL{a:Addr}{ps:List PV}{xs:List V}{A:List Addr}(h:H a=some (.lst xs))(r:Rps K H ps xs A):Rp K H (.lst ps) [67] (a::A):=by unfold Rp;exact ⟨a,xs,A,rfl,h,rfl,r⟩
theorem Rp.mkD{a:Addr}{ks:List Key}{ps:List PV}{xs:List V}{A:List Addr}(h:H a=some (.dK (ks.zip xs)))(l:ks.length=ps.length)(r:Rps K H ps xs A):Rp K H (.dct ks ps) [67] (a::A):=by unfold Rp;exact ⟨a,xs,A,rfl,h,l,rfl,r⟩
theorem Rp.I{i:Int}{v:V}{A:List Addr}(h:Rp K H [87] v A):v=.int i/\A=[]:=by unfold Rp at h;exact h
theorem Rp.B{i:Bool}{v:V}{A:List Addr}(h:Rp K H (.bl i) v A):v=.bl i/\A=[]:=by unfold Rp at h;exact h
theorem Rp.S{i:Str}{v:V}{A:List Addr}(h:Rp K H (.str i) v A):v=.str i/\A=[]:=by unfold Rp at h;exact h
theorem Rp.N{v:V}{A:List Addr}(h:Rp K H .non v A):v=.non/\A=[]:=by unfold Rp at h;exact h
theorem Rp.Ty{n:String}{v:V}{A:List Addr}(h:Rp K H (.ty n) v A):v=.ty n/\A=[]:=by unfold Rp at h;exact h
theorem Rp.T{ps:List PV}{v:V}{A:List Addr}(h:Rp K H (.tup ps) v A):∃ a xs,v=.ref a/\SqT K H a xs/\Rps K H ps xs A:=by unfold Rp at h;exact h
theorem Rp.L{ps:List PV}{v:V}{A:List Addr}(h:Rp K H (.lst ps) v A):∃ a xs B,v=.ref a/\H a=some (.lst xs)/\A=a::B/\Rps K H ps xs B:=by unfold Rp at h;exact h
theorem Rp.Ad{a:Addr}{v:V}{A:List Addr}(h:Rp K H (.adr a) v A):v=.ref a/\A=[]:=by unfold Rp at h;exact h
theorem Rp.P{a:Addr}{ns:List Int}{v:V}{A:List Addr}(h:Rp K H (.pen a ns) v A):v=.ref a/\A=[a]/\H a=some (.lst (ns.map V.int)):=by unfold Rp at h;exact h
theorem Rp.Fl{ps:List PV}{v:V}{A:List Addr}(h:Rp K H (.fls ps) v A):∃ a xs,v=.ref a/\Fz K H a xs/\Rps K H ps xs A:=by unfold Rp at h;exact h
theorem Rp.D{ks:List Key}{ps:List PV}{v:V}{A:List Addr}(h:Rp K H (.dct ks ps) v A):∃ a xs B,v=.ref a/\H a=some (.dK (ks.zip xs))/\ks.length=ps.length/\A=a::B/\Rps K H ps xs B:=by unfold Rp at h;exact h
end
structure VI (K:PySem.W.Frag) (κ:Nat->Option Nat) (G:Hp) (own:Addr->Option Nat) (env:En) (σ:St) (H:Hp):Prop where
 len:env.length=σ.length
 slot:∀ i p,env[i]?=some (some p)->∃ v A,σ[i]?=some (some v)/\Rp K H p v A/\(κ i=none->∀ a ∈ A,own a=none)/\∀ l,κ i=some l->A.Nodup/\∀ a ∈ A,own a=some l
 own:∀ a l,own a=some l->G a=none/\MutH H a
 same:Same G H
theorem VI.grow{K:PySem.W.Frag}{κ:Nat->Option Nat}{G:Hp}{own:Addr->Option Nat}{env:En}{σ:St}{H H':Hp}(I:VI K κ G own env σ H)(s:Same H H'):VI K κ G own env σ H':=
 ⟨I.len,fun i p e=>let ⟨v,A,h1,h2,h3⟩:=I.slot i p e;⟨v,A,h1,Rp.same s p h2,h3⟩,fun a l e=>let ⟨h1,h2⟩:=I.own a l e;⟨h1,h2.same s⟩,I.same.trans s⟩
noncomputable def Ext(own:Addr->Option Nat)(H:Hp)(own':Addr->Option Nat)(H':Hp):Prop:=∀ b o,own b=none->H b=some o->own' b=none/\H' b=some o
theorem Ext.refl(own:Addr->Option Nat)(H:Hp):Ext own H own H:=fun _ _ h e=>⟨h,e⟩
theorem Ext.trans{o1 o2 o3:Addr->Option Nat}{H1 H2 H3:Hp}(a:Ext o1 H1 o2 H2)(b:Ext o2 H2 o3 H3):Ext o1 H1 o3 H3:=fun x o h e=>let ⟨h',e'⟩:=a x o h e;b x o h' e'
theorem Ext.grow{own:Addr->Option Nat}{H H':Hp}(s:Same H H'):Ext own H own H':=fun b o h e=>⟨h,s b o e⟩
inductive Cat where
 | mv (L:List Nat) | sh | bo
noncomputable def Cat.ok:Cat->Hp->(Addr->Option Nat)->List Addr->Prop
 | .mv L,H,own,A=>A.Nodup/\∀ a ∈ A,H a=none∨∃ l ∈ L,own a=some l
 | .sh,_,own,A=>∀ a ∈ A,own a=none
 | .bo,_,_,_=>True
theorem Cat.nil(c:Cat)(H:Hp)(own:Addr->Option Nat):c.ok H own []:=by
 cases c with
 | mv L=>exact ⟨.nil,by simp⟩
 | sh=>show ∀ a ∈ [],own a=none;simp
 | bo=>trivial
noncomputable def tV(K:PySem.W.Frag)(κ:Nat->Option Nat)(G:Hp)(c:Cat)(f:FE):TE:=fun σ H Q=>∃ own env p,VI K κ G own env σ H/\f env=some p/\∀ v H' A,Same H H'->Rp K H' p v A->c.ok H own A->Q v H'
noncomputable def tVT(K:PySem.W.Frag)(κ:Nat->Option Nat)(G:Hp)(f:FT):TT:=fun σ H Q=>∃ own env b,VI K κ G own env σ H/\f env=some b/\∀ H',Same H H'->Q b H'
noncomputable def tVA(K:PySem.W.Frag)(κ:Nat->Option Nat)(G:Hp)(c:Cat)(f:FA):TA:=fun σ H Q=>∃ own env ps,VI K κ G own env σ H/\f env=some ps/\∀ vs H' A,Same H H'->Rps K H' ps vs A->c.ok H own A->Q vs H'
theorem tV.in{K:PySem.W.Frag}{κ:Nat->Option Nat}{G:Hp}{c:Cat}{f:FE}{σ:St}{H:Hp}{Q:VK}{own:Addr->Option Nat}{env:En}{p:PV}(I:VI K κ G own env σ H)(hf:f env=some p)(k:∀ v H' A,Same H H'->Rp K H' p v A->c.ok H own A->Q v H'):tV K κ G c f σ H Q:=⟨own,env,p,I,hf,k⟩
theorem tV.elim{K:PySem.W.Frag}{κ:Nat->Option Nat}{G:Hp}{c:Cat}{f:FE}{σ:St}{H:Hp}{Q:VK}{C:Prop}(h:tV K κ G c f σ H Q)(k:∀ own env (p:PV),VI K κ G own env σ H->f env=some p->(∀ v H' A,Same H H'->Rp K H' p v A->c.ok H own A->Q v H')->C):C:=
 let ⟨own,env,p,I,hf,q⟩:=h
 k own env p I hf q
theorem tVT.in{K:PySem.W.Frag}{κ:Nat->Option Nat}{G:Hp}{f:FT}{σ:St}{H:Hp}{Q:Bool->Hp->Prop}{own:Addr->Option Nat}{env:En}{p:Bool}(I:VI K κ G own env σ H)(hf:f env=some p)(k:∀ H',Same H H'->Q p H'):tVT K κ G f σ H Q:=⟨own,env,p,I,hf,k⟩
theorem tVT.elim{K:PySem.W.Frag}{κ:Nat->Option Nat}{G:Hp}{f:FT}{σ:St}{H:Hp}{Q:Bool->Hp->Prop}{C:Prop}(h:tVT K κ G f σ H Q)(k:∀ own env (p:Bool),VI K κ G own env σ H->f env=some p->(∀ H',Same H H'->Q p H')->C):C:=
 let ⟨own,env,p,I,hf,q⟩:=h
 k own env p I hf q
theorem tVA.in{K:PySem.W.Frag}{κ:Nat->Option Nat}{G:Hp}{c:Cat}{f:FA}{σ:St}{H:Hp}{Q:List V->Hp->Prop}{own:Addr->Option Nat}{env:En}{p:List PV}(I:VI K κ G own env σ H)(hf:f env=some p)(k:∀ vs H' A,Same H H'->Rps K H' p vs A->c.ok H own A->Q vs H'):tVA K κ G c f σ H Q:=⟨own,env,p,I,hf,k⟩
theorem tVA.elim{K:PySem.W.Frag}{κ:Nat->Option Nat}{G:Hp}{c:Cat}{f:FA}{σ:St}{H:Hp}{Q:List V->Hp->Prop}{C:Prop}(h:tVA K κ G c f σ H Q)(k:∀ own env (p:List PV),VI K κ G own env σ H->f env=some p->(∀ vs H' A,Same H H'->Rps K H' p vs A->c.ok H own A->Q vs H')->C):C:=
 let ⟨own,env,p,I,hf,q⟩:=h
 k own env p I hf q
noncomputable def VE(X:Cx)(κ:Nat->Option Nat)(G:Hp)(c:Cat)(e:Expr)(f:FE):Prop:=PE X e (tV X.K κ G c f)
noncomputable def VT(X:Cx)(κ:Nat->Option Nat)(G:Hp)(e:Expr)(f:FT):Prop:=PT X e (tVT X.K κ G f)
noncomputable def VW(X:Cx)(κ:Nat->Option Nat)(G:Hp)(e:Expr)(f:FT):Prop:=PW X e (tVT X.K κ G f)
noncomputable def VA(X:Cx)(κ:Nat->Option Nat)(G:Hp)(c:Cat)(es:List Expr)(f:FA):Prop:=PA X es (tVA X.K κ G c f)/\∀ env ps,f env=some ps->ps.length=es.length
end F
namespace L2
theorem PE.imp{X:Cx}{e:PySem.Expr}{t t':TE}(h:PE X e t)(i:∀ σ H Q,t' σ H Q->t σ H Q):PE X e t':=fun pins s σ H Q I hw=>h pins s σ H Q I (i _ _ _ hw)
theorem PT.imp{X:Cx}{e:PySem.Expr}{t t':TT}(h:PT X e t)(i:∀ σ H Q,t' σ H Q->t σ H Q):PT X e t':=fun pins s σ H Q I hw=>h pins s σ H Q I (i _ _ _ hw)
theorem PW.imp{X:Cx}{e:PySem.Expr}{t t':TT}(h:PW X e t)(i:∀ σ H Q,t' σ H Q->t σ H Q):PW X e t':=fun wh pins s σ H Q I hw=>h wh pins s σ H Q I (i _ _ _ hw)
theorem PA.imp{X:Cx}{e:List PySem.Expr}{t t':TA}(h:PA X e t)(i:∀ σ H Q,t' σ H Q->t σ H Q):PA X e t':=fun pos pins s σ H Q I hw=>h pos pins s σ H Q I (i _ _ _ hw)
theorem PS.imp{X:Cx}{e:PySem.Stmt}{t t':TS}(h:PS X e t)(i:∀ D σ H,t' D σ H->t D σ H):PS X e t':=fun pins s σ H D I hw=>h pins s σ H D I (i _ _ _ hw)
theorem PSs.imp{X:Cx}{e:List PySem.Stmt}{t t':TS}(h:PSs X e t)(i:∀ D σ H,t' D σ H->t D σ H):PSs X e t':=fun pins s σ H D I hw=>h pins s σ H D I (i _ _ _ hw)
end L2
namespace F
open PySem PySem.Spec PyProof.Rows L2
noncomputable def yC:PV->Option Bool
 | .bl b=>some b
 | _=>none
noncomputable def zA(i:Nat):FE:=fun env=>(env[i]?).join
noncomputable def fC(p:PV):FE:=fun _=>some p
noncomputable def fOp(g:PV->PV->Option PV)(fa fb:FE):FE:=fun env=>(fa env).bind fun x=>(fb env).bind fun y=>g x y
noncomputable def fUn(g:PV->Option PV)(fa:FE):FE:=fun env=>(fa env).bind g
noncomputable def z7(f:FE):FE:=fun env=>(f env).bind fun p=>if zj p=true then some p else none
noncomputable def fT(f:FE):FT:=fun env=>(f env).bind yC
noncomputable def zhW(t u:FT):FT:=fun env=>(t env).bind fun b=>if b=true then u env else some false
noncomputable def fOr(t u:FT):FT:=fun env=>(t env).bind fun b=>if b=true then some true else u env
noncomputable def j9(t:FT):FT:=fun env=>(t env).map fun b=>!b
noncomputable def fIf(t:FT)(a b:FE):FE:=fun env=>(t env).bind fun c=>if c=true then a env else b env
noncomputable def zJ:FA:=fun _=>some []
noncomputable def zC(f:FE)(r:FA):FA:=fun env=>(f env).bind fun p=>(r env).map fun ps=>p::ps
noncomputable def vH(f:FA):FE:=fun env=>(f env).map .tup
noncomputable def xU(f:FA):FE:=fun env=>(f env).map .lst
noncomputable def zI(Φ:List PV->Option PV)(f:FA):FE:=fun env=>(f env).bind Φ
section
variable {X:Cx} {κ:Nat->Option Nat} {G:Hp} {c c1 c2:Cat} {a b e:Expr} {es:List Expr} {fa fb f:FE} {t u:FT} {fs:FA} {pos:Pos}
theorem jY{K:PySem.W.Frag}{own:Addr->Option Nat}{env:En}{σ:St}{H:Hp}{A:List Addr}(I:VI K κ G own env σ H)(h:∀ a ∈ A,H a=none):∀ a ∈ A,own a=none:=fun a ha=>by
 cases e:own a with
 | none=>rfl
 | some l=>obtain ⟨_,m⟩:=I.own a l e;obtain ⟨o,h'⟩:=m.some;rw [h a ha] at h';cases h'
theorem VE.sh(h:VE X κ G [33] e f):VE X κ G .sh e f:=PE.imp h fun σ H Q ⟨own,env,p,I,hf,k⟩=>by
 exact (.in I hf fun v H' A s r hc=>k v H' A s r (jY I fun a ha=>(hc.2 a ha).elim id fun ⟨_,hl,_⟩=>nomatch hl))
theorem VE.data(h:VE X κ G c e f)(L:Cat):VE X κ G L e (z7 f):=PE.imp h fun σ H Q ⟨own,env,p,I,hf,k⟩=>by
 unfold z7 at hf
 cases hq:f env with
 | none=>rw [hq] at hf;cases hf
 | some q=>
  rw [hq] at hf
  dsimp only [Option.bind_some] at hf
  split at hf
  ·rename_i hd
   cases hf
   refine (.in I hq fun v H' A s r hc=>k v H' A s r ?_)
   rw [Rp.data p hd r]
   exact Cat.nil _ _ _
  ·cases hf
theorem zB (i : Nat) {x : Str} (hk : κ i = none) (h : PE X (.Name x pos) (uY i)) : VE X κ G .sh (.Name x pos) (zA i) := h.imp fun σ H Q hq_ => by
  refine hq_.elim fun own env p I hf k => ?_
  have e : env[i]? = some (some p) := by
    unfold zA at hf
    cases q : env[i]? with
    | none => rw [q] at hf; cases hf
    | some z => rw [q] at hf; have : z = some p := by simpa using hf
                rw [this]
  obtain ⟨v, A, h1, h2, h3, _⟩ := I.slot i p e
  exact ⟨v, h1, k v H A [30] h2 (h3 hk)⟩
theorem xN (i : Nat) {x : Str} (h : PE X (.Name x pos) (uY i)) : VE X κ G .bo (.Name x pos) (zA i) := h.imp fun σ H Q hq_ => by
  refine hq_.elim fun own env p I hf k => ?_
  have e : env[i]? = some (some p) := by
    unfold zA at hf
    cases q : env[i]? with
    | none => rw [q] at hf; cases hf
    | some z => rw [q] at hf; have : z = some p := by simpa using hf
                rw [this]
  obtain ⟨v, A, h1, h2, h3, _⟩ := I.slot i p e
  exact ⟨v, h1, k v H A [30] h2 trivial⟩
theorem k8 (i : Nat) {l : Nat} {x : Str} (hk : κ i = some l) (h : PE X (.Name x pos) (uY i)) : VE X κ G (.mv [l]) (.Name x pos) (zA i) := h.imp fun σ H Q hq_ => by
  refine hq_.elim fun own env p I hf k => ?_
  have e : env[i]? = some (some p) := by
    unfold zA at hf
    cases q : env[i]? with
    | none => rw [q] at hf; cases hf
    | some z => rw [q] at hf; have : z = some p := by simpa using hf
                rw [this]
  obtain ⟨v, A, h1, h2, _, h3⟩ := I.slot i p e
  exact ⟨v, h1, k v H A [30] h2 ⟨(h3 l hk).1, fun a ha => .inr ⟨l, Jh.mpr rfl, (h3 l hk).2 a ha⟩⟩⟩
theorem zcc{p:PV}{v:V}(hp:∀ K H,Rp K H p v [])(h:PE X e (tC v)):VE X κ G c e (fC p):=h.imp fun σ H Q hq_=>by
 refine hq_.elim fun own env q I hf k=>?_
 cases hf
 exact k v H [] [30] (hp _ _) (Cat.nil _ _ _)
theorem zG{i j}:VE X κ G [33] (.Constant [87] j pos) (fC [87]):=zcc (fun _ _=>.mkI i) zhe
theorem vB{i j}:VE X κ G [33] (.Constant (.bool i) j pos) (fC (.bl i)):=zcc (fun _ _=>.mkB i) zmu
theorem zdl{j}:VE X κ G [33] (.Constant .none j pos) (fC .non):=zcc (fun _ _=>.mkN) zli
theorem wg{i j}:VE X κ G [33] (.Constant (.str i) j pos) (fC (.str i)):=zcc (fun _ _=>.mkS i) zlh
noncomputable def OpV(K:PySem.W.Frag)(r:R2)(g:PV->PV->Option PV):Prop:=∀ (H:Hp) (p q:PV) (x y:V) (A B:List Addr) (z:PV) (Q:VK),Rp K H p x A->Rp K H q y B->g p q=some z->
 (∀ v H' C,Same H H'->Rp K H' z v C->C.Nodup->(∀ a ∈ C,H a=none)->Q v H')->r x y H Q
theorem zgz{K:PySem.W.Frag}{r:R2}{g:PV->PV->Option PV}(hv:OpV K r g)(σ:St)(H:Hp)(Q:VK)(h:tV K κ G [33] (fOp g fa fb) σ H Q):tOp r (tV K κ G c1 fa) (tV K κ G c2 fb) σ H Q:=by
 obtain ⟨own,env,z,I,e,k⟩:=h
 unfold fOp at e
 replace e:=Ja.mp e;obtain ⟨p,hp,e⟩:=e
 replace e:=Ja.mp e;obtain ⟨q,hq,e⟩:=e
 refine (.in I hp fun x H1 A s1 r1 _=>(.in (I.grow s1) hq fun y H2 B s2 r2 _=>?_))
 exact hv H2 p q x y A B z Q (Rp.same s2 p r1) r2 e fun v H' C s3 r3 nd fr=>k v H' C (s1.trans (s2.trans s3)) r3 ⟨nd,fun a ha=>.inl ([79].free (fr a ha))⟩
theorem zR{op:Operator}{r:R2}{g:PV->PV->Option PV}(ho:OpR X (binaryOp op) r)(hv:OpV X.K r g)(ha:VE X κ G c1 a fa)(hb:VE X κ G c2 b fb):VE X κ G [33] (.BinOp a op b pos) (fOp g fa fb):=
 (zmr ho ha hb).imp (zgz hv)
theorem zcg{te:TE}(h:∀ σ H Q,tV X.K κ G [33] f σ H Q->te σ H Q)(σ:St)(H:Hp)(Q:Bool->Hp->Prop)(hq:tVT X.K κ G (fT f) σ H Q):zgy te σ H Q:=by
 obtain ⟨own,env,b,I,e,k⟩:=hq
 unfold fT at e
 replace e:=Ja.mp e;obtain ⟨p,hp,e⟩:=e
 cases p<;>first | cases e | skip
 refine h _ _ _ (.in I hp fun v H' A s r _=>?_)
 exact ⟨_,r.B.1,k H' s⟩
theorem zY{op:CmpOp}{r:R2}{g:PV->PV->Option PV}(ho:OpR X (compareOp op) r)(hv:OpV X.K r g)(ha:VE X κ G c1 a fa)(hb:VE X κ G c2 b fb)(hm:behindInMarks op b=false):VT X κ G (.Compare a [op] [b] pos) (fT (fOp g fa fb)):=
 (ziZ ho ha hb hm).imp (zcg (zgz hv))
noncomputable def kC(g g':PV->PV->Option PV)(fa fb fc:FE):FE:=fun env=>(fa env).bind fun x=>(fb env).bind fun y=>(g x y).bind fun z=>(yC z).bind fun k=>if k=true then (fc env).bind fun w=>g' y w else some (.bl false)
theorem zfo{K:PySem.W.Frag}{r r':R2}{g g':PV->PV->Option PV}{fc:FE}{c3:Cat}(hv:OpV K r g)(hv':OpV K r' g')(σ:St)(H:Hp)(Q:VK)(h:tV K κ G [33] (kC g g' fa fb fc) σ H Q):zgC r r' (tV K κ G c1 fa) (tV K κ G c2 fb) (tV K κ G c3 fc) σ H Q:=by
 obtain ⟨own,env,z,I,e,k⟩:=h
 unfold kC at e
 replace e:=Ja.mp e;obtain ⟨p,hp,e⟩:=e
 replace e:=Ja.mp e;obtain ⟨q,hq,e⟩:=e
 replace e:=Ja.mp e;obtain ⟨d,hg,e⟩:=e
 cases d<;>first | cases e | skip
 rename_i kb
 rw [show yC (.bl kb)=some kb from rfl,Jc] at e
 refine (.in I hp fun x H1 A s1 r1 _=>(.in (I.grow s1) hq fun y H2 B s2 r2 _=>?_))
 refine hv H2 p q x y A B _ _ (Rp.same s2 p r1) r2 hg fun v H3 C s3 r3 nd fr=>⟨kb,r3.B.1,?_⟩
 cases kb with
 | false=>
  cases e
  exact ite_ff (k _ _ [] (s1.trans (s2.trans s3)) (.mkB false) (Cat.nil _ _ _))
 | true=>
  simp only [if_true] at e
  replace e:=Ja.mp e;obtain ⟨w,hc,e⟩:=e
  refine ite_tt ⟨own,env,w,I.grow (s1.trans (s2.trans s3)),hc,fun y' H4 C' s4 r4 _=>?_⟩
  exact hv' H4 q w y y' B C' z Q (Rp.same (s3.trans s4) q r2) r4 e fun v H' C s5 r5 nd fr=>k v H' C (s1.trans (s2.trans (s3.trans (s4.trans s5)))) r5 ⟨nd,fun a ha=>.inl ((s1.trans (s2.trans (s3.trans s4))).free (fr a ha))⟩
theorem zgm{op op':CmpOp}{r r':R2}{g g':PV->PV->Option PV}{cc:Expr}{fc:FE}{c3:Cat}(ho:OpR X (compareOp op) r)(ho':OpR X (compareOp op') r')(hv:OpV X.K r g)(hv':OpV X.K r' g')(ha:VE X κ G c1 a fa)(hb:VE X κ G c2 b fb)(hc:VE X κ G c3 cc fc)
  (hm:lastMarks [op,op'] [b,cc]=false:=by with_unfolding_all rfl):VT X κ G (.Compare a [op,op'] [b,cc] pos) (fT (kC g g' fa fb fc)):=(zgT ho ho' ha hb hc hm).imp (zcg (zfo hv hv'))
noncomputable def UnV(K:PySem.W.Frag)(r:V->Hp->VK->Prop)(g:PV->Option PV):Prop:=∀ (H:Hp) (p:PV) (x:V) (A:List Addr) (z:PV) (Q:VK),Rp K H p x A->g p=some z->(∀ v H' C,Same H H'->Rp K H' z v C->C.Nodup->(∀ a ∈ C,H a=none)->Q v H')->r x H Q
theorem zlX{op:UnaryOp}{r:V->Hp->VK->Prop}{g:PV->Option PV}(ho:UnR X (unaryOp op) r)(hv:UnV X.K r g)(ha:VE X κ G c a fa):VE X κ G [33] (.UnaryOp op a pos) (fUn g fa):=(zmq ho ha).imp fun σ H Q hq_=>by
 refine hq_.elim fun own env z I e k=>?_
 unfold fUn at e
 replace e:=Ja.mp e;obtain ⟨p,hp,e⟩:=e
 exact (.in I hp fun x H1 A s1 r1 _=>hv H1 p x A z Q r1 e fun v H' C s2 r2 nd fr=>k v H' C [79] r2 ⟨nd,fun a ha=>.inl (s1.free (fr a ha))⟩)
theorem k6(h:VT X κ G a t):VT X κ G (.UnaryOp .Not a pos) (j9 t):=(zkY h).imp fun σ H Q hq_=>by
 refine hq_.elim fun own env b I e k=>?_
 unfold j9 at e
 cases hp:t env with
 | none=>rw [hp] at e;cases e
 | some p=>rw [hp] at e;cases e;exact ⟨own,env,p,I,hp,k⟩
theorem ziz(h:VT X κ G a t):VW X κ G (.BoolOp .And [a] pos) t:=ziU h
theorem zba(h:VT X κ G a t):VW X κ G (.BoolOp .Or [a] pos) t:=zkV h
theorem zkA{rest:List Expr}(h:VT X κ G a t)(h2:VW X κ G (.BoolOp .And (b::rest) pos) u):VW X κ G (.BoolOp .And (a::b::rest) pos) (zhW t u):=(zkW h h2).imp fun σ H Q hq_=>by
 refine hq_.elim fun own env z I e k=>?_
 unfold zhW at e
 replace e:=Ja.mp e;obtain ⟨p,hp,e⟩:=e
 refine (.in I hp fun H1 s1=>?_)
 cases p with
 | true=>exact ite_tt (.in (I.grow s1) (by simpa using e) fun H' s2=>k H' [79])
 | false=>cases e;exact ite_ff (k H1 s1)
theorem kF{rest:List Expr}(h:VT X κ G a t)(h2:VW X κ G (.BoolOp .Or (b::rest) pos) u):VW X κ G (.BoolOp .Or (a::b::rest) pos) (fOr t u):=(zmo h h2).imp fun σ H Q hq_=>by
 refine hq_.elim fun own env z I e k=>?_
 unfold fOr at e
 replace e:=Ja.mp e;obtain ⟨p,hp,e⟩:=e
 refine (.in I hp fun H1 s1=>?_)
 cases p with
 | false=>exact ite_ff (.in (I.grow s1) (by simpa using e) fun H' s2=>k H' [79])
 | true=>cases e;exact ite_tt (k H1 s1)
theorem VW.vt(h:VW X κ G e t):VT X κ G e t:=PW.pt h
noncomputable def zmT(fa fb:FE):FE:=fun env=>(fa env).bind fun x=>(yC x).bind fun k=>if k=true then fb env else some (.bl false)
noncomputable def znY(fa fb:FE):FE:=fun env=>(fa env).bind fun x=>(yC x).bind fun k=>if k=true then some (.bl true) else fb env
noncomputable def zmR(fa:FE):FE:=fun env=>(fa env).bind fun x=>(yC x).map fun k=>.bl (!k)
theorem Cat.back{L:List Nat}{H H1:Hp}{own:Addr->Option Nat}{A:List Addr}(c:Cat)(s:Same H H1)(h:c.ok H1 own A):c.ok H own A:=by
 cases c with
 | mv L=>exact ⟨h.1,fun a ha=>(h.2 a ha).elim (fun z=>.inl (s.free z)) .inr⟩
 | sh=>exact h
 | bo=>trivial
theorem zgp{cc:Expr}(hc:VT X κ G cc t)(ha:VE X κ G c a fa)(hb:VE X κ G c b fb):VE X κ G c (.IfExp cc a b pos) (fIf t fa fb):=(zhf hc ha hb).imp fun σ H Q hq_=>by
 refine hq_.elim fun own env z I e k=>?_
 unfold fIf at e
 replace e:=Ja.mp e;obtain ⟨p,hp,e⟩:=e
 refine (.in I hp fun H1 s1=>?_)
 cases p with
 | true=>exact ite_tt (.in (I.grow s1) (by simpa using e) fun v H' A s2 r2 h=>k v H' A [79] r2 (Cat.back (L:=[]) c s1 h))
 | false=>exact ite_ff (.in (I.grow s1) (by simpa using e) fun v H' A s2 r2 h=>k v H' A [79] r2 (Cat.back (L:=[]) c s1 h))
theorem zD:VA X κ G c [] zJ:=⟨pa_nil.imp fun σ H Q hq_=>by
 refine hq_.elim fun own env ps I e k=>?_
 cases e
 exact k [] H [] [30] .nil (Cat.nil _ _ _),fun env ps e=>by cases e;rfl⟩
theorem vn{env:En}{ps:List PV}(e:zC f fs env=some ps):∃ p r,f env=some p/\fs env=some r/\ps=p::r:=by
 unfold zC at e
 replace e:=Ja.mp e;obtain ⟨p,hp,e⟩:=e
 cases hr:fs env with
 | none=>rw [hr] at e;cases e
 | some r=>rw [hr] at e;cases e;exact ⟨p,r,hp,rfl,rfl⟩
theorem kB(hr:∀ env ps,fs env=some ps->ps.length=es.length):∀ env ps,zC f fs env=some ps->ps.length=(e::es).length:=fun env ps hf=>by
 obtain ⟨p,r,_,h2,rfl⟩:=vn hf
 rw [JD,JD,hr env r h2]
theorem zE(h:VE X κ G c1 e f)(hr:VA X κ G .bo es fs)(hs:starEach (e::es) X.env=[41]::starEach es X.env:=by rfl):VA X κ G .bo (e::es) (zC f fs):=⟨(yR h hr.1 hs).imp fun σ H Q hq_=>by
 refine hq_.elim fun own env ps I hf k=>?_
 obtain ⟨p,r,h1,h2,rfl⟩:=vn hf
 exact (.in I h1 fun v H1 A s1 r1 _=>(.in (I.grow s1) h2 fun vs H2 B s2 r2 _=>k _ H2 (A++B) [79] (.cons (Rp.same s2 p r1) r2) trivial)),kB hr.2⟩
theorem jI(h:VE X κ G .sh e f)(hr:VA X κ G .sh es fs)(hs:starEach (e::es) X.env=[41]::starEach es X.env:=by rfl):VA X κ G .sh (e::es) (zC f fs):=⟨(yR h hr.1 hs).imp fun σ H Q hq_=>by
 refine hq_.elim fun own env ps I hf k=>?_
 obtain ⟨p,r,h1,h2,rfl⟩:=vn hf
 exact (.in I h1 fun v H1 A s1 r1 c1=>(.in (I.grow s1) h2 fun vs H2 B s2 r2 c2=>k _ H2 (A++B) [79] (.cons (Rp.same s2 p r1) r2) fun a ha=>(JQ.mp ha).elim (c1 a) (c2 a))),kB hr.2⟩
theorem yD{L1 L2:List Nat}(h:VE X κ G (.mv L1) e f)(hr:VA X κ G (.mv L2) es fs)(hL:∀ l ∈ L1,l ∉ L2:=by decide)(hs:starEach (e::es) X.env=[41]::starEach es X.env:=by rfl):VA X κ G (.mv (L1++L2)) (e::es) (zC f fs):=⟨(yR h hr.1 hs).imp fun σ H Q hq_=>by
 refine hq_.elim fun own env ps I hf k=>?_
 obtain ⟨p,r,h1,h2,rfl⟩:=vn hf
 refine (.in I h1 fun v H1 A s1 r1 c1=>(.in (I.grow s1) h2 fun vs H2 B s2 r2 c2=>k _ H2 (A++B) [79] (.cons (Rp.same s2 p r1) r2) ⟨?_,fun a ha=>?_⟩))
 ·refine Jz.mpr ⟨c1.1,c2.1,fun a ha b hb=>?_⟩
  rintro rfl
  obtain ⟨o,ho⟩:=r1.alloc ha
  rcases c2.2 a hb with z | ⟨l,hl,z⟩
  ·rw [ho] at z;cases z
  ·rcases c1.2 a ha with z' | ⟨l',hl',z'⟩
   ·obtain ⟨_,m⟩:=I.own a l z
    obtain ⟨o',h'⟩:=m.some
    rw [z'] at h';cases h'
   ·rw [z] at z';cases z';exact hL _ hl' hl
 ·rcases List.mem_append.mp ha with ha | ha
  ·exact (c1.2 a ha).elim .inl fun ⟨l,hl,z⟩=>.inr ⟨l,Jm _ hl,z⟩
  ·exact (c2.2 a ha).elim (fun z=>.inl (s1.free z)) fun ⟨l,hl,z⟩=>.inr ⟨l,Js _ hl,z⟩,kB hr.2⟩
theorem Cat.push{L:List Nat}{K:PySem.W.Frag}{own:Addr->Option Nat}{env:En}{σ:St}{H H1:Hp}{A:List Addr}{p:Addr}{vs:List V}{ps:List PV}(c:Cat)(I:VI K κ G own env σ H)(s:Same H H1)(r:Rps K H1 ps vs A)(hp:H1 p=none)(h:c.ok H own A):c.ok H own (p::A):=by
 cases c with
 | mv L=>
  refine ⟨JF.mpr ⟨fun z=>?_,h.1⟩,fun a ha=>?_⟩
  ·obtain ⟨o,ho⟩:=(Rps.mut ps r p z).some
   rw [hp] at ho;cases ho
  ·rcases List.mem_cons.mp ha with rfl | ha
   ·exact .inl (s.free hp)
   ·exact h.2 a ha
 | sh=>
  intro a ha
  rcases List.mem_cons.mp ha with rfl | ha
  ·exact jY (A:=[a]) I (fun b hb=>by rw [Jh.mp hb];exact s.free hp) a (Jh.mpr rfl)
  ·exact h a ha
 | bo=>trivial
theorem yw{x1}(h:VA X κ G c es fs)(hn:es.length≤100000:=by first | decide | simp):VE X κ G c (.Tuple es x1 pos) (vH fs):=(zlg h.1).imp fun σ H Q hq_=>by
 refine hq_.elim fun own env z I e k=>?_
 unfold vH at e
 cases hp:fs env with
 | none=>rw [hp] at e;cases e
 | some ps=>
  rw [hp] at e
  cases e
  have hl:=h.2 env ps hp
  refine (.in I hp fun vs H1 A s1 r1 c1=>⟨by rw [← r1.length,hl,sizeLine_eq];omega,fun p hn=>?_⟩)
  exact k _ _ A (yF s1 (s1.free hn)) (.mkT (SqT.of zV) (Rps.same (yF [30] hn) ps r1)) c1
theorem yT(h:VA X κ G c es fs)(hn:es.length≤100000:=by first | decide | simp):VE X κ G c (.List es pos) (xU fs):=(zlj h.1).imp fun σ H Q hq_=>by
 refine hq_.elim fun own env z I e k=>?_
 unfold xU at e
 cases hp:fs env with
 | none=>rw [hp] at e;cases e
 | some ps=>
  rw [hp] at e
  cases e
  have hl:=h.2 env ps hp
  refine (.in I hp fun vs H1 A s1 r1 c1=>⟨by rw [← r1.length,hl,sizeLine_eq];omega,fun p hn=>?_⟩)
  exact k _ _ (p::A) (yF s1 (s1.free hn)) (.mkL zV (Rps.same (yF [30] hn) ps r1)) (Cat.push (L:=[]) c I s1 r1 hn c1)
end
inductive Out where
 | nx (e:En) | rt (p:PV) (e:En) | bk (e:En) | ct (e:En)
noncomputable abbrev FS:=En->Option Out
noncomputable def ko(O:List Nat):Nat->Option Nat:=fun i=>if i ∈ O then some i else none
theorem zcO{O:List Nat}{i:Nat}(h:i ∈ O):ko O i=some i:=if_pos h
theorem zdR{O:List Nat}{i:Nat}(h:i ∉ O):ko O i=none:=if_neg h
theorem zjG{O:List Nat}{i l:Nat}(h:ko O i=some l):l=i:=by
 unfold ko at h
 split at h
 ·cases h;rfl
 ·cases h
noncomputable def OutK(K:PySem.W.Frag)(κ:Nat->Option Nat)(G:Hp)(own:Addr->Option Nat)(H:Hp)(D:Ends):Out->Prop
 | .nx e=>∀ own' σ' H',VI K κ G own' e σ' H'->Ext own H own' H'->D.nx σ' H'
 | .bk e=>∀ own' σ' H',VI K κ G own' e σ' H'->Ext own H own' H'->D.bk σ' H'
 | .ct e=>∀ own' σ' H',VI K κ G own' e σ' H'->Ext own H own' H'->D.ct σ' H'
 | .rt p e=>∀ v H' A own' σ',VI K κ G own' e σ' H'->Rp K H' p v A->A.Nodup->(∀ a ∈ A,G a=none/\own' a≠some 0)->D.rt v H'
theorem OutK.ext{K:PySem.W.Frag}{κ:Nat->Option Nat}{G:Hp}{own own':Addr->Option Nat}{H H':Hp}{D:Ends}{o:Out}(h:OutK K κ G own H D o)(x:Ext own H own' H'):OutK K κ G own' H' D o:=by
 cases o with
 | nx e=>exact fun o2 σ2 H2 I2 x2=>h o2 σ2 H2 I2 (x.trans x2)
 | bk e=>exact fun o2 σ2 H2 I2 x2=>h o2 σ2 H2 I2 (x.trans x2)
 | ct e=>exact fun o2 σ2 H2 I2 x2=>h o2 σ2 H2 I2 (x.trans x2)
 | rt p e=>exact h
noncomputable def tVS(K:PySem.W.Frag)(κ:Nat->Option Nat)(G:Hp)(g:FS):TS:=fun D σ H=>∃ own env o,VI K κ G own env σ H/\g env=some o/\OutK K κ G own H D o
theorem tVS.elim{K:PySem.W.Frag}{κ:Nat->Option Nat}{G:Hp}{g:FS}{D:Ends}{σ:St}{H:Hp}{C:Prop}(h:tVS K κ G g D σ H)(k:∀ own env o,VI K κ G own env σ H->g env=some o->OutK K κ G own H D o->C):C:=
 let ⟨own,env,o,I,hf,q⟩:=h
 k own env o I hf q
noncomputable def VS(X:Cx)(κ:Nat->Option Nat)(G:Hp)(st:Stmt)(g:FS):Prop:=PS X st (tVS X.K κ G g)
noncomputable def VSs(X:Cx)(κ:Nat->Option Nat)(G:Hp)(st:List Stmt)(g:FS):Prop:=PSs X st (tVS X.K κ G g)
noncomputable def fNx:FS:=fun env=>some (.nx env)
noncomputable def fBk:FS:=fun env=>some (.bk env)
noncomputable def fCt:FS:=fun env=>some (.ct env)
noncomputable def ze(g h:FS):FS:=fun env=>(g env).bind fun o=>match o with | .nx e=>h e | o=>some o
noncomputable def yQ(f:FE):FS:=fun env=>(f env).map fun p=>.rt p env
noncomputable def xM(t:FT)(g h:FS):FS:=fun env=>(t env).bind fun b=>if b=true then g env else h env
noncomputable def yA(i:Nat)(f:FE):FS:=fun env=>(f env).map fun p=>.nx (env.set i (some p))
noncomputable def zjU(bnd:PV->En->Option En)(f:FE):FS:=fun env=>(f env).bind fun p=>(bnd p env).map .nx
noncomputable def ub(bnd:PV->En->Option En)(body:FS):List PV->En->Option Out
 | [],env=>some (.nx env)
 | p::ps,env=>(bnd p env).bind fun e1=>(body e1).bind fun o=>match o with | .nx e=>ub bnd body ps e | .ct e=>ub bnd body ps e | .bk e=>some (.nx e) | .rt p e=>some (.rt p e)
noncomputable def xy(src:FA)(bnd:PV->En->Option En)(body:FS):FS:=fun env=>(src env).bind fun ps=>ub bnd body ps env
noncomputable def fWh(t:FT)(body:FS):Nat->En->Option Out
 | 0,_=>none
 | n+1,env=>(t env).bind fun b=>if b=true then (body env).bind fun o=>match o with | .nx e=>fWh t body n e | .ct e=>fWh t body n e | .bk e=>some (.nx e) | .rt p e=>some (.rt p e) else some (.nx env)
section
variable {X:Cx} {κ:Nat->Option Nat} {G:Hp} {c c1 c2:Cat} {a b e:Expr} {es:List Expr} {fa fb f:FE} {t u:FT} {fs:FA} {pos:Pos} {g h:FS} {st:Stmt} {rest:List Stmt}
theorem zu:VSs X κ G [] fNx:=pss_nil.imp fun D σ H hq_=>by
 refine hq_.elim fun own env o I hf k=>?_
 cases hf
 exact k own σ H I (Ext.refl _ _)
theorem zF(h1:VS X κ G st g)(h2:VSs X κ G rest h):VSs X κ G (st::rest) (ze g h):=(zcp h1 h2).imp fun D σ H hq_=>by
 refine hq_.elim fun own env o I hf k=>?_
 unfold ze at hf
 replace hf:=Ja.mp hf;obtain ⟨o1,hg,hf⟩:=hf
 refine ⟨own,env,o1,I,hg,?_⟩
 cases o1 with
 | nx e1=>exact fun own' σ' H' I' x=>⟨own',e1,o,I',hf,k.ext x⟩
 | bk e1=>cases hf;exact k
 | ct e1=>cases hf;exact k
 | rt p e1=>cases hf;exact k
theorem zH(h1:VS X κ G st g):VSs X κ G [st] g:=(zcp h1 pss_nil).imp fun D σ H h=>h
theorem zc{L:List Nat}(he:VE X κ G (.mv L) e f)(h0:0 ∉ L:=by decide):VS X κ G (.Return (some e) pos) (yQ f):=(zkZ he).imp fun D σ H hq_=>by
 refine hq_.elim fun own env o I hf k=>?_
 unfold yQ at hf
 cases hp:f env with
 | none=>rw [hp] at hf;cases hf
 | some p=>
  rw [hp] at hf;cases hf
  refine (.in I hp fun v H' A s r hc=>k v H' A own σ (I.grow s) r hc.1 fun a ha=>?_)
  rcases hc.2 a ha with z | ⟨l,hl,z⟩
  ·refine ⟨I.same.free z,fun y=>?_⟩
   obtain ⟨o,ho⟩:=(I.own a 0 y).2.some
   rw [z] at ho;cases ho
  ·exact ⟨(I.own a l z).1,fun y=>h0 (by rw [z] at y;cases y;exact hl)⟩
noncomputable def zmQ:FS:=fun env=>some (.rt .non env)
theorem yh{cc:Expr}{bs1 bs2:List Stmt}(hc:VT X κ G cc t)(h1:VSs X κ G bs1 g)(h2:VSs X κ G bs2 h):VS X κ G (.If cc bs1 bs2 pos) (xM t g h):=(zmp hc h1 h2).imp fun D σ H hq_=>by
 refine hq_.elim fun own env o I hf k=>?_
 unfold xM at hf
 replace hf:=Ja.mp hf;obtain ⟨p,hp,hf⟩:=hf
 refine (.in I hp fun H1 s1=>?_)
 cases p with
 | true=>exact ite_tt ⟨own,env,o,I.grow s1,by simpa using hf,k.ext (Ext.grow s1)⟩
 | false=>exact ite_ff ⟨own,env,o,I.grow s1,by simpa using hf,k.ext (Ext.grow s1)⟩
theorem VI.set_sh{K:PySem.W.Frag}{own:Addr->Option Nat}{env:En}{σ:St}{H:Hp}{i:Nat}{p:PV}{v:V}{A:List Addr}(I:VI K κ G own env σ H)(hk:κ i=none)(r:Rp K H p v A)(hA:∀ a ∈ A,own a=none):VI K κ G own (env.set i (some p)) (σ.set i (some v)) H:=by
 refine ⟨by simp [I.len],fun j q e=>?_,I.own,I.same⟩
 rw [KH] at e ⊢
 by_cases hij:i=j
 ·subst hij
  rw [if_pos rfl] at e ⊢
  by_cases hl:i<env.length
  ·rw [if_pos hl] at e
   rw [if_pos (by rw [← I.len];exact hl)]
   cases e
   exact ⟨v,A,rfl,r,fun _=>hA,fun l z=>by rw [hk] at z;cases z⟩
  ·rw [if_neg hl] at e;cases e
 ·rw [if_neg hij] at e ⊢
  exact I.slot j q e
noncomputable def acq(own:Addr->Option Nat)(i:Nat)(A:List Addr):Addr->Option Nat:=fun a=>if a ∈ A then some i else if own a=some i then none else own a
theorem VI.take{O:List Nat}{K:PySem.W.Frag}{own:Addr->Option Nat}{env:En}{σ:St}{H0 H2:Hp}{i:Nat}{p:PV}{v:V}{A:List Addr}(hi:i ∈ O)(I:VI K (ko O) G own env σ H0)
  (keep:∀ j q w B,j≠i->env[j]?=some (some q)->Rp K H0 q w B->(∀ b ∈ B,own b≠some i)->Rp K H2 q w B)
  (hx:∀ b o,own b≠some i->H0 b=some o->H2 b=some o)
  (r:Rp K H2 p v A)(nd:A.Nodup)(hA:∀ a ∈ A,own a=some i∨H0 a=none):
  VI K (ko O) G (acq own i A) (env.set i (some p)) (σ.set i (some v)) H2/\Ext own H0 (acq own i A) H2:=by
 have notin:∀ b o,own b≠some i->H0 b=some o->b ∉ A:=fun b o h1 h2 hb=>by
  rcases hA b hb with z | z
  ·exact h1 z
  ·rw [h2] at z;cases z
 have stay:∀ b o,own b≠some i->H0 b=some o->acq own i A b=own b:=fun b o h1 h2=>by
  unfold acq;rw [if_neg (notin b o h1 h2),if_neg h1]
 refine ⟨⟨by simp [I.len],fun j q e=>?_,fun b l e=>?_,fun b o e=>?_⟩,fun b o h1 h2=>?_⟩
 ·rw [KH] at e ⊢
  by_cases hij:i=j
  ·subst hij
   rw [if_pos rfl] at e ⊢
   by_cases hl:i<env.length
   ·rw [if_pos hl] at e
    rw [if_pos (by rw [← I.len];exact hl)]
    cases e
    refine ⟨v,A,rfl,r,fun z=>(by rw [zcO hi] at z;cases z),fun l z=>?_⟩
    rw [zcO hi] at z;cases z
    exact ⟨nd,fun a ha=>by unfold acq;rw [if_pos ha]⟩
   ·rw [if_neg hl] at e;cases e
  ·rw [if_neg hij] at e ⊢
   obtain ⟨w,B,h1,h2,h3,h4⟩:=I.slot j q e
   have no:∀ b ∈ B,own b≠some i:=fun b hb z=>by
    cases hk:ko O j with
    | none=>rw [h3 hk b hb] at z;cases z
    | some l=>
     have:=(h4 l hk).2 b hb
     rw [z] at this
     have e1:=zjG hk
     cases this
     exact hij e1
   refine ⟨w,B,h1,keep j q w B (fun z=>hij z.symm) e h2 no,fun hk b hb=>?_,fun l hk=>⟨(h4 l hk).1,fun b hb=>?_⟩⟩
   ·obtain ⟨o,ho⟩:=h2.alloc hb
    rw [stay b o (no b hb) ho];exact h3 hk b hb
   ·obtain ⟨o,ho⟩:=h2.alloc hb
    rw [stay b o (no b hb) ho];exact (h4 l hk).2 b hb
 ·unfold acq at e
  split at e
  ·rename_i hb
   refine ⟨?_,Rp.mut p r b hb⟩
   rcases hA b hb with z | z
   ·exact (I.own b i z).1
   ·exact I.same.free z
  ·split at e
   ·cases e
   ·rename_i hb hn
    obtain ⟨h1,h2⟩:=I.own b l e
    refine ⟨h1,?_⟩
    rcases h2 with ⟨xs,h2⟩ | ⟨xs,h2⟩
    ·exact .inl ⟨xs,hx b _ hn h2⟩
    ·exact .inr ⟨xs,hx b _ hn h2⟩
 ·have h0:=I.same b o e
  refine hx b o (fun z=>?_) h0
  rw [(I.own b i z).1] at e;cases e
 ·have hn:own b≠some i:=by rw [h1];exact fun z=>nomatch z
  exact ⟨by rw [stay b o hn h2];exact h1,hx b o hn h2⟩
theorem zW{i:Nat}(hk:κ i=none)(h:PS X st (qD (tV X.K κ G .sh f) (uj i))):VS X κ G st (yA i f):=h.imp fun D σ H hq_=>by
 refine hq_.elim fun own env o I hf k=>?_
 unfold yA at hf
 cases hp:f env with
 | none=>rw [hp] at hf;cases hf
 | some p=>
  rw [hp] at hf;cases hf
  exact (.in I hp fun v H' A s r hc=>k own _ H' ((I.grow s).set_sh hk r hc) (Ext.grow s))
theorem zv{O:List Nat}{i:Nat}(hi:i ∈ O)(h:PS X st (qD (tV X.K (ko O) G [33] f) (uj i))):VS X (ko O) G st (yA i f):=h.imp fun D σ H hq_=>by
 refine hq_.elim fun own env o I hf k=>?_
 unfold yA at hf
 cases hp:f env with
 | none=>rw [hp] at hf;cases hf
 | some p=>
  rw [hp] at hf;cases hf
  refine (.in I hp fun v H' A s r hc=>?_)
  obtain ⟨h1,h2⟩:=I.take hi (fun j q w B _ _ z _=>Rp.same s q z) (fun b o _ z=>s b o z) r hc.1 fun a ha=>.inr ((hc.2 a ha).elim id fun ⟨_,hl,_⟩=>nomatch hl)
  exact k _ _ H' h1 h2
noncomputable def tVG(K:PySem.W.Frag)(κ:Nat->Option Nat)(G:Hp)(Bs:List Nat)(bnd:PV->En->Option En):TG:=fun v σ H Q=>∃ own env p A e,VI K κ G own env σ H/\Rp K H p v A/\(∀ a ∈ A,own a=none)/\bnd p env=some e/\∀ σ',VI K κ G own e σ' H->(∀ i,i ∉ Bs->σ'[i]?=σ[i]?)->σ'.length=σ.length->Q σ' H
noncomputable def VG(X:Cx)(κ:Nat->Option Nat)(G:Hp)(Bs:List Nat)(tg:Expr)(bnd:PV->En->Option En):Prop:=PG X tg (tVG X.K κ G Bs bnd)
noncomputable def znA(K:PySem.W.Frag)(κ:Nat->Option Nat)(G:Hp)(Bs:List Nat)(bnd:List PV->En->Option En):TGs:=fun vs σ H Q=>∃ own env ps A e,VI K κ G own env σ H/\Rps K H ps vs A/\(∀ a ∈ A,own a=none)/\bnd ps env=some e/\∀ σ',VI K κ G own e σ' H->(∀ i,i ∉ Bs->σ'[i]?=σ[i]?)->σ'.length=σ.length->Q σ' H
noncomputable def VGs(X:Cx)(κ:Nat->Option Nat)(G:Hp)(Bs:List Nat)(tg:List Expr)(bnd:List PV->En->Option En):Prop:=PGs X tg (znA X.K κ G Bs bnd)
noncomputable def zN(i:Nat):PV->En->Option En:=fun p env=>some (env.set i (some p))
noncomputable def v8:List PV->En->Option En:=fun ps env=>match ps with | []=>some env | _=>none
noncomputable def z8(b1:PV->En->Option En)(b2:List PV->En->Option En):List PV->En->Option En:=fun ps env=>match ps with | p::r=>(b1 p env).bind fun e=>b2 r e | []=>none
noncomputable def v7(n:Nat)(b:List PV->En->Option En):PV->En->Option En:=fun p env=>match p with
 | .tup ps=>if ps.length=n then b ps env else none
 | .lst ps=>if ps.length=n then b ps env else none
 | _=>none
end
end F
namespace L2
theorem PG.imp{X:Cx}{e:PySem.Expr}{t t':TG}(h:PG X e t)(i:∀ v σ H Q,t' v σ H Q->t v σ H Q):PG X e t':=fun pins s σ H v u Q I r hw=>h pins s σ H v u Q I r (i _ _ _ _ hw)
theorem PGs.imp{X:Cx}{e:List PySem.Expr}{t t':TGs}(h:PGs X e t)(i:∀ v σ H Q,t' v σ H Q->t v σ H Q):PGs X e t':=fun pins s σ H v u Q I r hw=>h pins s σ H v u Q I r (i _ _ _ _ hw)
theorem PG.or{X:Cx}{e:PySem.Expr}{t t':TG}(h:PG X e t)(h':PG X e t'):PG X e (fun v σ H Q=>t v σ H Q∨t' v σ H Q):=fun pins s σ H v u Q I r hw=>hw.elim (h pins s σ H v u Q I r) (h' pins s σ H v u Q I r)
theorem PI.imp{X:Cx}{tg e:PySem.Expr}{t t':TI}(h:PI X tg e t)(i:∀ σ H R,t' σ H R->t σ H R):PI X tg e t':=fun pins s σ H R I hw=>h pins s σ H R I (i _ _ _ hw)
end L2
namespace F
open PySem PySem.Spec PyProof.Rows L2
section
variable {X:Cx} {κ:Nat->Option Nat} {G:Hp} {c c1 c2:Cat} {a b e:Expr} {es:List Expr} {fa fb f:FE} {t u:FT} {fs:FA} {pos:Pos} {g h:FS} {st:Stmt} {rest:List Stmt} {bnd:PV->En->Option En} {bnds:List PV->En->Option En}
theorem zP(i:Nat){tg:Expr}(hk:κ i=none)(h:PG X tg (uj i)):VG X κ G [i] tg (zN i):=h.imp fun v σ H Q hq_=>by
 obtain ⟨own,env,p,A,e,I,r,hA,hb,k⟩:=hq_
 cases hb
 refine k _ (I.set_sh hk r hA) (fun j hj=>?_) [12]
 rw [List.getElem?_set,if_neg (fun z=>hj (by simp [z]))]
theorem uO:VGs X κ G [] [] v8:=pgs_nil.imp fun vs σ H Q hq_=>by
 obtain ⟨own,env,ps,A,e,I,r,hA,hb,k⟩:=hq_
 unfold v8 at hb
 cases ps with
 | nil=>cases hb;exact ⟨r.inv0.1,k σ I [20] rfl⟩
 | cons p ps=>cases hb
theorem yS{Bs1 Bs2:List Nat}(h1:VG X κ G Bs1 e bnd)(h2:VGs X κ G Bs2 es bnds)(hs:(assignEach (e::es) X.env).map (·.2)=assign e X.env::(assignEach es X.env).map (·.2):=by rfl):VGs X κ G (Bs1++Bs2) (e::es) (z8 bnd bnds):=(zha h1 h2 hs).imp fun vs σ H Q hq_=>by
 obtain ⟨own,env,ps,A,e,I,r,hA,hb,k⟩:=hq_
 unfold z8 at hb
 cases ps with
 | nil=>cases hb
 | cons p ps=>
  dsimp only at hb
  obtain ⟨v,r',A1,A2,h1,h2,h3,h4⟩:=r.inv
  replace hb:=Ja.mp hb;obtain ⟨e1,hp,hb⟩:=hb
  subst h2
  refine ⟨v,r',h1,own,env,p,A1,e1,I,h3,fun a ha=>hA a (Jm _ ha),hp,fun σ1 I1 q1 l1=>?_⟩
  exact ⟨own,e1,ps,A2,e,I1,h4,fun a ha=>hA a (Js _ ha),hb,fun σ2 I2 q2 l2=>k σ2 I2 (fun i hi=>(q2 i fun z=>hi (Js _ z)).trans (q1 i fun z=>hi (Jm _ z))) (l2.trans l1)⟩
theorem ji{Bs:List Nat}{k:Nat}(n:Nat)(hc:X.calm=true)(h:VGs X κ G Bs es bnds)(hn:(assignEach es X.env).length=n:=by rfl)(hst:(assignEach es X.env).findIdx? (·.1)=none:=by rfl):VG X κ G Bs (.Tuple es k pos) (v7 n bnds):=
 ((zld hc h hn hst).or (zle hc h hn hst)).imp fun v σ H Q hq_=>by
 obtain ⟨own,env,p,A,e,I,r,hA,hb,k⟩:=hq_
 unfold v7 at hb
 cases p with
 | tup ps=>
  dsimp only at hb
  split at hb
  ·rename_i hl
   obtain ⟨a,xs,h1,h2,h3⟩:=r.T
   exact .inl ⟨a,xs,h1,h2,by rw [← h3.length];exact hl,own,env,ps,A,e,I,h3,hA,hb,k⟩
  ·cases hb
 | lst ps=>
  dsimp only at hb
  split at hb
  ·rename_i hl
   obtain ⟨a,xs,B,h1,h2,h3,h4⟩:=r.L
   subst h3
   exact .inr ⟨a,xs,h1,SqL.of h2,by rw [← h4.length];exact hl,own,env,ps,B,e,I,h4,fun a ha=>hA a (Jf _ ha),hb,k⟩
  ·cases hb
 | _=>cases hb
theorem zkC{Bs:List Nat}{tg:Expr}(he:VE X κ G .sh e f)(hg:VG X κ G Bs tg bnd)(hs:swapsWithSole [tg] e pos.line X.env=pure false:=by rfl)(hw:swappedStores [tg] e X.env=pure none:=by rfl)
  (h1:(assignEach [tg] X.env).map (·.2)=[assign tg X.env]:=by rfl):VS X κ G (.Assign [tg] e pos) (zjU bnd f):=(qJ he hg hs hw h1).imp fun D σ H hq_=>by
 refine hq_.elim fun own env o I hf k=>?_
 unfold zjU at hf
 replace hf:=Ja.mp hf;obtain ⟨p,hp,hf⟩:=hf
 cases hb:bnd p env with
 | none=>rw [hb] at hf;cases hf
 | some e1=>
  rw [hb] at hf;cases hf
  exact (.in I hp fun v H' A s r hc=>⟨own,env,p,A,e1,I.grow s,r,hc,hb,fun σ' I' _ _=>k own σ' H' I' (Ext.grow s)⟩)
noncomputable def Stay(own:Addr->Option Nat)(H1 H2:Hp):Prop:=∀ b o,own b=none->H1 b=some o->H2 b=some o
theorem Stay.ext{own own':Addr->Option Nat}{H1 H2:Hp}(s:Ext own H1 own' H2):Stay own H1 H2:=fun b o h e=>(s b o h e).2
theorem Stay.tup{K:PySem.W.Frag}{own:Addr->Option Nat}{H1 H2:Hp}{a:Addr}{xs:List V}(s:Stay own H1 H2)(hm:∀ a l,own a=some l->MutH H1 a)(h:SqT K H1 a xs):SqT K H2 a xs:=by
 have no:∀ o,H1 a=some o->(∀ z,o≠.lst z)->(∀ z,o≠.dK z)->own a=none:=fun o e n1 n2=>by
  cases q:own a with
  | none=>rfl
  | some l=>
   rcases hm a l q with ⟨z,m⟩ | ⟨z,m⟩
   ·rw [e] at m;exact absurd (Jq m) (n1 z)
   ·rw [e] at m;exact absurd (Jq m) (n2 z)
 rcases h with (h | ⟨u,h⟩) | h
 ·exact .inl (.inl (s _ _ (no _ h (fun _ z=>nomatch z) fun _ z=>nomatch z) h))
 ·exact .inl (.inr ⟨u,s _ _ (no _ h (fun _ z=>nomatch z) fun _ z=>nomatch z) h⟩)
 ·exact .inr h
theorem Stay.fz{K:PySem.W.Frag}{own:Addr->Option Nat}{H1 H2:Hp}{a:Addr}{xs:List V}(s:Stay own H1 H2)(hm:∀ a l,own a=some l->MutH H1 a)(h:Fz K H1 a xs):Fz K H2 a xs:=by
 rcases h with ⟨u,h⟩ | h
 ·refine .inl ⟨u,s _ _ ?_ h⟩
  cases q:own a with
  | none=>rfl
  | some l=>rcases hm a l q with ⟨z,m⟩ | ⟨z,m⟩<;>(rw [h] at m;cases m)
 ·exact .inr h
mutual
theorem Rp.stay{K:PySem.W.Frag}{own:Addr->Option Nat}{H1 H2:Hp}(s:Stay own H1 H2)(hm:∀ a l,own a=some l->MutH H1 a):∀ (p:PV) {v:V} {A:List Addr},(∀ a ∈ A,own a=none)->Rp K H1 p v A->Rp K H2 p v A
 | .non,_,_,_,h=>by unfold Rp at h ⊢;exact h
 | .bl _,_,_,_,h=>by unfold Rp at h ⊢;exact h
 | .int _,_,_,_,h=>by unfold Rp at h ⊢;exact h
 | .str _,_,_,_,h=>by unfold Rp at h ⊢;exact h
 | .ty _,_,_,_,h=>by unfold Rp at h ⊢;exact h
 | .any,_,_,_,h=>by unfold Rp at h ⊢;exact h
 | .adr _,_,_,_,h=>by unfold Rp at h ⊢;exact h
 | .pen a _,_,_,hA,h=>by
  unfold Rp at h ⊢
  exact ⟨h.1,h.2.1,s _ _ (hA a (by rw [h.2.1];exact Jg)) h.2.2⟩
 | .tup ps,_,_,hA,h=>by
  unfold Rp at h ⊢
  obtain ⟨a,xs,h1,h2,h3⟩:=h
  exact ⟨a,xs,h1,s.tup hm h2,Rps.stay s hm ps hA h3⟩
 | .lst ps,_,_,hA,h=>by
  unfold Rp at h ⊢
  obtain ⟨a,xs,B,h1,h2,rfl,h4⟩:=h
  exact ⟨a,xs,B,h1,s _ _ (hA a Jg) h2,rfl,Rps.stay s hm ps (fun b hb=>hA b (Jf _ hb)) h4⟩
 | .fls ps,_,_,hA,h=>by
  unfold Rp at h ⊢
  obtain ⟨a,xs,h1,h2,h3⟩:=h
  exact ⟨a,xs,h1,s.fz hm h2,Rps.stay s hm ps hA h3⟩
 | .dct ks ps,_,_,hA,h=>by
  unfold Rp at h ⊢
  obtain ⟨a,xs,B,h1,h2,h3,rfl,h5⟩:=h
  exact ⟨a,xs,B,h1,s _ _ (hA a Jg) h2,h3,rfl,Rps.stay s hm ps (fun b hb=>hA b (Jf _ hb)) h5⟩
theorem Rps.stay{K:PySem.W.Frag}{own:Addr->Option Nat}{H1 H2:Hp}(s:Stay own H1 H2)(hm:∀ a l,own a=some l->MutH H1 a):∀ (ps:List PV) {vs:List V} {A:List Addr},(∀ a ∈ A,own a=none)->Rps K H1 ps vs A->Rps K H2 ps vs A
 | [],_,_,_,h=>by unfold Rps at h ⊢;exact h
 | p::ps,_,_,hA,h=>by
  unfold Rps at h ⊢
  obtain ⟨v,r,A1,A2,h1,rfl,h3,h4⟩:=h
  exact ⟨v,r,A1,A2,h1,rfl,Rp.stay s hm p (fun a ha=>hA a (Jm _ ha)) h3,Rps.stay s hm ps (fun a ha=>hA a (Js _ ha)) h4⟩
end
noncomputable def Walks(K:PySem.W.Frag)(own:Addr->Option Nat)(H1:Hp)(R:Hp->Prop)(J:It)(ps:List PV):Prop:=∀ i H2,R H2->
 (∀ p,ps[i]?=some p->J.go i H2/\∀ x H3,J.yld i H2 x H3->Same H2 H3/\∃ A,Rp K H3 p x A/\∀ a ∈ A,own a=none/\∃ o,H1 a=some o)/\(ps.length≤i->J.stop i H2)
noncomputable def tVI(K:PySem.W.Frag)(κ:Nat->Option Nat)(G:Hp)(lp:Bool)(f:FA):TI:=fun σ H R=>∃ own env ps,VI K κ G own env σ H/\f env=some ps/\∀ J H1,Same H H1->Walks K own H1 (fun H2=>if lp=true then Stay own H1 H2 else Same H1 H2) J ps->R J H1
theorem tVI.in{K:PySem.W.Frag}{κ:Nat->Option Nat}{G:Hp}{lp:Bool}{f:FA}{σ:St}{H:Hp}{R:It->Hp->Prop}{own:Addr->Option Nat}{env:En}{p:List PV}(I:VI K κ G own env σ H)(hf:f env=some p)(k:∀ J H1,Same H H1->Walks K own H1 (fun H2=>if lp=true then Stay own H1 H2 else Same H1 H2) J p->R J H1):tVI K κ G lp f σ H R:=⟨own,env,p,I,hf,k⟩
theorem tVI.elim{K:PySem.W.Frag}{κ:Nat->Option Nat}{G:Hp}{lp:Bool}{f:FA}{σ:St}{H:Hp}{R:It->Hp->Prop}{C:Prop}(h:tVI K κ G lp f σ H R)(k:∀ own env (p:List PV),VI K κ G own env σ H->f env=some p->(∀ J H1,Same H H1->Walks K own H1 (fun H2=>if lp=true then Stay own H1 H2 else Same H1 H2) J p->R J H1)->C):C:=
 let ⟨own,env,p,I,hf,q⟩:=h
 k own env p I hf q
noncomputable def VIt(X:Cx)(κ:Nat->Option Nat)(G:Hp)(lp:Bool)(tg iter:Expr)(f:FA):Prop:=PI X tg iter (tVI X.K κ G lp f)
noncomputable def xk:PV->Option (List PV)
 | .lst ps=>some ps
 | .fls ps=>some ps
 | .tup ps=>some ps
 | _=>none
noncomputable def zq(f:FE):FA:=fun env=>(f env).bind xk
noncomputable def zmP(f:FE):FA:=fun env=>(f env).bind fun p=>(xk p).bind fun ps=>if isDatas ps=true then some ps else none
theorem zkn{X:Cx}{tg iter:Expr}{t t':TI}(h:PI X tg iter t)(h':PI X tg iter t'):PI X tg iter (fun σ H R=>t σ H R∨t' σ H R):=fun pins s σ H R I hw=>hw.elim (h pins s σ H R I) (h' pins s σ H R I)
theorem zep{K:PySem.W.Frag}{own:Addr->Option Nat}{H1:Hp}{R:Hp->Prop}{a:Addr}{ps:List PV}{xs:List V}{A:List Addr}(h1':Rps K H1 ps xs A)(hA:∀ a ∈ A,own a=none)(hl:∀ H2,R H2->SqL K H2 a xs/\Rps K H2 ps xs A):Walks K own H1 R (Itl K a) ps:=by
 intro i H2 hR
 obtain ⟨hq,hr⟩:=hl H2 hR
 refine ⟨fun p hp=>?_,fun hi=>⟨xs,hq,by rw [← hr.length];exact hi⟩⟩
 obtain ⟨v,C,h1,h2,h3⟩:=hr.get hp
 refine ⟨⟨xs,v,hq,h1⟩,fun x H3 ⟨e,hy⟩=>?_⟩
 subst e
 have:=hy xs hq
 rw [h1] at this;cases this
 exact ⟨Same.refl _,C,h2,fun a ha=>⟨hA a (h3.subset ha),(Rps.mut _ h1' a (h3.subset ha)).some⟩⟩
theorem ziw{K:PySem.W.Frag}{own:Addr->Option Nat}{H1:Hp}{R:Hp->Prop}{a:Addr}{ps:List PV}{xs:List V}{A:List Addr}(h1':Rps K H1 ps xs A)(hA:∀ a ∈ A,own a=none)(hl:∀ H2,R H2->SqT K H2 a xs/\Rps K H2 ps xs A):Walks K own H1 R (Itt K a) ps:=by
 intro i H2 hR
 obtain ⟨hq,hr⟩:=hl H2 hR
 refine ⟨fun p hp=>?_,fun hi=>⟨xs,hq,by rw [← hr.length];exact hi⟩⟩
 obtain ⟨v,C,h1,h2,h3⟩:=hr.get hp
 refine ⟨⟨xs,v,hq,h1⟩,fun x H3 ⟨e,hy⟩=>?_⟩
 subst e
 have:=hy xs hq
 rw [h1] at this;cases this
 exact ⟨Same.refl _,C,h2,fun a ha=>⟨hA a (h3.subset ha),(Rps.mut _ h1' a (h3.subset ha)).some⟩⟩
theorem yE{tg l:Expr}(lp:Bool)(hl:VE X κ G .sh l f):VIt X κ G lp tg l (zq f):=(zkn (zjg hl) (zlc hl)).imp fun σ H R hq_=>by
 refine hq_.elim fun own env ps I hf k=>?_
 unfold zq at hf
 replace hf:=Ja.mp hf;obtain ⟨p,hp,hf⟩:=hf
 cases p<;>first | cases hf | skip
 ·refine .inr (.in I hp fun v H1 A s r hc=>?_)
  obtain ⟨a,xs,h1,h2,h3⟩:=r.T
  have hm:∀ a l,own a=some l->MutH H1 a:=fun a l e=>((I.grow s).own a l e).2
  refine ⟨a,h1,⟨xs,h2⟩,k _ H1 s (ziw (xs:=xs) h3 hc fun H2 hR=>?_)⟩
  cases lp with
  | true=>exact ⟨Stay.tup hR hm h2,Rps.stay hR hm _ hc h3⟩
  | false=>exact ⟨Same.tup hR h2,Rps.same hR _ h3⟩
 ·refine .inl (.in I hp fun v H1 A s r hc=>?_)
  obtain ⟨a,xs,B,h1,h2,rfl,h3⟩:=r.L
  have hm:∀ a l,own a=some l->MutH H1 a:=fun a l e=>((I.grow s).own a l e).2
  refine ⟨a,h1,⟨xs,SqL.of h2⟩,k _ H1 s (zep (xs:=xs) h3 (fun b hb=>hc b (Jf _ hb)) fun H2 hR=>?_)⟩
  cases lp with
  | true=>exact ⟨SqL.of (hR _ _ (hc a Jg) h2),Rps.stay hR hm _ (fun b hb=>hc b (Jf _ hb)) h3⟩
  | false=>exact ⟨SqL.of (hR _ _ h2),Rps.same hR _ h3⟩
 ·refine .inl (.in I hp fun v H1 A s r hc=>?_)
  obtain ⟨a,xs,h1,h2,h3⟩:=r.Fl
  have hm:∀ a l,own a=some l->MutH H1 a:=fun a l e=>((I.grow s).own a l e).2
  refine ⟨a,h1,⟨xs,h2.seq⟩,k _ H1 s (zep (xs:=xs) h3 hc fun H2 hR=>?_)⟩
  cases lp with
  | true=>exact ⟨(Stay.fz hR hm h2).seq,Rps.stay hR hm _ hc h3⟩
  | false=>exact ⟨(h2.same hR).seq,Rps.same hR _ h3⟩
noncomputable def uZ(lo:Int)(n:Nat):List PV:=(List.range n).map fun (i:Nat)=>PV.int (lo+i)
theorem jM(lo:Int)(n:Nat):(uZ lo n).length=n:=by simp [uZ]
theorem zix{K:PySem.W.Frag}{own:Addr->Option Nat}{H1:Hp}{R:Hp->Prop}(lo:Int)(n:Nat):Walks K own H1 R (Itr lo n) (uZ lo n):=by
 intro i H2 _
 refine ⟨fun p hp=>?_,fun hi=>by rw [jM] at hi;exact hi⟩
 unfold uZ at hp
 rw [JK] at hp
 by_cases hi:i<n
 ·rw [List.getElem?_range hi] at hp
  cases hp
  refine ⟨hi,fun x H3 ⟨e,hx⟩=>?_⟩
  subst e
  exact ⟨Same.refl _,[],by rw [hx];exact .mkI _,by simp⟩
 ·rw [List.getElem?_eq_none (by simpa using hi)] at hp
  cases hp
noncomputable def xP(f:FA):FA:=fun env=>(f env).bind fun ps=>match ps with | [.int j]=>if -(2 ^ 62)≤j/\j<2 ^ 62 then some (uZ 0 j.toNat) else none | _=>none
theorem xz{tg:Expr}{p:Pos}(lp:Bool)(hg:Gl X "range")(hm:X.mg "range"=none)(ha:VA X κ G c [a] fs)(hs:starEach [a] X.env=[(false,eval a X.env)]:=by rfl):VIt X κ G lp tg (.Call (.Name "range" p) [a] [] pos) (xP fs):=(zfz hg hm ha.1 hs).imp fun σ H R hq_=>by
 refine hq_.elim fun own env ps I hf k=>?_
 unfold xP at hf
 replace hf:=Ja.mp hf;obtain ⟨qs,hp,hf⟩:=hf
 refine (.in I hp fun vs H1 A s r _=>?_)
 split at hf
 ·split at hf
  ·rename_i j hj
   cases hf
   obtain ⟨v,r',A1,A2,h1,h2,h3,h4⟩:=r.inv
   exact ⟨j,by rw [h1,h4.inv0.1,h3.I.1],hj.1,hj.2,k _ H1 s (zix 0 j.toNat)⟩
  ·cases hf
 ·cases hf
theorem xQ{Bs:List Nat}{tg iter:Expr}{body:List Stmt}(hp:PassesOwn [14] X.A X.env X.xe)(hc:X.calm=true)(hi:VIt X κ G true tg iter fs)(hg:VG X κ G Bs tg bnd)(hb:VSs X κ G body g)
  (hs:∀ x,foldedSetIterable iter X.env x=pure x:=by intro _;rfl):VS X κ G (.For tg iter body [] pos) (xy fs bnd g):=(zla hp hc hi hg hb hs).imp fun D σ H hq_=>by
 refine hq_.elim fun own env o I hf k=>?_
 unfold xy at hf
 replace hf:=Ja.mp hf;obtain ⟨ps,hp,hf⟩:=hf
 refine (.in I hp fun J H1 s hw=>?_)
 have k1:=k.ext (Ext.grow s)
 refine ⟨fun i m σ2 H2=>∃ own2 e2,VI X.K κ G own2 e2 σ2 H2/\Ext own H1 own2 H2/\i≤ps.length/\m=ps.length - i/\ub bnd g (ps.drop i) e2=some o,⟨ps.length,own,env,I.grow s,Ext.refl _ _,Nat.zero_le _,by simp,by simpa using hf⟩,?_⟩
 rintro i m σ2 H2 ⟨own2,e2,I2,x2,hi,rfl,h2⟩
 have W:=hw i H2 (by simpa using Stay.ext x2)
 by_cases hlt:i<ps.length
 ·have hpi:ps[i]?=some ps[i]:=Jd hlt
  obtain ⟨go,yl⟩:=W.1 _ hpi
  rw [Qj hlt] at h2
  unfold ub at h2
  replace h2:=Ja.mp h2;obtain ⟨e3,hb1,h2⟩:=h2
  replace h2:=Ja.mp h2;obtain ⟨o1,ho,h2⟩:=h2
  refine .inr ⟨go,fun σ' H'=>∃ own',∃ e',VI X.K κ G own' e' σ' H'/\Ext own H1 own' H'/\ub bnd g (ps.drop (i+1)) e'=some o,?_,?_⟩
  ·rintro σ' H' ⟨own',e',I',x',h'⟩
   exact ⟨ps.length - (i+1),by omega,own',e',I',x',hlt,rfl,h'⟩
  ·intro x H3 hy
   obtain ⟨s3,A,r3,hA⟩:=yl x H3 hy
   have hA2:∀ a ∈ A,own2 a=none:=fun a ha=>let ⟨h1,o,h2⟩:=hA a ha;(x2 a o h1 h2).1
   refine ⟨own2,e2,ps[i],A,e3,I2.grow s3,r3,hA2,hb1,fun σ3 I3 _ _=>⟨own2,e3,o1,I3,ho,?_⟩⟩
   have x3:Ext own H1 own2 H3:=x2.trans (Ext.grow s3)
   cases o1 with
   | nx e4=>exact fun own4 σ4 H4 I4 x4=>⟨own4,e4,I4,x3.trans x4,h2⟩
   | ct e4=>exact fun own4 σ4 H4 I4 x4=>⟨own4,e4,I4,x3.trans x4,h2⟩
   | bk e4=>cases h2;exact k1.ext x3
   | rt p e4=>cases h2;exact k1.ext x3
 ·have e:i=ps.length:=by omega
  subst e
  rw [List.drop_length] at h2
  cases h2
  exact .inl ⟨W.2 (Jn _),k1 own2 σ2 H2 I2 x2⟩
theorem zbX(n:Nat){cc:Expr}{body:List Stmt}(hp:PassesOwn [14] X.A X.env X.xe)(hc:VT X κ G cc t)(hb:VSs X κ G body g):VS X κ G (.While cc body [] pos) (fWh t g n):=(zgU hp hc hb).imp fun D σ H hq_=>by
 refine hq_.elim fun own env o I hf k=>?_
 refine ⟨fun m σ2 H2=>∃ own2 e2,VI X.K κ G own2 e2 σ2 H2/\Ext own H own2 H2/\fWh t g m e2=some o,⟨n,own,env,I,Ext.refl _ _,hf⟩,?_⟩
 rintro m σ2 H2 ⟨own2,e2,I2,x2,h2⟩
 cases m with
 | zero=>cases h2
 | succ m=>
  unfold fWh at h2
  replace h2:=Ja.mp h2;obtain ⟨b,ht,h2⟩:=h2
  refine ⟨own2,e2,b,I2,ht,fun H3 s3=>?_⟩
  have x3:Ext own H own2 H3:=x2.trans (Ext.grow s3)
  cases b with
  | false=>
   simp only [Bool.false_eq_true,if_false] at h2
   cases h2
   exact ite_ff (k own2 σ2 H3 (I2.grow s3) x3)
  | true=>
   simp only [if_true] at h2
   replace h2:=Ja.mp h2;obtain ⟨o1,ho,h2⟩:=h2
   refine ite_tt ⟨fun σ' H'=>∃ own',∃ e',VI X.K κ G own' e' σ' H'/\Ext own H own' H'/\fWh t g m e'=some o,fun σ' H' ⟨own',e',I',x',h'⟩=>⟨m,QE m,own',e',I',x',h'⟩,own2,e2,o1,I2.grow s3,ho,?_⟩
   cases o1 with
   | nx e4=>exact fun own4 σ4 H4 I4 x4=>⟨own4,e4,I4,x3.trans x4,h2⟩
   | ct e4=>exact fun own4 σ4 H4 I4 x4=>⟨own4,e4,I4,x3.trans x4,h2⟩
   | bk e4=>cases h2;exact k.ext x3
   | rt p e4=>cases h2;exact k.ext x3
noncomputable def cE(n:Nat)(js:List Nat)(env:En):En:=List.replicate n none++js.map fun j=>(env[j]?).join
noncomputable def cK(n:Nat)(js:List Nat)(κ:Nat->Option Nat):Nat->Option Nat:=fun i=>if i<n then none else match js[i - n]? with | some j=>κ j | none=>none
noncomputable def yI(bnd:PV->En->Option En)(t:FT)(f:FE):List PV->En->Option (List PV)
 | [],_=>some []
 | p::ps,env=>(bnd p env).bind fun e=>(t e).bind fun b=>if b=true then (f e).bind fun q=>(yI bnd t f ps env).map fun r=>q::r else yI bnd t f ps env
noncomputable def fLC(src:FA)(n:Nat)(js:List Nat)(bnd:PV->En->Option En)(t:FT)(f:FE):FE:=fun env=>(src env).bind fun ps=>if ps.length≤100000 then (yI bnd t f ps (cE n js env)).map .lst else none
theorem VI.block {K : PySem.W.Frag} {own : Addr → Option Nat} {env : En} {σ : St} {H : Hp} {ow : List Str} {js : List Nat} (I : VI K κ G own env σ H) : VI K [82] G own (cE ow.length js env) (cS ow js σ) H := by
  refine ⟨by simp [cE, cS], fun i p e => ?_, I.own, I.same⟩
  unfold cE at e
  unfold cS cK
  by_cases hi : i < ow.length
  · rw [List.getElem?_append_left (by simpa using hi), List.getElem?_replicate, if_pos hi] at e
    cases e
  · have hi' : ow.length ≤ i := QB hi
    rw [List.getElem?_append_right (by simpa using hi'), List.getElem?_map, List.length_replicate] at e
    rw [List.getElem?_append_right (by simpa using hi'), List.getElem?_map, List.length_map, if_neg hi]
    cases q : js[i - ow.length]? with
    | none => rw [q] at e; cases e
    | some j =>
      rw [q] at e
      have e' : (env[j]?).join = some p := Jq e
      have e2 : env[j]? = some (some p) := by
        cases z : env[j]? with
        | none => rw [z] at e'; cases e'
        | some w => rw [z] at e'; have : w = some p := by simpa using e'
                    rw [this]
      obtain ⟨v, A, h1, h2, h3⟩ := I.slot j p e2
      exact ⟨v, A, by simp [h1], h2, h3⟩
theorem VI.again{K:PySem.W.Frag}{own:Addr->Option Nat}{env:En}{σ σ':St}{H:Hp}{n:Nat}{js:List Nat}{Bs:List Nat}(I:VI K (cK n js κ) G own (cE n js env) σ H)(hB:∀ i ∈ Bs,i<n)(hs:∀ i,i ∉ Bs->σ'[i]?=σ[i]?)(hl:σ'.length=σ.length):VI K (cK n js κ) G own (cE n js env) σ' H:=by
 refine ⟨I.len.trans hl.symm,fun i p e=>?_,I.own,I.same⟩
 have hi:¬ i<n:=fun hi=>by
  unfold cE at e
  rw [List.getElem?_append_left (by simpa using hi),List.getElem?_replicate,if_pos hi] at e
  cases e
 obtain ⟨v,A,h1,h2⟩:=I.slot i p e
 exact ⟨v,A,(hs i fun z=>hi (hB i z)).trans h1,h2⟩
noncomputable def VTs(X:Cx)(κ:Nat->Option Nat)(G:Hp)(ifs:List Expr)(t:FT):Prop:=PTs X ifs (tVT X.K κ G t)
noncomputable def v6:FT:=fun _=>some true
theorem xY:VTs X κ G [] v6:=fun pins s σ H Q I ⟨own,env,b,I',e,k⟩=>by
 cases e
 exact ziY pins s σ H Q I (k H [30])
theorem y7(h:VT X κ G e t):VTs X κ G [e] t:=ziX h
noncomputable def kK(own:Addr->Option Nat)(D:Addr):Addr->Option Nat:=fun a=>if a=D then some 1000000 else own a
theorem qb{own:Addr->Option Nat}{D a:Addr}(h:kK own D a=none):a≠D/\own a=none:=by
 unfold kK at h
 split at h
 ·cases h
 ·rename_i n;exact ⟨n,h⟩
theorem qc{own:Addr->Option Nat}{D a:Addr}(h:a≠D):kK own D a=own a:=if_neg h
theorem VI.mark{K:PySem.W.Frag}{own:Addr->Option Nat}{env:En}{σ:St}{H1 H2:Hp}{D:Addr}{ys:List V}(I:VI K κ G own env σ H1)(hD:H1 D=none)(s:Same H1 H2)(hy:H2 D=some (.lst ys)):VI K κ G (kK own D) env σ H2:=by
 have J:=I.grow s
 refine ⟨I.len,fun i p e=>?_,fun a l e=>?_,J.same⟩
 ·obtain ⟨v,A,h1,h2,h3,h4⟩:=I.slot i p e
  have ne:∀ a ∈ A,a≠D:=fun a ha z=>by
   obtain ⟨o,ho⟩:=h2.alloc ha
   rw [z,hD] at ho;cases ho
  exact ⟨v,A,h1,Rp.same s p h2,fun hk a ha=>(qc (ne a ha)).trans (h3 hk a ha),fun l hk=>⟨(h4 l hk).1,fun a ha=>(qc (ne a ha)).trans ((h4 l hk).2 a ha)⟩⟩
 ·unfold kK at e
  split at e
  ·rename_i z
   rw [z]
   exact ⟨I.same.free hD,.inl ⟨ys,hy⟩⟩
  ·exact J.own a l e
section
variable {ow:List Str} {js Bs:List Nat} {tg elt iter:Expr} {ifs:List Expr} {scope:Scope}
theorem zch{K:PySem.W.Frag}{cc:Cat}(hcc:cc=.mv []∨cc=.sh)(hB:∀ i ∈ Bs,i<ow.length)(σ:St)(H:Hp)(Q:VK)
  (hq:tV K κ G cc (fLC fs ow.length js bnd t f) σ H Q):
  zgB (tVI K κ G false fs) ow js (fun _ _ _ _=>tVG K [82] G Bs bnd) (fun _ _ _ _=>tVT K [82] G t) (fun _ _ _ _=>tV K [82] G cc f) σ H Q:=by
 refine JJ fun hno=>?_
 obtain ⟨own,env,z,I,e,k⟩:=hq
 unfold fLC at e
 replace e:=Ja.mp e;obtain ⟨ps,hp,e⟩:=e
 split at e
 case isFalse=>cases e
 rename_i hlen
 cases hr:yI bnd t f ps (cE ow.length js env) with
 | none=>rw [hr] at e;cases e
 | some rs=>
  rw [hr] at e;cases e
  refine hno (.in I hp fun J H1 s1 hw C s₀ H₀ fp D hD=>?_)
  clear hno
  have I1:VI K [82] G own (cE ow.length js env) (cS ow js σ) H1:=(I.grow s1).block
  have sD:Same H1 (upd H1 D (.lst [])):=yF [30] hD
  refine ⟨fun i m σ1 H2=>∃ ys qs B r2,VI K [82] G own (cE ow.length js env) σ1 H1/\Same H1 H2/\H2 D=some (.lst ys)/\Rps K H2 qs ys B/\cc.ok H1 own B/\D ∉ B/\i≤ps.length/\ys.length≤i/\m=ps.length - i/\yI bnd t f (ps.drop i) (cE ow.length js env)=some r2/\rs=qs++r2,
   ⟨ps.length,[],[],[],rs,I1,sD,zV,.nil,Cat.nil _ _ _,by simp,Nat.zero_le _,Nat.le_refl _,by simp,by simpa using hr,rfl⟩,?_⟩
  intro i m σ1 H2 hI
  refine JJ fun hno=>?_
  obtain ⟨ys,qs,B,r2,I2,s2,hy,ry,cB,nB,hi,hyl,rfl,h2,hrs⟩:=hI
  have Wk:=hw i H2 (by simpa using s2)
  by_cases hlt:i<ps.length
  ·have hpi:ps[i]?=some ps[i]:=Jd hlt
   obtain ⟨go,yl⟩:=Wk.1 _ hpi
   refine hno (.inr ⟨go,fun x H3 hyl'=>?_⟩)
   clear hno
   refine JJ fun hno=>?_
   obtain ⟨s3,A,r3,hA⟩:=yl x H3 hyl'
   rw [Qj hlt] at h2
   unfold yI at h2
   replace h2:=Ja.mp h2;obtain ⟨e3,hb1,h2⟩:=h2
   replace h2:=Ja.mp h2;obtain ⟨bb,ht,h2⟩:=h2
   have neA:∀ a ∈ A,a≠D:=fun a ha z=>by
    obtain ⟨_,o,ho⟩:=hA a ha
    rw [z,hD] at ho;cases ho
   refine hno ⟨kK own D,_,ps[i],A,e3,I2.mark hD (s2.trans s3) (s3 _ _ hy),r3,fun a ha=>(qc (neA a ha)).trans (hA a ha).1,hb1,fun σ3 I3 q3 l3=>?_⟩
   have I3':=I2.again hB q3 l3
   refine ⟨kK own D,e3,bb,I3,ht,fun H5 s5=>?_⟩
   have s25:Same H2 H5:=s3.trans s5
   have hy5:=s25 _ _ hy
   cases bb with
   | false=>
    simp only [Bool.false_eq_true,if_false] at h2
    refine ite_ff ⟨ps.length - (i+1),by omega,ys,qs,B,r2,I3',s2.trans s25,hy5,Rps.same s25 qs ry,cB,nB,hlt,by omega,rfl,h2,hrs⟩
   | true=>
    simp only [if_true] at h2
    replace h2:=Ja.mp h2;obtain ⟨q,hf,h2⟩:=h2
    cases hr2:yI bnd t f (ps.drop (i+1)) (cE ow.length js env) with
    | none=>rw [hr2] at h2;cases h2
    | some r4=>
     rw [hr2] at h2;cases h2
     refine ite_tt ⟨kK own D,e3,q,I3.grow s5,hf,fun y H6 C6 s6 r6 c6=>?_⟩
     have s26:Same H2 H6:=s25.trans s6
     have hy6:=s26 _ _ hy
     have nC:D ∉ C6:=fun z=>by
      rcases hcc with rfl | rfl
      ·rcases c6.2 D z with w | ⟨_,w,_⟩
       ·rw [hy5] at w;cases w
       ·cases w
      ·exact (qb (c6 D z)).1 rfl
     refine ⟨ys,hy6,by rw [sizeLine_eq];omega,ps.length - (i+1),by omega,ys++[y],qs++[q],B++C6,r4,I3',yF (s2.trans s26) hD,zV,?_,?_,?_,hlt,by rw [Jo,Qz];omega,rfl,hr2,by rw [hrs,JC];rfl⟩
     ·exact (Rps.upd (.inl ⟨ys,hy6⟩) qs nB (Rps.same s26 qs ry)).append (Rps.one (Rp.upd (.inl ⟨ys,hy6⟩) q nC r6))
     ·rcases hcc with rfl | rfl
      ·refine ⟨Jz.mpr ⟨cB.1,c6.1,fun x hx y' hy' hxy=>?_⟩,fun x hx=>?_⟩
       ·subst hxy
        rcases c6.2 x hy' with w | ⟨_,w,_⟩
        ·obtain ⟨o,ho⟩:=(Rps.mut qs (Rps.same s25 qs ry) x hx).some
         rw [ho] at w;cases w
        ·cases w
       ·rcases List.mem_append.mp hx with hx | hx
        ·exact cB.2 x hx
        ·exact (c6.2 x hx).elim (fun w=>.inl ((s2.trans s25).free w)) fun ⟨_,w,_⟩=>nomatch w
      ·intro x hx
       rcases List.mem_append.mp hx with hx | hx
       ·exact cB x hx
       ·exact (qb (c6 x hx)).2
     ·exact fun z=>(JQ.mp z).elim nB nC
  ·have ei:i=ps.length:=by omega
   subst ei
   rw [List.drop_length] at h2
   cases h2
   refine hno (.inl ⟨Wk.2 (Jn _),?_⟩)
   rw [Kk] at hrs
   subst hrs
   refine k (.ref D) H2 (D::B) [79] (.mkL hy ry) ?_
   have hDH:H D=none:=s1.free hD
   rcases hcc with rfl | rfl
   ·refine ⟨JF.mpr ⟨nB,cB.1⟩,fun a ha=>?_⟩
    rcases List.mem_cons.mp ha with rfl | ha
    ·exact .inl hDH
    ·exact (cB.2 a ha).elim (fun w=>.inl (s1.free w)) .inr
   ·intro a ha
    rcases List.mem_cons.mp ha with rfl | ha
    ·exact jY (A:=[a]) I (fun b hb=>by rw [Jh.mp hb];exact hDH) a (Jh.mpr rfl)
    ·exact cB a ha
variable {wi:TI}
theorem xi(cc:Cat)(hcc:cc=.mv []∨cc=.sh)(hB:∀ i ∈ Bs,i<ow.length)(hc:X.calm=true)(hi:VIt X κ G false tg iter fs)(hg:∀ C s₀ H₀ fp,VG (yg X ow js scope C s₀ H₀ fp) [82] G Bs tg bnd)
  (ht:∀ C s₀ H₀ fp,VTs (yg X ow js scope C s₀ H₀ fp) [82] G ifs t)(he:∀ C s₀ H₀ fp,VE (yg X ow js scope C s₀ H₀ fp) [82] G cc elt f)
  (ok:zaS js scope X.env.kindOf X.N=true:=by first | rfl | decide +kernel)(hs:∀ x,foldedSetIterable iter X.env x=pure x:=by intro _;rfl):
  VE X κ G cc [35] (fLC fs ow.length js bnd t f):=
 (zms (own:=ow) (js:=js) hc hi hg ht he ok hs).imp fun σ H Q h=>zch hcc hB σ H Q h
theorem zcq{i:Nat}{y:Str}{py spos:Pos}(cc:Cat)(hN:X.N.Nodup)(hi':X.N[i]?=some y)(hx:Loc X.env.scope y)(hcc:cc=.mv []∨cc=.sh)(hB:∀ i ∈ Bs,i<ow.length)(hc:X.calm=true)(hi:VIt X κ G false tg iter fs)(hg:∀ C s₀ H₀ fp,VG (yg X ow js scope C s₀ H₀ fp) [82] G Bs tg bnd)
  (ht:∀ C s₀ H₀ fp,VTs (yg X ow js scope C s₀ H₀ fp) [82] G ifs t)(he:∀ C s₀ H₀ fp,VE (yg X ow js scope C s₀ H₀ fp) [82] G cc elt f)
  (ok:zaS js scope X.env.kindOf X.N=true:=by first | rfl | decide +kernel)(hs:∀ x,foldedSetIterable iter X.env x=pure x:=by intro _;rfl)
  (hsw:swapsWith [35] (some (.Name y py)) spos.line X.env=pure true:=by rfl)(hf:X.fn y=true∨X.env.scope.names.lookup y=some .local:=by first | exact .inl rfl | exact .inr rfl | assumption):
  PS X (.Assign [.Name y py] [35] spos) (qD (tV X.K κ G cc (fLC fs ow.length js bnd t f)) (uj i)):=
 (zja (own:=ow) (js:=js) hN hi' hx hc hi hg ht he ok hs hsw hf).imp fun D σ H h=>zch hcc hB σ H _ h
end
theorem zbk{tg:TG}(h:PS X st (qD (tV X.K κ G [33] f) tg)):PS X st (qD (tV X.K κ G .sh f) tg):=h.imp fun D σ H hq_=>by
 refine hq_.elim fun own env p I hf k=>?_
 exact (.in I hf fun v H' A s r hc=>k v H' A s r (jY I fun a ha=>(hc.2 a ha).elim id fun ⟨_,hl,_⟩=>nomatch hl))
noncomputable def spV(K:PySem.W.Frag)(n:Nat)(Φ:List PV->Option PV):Sp:=fun vs H Q _=>∃ ps A z,Rps K H ps vs A/\ps.length=n/\Φ ps=some z/\∀ v H' C,Same H H'->Rp K H' z v C->C.Nodup->(∀ a ∈ C,H a=none)->Q v H'
theorem zQ{x:Str}{k n:Nat}{ps:List Str}{Φ:List PV->Option PV}{p:Pos}(hF:Fn X.prog X.w X.K X.mg X.base x k ps (spV X.K n Φ))(hr:Room k X.A)(hg:Gl X x)(ha:VA X κ G c (e::es) fs)(hl:(e::es).length=n:=by rfl)
  (hdb:[48]=false:=by decide)(he:starEach (e::es) X.env=[41]::starEach es X.env:=by rfl)(hpl:[66].any (·.1)=false:=by rfl):
  VE X κ G [33] [78] (zI Φ fs):=(zmt hF hr hg ha.1 hdb he hpl).imp fun σ H Q hq_=>by
 refine hq_.elim fun own env z I hf k=>?_
 unfold zI at hf
 replace hf:=Ja.mp hf;obtain ⟨qs,hp,hf⟩:=hf
 refine (.in I hp fun vs H1 A s1 r1 _=>⟨qs,A,z,by rw [Kk];exact r1,(ha.2 env qs hp).trans hl,hf,fun v H' C s2 r2 nd fr=>k v H' C [79] r2 ⟨nd,fun a ha=>.inl (s1.free (fr a ha))⟩⟩)
noncomputable def fnV(m:Nat)(g:FS):List PV->Option PV:=fun ps=>(g (ps.map some++List.replicate (m - ps.length) none)).bind fun o=>match o with | .rt p _=>some p | .nx _=>some .non | _=>none
theorem VI.start{K:PySem.W.Frag}{H:Hp}{N:List Str}{ps:List PV}{vs:List V}{A:List Addr}(hk:∀ i,i<ps.length->κ i=none)(r:Rps K H ps vs A):VI K κ H (fun _=>none) (ps.map some++List.replicate (N.length - ps.length) none) (L2.start N vs) H:=by
 have hl:=r.length
 refine ⟨by simp [L2.start,hl],fun i p e=>?_,(fun _ _ z=>nomatch z),Same.refl _⟩
 by_cases hi:i<ps.length
 ·rw [List.getElem?_append_left (by simpa using hi),List.getElem?_map] at e
  cases q:ps[i]? with
  | none=>rw [q] at e;cases e
  | some p'=>
   rw [q] at e
   have:p'=p:=by simpa using e
   subst this
   obtain ⟨v,C,h1,h2,h3⟩:=r.get q
   refine ⟨v,C,?_,h2,fun _ _ _=>rfl,fun l z=>?_⟩
   ·unfold L2.start
    rw [JR (by rw [Jj,← hl];exact hi),JK,h1];rfl
   ·rw [hk i hi] at z;cases z
 ·rw [List.getElem?_append_right (by simpa using hi),List.getElem?_replicate] at e
  split at e<;>cases e
theorem xm{P:Program}{w:World}{K:PySem.W.Frag}{mg:Str->Option Value}{base:Heap}{x qual:Str}{st:Stmt}{f:Addr}{fd:FuncData}{N ps:List Str}{k n m:Nat}(O:List Nat)(hn:ps.length=n)(hm:N.length=m)(hO:∀ i ∈ O,n≤i)(hF:Fun K x qual st f fd)(S:FnScope N ps (zM st))
  (body:∀ (cdv:Value) (A:Around) (outer:List PySem.Env) (s:Shared) (H:Hp) (E:XK),Room k (A.deeper (envOfC qual (zM st) s.heap.objs.size f cdv))->VSs (zdY CX0 P w K mg base N qual (zM st) f cdv A outer s H E).nox (ko O) H (wD st) g):
  FnOk P w K mg base CX0 (k+1) f fd ps (spV K n (fnV m g)):=by
 subst hn hm
 refine hF.ok S (fun vs H Q E ⟨qs,A,z,r,hl,_⟩=>by rw [← r.length,hl]) fun cdv A outer s H vs Q E hr ⟨qs,B,z,r,hl,hΦ,k⟩=>⟨_,body cdv A outer s H E hr,?_⟩
 unfold fnV at hΦ
 replace hΦ:=Ja.mp hΦ;obtain ⟨o,ho,hΦ⟩:=hΦ
 refine ⟨fun _=>none,_,o,VI.start (N:=N) (fun i hi=>zdR fun z=>absurd (hO i z) [8]) r,ho,?_⟩
 cases o with
 | rt p e=>cases hΦ;exact fun v H' C own' σ' I' r' nd fr=>k v H' C I'.same r' nd fun a ha=>(fr a ha).1
 | nx e=>cases hΦ;exact fun own' σ' H' I' _=>k .non H' [] I'.same .mkN .nil [12]
 | bk e=>cases hΦ
 | ct e=>cases hΦ
end
end F
namespace L2
open PySem PySem.Spec PyProof.Rows
noncomputable def zdA(K:PySem.W.Frag):R2:=fun x y H Q=>∃ a b ys,x=.ref a/\y=.ref b/\SqT K H a []/\SqT K H b ys/\Q (.ref b) H
theorem zii{prog:Program}{w:World}{A:Around}{E:Value->Shared->Prop}{s:Shared}{t b:Addr}{us:List Value}{Q:Value->Shared->Prop}(ht:IsTup s.heap t #[])(hb:IsTup s.heap b us.toArray)(k:Q (.ref b) s):wpAny [11] A (binaryOp .Add (.ref t) (.ref b)) Q E s:=by
 obtain ⟨⟨c1,o1,a1,z1⟩,g1,hc1,n1,hd1⟩:=id ht
 obtain ⟨⟨c2,o2,a2,z2⟩,g2,hc2,n2,hd2⟩:=id hb
 simp only at hc1 hd1 hc2 hd2
 subst hc1 hd1 hc2 hd2
 exact concat_meets ⟨_,g1,rfl⟩ ⟨_,g2,rfl⟩ noFill_tuple_add seq_tuple_add PySem.F.slot_tuple_add PySem.F.entry_tuple_add (PySem.F.args_tuple_add_2 _ _) (tuple_addW0 t b #[] us.toArray n1 n2 o1 o2 z1 z2 rfl) ⟨g1,g2,k⟩
theorem op_catT0{X:Cx}:OpR X (binaryOp .Add) (zdA X.K):=by
 intro pins s σ H x y v u Q I rx ry h
 obtain ⟨a,b,ys,rfl,rfl,ha,hb,q⟩:=h
 cases rx
 cases ry
 obtain ⟨its,r1,p1,_⟩:=I.tuple ha
 obtain ⟨its2,r2,p2,_⟩:=I.tuple hb
 have:=r1.nil_iff.mpr rfl
 subst this
 exact zii p1 p2 ⟨.ref b,H,I,rfl,q⟩
end L2
namespace F
open PySem PySem.Spec PyProof.Rows L2
noncomputable def xR:PV->PV->Option PV
 | .int i,.int j=>some (.int (i+j))
 | .str x,.str y=>if x.length+y.length≤100000 then some (.str (x++y)) else none
 | .tup xs,.tup ys=>if (isDatas xs && isDatas ys && decide (xs.length+ys.length≤100000))=true then some (.tup (xs++ys)) else none
 | .lst xs,.lst ys=>if (isDatas xs && isDatas ys && decide (xs.length+ys.length≤100000))=true then some (.lst (xs++ys)) else none
 | _,_=>none
noncomputable def kS:PV->PV->Option PV
 | .int i,.int j=>some (.int (i - j))
 | _,_=>none
instance (a b:Int):Decidable (IntMulOk a b):=by unfold IntMulOk;infer_instance
noncomputable def xG:PV->PV->Option PV
 | .int i,.int j=>if IntMulOk i j then some (.int (i * j)) else none
 | .lst xs,.int k=>if (isDatas xs=true/\-(2 ^ 63)≤k/\k<2 ^ 63/\xs.length * k.toNat≤100000) then some (.lst (List.replicate k.toNat xs).flatten) else none
 | _,_=>none
noncomputable def xA:PV->PV->Option PV
 | .int i,.int j=>if 0<j/\j<1073741824 then some (.int (i / j)) else none
 | _,_=>none
noncomputable def xL:PV->PV->Option PV
 | .int i,.int j=>if 0<j then some (.int (i % j)) else none
 | _,_=>none
noncomputable def vLt:PV->PV->Option PV
 | .int i,.int j=>some (.bl (decide (i<j)))
 | _,_=>none
noncomputable def vLe:PV->PV->Option PV
 | .int i,.int j=>some (.bl (decide (i≤j)))
 | _,_=>none
noncomputable def vGt:PV->PV->Option PV
 | .int i,.int j=>some (.bl (decide (j<i)))
 | _,_=>none
noncomputable def vGe:PV->PV->Option PV
 | .int i,.int j=>some (.bl (decide (j≤i)))
 | _,_=>none
noncomputable def zgs:PV->Option PV
 | .int i=>some (.int (-i))
 | _=>none
mutual
noncomputable def xH:PV->PyData
 | .non=>.none
 | .bl b=>.bool b
 | .int i=>.int i
 | .str x=>.str x
 | .ty _=>.none
 | .any=>.none
 | .pen _ _=>.none
 | .adr _=>.none
 | .tup xs=>.tuple (toPys xs)
 | .lst xs=>.list (toPys xs)
 | .fls xs=>.list (toPys xs)
 | .dct _ _=>.none
noncomputable def toPys:List PV->List PyData
 | []=>[]
 | x::r=>xH x::toPys r
end
mutual
noncomputable def v5:PV->Bool
 | .ty _=>false
 | .any=>false
 | .pen _ _=>false
 | .adr _=>false
 | .dct _ _=>false
 | .tup xs=>okPys xs
 | .lst xs=>okPys xs
 | .fls xs=>okPys xs
 | _=>true
noncomputable def okPys:List PV->Bool
 | []=>true
 | x::r=>v5 x && okPys r
end
noncomputable def u7(p:PV):Bool:=v5 p && (xH p).canLay0 && decide ((xH p).depth≤64)
noncomputable def eqP(p q:PV):Bool:=PyData.eqv (xH p) (xH q)
noncomputable def vEq(p q:PV):Option PV:=if (u7 p && u7 q)=true then some (.bl (eqP p q)) else none
noncomputable def vNe(p q:PV):Option PV:=if (u7 p && u7 q)=true then some (.bl (!eqP p q)) else none
section
variable {K:PySem.W.Frag} {H:Hp}
mutual
theorem Rp.rep:∀ (p:PV) {v:V} {A:List Addr},v5 p=true->Rp K H p v A->Rep K H v (xH p)
 | .non,_,_,_,h=>by rw [h.N.1];unfold xH;exact .non
 | .bl b,_,_,_,h=>by rw [h.B.1];unfold xH;exact .bl b
 | .int i,_,_,_,h=>by rw [h.I.1];unfold xH;exact .int i
 | .str x,_,_,_,h=>by rw [h.S.1];unfold xH;exact .str x
 | .ty _,_,_,d,_=>by simp [v5] at d
 | .any,_,_,d,_=>by simp [v5] at d
 | .pen _ _,_,_,d,_=>by simp [v5] at d
 | .adr _,_,_,d,_=>by simp [v5] at d
 | .dct _ _,_,_,d,_=>by simp [v5] at d
 | .tup ps,_,_,d,h=>by
  unfold v5 at d
  obtain ⟨a,xs,rfl,h2,h3⟩:=h.T
  unfold xH
  exact .tuple h2 (Rps.rep ps d h3)
 | .lst ps,_,_,d,h=>by
  unfold v5 at d
  obtain ⟨a,xs,B,rfl,h2,rfl,h3⟩:=h.L
  unfold xH
  exact .list (SqL.of h2) (Rps.rep ps d h3)
 | .fls ps,_,_,d,h=>by
  unfold v5 at d
  obtain ⟨a,xs,rfl,h2,h3⟩:=h.Fl
  unfold xH
  exact .list h2.seq (Rps.rep ps d h3)
theorem Rps.rep:∀ (ps:List PV) {vs:List V} {A:List Addr},okPys ps=true->Rps K H ps vs A->Reps K H vs (toPys ps)
 | [],_,_,_,h=>by rw [h.inv0.1];unfold toPys;exact .nil
 | p::ps,_,_,d,h=>by
  unfold okPys at d
  rw [JO] at d
  obtain ⟨v,r,A1,A2,rfl,h2,h3,h4⟩:=h.inv
  unfold toPys
  exact .cons (Rp.rep p d.1 h3) (Rps.rep ps d.2 h4)
end
end
noncomputable def wU:PV->Bool
 | .non=>true
 | .bl _=>true
 | .int _=>true
 | .str _=>true
 | _=>false
noncomputable def eqS:PV->PV->Bool
 | .non,.non=>true
 | .bl a,.bl b=>a == b
 | .bl a,.int b=>(if a then 1 else 0) == b
 | .int a,.bl b=>a == (if b then 1 else 0)
 | .int a,.int b=>a == b
 | .str a,.str b=>a == b
 | _,_=>false
noncomputable def inP(p:PV)(xs:List PV):Bool:=xs.any fun y=>eqS y p
noncomputable def jX(ks:List Key)(k:Key):Bool:=ks.any fun x=>decide (x=k)
theorem zhN(ks:List Key)(k:Key):jX ks k=true ↔ k ∈ ks:=by
 unfold jX
 rw [List.any_eq_true]
 constructor
 ·rintro ⟨x,hx,e⟩
  rw [← of_decide_eq_true e];exact hx
 ·intro h;exact ⟨k,h,by simp⟩
noncomputable def vIn(p:PV):PV->Option Bool
 | .lst xs=>if (wU p && xs.all wU)=true then some (inP p xs) else none
 | .fls xs=>if (wU p && xs.all wU)=true then some (inP p xs) else none
 | .tup xs=>if (wU p && xs.all wU)=true then some (inP p xs) else none
 | .dct ks _=>match p with | .non=>some false | .int i=>some (jX ks (.inl i)) | .str x=>some (jX ks (.inr x)) | _=>none
 | _=>none
noncomputable def x9(p q:PV):Option PV:=(vIn p q).map .bl
noncomputable def yx(p q:PV):Option PV:=(vIn p q).map fun b=>.bl (!b)
noncomputable def zmI:PV->Bool
 | .non=>true
 | _=>false
noncomputable def zkg(p:PV):PV->Option PV
 | .non=>match p with | .any=>none | p=>some (.bl (!zmI p))
 | _=>none
section
variable {X:Cx} {K:PySem.W.Frag}
theorem OpV.int{r:R2}{g:PV->PV->Option PV}(h:∀ p q z,g p q=some z->∃ i j,p=.int i/\q=.int j/\∃ w,(∀ K H,Rp K H z w [])/\∀ H Q,Q w H->r [87] (.int j) H Q):OpV K r g:=by
 intro H p q x y A B z Q r1 r2 e k
 obtain ⟨i,j,rfl,rfl,w,hw,hr⟩:=h p q z e
 rw [r1.I.1,r2.I.1]
 exact hr H Q (k w H [] [30] (hw _ _) .nil [12])
theorem uv:OpV K (rI0 fun i j=>.int (i - j)) kS:=OpV.int fun p q z e=>by
 unfold kS at e
 split at e
 case h_2=>cases e
 cases e
 exact ⟨_,_,rfl,rfl,_,fun _ _=>.mkI _,fun H Q h=>⟨_,_,rfl,rfl,h⟩⟩
theorem vY:OpV K (rI znl fun i j=>.int (i / j)) xA:=OpV.int fun p q z e=>by
 unfold xA at e
 split at e
 case h_2=>cases e
 split at e
 ·rename_i hc;cases e
  exact ⟨_,_,rfl,rfl,_,fun _ _=>.mkI _,fun H Q h=>⟨_,_,rfl,rfl,hc,h⟩⟩
 ·cases e
theorem yy:OpV K (rI (fun _ j=>0<j) fun i j=>.int (i % j)) xL:=OpV.int fun p q z e=>by
 unfold xL at e
 split at e
 case h_2=>cases e
 split at e
 ·rename_i hc;cases e
  exact ⟨_,_,rfl,rfl,_,fun _ _=>.mkI _,fun H Q h=>⟨_,_,rfl,rfl,hc,h⟩⟩
 ·cases e
theorem zkp:OpV K (rI0 fun i j=>.bl (decide (i<j))) vLt:=OpV.int fun p q z e=>by
 unfold vLt at e
 split at e
 case h_2=>cases e
 cases e
 exact ⟨_,_,rfl,rfl,_,fun _ _=>.mkB _,fun H Q h=>⟨_,_,rfl,rfl,h⟩⟩
theorem zmw:OpV K (rI0 fun i j=>.bl (decide (i≤j))) vLe:=OpV.int fun p q z e=>by
 unfold vLe at e
 split at e
 case h_2=>cases e
 cases e
 exact ⟨_,_,rfl,rfl,_,fun _ _=>.mkB _,fun H Q h=>⟨_,_,rfl,rfl,h⟩⟩
theorem zaB:OpV K (rI0 fun i j=>.bl (decide (j<i))) vGt:=OpV.int fun p q z e=>by
 unfold vGt at e
 split at e
 case h_2=>cases e
 cases e
 exact ⟨_,_,rfl,rfl,_,fun _ _=>.mkB _,fun H Q h=>⟨_,_,rfl,rfl,h⟩⟩
theorem zmx:OpV K (rI0 fun i j=>.bl (decide (j≤i))) vGe:=OpV.int fun p q z e=>by
 unfold vGe at e
 split at e
 case h_2=>cases e
 cases e
 exact ⟨_,_,rfl,rfl,_,fun _ _=>.mkB _,fun H Q h=>⟨_,_,rfl,rfl,h⟩⟩
theorem zkE:UnV K (rU fun i=>.int (-i)) zgs:=by
 intro H p x A z Q r e k
 cases p<;>first | cases e | skip
 exact ⟨_,r.I.1,k _ H [] [30] (.mkI _) .nil [12]⟩
theorem wd{H:Hp}{ps:List PV}{xs:List V}{z:PV}{Q:VK}(hd:isDatas ps=true){A:List Addr}(r:Rps K H ps xs A)(k:∀ v H' C,Same H H'->Rp K H' (.lst ps) v C->C.Nodup->(∀ a ∈ C,H a=none)->Q v H'):∀ p,H p=none->Q (.ref p) (upd H p (.lst xs)):=fun p hp=>by
 have e:=Rps.data ps hd r
 subst e
 have s:Same H (upd H p (.lst xs)):=yF [30] hp
 exact k _ _ [p] s (.mkL zV (Rps.same s ps r)) [12] (by simpa using hp)
theorem kc{H:Hp}{ps:List PV}{xs:List V}{z:PV}{Q:VK}(hd:isDatas ps=true){A:List Addr}(r:Rps K H ps xs A)(k:∀ v H' C,Same H H'->Rp K H' (.tup ps) v C->C.Nodup->(∀ a ∈ C,H a=none)->Q v H'):∀ p,H p=none->Q (.ref p) (upd H p (.tup xs)):=fun p hp=>by
 have e:=Rps.data ps hd r
 subst e
 have s:Same H (upd H p (.tup xs)):=yF [30] hp
 exact k _ _ [] s (.mkT (SqT.of zV) (Rps.same s ps r)) [12] [12]
theorem yq:OpR X (binaryOp .Add) (fun x y H Q=>(rI0 fun i j=>.int (i+j)) x y H Q∨(zkU x y H Q∨(zgP X.K x y H Q∨(zdA X.K x y H Q∨∃ i j,x=.str i/\y=.str j/\i.length+j.length≤sizeLine/\Q (.str (i++j)) H)))):=op_add.or (op_cat.or (op_catT.or (op_catT0.or zdF)))
theorem yp:OpV K (fun x y H Q=>(rI0 fun i j=>.int (i+j)) x y H Q∨(zkU x y H Q∨(zgP K x y H Q∨(zdA K x y H Q∨∃ i j,x=.str i/\y=.str j/\i.length+j.length≤sizeLine/\Q (.str (i++j)) H)))) xR:=by
 intro H p q x y A B z Q r1 r2 e k
 unfold xR at e
 split at e
 case h_5=>cases e
 ·cases e
  exact .inl ⟨_,_,r1.I.1,r2.I.1,k _ H [] [30] (.mkI _) .nil [12]⟩
 ·split at e
  ·rename_i hc;cases e
   exact .inr (.inr (.inr (.inr ⟨_,_,r1.S.1,r2.S.1,by rw [sizeLine_eq];omega,k _ H [] [30] (.mkS _) .nil [12]⟩)))
  ·cases e
 ·split at e
  ·rename_i hc;cases e
   simp only [Bool.and_eq_true,decide_eq_true_eq] at hc
   obtain ⟨⟨d1,d2⟩,hl⟩:=hc
   obtain ⟨a,xs,e1,h1,g1⟩:=r1.T
   obtain ⟨b,ys,e2,h2,g2⟩:=r2.T
   have l1:=g1.length
   have l2:=g2.length
   by_cases hx0:xs=[]
   ·subst hx0
    rename_i ps qs
    have:ps=[]:=by cases ps with | nil=>rfl | cons _ _=>simp at l1
    subst this
    rw [List.nil_append] at k
    have e:=Rps.data qs d2 g2
    subst e
    exact .inr (.inr (.inr (.inl ⟨a,b,ys,e1,e2,h1,h2,k _ H [] [30] (.mkT h2 g2) .nil [12]⟩)))
   refine .inr (.inr (.inl ⟨a,b,xs,ys,e1,e2,h1,h2,hx0,by rw [sizeLine_eq];omega,fun z=>?_,fun _=>?_⟩))
   ·subst z
    rename_i ps qs
    have:qs=[]:=by cases qs with | nil=>rfl | cons _ _=>simp at l2
    subst this
    rw [Kk] at k
    have e:=Rps.data ps d1 g1
    subst e
    exact k _ H [] [30] (.mkT h1 g1) .nil [12]
   ·exact kc (by rw [xC,d1,d2];rfl) (g1.append g2) k (z:=.non)
  ·cases e
 ·split at e
  ·rename_i hc;cases e
   simp only [Bool.and_eq_true,decide_eq_true_eq] at hc
   obtain ⟨⟨d1,d2⟩,hl⟩:=hc
   obtain ⟨a,xs,B1,e1,h1,_,g1⟩:=r1.L
   obtain ⟨b,ys,B2,e2,h2,_,g2⟩:=r2.L
   have l1:=g1.length
   have l2:=g2.length
   exact .inr (.inl ⟨a,b,xs,ys,e1,e2,h1,h2,by rw [sizeLine_eq];omega,wd (by rw [xC,d1,d2];rfl) (g1.append g2) k (z:=.non)⟩)
  ·cases e
theorem yK:OpR X (binaryOp .Mult) (fun x y H Q=>(rI IntMulOk fun i j=>.int (i * j)) x y H Q∨zkS x y H Q):=op_mulB.or zlk
theorem Rps.rep_{H:Hp}{ps:List PV}{xs:List V}(r:Rps K H ps xs []):∀ k:Nat,Rps K H (List.replicate k ps).flatten (List.replicate k xs).flatten []
 | 0=>.nil
 | k+1=>by
  rw [Kn,Kn,KF,KF]
  exact r.append (Rps.rep_ r k)
theorem kM{ps:List PV}(h:isDatas ps=true):∀ k:Nat,isDatas (List.replicate k ps).flatten=true
 | 0=>rfl
 | k+1=>by rw [Kn,KF,xC,h,kM h k];rfl
theorem yJ:OpV K (fun x y H Q=>(rI IntMulOk fun i j=>.int (i * j)) x y H Q∨zkS x y H Q) xG:=by
 intro H p q x y A B z Q r1 r2 e k
 unfold xG at e
 split at e
 case h_3=>cases e
 ·split at e
  ·rename_i hc;cases e
   exact .inl ⟨_,_,r1.I.1,r2.I.1,hc,k _ H [] [30] (.mkI _) .nil [12]⟩
  ·cases e
 ·split at e
  ·rename_i hc;cases e
   obtain ⟨d,h1,h2,h3⟩:=hc
   obtain ⟨a,xs,B1,e1,g0,_,g1⟩:=r1.L
   have e:=Rps.data _ d g1
   subst e
   have l1:=g1.length
   exact .inr ⟨a,_,xs,e1,r2.I.1,g0,h1,h2,by rw [sizeLine_eq,← l1];omega,wd (kM d _) (Rps.rep_ g1 _) k (z:=.non)⟩
  ·cases e
theorem uf:OpV K (fun x y H Q=>∃ d e,Rep K H x d/\Rep K H y e/\d.canLay0=true/\e.canLay0=true/\d.depth≤64/\Q (.bl (PyData.eqv d e)) H) vEq:=by
 intro H p q x y A B z Q r1 r2 e k
 unfold vEq at e
 split at e
 ·rename_i hc;cases e
  unfold u7 at hc
  simp only [Bool.and_eq_true,decide_eq_true_eq] at hc
  obtain ⟨⟨⟨a1,a2⟩,a3⟩,⟨b1,b2⟩,b3⟩:=hc
  exact ⟨_,_,Rp.rep p a1 r1,Rp.rep q b1 r2,a2,b2,a3,k _ H [] [30] (.mkB _) .nil [12]⟩
 ·cases e
theorem zaA:OpV K (fun x y H Q=>∃ d e,Rep K H x d/\Rep K H y e/\d.canLay0=true/\e.canLay0=true/\d.depth≤64/\Q (.bl (!PyData.eqv d e)) H) vNe:=by
 intro H p q x y A B z Q r1 r2 e k
 unfold vNe at e
 split at e
 ·rename_i hc;cases e
  unfold u7 at hc
  simp only [Bool.and_eq_true,decide_eq_true_eq] at hc
  obtain ⟨⟨⟨a1,a2⟩,a3⟩,⟨b1,b2⟩,b3⟩:=hc
  exact ⟨_,_,Rp.rep p a1 r1,Rp.rep q b1 r2,a2,b2,a3,k _ H [] [30] (.mkB _) .nil [12]⟩
 ·cases e
theorem kj{H:Hp}{p:PV}{v:V}{A:List Addr}(h:wU p=true)(r:Rp K H p v A):vx v=true:=by
 cases p<;>first | (simp [wU] at h;done) | skip
 ·rw [r.N.1];rfl
 ·rw [r.B.1];rfl
 ·rw [r.I.1];rfl
 ·rw [r.S.1];rfl
theorem zmU{H:Hp}{p q:PV}{v w:V}{A B:List Addr}(h:wU p=true)(h':wU q=true)(r:Rp K H p v A)(r':Rp K H q w B):eqV v w=eqS p q:=by
 cases p<;>cases q<;>first | (simp [wU] at h;done) | (simp [wU] at h';done) | skip
 all_goals first
  | rw [r.N.1,r'.N.1];rfl
  | rw [r.N.1,r'.B.1];rfl
  | rw [r.N.1,r'.I.1];rfl
  | rw [r.N.1,r'.S.1];rfl
  | rw [r.B.1,r'.N.1];rfl
  | rw [r.B.1,r'.B.1];rfl
  | rw [r.B.1,r'.I.1];rfl
  | rw [r.B.1,r'.S.1];rfl
  | rw [r.I.1,r'.N.1];rfl
  | rw [r.I.1,r'.B.1];rfl
  | rw [r.I.1,r'.I.1];rfl
  | rw [r.I.1,r'.S.1];rfl
  | rw [r.S.1,r'.N.1];rfl
  | rw [r.S.1,r'.B.1];rfl
  | rw [r.S.1,r'.I.1];rfl
  | rw [r.S.1,r'.S.1];rfl
theorem zeM{H:Hp}{p:PV}{v:V}{A:List Addr}(h:wU p=true)(r:Rp K H p v A):∀ {ps:List PV} {xs:List V} {B:List Addr},ps.all wU=true->Rps K H ps xs B->xs.all vx=true/\inV v xs=inP p ps
 | [],_,_,_,g=>by rw [g.inv0.1];exact ⟨rfl,rfl⟩
 | q::ps,_,_,hq,g=>by
  obtain ⟨w,r',A1,A2,rfl,_,h3,h4⟩:=g.inv
  rw [List.all_cons,JO] at hq
  obtain ⟨i1,i2⟩:=zeM h r hq.2 h4
  refine ⟨by rw [List.all_cons,kj hq.1 h3,i1];rfl,?_⟩
  unfold inV inP at i2 ⊢
  rw [KC,KC,zmU hq.1 h h3 r,i2]
theorem kX:∀ {ks:List Key} {xs:List V} (h:ks.length=xs.length) (k:Key),(xj (ks.zip xs) k).isSome=jX ks k
 | [],[],_,_=>rfl
 | [],_::_,h,_=>by simp at h
 | _::_,[],h,_=>by simp at h
 | k'::ks,x::xs,h,k=>by
  have ih:=kX (ks:=ks) (xs:=xs) (by simpa using h) k
  rw [← jH] at ih ⊢
  unfold jX at ih ⊢
  rw [Ks,KC,KC,ih]
noncomputable def ziT(K:PySem.W.Frag)(neg:Bool):R2:=fun x y H Q=>∃ b,(zke K H y x b∨∃ a kvs,x=.non/\y=.ref a/\H a=some (.dK kvs)/\b=false)/\Q (.bl (if neg then !b else b)) H
theorem ug(hu:X.A.units+1<cLine):OpR X (compareOp .In) (ziT X.K false):=by
 intro pins s σ H x y v u Q I rx ry h
 obtain ⟨b,h | ⟨a,kvs,rfl,rfl,h,rfl⟩,q⟩:=h
 ·exact zfC hu pins s σ H x y v u Q I rx ry ⟨b,h,q⟩
 ·exact zcv hu pins s σ H _ _ v u Q I rx ry ⟨a,rfl,.inr ⟨kvs,rfl,h,q⟩⟩
theorem wP(hu:X.A.units+1<cLine):OpR X (compareOp .NotIn) (ziT X.K true):=by
 intro pins s σ H x y v u Q I rx ry h
 obtain ⟨b,h | ⟨a,kvs,rfl,rfl,h,rfl⟩,q⟩:=h
 ·exact zbp hu pins s σ H x y v u Q I rx ry ⟨b,h,q⟩
 ·cases ry
  cases rx
  obtain ⟨z,hd,vs,rel,dd⟩:=zaO I.hok h
  exact wpAny_notIn_of (knd:=zbn X.prog X.w) (k:=none) rfl hd (zcI dd.mapOf) ⟨.bl true,H,I.tok _,rfl,q⟩
theorem zks{H:Hp}{p q:PV}{x y:V}{A B:List Addr}{b:Bool}(r1:Rp K H p x A)(r2:Rp K H q y B)(e:vIn p q=some b):zke K H y x b∨∃ a kvs,x=.non/\y=.ref a/\H a=some (.dK kvs)/\b=false:=by
 cases q<;>first | (cases e;done) | skip
 ·simp only [vIn] at e
  split at e
  ·rename_i hc;cases e
   rw [JO] at hc
   obtain ⟨a,xs,e1,g0,g1⟩:=r2.T
   obtain ⟨i1,i2⟩:=zeM hc.1 r1 hc.2 g1
   exact .inl (.inl ⟨a,xs,e1,.inr g0,kj hc.1 r1,i1,i2.symm⟩)
  ·cases e
 ·simp only [vIn] at e
  split at e
  ·rename_i hc;cases e
   rw [JO] at hc
   obtain ⟨a,xs,B1,e1,g0,_,g1⟩:=r2.L
   obtain ⟨i1,i2⟩:=zeM hc.1 r1 hc.2 g1
   exact .inl (.inl ⟨a,xs,e1,.inl (SqL.of g0),kj hc.1 r1,i1,i2.symm⟩)
  ·cases e
 ·simp only [vIn] at e
  split at e
  ·rename_i hc;cases e
   rw [JO] at hc
   obtain ⟨a,xs,e1,g0,g1⟩:=r2.Fl
   obtain ⟨i1,i2⟩:=zeM hc.1 r1 hc.2 g1
   exact .inl (.inl ⟨a,xs,e1,.inl g0.seq,kj hc.1 r1,i1,i2.symm⟩)
  ·cases e
 ·obtain ⟨a,xs,B1,e1,g0,gl,_,g1⟩:=r2.D
  have hl:=g1.length
  cases p<;>first | (cases e;done) | skip
  ·cases e
   exact .inr ⟨a,_,r1.N.1,e1,g0,rfl⟩
  ·cases e
   refine .inl (.inr ⟨a,_,e1,by rw [r1.I.1];exact DGet.k (k:=Sum.inl _) g0,?_⟩)
   rw [kX [8]]
  ·cases e
   refine .inl (.inr ⟨a,_,e1,by rw [r1.S.1];exact DGet.k (k:=Sum.inr _) g0,?_⟩)
   rw [kX [8]]
theorem ue:OpV K (ziT K false) x9:=by
 intro H p q x y A B z Q r1 r2 e k
 unfold x9 at e
 cases hb:vIn p q with
 | none=>rw [hb] at e;cases e
 | some b=>rw [hb] at e;cases e;exact ⟨b,zks r1 r2 hb,k _ H [] [30] (.mkB _) .nil [12]⟩
theorem wO:OpV K (ziT K true) yx:=by
 intro H p q x y A B z Q r1 r2 e k
 unfold yx at e
 cases hb:vIn p q with
 | none=>rw [hb] at e;cases e
 | some b=>rw [hb] at e;cases e;exact ⟨b,zks r1 r2 hb,k _ H [] [30] (.mkB _) .nil [12]⟩
theorem zjn:OpV K (fun x y H Q=>y=.non/\Q (.bl (!decide (x=.non))) H) zkg:=by
 intro H p q x y A B z Q r1 r2 e k
 cases q<;>first | (cases e;done) | skip
 refine ⟨r2.N.1,?_⟩
 cases p
 case non=>cases e;rw [r1.N.1];exact k _ H [] [30] (.mkB _) .nil [12]
 case any=>cases e
 all_goals
  cases e
  have hx:¬ x=V.non:=by
   intro hx
   subst hx
   first
    | (have:=r1.B.1;cases this;done)
    | (have:=r1.I.1;cases this;done)
    | (have:=r1.S.1;cases this;done)
    | (have:=r1.Ty.1;cases this;done)
    | (obtain ⟨_,_,z,_⟩:=r1.T;cases z;done)
    | (obtain ⟨_,_,_,z,_⟩:=r1.L;cases z;done)
    | (obtain ⟨_,_,z,_⟩:=r1.Fl;cases z;done)
    | (obtain ⟨_,_,_,z,_⟩:=r1.D;cases z;done)
    | (have:=r1.P.1;cases this;done)
    | (have:=r1.Ad.1;cases this;done)
  rw [decide_eq_false hx]
  exact k _ H [] [30] (.mkB _) .nil [12]
end
end F
namespace L2
theorem PE.or{X:Cx}{e:PySem.Expr}{t t':TE}(h:PE X e t)(h':PE X e t'):PE X e (fun σ H Q=>t σ H Q∨t' σ H Q):=fun pins s σ H Q I hw=>hw.elim (h pins s σ H Q I) (h' pins s σ H Q I)
theorem PS.or{X:Cx}{e:PySem.Stmt}{t t':TS}(h:PS X e t)(h':PS X e t'):PS X e (fun D σ H=>t D σ H∨t' D σ H):=fun pins s σ H D I hw=>hw.elim (h pins s σ H D I) (h' pins s σ H D I)
end L2
namespace F
open PySem PySem.Spec PyProof.Rows L2
noncomputable def vp(ks:List Key)(vs:List PV)(k:Key):Option PV:=((ks.zip vs).find? fun kv=>decide (kv.1=k)).map (·.2)
noncomputable def vIx:PV->PV->Option PV
 | .lst xs,.int i=>atI xs i
 | .fls xs,.int i=>atI xs i
 | .tup xs,.int i=>atI xs i
 | .str z,.int i=>if z.length≤100000 then (atI z.cps.toList i).map fun c=>.str ⟨#[c]⟩ else none
 | .dct ks vs,.int i=>vp ks vs (.inl i)
 | .dct ks vs,.str x=>vp ks vs (.inr x)
 | _,_=>none
theorem Cat.sub{c:Cat}{H:Hp}{own:Addr->Option Nat}{A C:List Addr}(h:c.ok H own A)(s:C.Sublist A):c.ok H own C:=by
 cases c with
 | mv L=>exact ⟨h.1.sublist s,fun a ha=>h.2 a (s.subset ha)⟩
 | sh=>exact fun a ha=>h a (s.subset ha)
 | bo=>trivial
section
variable {K:PySem.W.Frag} {H:Hp}
theorem Rps.atI{ps:List PV}{xs:List V}{A:List Addr}{i:Int}{p:PV}(r:Rps K H ps xs A)(h:L2.atI ps i=some p):∃ v C,L2.atI xs i=some v/\Rp K H p v C/\C.Sublist A:=by
 unfold L2.atI at h ⊢
 rw [← r.length]
 cases e:ixN ps.length i with
 | none=>rw [e] at h;cases h
 | some j=>
  rw [e] at h
  exact r.get h
theorem jD:∀ {ks:List Key} {ps:List PV} {xs:List V} {A:List Addr} {k:Key} {p:PV},Rps K H ps xs A->vp ks ps k=some p->∃ v C,xj (ks.zip xs) k=some v/\Rp K H p v C/\C.Sublist A
 | [],_,_,_,_,_,_,h=>by simp [vp] at h
 | k'::ks,[],_,_,_,_,_,h=>by simp [vp] at h
 | k'::ks,q::ps,_,_,k,p,r,h=>by
  obtain ⟨w,r',A1,A2,rfl,rfl,h3,h4⟩:=r.inv
  unfold vp at h
  rw [Ks,Qe] at h
  by_cases hk:k'=k
  ·subst hk
   simp at h
   subst h
   exact ⟨w,A1,by rw [Ks];exact jG rfl,h3,List.sublist_append_left _ _⟩
  ·have:decide (k'=k)=false:=decide_eq_false hk
   rw [show decide ((k',q).1=k)=false from this] at h
   obtain ⟨v,C,g1,g2,g3⟩:=jD (ks:=ks) h4 h
   refine ⟨v,C,?_,g2,g3.trans (List.sublist_append_right _ _)⟩
   rw [Ks]
   unfold xj at g1 ⊢
   rw [Qe,show decide ((k',w).1=k)=false from this]
   exact g1
end
section
variable {X:Cx} {κ:Nat->Option Nat} {G:Hp} {c c1 c2:Cat} {a b e:Expr} {es:List Expr} {fa fb f:FE} {t u:FT} {fs:FA} {pos:Pos} {g h:FS} {st:Stmt} {rest:List Stmt}
theorem zhU{gg:PV->PV->Option PV}{env:En}{z:PV}(e:fOp gg fa fb env=some z):∃ p q,fa env=some p/\fb env=some q/\gg p q=some z:=by
 unfold fOp at e
 replace e:=Ja.mp e;obtain ⟨p,hp,e⟩:=e
 replace e:=Ja.mp e;obtain ⟨q,hq,e⟩:=e
 exact ⟨p,q,hp,hq,e⟩
theorem zf(hu:X.A.units+1<cLine)(ha:VE X κ G c a fa)(hb:VE X κ G c2 b fb)(hs:zfc b):VE X κ G c (.Subscript a b pos) (fOp vIx fa fb):=
 ((zko zhD ha hb hs).or (zjk hu ha hb hs)).imp fun σ H Q hq_=>by
 refine hq_.elim fun own env z I e k=>?_
 obtain ⟨p,q,hp,hq,e⟩:=zhU e
 have go:∀ x H1 A,Same H H1->Rp X.K H1 p x A->c.ok H own A->∀ (R:V->Hp->Prop),(∀ y H2 B,Same H1 H2->Rp X.K H2 q y B->R y H2)->tV X.K κ G c2 fb σ H1 R:=fun x H1 A s1 r1 _ R hR=>(.in (I.grow s1) hq fun y H2 B s2 r2 _=>hR y H2 B s2 r2)
 unfold vIx at e
 split at e
 ·refine .inl (.in I hp fun x H1 A s1 r1 c1=>go x H1 A s1 r1 c1 _ fun y H2 B s2 r2=>.inl ?_)
  obtain ⟨ad,xs,B1,e1,h1,rfl,g1⟩:=(Rp.same s2 _ r1).L
  obtain ⟨v,C,h3,h4,h5⟩:=g1.atI e
  exact ⟨ad,xs,_,v,e1,r2.I.1,SqL.of h1,h3,k v H2 C [79] h4 (Cat.sub c1 (h5.trans (List.sublist_cons_self _ _)))⟩
 ·refine .inl (.in I hp fun x H1 A s1 r1 c1=>go x H1 A s1 r1 c1 _ fun y H2 B s2 r2=>.inl ?_)
  obtain ⟨ad,xs,e1,h1,g1⟩:=(Rp.same s2 _ r1).Fl
  obtain ⟨v,C,h3,h4,h5⟩:=g1.atI e
  exact ⟨ad,xs,_,v,e1,r2.I.1,h1.seq,h3,k v H2 C [79] h4 (Cat.sub c1 h5)⟩
 ·refine .inl (.in I hp fun x H1 A s1 r1 c1=>go x H1 A s1 r1 c1 _ fun y H2 B s2 r2=>.inr (.inl ?_))
  obtain ⟨ad,xs,e1,h1,g1⟩:=(Rp.same s2 _ r1).T
  obtain ⟨v,C,h3,h4,h5⟩:=g1.atI e
  exact ⟨ad,xs,_,v,e1,r2.I.1,h1,h3,k v H2 C [79] h4 (Cat.sub c1 h5)⟩
 ·rename_i zz ii
  split at e
  case isFalse=>cases e
  rename_i hl
  cases hc:atI zz.cps.toList ii with
  | none=>rw [hc] at e;cases e
  | some ch=>
   rw [hc] at e
   have ez:z=.str ⟨#[ch]⟩:=(Jq e).symm
   refine .inl (.in I hp fun x H1 A s1 r1 c1=>go x H1 A s1 r1 c1 _ fun y H2 B s2 r2=>.inr (.inr ?_))
   exact ⟨_,_,ch,r1.S.1,r2.I.1,by rw [sizeLine_eq];omega,hc,k _ H2 [] [79] (by rw [ez];exact .mkS _) (Cat.nil _ _ _)⟩
 ·refine .inr (.in I hp fun x H1 A s1 r1 c1=>go x H1 A s1 r1 c1 _ fun y H2 B s2 r2=>?_)
  obtain ⟨ad,xs,B1,e1,h1,hl,rfl,g1⟩:=(Rp.same s2 _ r1).D
  obtain ⟨v,C,h3,h4,h5⟩:=jD g1 e
  exact ⟨ad,v,e1,by rw [r2.I.1,← h3];exact DGet.k (k:=Sum.inl _) h1,k v H2 C [79] h4 (Cat.sub c1 (h5.trans (List.sublist_cons_self _ _)))⟩
 ·refine .inr (.in I hp fun x H1 A s1 r1 c1=>go x H1 A s1 r1 c1 _ fun y H2 B s2 r2=>?_)
  obtain ⟨ad,xs,B1,e1,h1,hl,rfl,g1⟩:=(Rp.same s2 _ r1).D
  obtain ⟨v,C,h3,h4,h5⟩:=jD g1 e
  exact ⟨ad,v,e1,by rw [r2.S.1,← h3];exact DGet.k (k:=Sum.inr _) h1,k v H2 C [79] h4 (Cat.sub c1 (h5.trans (List.sublist_cons_self _ _)))⟩
 ·cases e
noncomputable def kR(K:PySem.W.Frag)(r:List V->Hp->VK->Prop)(gg:List PV->Option PV):Prop:=∀ (H:Hp) (ps:List PV) (vs:List V) (A:List Addr) (z:PV) (Q:VK),Rps K H ps vs A->gg ps=some z->
 (∀ v H' C,Same H H'->Rp K H' z v C->C.Nodup->(∀ a ∈ C,H a=none)->Q v H')->r vs H Q
theorem zgD{K:PySem.W.Frag}{r:List V->Hp->VK->Prop}{gg:List PV->Option PV}(hv:kR K r gg)(σ:St)(H:Hp)(Q:VK)(h:tV K κ G [33] (zI gg fs) σ H Q):tCB r (tVA K κ G c fs) σ H Q:=by
 obtain ⟨own,env,z,I,hf,k⟩:=h
 unfold zI at hf
 replace hf:=Ja.mp hf;obtain ⟨qs,hp,hf⟩:=hf
 exact (.in I hp fun vs H1 A s1 r1 _=>hv H1 qs vs A z Q r1 hf fun v H' C s2 r2 nd fr=>k v H' C [79] r2 ⟨nd,fun a ha=>.inl (s1.free (fr a ha))⟩)
theorem zt{x:Str}{p:Pos}{id:String}{r:List V->Hp->VK->Prop}{gg:List PV->Option PV}(hv:kR X.K r gg)(hc:CallR X (.builtin id) r)(hg:Gl X x)(hm:X.mg x=none)(hb:bootBuiltins x=some (.builtin id))(ha:VA X κ G c (e::es) fs)(hn:x≠"__name__":=by decide)(hdb:[48]=false:=by decide)
  (he:starEach (e::es) X.env=[41]::starEach es X.env:=by rfl)(hpl:[66].any (·.1)=false:=by rfl):VE X κ G [33] [78] (zI gg fs):=(zcu hc hg hm hb ha.1 hn hdb he hpl).imp (zgD hv)
theorem jk{x:Str}{p:Pos}{T:String}{r:List V->Hp->VK->Prop}{gg:List PV->Option PV}(hv:kR X.K r gg)(hc:CallR X (.type T) r)(hg:Gl X x)(hm:X.mg x=none)(hb:bootBuiltins x=some (.type T))(ha:VA X κ G c (e::es) fs)(hn:x≠"__name__":=by decide)(hdb:[48]=false:=by decide)
  (he:starEach (e::es) X.env=[41]::starEach es X.env:=by rfl)(hpl:[66].any (·.1)=false:=by rfl):VE X κ G [33] [78] (zI gg fs):=(zfA hc hg hm hb ha.1 hn hdb he hpl).imp (zgD hv)
noncomputable def xr:List PV->Option PV
 | [.lst xs]=>some (.int xs.length)
 | [.fls xs]=>some (.int xs.length)
 | [.tup xs]=>some (.int xs.length)
 | [.dct ks _]=>some (.int ks.length)
 | [.str z]=>if z.length≤100000 then some (.int z.length) else none
 | _=>none
theorem xv:CallR X (.builtin "len") (fun xs H Q=>(∃ p ys,xs=[.ref p]/\(SqL X.K H p ys∨SqT X.K H p ys)/\Q (.int ys.length) H)∨((∃ a kvs,xs=[V.ref a]/\H a=some (.dK kvs)/\Q (.int kvs.length) H)∨∃ z,xs=[.str z]/\z.length≤sizeLine/\Q (.int z.length) H)):=call_len_seq.or (call_lenD.or zbL)
theorem yX{K:PySem.W.Frag}{H:Hp}{p:PV}{vs:List V}{A:List Addr}(r:Rps K H [p] vs A):∃ v,vs=[v]/\Rp K H p v A:=by
 obtain ⟨v,r',A1,A2,h1,h2,h3,h4⟩:=r.inv
 obtain ⟨h5,h6⟩:=h4.inv0
 exact ⟨v,by rw [h1,h5],by rw [h2,h6,Kk];exact h3⟩
theorem zgu{K:PySem.W.Frag}{H:Hp}{p q:PV}{vs:List V}{A:List Addr}(r:Rps K H [p,q] vs A):∃ v w A1 A2,vs=[v,w]/\A=A1++A2/\Rp K H p v A1/\Rp K H q w A2:=by
 obtain ⟨v,r',A1,A2,h1,h2,h3,h4⟩:=r.inv
 obtain ⟨w,h5,h6⟩:=yX h4
 exact ⟨v,w,A1,A2,by rw [h1,h5],h2,h3,h6⟩
theorem xu{K:PySem.W.Frag}:kR K (fun xs H Q=>(∃ p ys,xs=[.ref p]/\(SqL K H p ys∨SqT K H p ys)/\Q (.int ys.length) H)∨((∃ a kvs,xs=[V.ref a]/\H a=some (.dK kvs)/\Q (.int kvs.length) H)∨∃ z,xs=[.str z]/\z.length≤sizeLine/\Q (.int z.length) H)) xr:=by
 intro H ps vs A z Q r e k
 have fin:∀ n:Int,z=.int n->Q (.int n) H:=fun n e=>k _ H [] [30] (by rw [e];exact .mkI n) .nil [12]
 unfold xr at e
 split at e
 ·rename_i xs
  obtain ⟨v,rfl,rr⟩:=yX r
  obtain ⟨a,ys,B,e1,h1,_,g⟩:=rr.L
  exact .inl ⟨a,ys,by rw [e1],.inl (SqL.of h1),fin _ (by rw [← g.length];exact (Jq e).symm)⟩
 ·rename_i xs
  obtain ⟨v,rfl,rr⟩:=yX r
  obtain ⟨a,ys,e1,h1,g⟩:=rr.Fl
  exact .inl ⟨a,ys,by rw [e1],.inl h1.seq,fin _ (by rw [← g.length];exact (Jq e).symm)⟩
 ·rename_i xs
  obtain ⟨v,rfl,rr⟩:=yX r
  obtain ⟨a,ys,e1,h1,g⟩:=rr.T
  exact .inl ⟨a,ys,by rw [e1],.inr h1,fin _ (by rw [← g.length];exact (Jq e).symm)⟩
 ·rename_i ks xs
  obtain ⟨v,rfl,rr⟩:=yX r
  obtain ⟨a,ys,B,e1,h1,hl,_,g⟩:=rr.D
  refine .inr (.inl ⟨a,_,by rw [e1],h1,fin _ ?_⟩)
  rw [QL,← g.length,← hl,Nat.min_self]
  exact (Jq e).symm
 ·rename_i y
  obtain ⟨v,rfl,rr⟩:=yX r
  split at e
  ·rename_i hl
   exact .inr (.inr ⟨y,by rw [rr.S.1],by rw [sizeLine_eq];omega,fin _ (Jq e).symm⟩)
  ·cases e
 ·cases e
noncomputable def zcd:List PV->Option PV
 | [.lst xs]=>if isDatas xs=true then some (.lst xs) else none
 | [.fls xs]=>if isDatas xs=true then some (.lst xs) else none
 | [.tup xs]=>if isDatas xs=true then some (.lst xs) else none
 | [.dct ks _]=>some (.lst (ks.map fun k=>match k with | .inl i=>.int i | .inr x=>.str x))
 | _=>none
noncomputable def jm:List PV->Option PV
 | [.lst xs]=>if isDatas xs=true then some (.tup xs) else none
 | [.fls xs]=>if isDatas xs=true then some (.tup xs) else none
 | [.tup xs]=>if isDatas xs=true then some (.tup xs) else none
 | _=>none
theorem qg{K:PySem.W.Frag}{H:Hp}:∀ (ks:List Key),Rps K H (ks.map fun k=>match k with | .inl i=>.int i | .inr x=>.str x) (ks.map kV) []
 | []=>.nil
 | .inl i::ks=>by
  have:=Rps.cons (K:=K) (H:=H) (.mkI i) (qg ks)
  exact this
 | .inr x::ks=>by
  have:=Rps.cons (K:=K) (H:=H) (.mkS x) (qg ks)
  exact this
theorem zkc(hc:X.calm=true):CallR X (.type "list") (fun xs H Q=>(∃ p ys,xs=[.ref p]/\(SqL X.K H p ys∨SqT X.K H p ys)/\∀ l,H l=none->Q (.ref l) (upd H l (.lst ys)))∨∃ p kvs,xs=[.ref p]/\H p=some (.dK kvs)/\∀ l,H l=none->Q (.ref l) (upd H l (.lst (kvs.map fun kv=>kV kv.1)))):=call_list_of.or (zab hc)
theorem zkb{K:PySem.W.Frag}:kR K (fun xs H Q=>(∃ p ys,xs=[.ref p]/\(SqL K H p ys∨SqT K H p ys)/\∀ l,H l=none->Q (.ref l) (upd H l (.lst ys)))∨∃ p kvs,xs=[.ref p]/\H p=some (.dK kvs)/\∀ l,H l=none->Q (.ref l) (upd H l (.lst (kvs.map fun kv=>kV kv.1)))) zcd:=by
 intro H ps vs A z Q r e k
 unfold zcd at e
 split at e
 ·rename_i xs
  obtain ⟨v,rfl,rr⟩:=yX r
  split at e
  ·rename_i hd;cases e
   obtain ⟨a,ys,B,e1,h1,_,g⟩:=rr.L
   exact .inl ⟨a,ys,by rw [e1],.inl (SqL.of h1),wd hd g k (z:=.non)⟩
  ·cases e
 ·rename_i xs
  obtain ⟨v,rfl,rr⟩:=yX r
  split at e
  ·rename_i hd;cases e
   obtain ⟨a,ys,e1,h1,g⟩:=rr.Fl
   exact .inl ⟨a,ys,by rw [e1],.inl h1.seq,wd hd g k (z:=.non)⟩
  ·cases e
 ·rename_i xs
  obtain ⟨v,rfl,rr⟩:=yX r
  split at e
  ·rename_i hd;cases e
   obtain ⟨a,ys,e1,h1,g⟩:=rr.T
   exact .inl ⟨a,ys,by rw [e1],.inr h1,wd hd g k (z:=.non)⟩
  ·cases e
 ·rename_i ks xs
  obtain ⟨v,rfl,rr⟩:=yX r
  obtain ⟨a,ys,B,e1,h1,hl,_,g⟩:=rr.D
  cases e
  refine .inr ⟨a,_,by rw [e1],h1,?_⟩
  have e2:(ks.zip ys).map (fun kv=>kV kv.1)=ks.map kV:=by
   have:(ks.zip ys).map (fun kv=>kV kv.1)=((ks.zip ys).map Prod.fst).map kV:=by rw [KA];rfl
   rw [this,List.map_fst_zip (by rw [← g.length,hl];exact Jn _)]
  rw [e2]
  exact wd (xB _ (fun k=>by cases k<;>rfl) ks) (qg ks) k (z:=.non)
 ·cases e
theorem zdc{K:PySem.W.Frag}:kR K (fun xs H Q=>∃ p ys,xs=[.ref p]/\((SqL K H p ys/\∀ l,H l=none->Q (.ref l) (upd H l (.tup ys)))∨(SqT K H p ys/\Q (.ref p) H))) jm:=by
 intro H ps vs A z Q r e k
 unfold jm at e
 split at e
 ·rename_i xs
  obtain ⟨v,rfl,rr⟩:=yX r
  split at e
  ·rename_i hd;cases e
   obtain ⟨a,ys,B,e1,h1,_,g⟩:=rr.L
   exact ⟨a,ys,by rw [e1],.inl ⟨SqL.of h1,kc hd g k (z:=.non)⟩⟩
  ·cases e
 ·rename_i xs
  obtain ⟨v,rfl,rr⟩:=yX r
  split at e
  ·rename_i hd;cases e
   obtain ⟨a,ys,e1,h1,g⟩:=rr.Fl
   exact ⟨a,ys,by rw [e1],.inl ⟨h1.seq,kc hd g k (z:=.non)⟩⟩
  ·cases e
 ·rename_i xs
  obtain ⟨v,rfl,rr⟩:=yX r
  split at e
  ·rename_i hd;cases e
   obtain ⟨a,ys,e1,h1,g⟩:=rr.T
   have:=Rps.data xs hd g
   subst this
   exact ⟨a,ys,by rw [e1],.inr ⟨h1,k _ H [] [30] (.mkT h1 g) .nil [12]⟩⟩
  ·cases e
 ·cases e
noncomputable def zny:List PV->Option PV
 | [.int i]=>some [87]
 | [.bl b]=>some (.int (if b then 1 else 0))
 | _=>none
noncomputable def zbJ(xs:List PV)(lo hi:Option Int):List PV:=(xs.drop (HT.sIx xs.length 0 lo)).take (HT.sIx xs.length xs.length hi - HT.sIx xs.length 0 lo)
noncomputable def vSl:PV->Option Int->Option Int->Option PV
 | .lst xs,lo,hi=>if isDatas xs=true then some (.lst (zbJ xs lo hi)) else none
 | .fls xs,lo,hi=>if isDatas xs=true then some (.lst (zbJ xs lo hi)) else none
 | .tup xs,lo,hi=>if isDatas xs=true then some (.tup (zbJ xs lo hi)) else none
 | _,_,_=>none
noncomputable abbrev FO:=En->Option (Option Int)
noncomputable def jZ:FO:=fun _=>some none
noncomputable def zaM(f:FE):FO:=fun env=>(f env).bind fun p=>match p with | .int i=>some (some i) | _=>none
noncomputable def tVO(K:PySem.W.Frag)(κ:Nat->Option Nat)(G:Hp)(f:FO):TO:=fun σ H Q=>∃ own env o,VI K κ G own env σ H/\f env=some o/\∀ H',Same H H'->Q o H'
theorem tVO.in{K:PySem.W.Frag}{κ:Nat->Option Nat}{G:Hp}{f:FO}{σ:St}{H:Hp}{Q:Option Int->Hp->Prop}{own:Addr->Option Nat}{env:En}{p:Option Int}(I:VI K κ G own env σ H)(hf:f env=some p)(k:∀ H',Same H H'->Q p H'):tVO K κ G f σ H Q:=⟨own,env,p,I,hf,k⟩
theorem tVO.elim{K:PySem.W.Frag}{κ:Nat->Option Nat}{G:Hp}{f:FO}{σ:St}{H:Hp}{Q:Option Int->Hp->Prop}{C:Prop}(h:tVO K κ G f σ H Q)(k:∀ own env (p:Option Int),VI K κ G own env σ H->f env=some p->(∀ H',Same H H'->Q p H')->C):C:=
 let ⟨own,env,p,I,hf,q⟩:=h
 k own env p I hf q
noncomputable def VO(X:Cx)(κ:Nat->Option Nat)(G:Hp)(e:Option Expr)(f:FO):Prop:=PO X e (tVO X.K κ G f)
theorem zer:VO X κ G none jZ:=fun pins s σ H Q I ⟨own,env,o,I',e,k⟩=>by
 cases e
 exact zjf pins s σ H Q I (k H [30])
theorem zeq(h:VE X κ G c e f):VO X κ G (some e) (zaM f):=fun pins s σ H Q I ⟨own,env,o,I',hf,k⟩=>by
 refine zje h pins s σ H Q I ?_
 unfold zaM at hf
 replace hf:=Ja.mp hf;obtain ⟨p,hp,hf⟩:=hf
 refine (.in I' hp fun v H' A s r _=>?_)
 cases p<;>first | (cases hf;done) | skip
 cases hf
 exact ⟨_,r.I.1,k H' s⟩
theorem Rps.take_{K:PySem.W.Frag}{H:Hp}:∀ {ps:List PV} {xs:List V} (n:Nat),Rps K H ps xs []->Rps K H (ps.take n) (xs.take n) []
 | _,_,0,_=>by simpa using Rps.nil
 | [],_,n+1,r=>by rw [r.inv0.1];simpa using Rps.nil
 | p::ps,_,n+1,r=>by
  obtain ⟨v,r',A1,A2,rfl,h2,h3,h4⟩:=r.inv
  obtain ⟨rfl,rfl⟩:=KN.mp h2.symm
  exact Rps.cons h3 (Rps.take_ n h4)
theorem Rps.drop_{K:PySem.W.Frag}{H:Hp}:∀ {ps:List PV} {xs:List V} (n:Nat),Rps K H ps xs []->Rps K H (ps.drop n) (xs.drop n) []
 | _,_,0,r=>r
 | [],_,n+1,r=>by rw [r.inv0.1];simpa using Rps.nil
 | p::ps,_,n+1,r=>by
  obtain ⟨v,r',A1,A2,rfl,h2,h3,h4⟩:=r.inv
  obtain ⟨rfl,rfl⟩:=KN.mp h2.symm
  exact Rps.drop_ n h4
theorem Rps.cut{K:PySem.W.Frag}{H:Hp}{ps:List PV}{xs:List V}{lo hi:Option Int}(r:Rps K H ps xs []):Rps K H (zbJ ps lo hi) (qw xs lo hi) []:=by
 unfold zbJ qw
 rw [r.length]
 exact Rps.take_ _ (Rps.drop_ _ r)
theorem uG{xs ys:List PV}(h:isDatas xs=true)(s:∀ y ∈ ys,y ∈ xs):isDatas ys=true:=by
 rw [wf] at h ⊢
 exact fun y hy=>h y (s y hy)
theorem qx{xs:List PV}{lo hi:Option Int}:∀ y ∈ zbJ xs lo hi,y ∈ xs:=fun y hy=>Qk (QF hy)
noncomputable def fSl(f:FE)(l h:FO):FE:=fun env=>(f env).bind fun p=>(l env).bind fun lo=>(h env).bind fun hi=>vSl p lo hi
theorem zcb{lo hi:Option Expr}{fl fh:FO}{p2:Pos}(he:VE X κ G c e f)(hl:VO X κ G lo fl)(hh:VO X κ G hi fh):VE X κ G [33] (.Subscript e (.Slice lo hi none p2) pos) (fSl f fl fh):=
 (zhd (sl_list.or ziM) he hl hh).imp fun σ H Q hq_=>by
 refine hq_.elim fun own env z I e k=>?_
 unfold fSl at e
 replace e:=Ja.mp e;obtain ⟨p,hp,e⟩:=e
 replace e:=Ja.mp e;obtain ⟨l,h1,e⟩:=e
 replace e:=Ja.mp e;obtain ⟨u,h2,e⟩:=e
 refine (.in I hp fun x H1 A s1 r1 _=>(.in (I.grow s1) h1 fun H2 s2=>(.in (I.grow [79]) h2 fun H3 s3=>?_)))
 have sA:=s1.trans (s2.trans s3)
 have k':∀ v H' C,Same H3 H'->Rp X.K H' z v C->C.Nodup->(∀ a ∈ C,H3 a=none)->Q v H':=fun v H' C s r nd fr=>k v H' C (sA.trans s) r ⟨nd,fun a ha=>.inl (sA.free (fr a ha))⟩
 have r3:=Rp.same (s2.trans s3) p r1
 unfold vSl at e
 split at e
 ·split at e
  case isFalse=>cases e
  rename_i hd
  cases e
  obtain ⟨a,xs,B1,e1,g0,_,g1⟩:=r3.L
  have:=Rps.data _ hd g1
  subst this
  exact .inl ⟨a,xs,e1,SqL.of g0,wd (uG hd qx) g1.cut k' (z:=.non)⟩
 ·split at e
  case isFalse=>cases e
  rename_i hd
  cases e
  obtain ⟨a,xs,e1,g0,g1⟩:=r3.Fl
  have:=Rps.data _ hd g1
  subst this
  exact .inl ⟨a,xs,e1,g0.seq,wd (uG hd qx) g1.cut k' (z:=.non)⟩
 ·split at e
  case isFalse=>cases e
  rename_i hd
  cases e
  obtain ⟨a,xs,e1,g0,g1⟩:=r3.T
  have:=Rps.data _ hd g1
  subst this
  refine .inr ⟨a,xs,e1,g0,fun hw=>?_,kc (uG hd qx) g1.cut k' (z:=.non)⟩
  have gc:=g1.cut (lo:=l) (hi:=u)
  rw [hw] at gc
  exact k' _ H3 [] [30] (.mkT g0 gc) .nil [12]
 ·cases e
end
section
variable {X:Cx} {κ:Nat->Option Nat} {G:Hp} {c c1 c2:Cat} {a b e:Expr} {es:List Expr} {fa fb f:FE} {t u:FT} {fs:FA} {pos:Pos} {g h:FS} {st:Stmt} {rest:List Stmt} {O:List Nat}
theorem uV {i : Nat} {env : En} {p : PV} (hf : zA i env = some p) : env[i]? = some (some p) := by
  unfold zA at hf
  cases q : env[i]? with
  | none => rw [q] at hf; cases hf
  | some z => rw [q] at hf; have : z = some p := by simpa using hf
              rw [this]
theorem jJ{i:Nat}{σ:St}{v:V}(h:σ[i]?=some (some v)):σ.set i (some v)=σ:=by
 apply Qi
 intro j
 rw [KH]
 by_cases hij:i=j
 ·subst hij
  rw [if_pos rfl,if_pos (Jp.mp h).1,h]
 ·rw [if_neg hij]
theorem VI.turn{K:PySem.W.Frag}{own:Addr->Option Nat}{env:En}{σ:St}{H0 H1:Hp}{i:Nat}{p:PV}{a:Addr}{o:HO}{B:List Addr}(hi:i ∈ O)(I:VI K (ko O) G own env σ H0)(s:Same H0 H1)(hσ:σ[i]?=some (some [67]))(ho:own a=some i)
  (hm:MutH H0 a)(r:Rp K (upd H1 a o) p [67] (a::B))(nd:(a::B).Nodup)(hB:∀ b ∈ B,own b=some i∨H0 b=none):
  VI K (ko O) G (acq own i (a::B)) (env.set i (some p)) σ (upd H1 a o)/\Ext own H0 (acq own i (a::B)) (upd H1 a o):=by
 have:=I.take (H2:=upd H1 a o) (v:=.ref a) hi (fun j q w C hj _ z hC=>Rp.upd (hm.same s) q (fun z'=>hC a z' ho) (Rp.same s q z)) (fun b u hb z=>by
  rw [zb (by rintro rfl;exact hb ho)];exact s b u z) r nd (fun b hb=>(List.mem_cons.mp hb).elim (fun z=>.inl (z ▸ ho)) (hB b))
 rw [jJ hσ] at this
 exact this
noncomputable def zw(i:Nat)(f:FE):FS:=fun env=>(zA i env).bind fun l=>(f env).bind fun q=>match l with | .lst ps=>if ps.length<100000 then some (.nx (env.set i (some (.lst (ps++[q]))))) else none | _=>none
theorem jC{K:PySem.W.Frag}{own:Addr->Option Nat}{env:En}{σ:St}{H:Hp}{i:Nat}{ps:List PV}(hi:i ∈ O)(I:VI K (ko O) G own env σ H)(hf:zA i env=some (.lst ps)):
  ∃ a xs B,σ[i]?=some (some [67])/\H a=some (.lst xs)/\Rps K H ps xs B/\(a::B).Nodup/\own a=some i/\∀ b ∈ B,own b=some i:=by
 obtain ⟨v,A,h1,h2,_,h3⟩:=I.slot i _ (uV hf)
 obtain ⟨nd,ho⟩:=h3 i (zcO hi)
 obtain ⟨a,xs,B,rfl,h4,rfl,h5⟩:=h2.L
 exact ⟨a,xs,B,h1,h4,h5,nd,ho a Jg,fun b hb=>ho b (Jf _ hb)⟩
theorem y9(i:Nat)(hi:i ∈ O)(hp:PS X st (zav (tBM X.K "list" kZ (uY i) (zaw (tV X.K (ko O) G [33] f) zfn)))):VS X (ko O) G st (zw i f):=hp.imp fun D σ H hq_=>by
 refine hq_.elim fun own env o I hf k=>?_
 unfold zw at hf
 replace hf:=Ja.mp hf;obtain ⟨l,hl,hf⟩:=hf
 replace hf:=Ja.mp hf;obtain ⟨q,hq,hf⟩:=hf
 cases l<;>first | (cases hf;done) | skip
 rename_i ps
 dsimp only at hf
 split at hf
 case isFalse=>cases hf
 rename_i hlen
 cases hf
 obtain ⟨a,xs,B,hσ,ha,hr,nd,ho,hB⟩:=jC hi I hl
 refine ⟨.ref a,hσ,.inl ⟨rfl,xs,SqL.of ha⟩,.in I hq fun y H1 C s1 r1 c1=>⟨a,xs,y,rfl,rfl,s1 _ _ ha,by rw [← hr.length,sizeLine_eq];omega,?_⟩⟩
 have fr:∀ b ∈ C,H b=none:=fun b hb=>(c1.2 b hb).elim id fun ⟨_,z,_⟩=>nomatch z
 have nC:a ∉ C:=fun z=>by rw [fr a z] at ha;cases ha
 have nB:a ∉ B:=(JF.mp nd).1
 have m1:MutH H1 a:=.inl ⟨xs,s1 _ _ ha⟩
 have hnd:(a::(B++C)).Nodup:=by
  rw [← List.cons_append]
  refine Jz.mpr ⟨nd,c1.1,fun x hx y' hy' hxy=>?_⟩
  subst hxy
  have hn:=fr x hy'
  rcases List.mem_cons.mp hx with rfl | hx
  ·exact nC hy'
  ·obtain ⟨o,ho⟩:=(Rps.mut ps hr x hx).some
   rw [hn] at ho;cases ho
 have hBC:∀ b ∈ B++C,own b=some i∨H b=none:=by
  intro b hb
  rcases List.mem_append.mp hb with hb | hb
  ·exact .inl (hB b hb)
  ·exact .inr (fr b hb)
 obtain ⟨h1,h2⟩:=I.turn (p:=.lst (ps++[q])) (o:=.lst (xs++[y])) (B:=B++C) hi s1 hσ ho (.inl ⟨xs,ha⟩)
  (.mkL zV ((Rps.upd m1 ps nB (Rps.same s1 ps hr)).append (Rps.one (Rp.upd m1 q nC r1)))) hnd hBC
 exact k _ _ _ h1 h2
noncomputable def zhT(k i:Nat):FS:=fun env=>(zA i env).bind fun l=>match l with | .lst ps=>(ps.getLast?).bind fun q=>if isDatas ps=true then some (.nx ((env.set i (some (.lst ps.dropLast))).set k (some q))) else none | _=>none
theorem Rps.dropLast{K:PySem.W.Frag}{H:Hp}:∀ {ps:List PV} {xs:List V},Rps K H ps xs []->Rps K H ps.dropLast xs.dropLast []
 | [],_,r=>by rw [r.inv0.1];exact .nil
 | [p],_,r=>by
  obtain ⟨v,h1,_⟩:=yX r
  rw [h1];exact .nil
 | p::q::ps,_,r=>by
  obtain ⟨v,r',A1,A2,rfl,h2,h3,h4⟩:=r.inv
  obtain ⟨rfl,rfl⟩:=KN.mp h2.symm
  obtain ⟨w,r'',_,_,rfl,_,_,_⟩:=id h4.inv
  exact Rps.cons h3 (Rps.dropLast h4)
theorem zkB(k i:Nat)(hi:i ∈ O)(hk:k ∉ O)(hp:PS X st (qD (zkK X.K "list" zmk (uY i)) (uj k))):VS X (ko O) G st (zhT k i):=hp.imp fun D σ H hq_=>by
 refine hq_.elim fun own env o I hf kk=>?_
 unfold zhT at hf
 replace hf:=Ja.mp hf;obtain ⟨l,hl,hf⟩:=hf
 cases l<;>first | (cases hf;done) | skip
 rename_i ps
 dsimp only at hf
 replace hf:=Ja.mp hf;obtain ⟨q,hq,hf⟩:=hf
 split at hf
 case isFalse=>cases hf
 rename_i hd
 cases hf
 obtain ⟨a,xs,B,hσ,ha,hr,nd,ho,hB⟩:=jC hi I hl
 have eB:=Rps.data ps hd hr
 subst eB
 have hq':ps[xs.length - 1]?=some q:=by rw [← hr.length,← hq,List.getLast?_eq_getElem?]
 obtain ⟨y,C,hy,r1,hC⟩:=hr.get hq'
 have eC:C=[]:=List.sublist_nil.mp hC
 subst eC
 have m1:MutH H a:=.inl ⟨xs,ha⟩
 refine ⟨.ref a,hσ,.inl ⟨rfl,xs,SqL.of ha⟩,a,xs,y,rfl,rfl,ha,hy,?_⟩
 obtain ⟨h1,h2⟩:=I.turn (p:=.lst ps.dropLast) (o:=.lst xs.dropLast) (B:=[]) hi [30] hσ ho m1 (.mkL zV (Rps.upd m1 _ [12] hr.dropLast)) [12] [12]
 exact kk _ _ _ (h1.set_sh (zdR hk) (Rp.upd m1 q [12] r1) [12]) h2
noncomputable def zdV(i:Nat):FS:=fun env=>(zA i env).bind fun l=>match l with | .lst ps=>some (.nx (env.set i (some (.lst [])))) | _=>none
theorem zgn(i:Nat)(hi:i ∈ O)(hp:PS X st (zav (zkK X.K "list" zgO (uY i)))):VS X (ko O) G st (zdV i):=hp.imp fun D σ H hq_=>by
 refine hq_.elim fun own env o I hf k=>?_
 unfold zdV at hf
 replace hf:=Ja.mp hf;obtain ⟨l,hl,hf⟩:=hf
 cases l<;>first | (cases hf;done) | skip
 cases hf
 obtain ⟨a,xs,B,hσ,ha,hr,nd,ho,hB⟩:=jC hi I hl
 refine ⟨.ref a,hσ,.inl ⟨rfl,xs,SqL.of ha⟩,a,xs,rfl,rfl,ha,?_⟩
 obtain ⟨h1,h2⟩:=I.turn (p:=.lst []) (o:=.lst []) (B:=[]) hi [30] hσ ho (.inl ⟨xs,ha⟩) (.mkL zV .nil) [12] [12]
 exact k _ _ _ h1 h2
noncomputable def xo{α:Type}(ks:List Key)(vs:List α)(k:Key)(p:α):List Key × List α:=if jX ks k=true then (ks,List.zipWith (fun k' v=>if k'=k then p else v) ks vs) else (ks++[k],vs++[p])
theorem qv{ks:List Key}{xs:List V}(hl:ks.length=xs.length)(k:Key)(v:V):xt (ks.zip xs) k v=(xo ks xs k v).1.zip (xo ks xs k v).2:=by
 have h:=kX hl k
 rw [← jH] at h
 unfold xt xo
 by_cases hk:jX ks k=true
 ·rw [if_pos hk,h,hk,if_pos rfl]
  clear h hk
  induction ks generalizing xs with
  | nil=>simp
  | cons k' ks ih=>
   cases xs with
   | nil=>simp at hl
   | cons x xs=>
    simp only [List.zip_cons_cons,List.map_cons,List.zipWith_cons_cons]
    rw [ih (by simpa using hl)]
    by_cases e:k'=k<;>simp [e]
 ·rw [if_neg hk,h,if_neg hk]
  show ks.zip xs++[(k,v)]=(ks++[k]).zip (xs++[v])
  rw [List.zip_append hl]
  rfl
theorem zid{α:Type}{ks:List Key}{vs:List α}(hl:ks.length=vs.length)(k:Key)(p:α):(xo ks vs k p).1.length=(xo ks vs k p).2.length:=by
 unfold xo
 split
 ·simp [hl]
 ·simp [hl]
theorem zfW{α β:Type}{ks:List Key}{vs:List α}{ws:List β}(k:Key)(p:α)(q:β):(xo ks vs k p).1=(xo ks ws k q).1:=by
 unfold xo
 split<;>rfl
theorem zic{K:PySem.W.Frag}{H:Hp}{ks:List Key}{k:Key}{p:PV}{v:V}(rp:Rp K H p v []):∀ {ps:List PV} {xs:List V},Rps K H ps xs []->Rps K H (xo ks ps k p).2 (xo ks xs k v).2 []:=by
 intro ps xs r
 unfold xo
 split
 ·rename_i hk
  clear hk
  induction ks generalizing ps xs with
  | nil=>exact .nil
  | cons k' ks ih=>
   cases ps with
   | nil=>rw [r.inv0.1];exact .nil
   | cons q ps=>
    obtain ⟨w,r',A1,A2,rfl,h2,h3,h4⟩:=r.inv
    obtain ⟨rfl,rfl⟩:=KN.mp h2.symm
    simp only [List.zipWith_cons_cons]
    by_cases e:k'=k
    ·rw [if_pos e,if_pos e];exact Rps.cons rp (ih h4)
    ·rw [if_neg e,if_neg e];exact Rps.cons h3 (ih h4)
 ·exact r.append (Rps.one rp)
noncomputable def qA(l:PV)(k q:PV):Option PV:=match l,k with
 | .lst ps,.int i=>if (isDatas ps && zj q)=true then (ixN ps.length i).map fun j=>.lst (ps.set j q) else none
 | .dct ks vs,.int i=>if (isDatas vs && zj q && decide (ks.length<100000))=true then some (.dct (xo ks vs (.inl i) q).1 (xo ks vs (.inl i) q).2) else none
 | .dct ks vs,.str x=>if (isDatas vs && zj q && decide (ks.length<100000))=true then some (.dct (xo ks vs (.inr x) q).1 (xo ks vs (.inr x) q).2) else none
 | _,_=>none
noncomputable def uk(i:Nat)(fk f:FE):FS:=fun env=>(f env).bind fun q=>(zA i env).bind fun l=>(fk env).bind fun k=>(qA l k q).map fun l'=>.nx (env.set i (some l'))
theorem Rps.set_{K:PySem.W.Frag}{H:Hp}{q:PV}{y:V}(rq:Rp K H q y []):∀ {ps:List PV} {xs:List V} (j:Nat),Rps K H ps xs []->Rps K H (ps.set j q) (xs.set j y) []
 | [],_,_,r=>by rw [r.inv0.1];exact .nil
 | p::ps,_,0,r=>by
  obtain ⟨v,r',A1,A2,rfl,h2,h3,h4⟩:=r.inv
  obtain ⟨rfl,rfl⟩:=KN.mp h2.symm
  exact Rps.cons rq h4
 | p::ps,_,j+1,r=>by
  obtain ⟨v,r',A1,A2,rfl,h2,h3,h4⟩:=r.inv
  obtain ⟨rfl,rfl⟩:=KN.mp h2.symm
  exact Rps.cons h3 (Rps.set_ rq j h4)
theorem zbN{K:PySem.W.Frag}{own:Addr->Option Nat}{env:En}{σ:St}{H:Hp}{i:Nat}{ks:List Key}{ps:List PV}(hi:i ∈ O)(I:VI K (ko O) G own env σ H)(hf:zA i env=some (.dct ks ps)):
  ∃ a xs B,σ[i]?=some (some [67])/\H a=some (.dK (ks.zip xs))/\ks.length=ps.length/\Rps K H ps xs B/\(a::B).Nodup/\own a=some i/\∀ b ∈ B,own b=some i:=by
 obtain ⟨v,A,h1,h2,_,h3⟩:=I.slot i _ (uV hf)
 obtain ⟨nd,ho⟩:=h3 i (zcO hi)
 obtain ⟨a,xs,B,rfl,h4,hl,rfl,h5⟩:=h2.D
 exact ⟨a,xs,B,h1,h4,hl,h5,nd,ho a Jg,fun b hb=>ho b (Jf _ hb)⟩
theorem kY(i:Nat)(hi:i ∈ O){fk:FE}(hp:PS X st (qD (tV X.K (ko O) G c f) (zmM (uY i) (tV X.K (ko O) G c2 fk) zkm)))(hd:PS X st (zey (uY i) (tV X.K (ko O) G c2 fk) (tV X.K (ko O) G c f))):VS X (ko O) G st (uk i fk f):=(hp.or hd).imp fun D σ H hq_=>by
 refine hq_.elim fun own env o I hf k=>?_
 unfold uk at hf
 replace hf:=Ja.mp hf;obtain ⟨q,hq,hf⟩:=hf
 replace hf:=Ja.mp hf;obtain ⟨l,hl,hf⟩:=hf
 replace hf:=Ja.mp hf;obtain ⟨kk,hk,hf⟩:=hf
 cases hv:qA l kk q with
 | none=>rw [hv] at hf;cases hf
 | some l'=>
  rw [hv] at hf;cases hf
  unfold qA at hv
  have dput:∀ (ks:List Key) (ps:List PV) (key:Key),l=.dct ks ps->(∀ (H2:Hp) (y:V) (B:List Addr),Rp X.K H2 kk y B->y=kV key)->(isDatas ps && zj q && decide (ks.length<100000))=true->l'=.dct (xo ks ps key q).1 (xo ks ps key q).2->zey (uY i) (tV X.K (ko O) G c2 fk) (tV X.K (ko O) G c f) D σ H:=by
   rintro ks ps key rfl hy hc rfl
   simp only [Bool.and_eq_true,decide_eq_true_eq] at hc
   obtain ⟨⟨d1,d2⟩,hlen⟩:=hc
   obtain ⟨a,xs,B,hσ,ha,hkl,hr,nd,ho,hB⟩:=zbN hi I hl
   have eB:=Rps.data ps d1 hr
   subst eB
   refine (.in I hq fun v H1 A s1 r1 _=>⟨.ref a,hσ,.in (I.grow s1) hk fun y H2 B s2 r2 _=>?_⟩)
   have eA:=Rp.data q d2 r1
   subst eA
   have s12:=s1.trans s2
   have hxl:=hr.length
   refine ⟨a,_,rfl,by rw [hy H2 y B r2];exact DPut.k (s12 _ _ ha) (by rw [QL,sizeLine_eq];omega),?_⟩
   rw [qv [8]]
   have m0:MutH H a:=.inr ⟨_,ha⟩
   have m2:=m0.same s12
   have rq:=Rp.same s2 q r1
   obtain ⟨h1,h2⟩:=I.turn (p:=.dct (xo ks ps key q).1 (xo ks ps key q).2) (o:=.dK ((xo ks xs key v).1.zip (xo ks xs key v).2)) (B:=[]) hi s12 hσ ho m0
    (.mkD (by rw [zfW (ws:=xs) key q v];exact zV) (zid hkl key q) (Rps.upd m2 _ [12] (zic rq (Rps.same s12 ps hr)))) [12] [12]
   exact k _ _ _ h1 h2
  split at hv
  ·rename_i ps j
   split at hv
   case isFalse=>cases hv
   rename_i hc
   rw [JO] at hc
   obtain ⟨a,xs,B,hσ,ha,hr,nd,ho,hB⟩:=jC hi I hl
   have eB:=Rps.data ps hc.1 hr
   subst eB
   cases hj:ixN ps.length j with
   | none=>rw [hj] at hv;cases hv
   | some jn=>
    rw [hj] at hv;cases hv
    refine .inl (.in I hq fun v H1 A s1 r1 _=>⟨.ref a,hσ,.in (I.grow s1) hk fun y H2 B s2 r2 _=>?_⟩)
    have eA:=Rp.data q hc.2 r1
    subst eA
    have s12:=s1.trans s2
    refine ⟨a,xs,j,jn,rfl,r2.I.1,s12 _ _ ha,by rw [← hr.length];exact hj,?_⟩
    have m0:MutH H a:=.inl ⟨_,ha⟩
    have m2:=m0.same s12
    obtain ⟨h1,h2⟩:=I.turn (p:=.lst (ps.set jn q)) (o:=.lst (xs.set jn v)) (B:=[]) hi s12 hσ ho m0 (.mkL zV (Rps.upd m2 _ [12] (Rps.set_ (Rp.same s2 q r1) jn (Rps.same s12 ps hr)))) [12] [12]
    exact k _ _ _ h1 h2
  ·split at hv
   case isFalse=>cases hv
   rename_i hc
   cases hv
   exact .inr (dput _ _ (Sum.inl _) rfl (fun H2 y B r=>r.I.1) hc rfl)
  ·split at hv
   case isFalse=>cases hv
   rename_i hc
   cases hv
   exact .inr (dput _ _ (Sum.inr _) rfl (fun H2 y B r=>r.S.1) hc rfl)
  ·cases hv
noncomputable def kA:FE:=fun _=>some (.dct [] [])
theorem jF(h:PE X e zgA):VE X κ G [33] e kA:=h.imp fun σ H Q hq_=>by
 refine hq_.elim fun own env z I hf k=>?_
 cases hf
 intro p hp
 exact k _ _ [p] (yF [30] hp) (.mkD (by simpa using zV) rfl .nil) ⟨by simp,fun a ha=>.inl (by rw [List.mem_singleton.mp ha];exact hp)⟩
noncomputable def zki:PV->Option Bool
 | .non=>some false
 | .bl b=>some b
 | .int i=>some (i != 0)
 | .str y=>if y.length≤100000 then some ((y.length:Int) != 0) else none
 | .lst xs=>some (!xs.isEmpty)
 | .fls xs=>some (!xs.isEmpty)
 | .tup xs=>some (!xs.isEmpty)
 | .dct ks _=>some (!ks.isEmpty)
 | .ty _=>none
 | .any=>none
 | .pen _ _=>none
 | .adr _=>none
noncomputable def wZ(f:FE):FT:=fun env=>(f env).bind zki
theorem qr{K:PySem.W.Frag}{H:Hp}{ps:List PV}{xs:List V}{A:List Addr}(r:Rps K H ps xs A):(!ps.isEmpty)=!xs.isEmpty:=by
 have:=r.length
 cases ps<;>cases xs<;>simp_all
theorem wJ(ha:VE X κ G c a fa)(he:∀ whole,isTrue a X.env whole=(do let v ← whole;standAt a.pos;holding [v] (truthy v))):VT X κ G a (wZ fa):=(zgS ha he).imp fun σ H Q hq_=>by
 refine hq_.elim fun own env z I hf k=>?_
 unfold wZ at hf
 replace hf:=Ja.mp hf;obtain ⟨p,hp,hf⟩:=hf
 refine (.in I hp fun x H1 A s1 r1 _=>⟨z,?_,k H1 s1⟩)
 cases p
 case non=>cases hf;rw [r1.N.1];exact rfl
 case bl=>cases hf;rw [r1.B.1];exact rfl
 case int=>cases hf;rw [r1.I.1];exact rfl
 case str=>
  simp only [zki] at hf
  split at hf
  ·rename_i hl;cases hf;rw [r1.S.1];exact ⟨by rw [sizeLine_eq];omega,rfl⟩
  ·cases hf
 case ty=>cases hf
 case any=>cases hf
 case pen=>cases hf
 case adr=>cases hf
 case tup=>cases hf;obtain ⟨a,xs,e1,h1,g⟩:=r1.T;rw [e1];exact .inr (.inl ⟨xs,h1,qr g⟩)
 case lst=>cases hf;obtain ⟨a,xs,B,e1,h1,_,g⟩:=r1.L;rw [e1];exact .inl ⟨xs,SqL.of h1,qr g⟩
 case fls=>cases hf;obtain ⟨a,xs,e1,h1,g⟩:=r1.Fl;rw [e1];exact .inl ⟨xs,h1.seq,qr g⟩
 case dct ks ps=>
  cases hf;obtain ⟨a,xs,B,e1,h1,hl,_,g⟩:=r1.D;rw [e1];refine .inr (.inr ⟨_,h1,?_⟩)
  have:=g.length
  cases ks<;>cases ps<;>cases xs<;>simp_all
end
end F
namespace L2
open PySem PySem.Spec PyProof.Rows
section
variable {X:Cx}
theorem zjV(l:Addr)(items:Array Value)(n:Nat)(b:Addr)(items2:Array Value)(n2:Nat)(dd:Option Addr)(sl:Array (Option Value))(hs0:¬(!items.isEmpty && Builtin.List.listTooLong (items.size+items2.size))=true)(hs1:items.size≤sizeLine)(hs2:items.size+items2.size≤sizeLine+1):
  Meets (Builtin.«list.extend» ⟨[.ref l,.ref b],[]⟩) (fun _ R s=>s.heap.get? l=some { cls:=.type "list",dict:=none,data:=.seq items n,slots:=#[] }/\s.heap.get? b=some { cls:=.type "tuple",dict:=dd,data:=.seq items2 n2,slots:=sl }/\R (.ok (.ret Value.none)) { s with heap:=s.heap.update l (Obj.mapSeq fun x=>x++items2),toks:=s.toks }):=
 .of_wp fun prog w A R s h=>by
  obtain ⟨hp,g,d,tk,os⟩:=s;obtain ⟨hl,hb,h⟩:=h;have f1:=AutoSeq1.idx_int;have f2:=AutoSeq1.sub_tuple_tuple;have f3:=AutoSeq1.sub_list_list;have f4:=AutoSeq1.sub_tuple_list;have f5:=AutoSeq1.sub_list_tuple;
  have hz':(items++items2).size≤sizeLine+1:=JI (Nat.le_of_eq Qy) hs2
  wp_walk using (wpAny_updateSeq hl rfl (hz:=hs1) (_hz':=hz')),Qn hl,Qn hb;exact ⟨_,rfl,h⟩
noncomputable def qI(K:PySem.W.Frag):V->List V->Hp->VK->Prop:=fun x vs H Q=>∃ l b xs zs,x=.ref l/\vs=[.ref b]/\H l=some (.lst xs)/\SqT K H b zs/\xs.length+zs.length≤sizeLine/\Q .non (upd H l (.lst (xs++zs)))
theorem zdK:MtM X "list.extend" (qI X.K):=by
 intro pins s σ H x vs v us Q I rx rv h
 obtain ⟨l,b,xs,zs,rfl,rfl,hH,hB,hz,q⟩:=h
 cases rx
 obtain ⟨u,rfl,ru⟩:=rv.one
 cases ru
 obtain ⟨z,its,n,r,hl,e⟩:=I.lstM hH
 obtain ⟨its2,r2,⟨⟨cls,dd,dat,sl⟩,e2,hc,n2,hd⟩,z2⟩:=I.tuple hB
 simp only at hc hd
 subst hc hd
 have hl2:=r2.length
 have hsz:its.toArray.size+its2.toArray.size≤sizeLine:=by rw [Ju,Ju];omega
 have hlong:¬ (!its.toArray.isEmpty && Builtin.List.listTooLong (its.toArray.size+its2.toArray.size))=true:=by
  rw [qV hsz,Bool.and_false]
  exact Je
 refine call_meets F.slot_list_extend ⟨_,e,rfl⟩ F.entry_list_extend (F.args_list_extend_2 _ _)
  (zjV l its.toArray n b its2.toArray n2 dd sl hlong (by rw [Ju];omega) [8]) ⟨e,e2,?_⟩
 refine ⟨.non,_,I.lset (its':=its++its2) hH e [12] (r.append r2) ?_,rfl,q⟩
 rw [Jo]
 omega
theorem MtM.or{id:String}{r r':V->List V->Hp->VK->Prop}(h:MtM X id r)(h':MtM X id r'):MtM X id (fun x xs H Q=>r x xs H Q∨r' x xs H Q):=fun pins s σ H x xs v us Q I rx rs q=>q.elim (h pins s σ H x xs v us Q I rx rs) (h' pins s σ H x xs v us Q I rx rs)
theorem qZ:MtM X "list.extend" (fun x xs H Q=>zbj x xs H Q∨qI X.K x xs H Q):=mt_extend.or zdK
inductive TyR (K:PySem.W.Frag) (H:Hp):V->String->Prop where
 | non:TyR K H .non "NoneType"
 | bl (x:Bool):TyR K H (.bl x) "bool"
 | int (i:Int):TyR K H [87] "int"
 | str (x:Str):TyR K H (.str x) "str"
 | lst {a:Addr} {xs:List V} (e:SqL K H a xs):TyR K H [67] "list"
 | tup {a:Addr} {xs:List V} (e:SqT K H a xs):TyR K H [67] "tuple"
 | dct {a:Addr} {kvs:List (Key × V)} (e:H a=some (.dK kvs)):TyR K H [67] "dict"
theorem cr_isinst1:CallR X (.builtin "isinstance") (fun xs H Q=>∃ x n t b,xs=[x,.ty n]/\TyR X.K H x t/\PySem.W.kitOne X.K (.type t) (.type n)=some b/\Q (.bl b) H):=by
 intro pins s σ H xs us Q I r h
 obtain ⟨x,n,t,b,rfl,ty,e,q⟩:=h
 obtain ⟨u,w',rfl,rx,r2⟩:=zkf r
 cases r2
 have fin:∀ tk,EP X pins σ Q (.bool b) { s with toks:=tk }:=fun tk=>⟨.bl b,H,I.tok tk,rfl,q⟩
 cases ty with
 | non=>cases (show u=Value.none from rx);exact PySem.W.kia_one PySem.W.kitx_none I.kIn True.intro e [68] fin
 | bl y=>cases (show u=Value.bool y from rx);exact PySem.W.kia_one PySem.W.kitx_bool I.kIn True.intro e [68] fin
 | int i=>obtain ⟨t,q⟩:=(show ∃ t,u=Value.int i t from rx);cases q;exact PySem.W.kia_one PySem.W.kitx_int I.kIn True.intro e [68] fin
 | str y=>obtain ⟨t,q⟩:=(show ∃ t,u=Value.str y t from rx);cases q;exact PySem.W.kia_one PySem.W.kitx_str I.kIn True.intro e [68] fin
 | @lst a xs ea=>
  cases (show u=Value.ref a from rx)
  obtain ⟨its,_,⟨o,n,e1,e2,_,_⟩,_⟩:=I.list ea
  exact PySem.W.kia_one PySem.W.kitx_list I.kIn ⟨o,e1,e2⟩ e [68] fin
 | @tup a xs ea=>
  cases (show u=Value.ref a from rx)
  obtain ⟨its,_,⟨o,e1,e2,_⟩,_⟩:=I.tuple ea
  exact PySem.W.kia_one PySem.W.kitx_tuple I.kIn ⟨o,e1,e2⟩ e [68] fin
 | @dct a kvs ea=>
  cases (show u=Value.ref a from rx)
  obtain ⟨_,_,vs,_,p⟩:=(show ObjOk X.prog X.w H s.heap a (.dK kvs) from I.hok a _ ea)
  obtain ⟨o,es,ep,h1,h2,_⟩:=p
  exact PySem.W.kia_one PySem.W.kitx_dict I.kIn ⟨o,h1,h2.1⟩ e [68] fin
theorem zdZ:CallR X (.builtin "isinstance") (fun xs H Q=>∃ x p,∃ ns:List String,∃ t b,xs=[x,.ref p]/\SqT X.K H p (ns.map V.ty)/\TyR X.K H x t/\PySem.W.kitAny X.K (.type t) (ns.map Value.type)=some b/\Q (.bl b) H):=by
 intro pins s σ H xs us Q I r h
 obtain ⟨x,p,ns,t,b,rfl,hp,ty,e,q⟩:=h
 obtain ⟨u,w',rfl,rx,r2⟩:=zkf r
 cases r2
 obtain ⟨its,rv,⟨⟨cls,dd,dat,sl⟩,h1,h2,n,h3⟩,_⟩:=I.tuple hp
 simp only at h2 h3
 subst h2 h3
 have hi:=zet rv
 subst hi
 have fin:∀ tk,EP X pins σ Q (.bool b) { s with toks:=tk }:=fun tk=>⟨.bl b,H,I.tok tk,rfl,q⟩
 cases ty with
 | non=>cases (show u=Value.none from rx);exact PySem.W.kia_tup PySem.W.kitx_none I.kIn True.intro h1 e [68] fin
 | bl y=>cases (show u=Value.bool y from rx);exact PySem.W.kia_tup PySem.W.kitx_bool I.kIn True.intro h1 e [68] fin
 | int i=>obtain ⟨t,q⟩:=(show ∃ t,u=Value.int i t from rx);cases q;exact PySem.W.kia_tup PySem.W.kitx_int I.kIn True.intro h1 e [68] fin
 | str y=>obtain ⟨t,q⟩:=(show ∃ t,u=Value.str y t from rx);cases q;exact PySem.W.kia_tup PySem.W.kitx_str I.kIn True.intro h1 e [68] fin
 | @lst a xs ea=>
  cases (show u=Value.ref a from rx)
  obtain ⟨its,_,⟨o,n,e1,e2,_,_⟩,_⟩:=I.list ea
  exact PySem.W.kia_tup PySem.W.kitx_list I.kIn ⟨o,e1,e2⟩ h1 e [68] fin
 | @tup a xs ea=>
  cases (show u=Value.ref a from rx)
  obtain ⟨its,_,⟨o,e1,e2,_⟩,_⟩:=I.tuple ea
  exact PySem.W.kia_tup PySem.W.kitx_tuple I.kIn ⟨o,e1,e2⟩ h1 e [68] fin
 | @dct a kvs ea=>
  cases (show u=Value.ref a from rx)
  obtain ⟨_,_,vs,_,p⟩:=(show ObjOk X.prog X.w H s.heap a (.dK kvs) from I.hok a _ ea)
  obtain ⟨o,es,ep,h1',h2,_⟩:=p
  exact PySem.W.kia_tup PySem.W.kitx_dict I.kIn ⟨o,h1',h2.1⟩ h1 e [68] fin
end
end L2
namespace F
open PySem PySem.Spec PyProof.Rows L2
noncomputable def zex:PV->Option (List PV)
 | .lst ps=>some ps
 | .tup ps=>some ps
 | _=>none
noncomputable def vI(i:Nat)(f:FE):FS:=fun env=>(zA i env).bind fun l=>(f env).bind fun q=>match l with
 | .lst ps=>(zex q).bind fun qs=>if (isDatas qs=true/\ps.length+qs.length≤100000) then some (.nx (env.set i (some (.lst (ps++qs))))) else none
 | _=>none
theorem k7{X:Cx}{G:Hp}{O:List Nat}{st:Stmt}{f:FE}(i:Nat)(hi:i ∈ O)(hp:PS X st (zav (tBM X.K "list" (fun x xs H Q=>zbj x xs H Q∨qI X.K x xs H Q) (uY i) (zaw (tV X.K (ko O) G [33] f) zfn)))):VS X (ko O) G st (vI i f):=hp.imp fun D σ H hq_=>by
 refine hq_.elim fun own env o I hf k=>?_
 unfold vI at hf
 replace hf:=Ja.mp hf;obtain ⟨l,hl,hf⟩:=hf
 replace hf:=Ja.mp hf;obtain ⟨q,hq,hf⟩:=hf
 split at hf
 case h_2=>cases hf
 rename_i ps
 replace hf:=Ja.mp hf;obtain ⟨qs,hs,hf⟩:=hf
 split at hf
 case isFalse=>cases hf
 rename_i hc
 have hf:=(Jq hf).symm
 subst hf
 obtain ⟨a,xs,B,hσ,ha,hr,nd,ho,hB⟩:=jC hi I hl
 refine ⟨.ref a,hσ,.inl ⟨rfl,xs,SqL.of ha⟩,.in I hq fun y H1 C s1 r1 c1=>?_⟩
 have nB:a ∉ B:=(JF.mp nd).1
 have m1:MutH H1 a:=.inl ⟨xs,s1 _ _ ha⟩
 have fin:∀ (zs:List V),Rps X.K H1 qs zs []->D.nx σ (upd H1 a (.lst (xs++zs))):=fun zs g1=>by
  obtain ⟨h1,h2⟩:=I.turn (p:=.lst (ps++qs)) (o:=.lst (xs++zs)) (B:=B++[]) hi s1 hσ ho (.inl ⟨xs,ha⟩)
   (.mkL zV ((Rps.upd m1 ps nB (Rps.same s1 ps hr)).append (Rps.upd m1 qs [12] g1))) (by simpa using nd) (by simpa using fun b hb=>Or.inl (hB b hb))
  exact k _ _ _ h1 h2
 unfold zex at hs
 split at hs
 ·have hs:=Jq hs
  subst hs
  obtain ⟨b,zs,C1,rfl,hb,rfl,g1⟩:=r1.L
  have e1:=Rps.data _ hc.1 g1
  subst e1
  exact .inl ⟨a,b,xs,zs,rfl,rfl,s1 _ _ ha,hb,by rw [← hr.length,← g1.length,sizeLine_eq];omega,fin zs g1⟩
 ·have hs:=Jq hs
  subst hs
  obtain ⟨b,zs,rfl,hb,g1⟩:=r1.T
  have e1:=Rps.data _ hc.1 g1
  subst e1
  exact .inr ⟨a,b,xs,zs,rfl,rfl,s1 _ _ ha,hb,by rw [← hr.length,← g1.length,sizeLine_eq];omega,fin zs g1⟩
 ·cases hs
noncomputable def tyP:PV->Option String
 | .non=>some "NoneType"
 | .bl _=>some "bool"
 | .int _=>some "int"
 | .str _=>some "str"
 | .lst _=>some "list"
 | .fls _=>some "list"
 | .tup _=>some "tuple"
 | .dct _ _=>some "dict"
 | .ty _=>none
 | .any=>none
 | .pen _ _=>none
 | .adr _=>none
theorem TyR.of{K:PySem.W.Frag}{H:Hp}{p:PV}{v:V}{A:List Addr}{t:String}(h:tyP p=some t)(r:Rp K H p v A):TyR K H v t:=by
 cases p<;>cases h
 ·rw [r.N.1];exact .non
 ·rw [r.B.1];exact .bl _
 ·rw [r.I.1];exact .int _
 ·rw [r.S.1];exact .str _
 ·obtain ⟨a,xs,rfl,h,_⟩:=r.T;exact .tup h
 ·obtain ⟨a,xs,B,rfl,h,_⟩:=r.L;exact .lst (SqL.of h)
 ·obtain ⟨a,xs,rfl,h,_⟩:=r.Fl;exact .lst h.seq
 ·obtain ⟨a,xs,B,rfl,h,_⟩:=r.D;exact .dct h
noncomputable def zcP:List String:=["NoneType","bool","int","str","list","tuple","dict"]
noncomputable def qi(t n:String):Bool:=t == n || (t == "bool" && n == "int")
theorem zhA(K:PySem.W.Frag):∀ t ∈ zcP,∀ n ∈ ["int","bool","str","list","tuple","dict"],PySem.W.kitOne K (.type t) (.type n)=some (qi t n):=by
 intro t ht n hn
 simp only [zcP,List.mem_cons,List.not_mem_nil,or_false] at ht hn
 rcases ht with rfl | rfl | rfl | rfl | rfl | rfl | rfl<;>rcases hn with rfl | rfl | rfl | rfl | rfl | rfl<;>rfl
noncomputable def uQ:List PV->Option (List String)
 | []=>some []
 | .ty n::r=>(uQ r).map fun ns=>n::ns
 | _::_=>none
noncomputable def zhk(n:String):Bool:=["int","bool","str","list","tuple","dict"].contains n
noncomputable def xZ:List PV->Option PV
 | [p,.ty n]=>if zhk n=true then (tyP p).map fun t=>.bl (qi t n) else none
 | [p,.tup ts]=>(uQ ts).bind fun ns=>if ns.all zhk=true then (tyP p).map fun t=>.bl (ns.any fun n=>qi t n) else none
 | _=>none
theorem zau{p:PV}{t:String}(h:tyP p=some t):t ∈ zcP:=by
 cases p<;>cases h<;>simp [zcP]
theorem zcA{n:String}(h:zhk n=true):n ∈ ["int","bool","str","list","tuple","dict"]:=by
 unfold zhk at h
 exact List.contains_iff_mem.mp h
theorem zaJ(K:PySem.W.Frag){t:String}(ht:t ∈ zcP):∀ ns:List String,ns.all zhk=true->PySem.W.kitAny K (.type t) (ns.map Value.type)=some (ns.any fun n=>qi t n)
 | [],_=>rfl
 | n::ns,h=>by
  rw [List.all_cons,JO] at h
  rw [Jr]
  unfold PySem.W.kitAny
  rw [zhA K t ht n (zcA h.1),KC]
  cases hs:qi t n with
  | true=>rfl
  | false=>rw [Bool.false_or];exact zaJ K ht ns h.2
theorem kG{K:PySem.W.Frag}{H:Hp}:∀ {ts:List PV} {ns:List String} {xs:List V} {A:List Addr},uQ ts=some ns->Rps K H ts xs A->xs=ns.map V.ty
 | [],ns,xs,A,h,r=>by
  cases h
  rw [r.inv0.1];rfl
 | p::ts,ns,xs,A,h,r=>by
  obtain ⟨v,r',A1,A2,rfl,h2,h3,h4⟩:=r.inv
  cases p<;>first | (simp [uQ] at h;done) | skip
  simp only [uQ] at h
  cases hq:uQ ts with
  | none=>rw [hq] at h;cases h
  | some ms=>
   rw [hq] at h
   have h:_::ms=ns:=Jq h
   subst h
   rw [Jr,kG hq h4,h3.Ty.1]
section
variable {X:Cx}
theorem uX:CallR X (.builtin "isinstance") (fun xs H Q=>(∃ x n t b,xs=[x,.ty n]/\TyR X.K H x t/\PySem.W.kitOne X.K (.type t) (.type n)=some b/\Q (.bl b) H)∨
  ∃ x p,∃ ns:List String,∃ t b,xs=[x,.ref p]/\SqT X.K H p (ns.map V.ty)/\TyR X.K H x t/\PySem.W.kitAny X.K (.type t) (ns.map Value.type)=some b/\Q (.bl b) H):=cr_isinst1.or zdZ
theorem uW{K:PySem.W.Frag}:kR K (fun xs H Q=>(∃ x n t b,xs=[x,.ty n]/\TyR K H x t/\PySem.W.kitOne K (.type t) (.type n)=some b/\Q (.bl b) H)∨
  ∃ x p,∃ ns:List String,∃ t b,xs=[x,.ref p]/\SqT K H p (ns.map V.ty)/\TyR K H x t/\PySem.W.kitAny K (.type t) (ns.map Value.type)=some b/\Q (.bl b) H) xZ:=by
 intro H ps vs A z Q r e k
 unfold xZ at e
 split at e
 ·rename_i p n
  split at e
  case isFalse=>cases e
  rename_i ho
  obtain ⟨v,w,A1,A2,rfl,_,r1,r2⟩:=zgu r
  cases ht:tyP p with
  | none=>rw [ht] at e;cases e
  | some t=>
   rw [ht] at e
   have e:PV.bl (qi t n)=z:=Jq e
   subst e
   exact .inl ⟨v,n,t,_,by rw [r2.Ty.1],TyR.of ht r1,zhA K t (zau ht) n (zcA ho),k _ H [] [30] (.mkB _) .nil [12]⟩
 ·rename_i p ts
  obtain ⟨v,w,A1,A2,rfl,_,r1,r2⟩:=zgu r
  replace e:=Ja.mp e;obtain ⟨ns,hn,e⟩:=e
  split at e
  case isFalse=>cases e
  rename_i ho
  cases ht:tyP p with
  | none=>rw [ht] at e;cases e
  | some t=>
   rw [ht] at e
   have e:PV.bl (ns.any fun n=>qi t n)=z:=Jq e
   subst e
   obtain ⟨a,xs,rfl,h1,g⟩:=r2.T
   have hx:=kG hn g
   subst hx
   exact .inr ⟨v,a,ns,t,_,rfl,h1,TyR.of ht r1,zaJ K (zau ht) ns ho,k _ H [] [30] (.mkB _) .nil [12]⟩
 ·cases e
end
end F
namespace L2
open PySem PySem.Spec PyProof.Rows
section
variable {X:Cx} {pins:List [17]} {σ:List (Option V)} {H:Hp} {s:Shared} {h':Heap}
theorem Inv.turnedL{t':Nat}{L:List Addr}(I:Inv X pins σ H s)(k:∀ b o,b ∉ L->s.heap.get? b=some o->h'.get? b=some o)(hf:∀ b ∈ L,uc X pins H b):Inv X pins σ H { s with heap:=h',toks:=t' }:=by
 have nit:∀ b u,H b=some u->b ∉ L:=fun b u e z=>by have:=(hf b z).1;rw [e] at this;cases this
 refine I.step (g':=s.gens) (d':=s.drawn) (ch:=L) (fun b hb=>⟨(hf b hb).2.2.2.1,(hf b hb).2.1,(hf b hb).2.2.2.2.1,(hf b hb).2.2.2.2.2⟩) (fun b o _ _ hc e _=>k b o hc e) (fun b o _ _ hc e _=>⟨o.slots,k b o hc e⟩) (fun _ _ _ _ n=>n)
  (fun b o hc e=>⟨o,k b o hc e⟩) (fun _ _ e=>e) (fun _ _ _ e=>e) (fun b ps e=>⟨#[],by rw [e];simp⟩) (fun m hm=>?_) (fun b u e=>?_) I.bare
 ·obtain ⟨o,es,ep,ho,r⟩:=hm
  exact ⟨o,es,ep,k _ o (fun z=>(hf _ z).2.1 rfl) ho,r⟩
 ·refine (I.hok b u e).stay (fun c v hc q=>k c v ?_ q) (fun _ q=>q) fun _ _ q=>q
  rcases hc with z | z
  ·rw [z];exact nit b u e
  ·exact nit c _ z
theorem Inv.turnedLaid{t':Nat}{L:List Addr}{a:Addr}{o':HO}(I:Inv X pins σ H s)(k:∀ b o,b ∉ L->s.heap.get? b=some o->h'.get? b=some o)(hf:∀ b ∈ L,uc X pins H b)(hp:s.heap.objs.size≤a)(new:ObjOk X.prog X.w (upd H a o') h' a o'):
  Inv X pins σ (upd H a o') { s with heap:=h',toks:=t' }:=by
 have nit:∀ b u,H b=some u->b ∉ L:=fun b u e z=>by have:=(hf b z).1;rw [e] at this;cases this
 have hn:H a=none:=I.hok.fresh hp
 refine I.step (g':=s.gens) (d':=s.drawn) (ch:=L) (fun b hb=>⟨(hf b hb).2.2.2.1,(hf b hb).2.1,(hf b hb).2.2.2.2.1,(hf b hb).2.2.2.2.2⟩) (fun b o _ _ hc e _=>k b o hc e) (fun b o _ _ hc e _=>⟨o.slots,k b o hc e⟩)
  (fun b o _ e n=>by rw [zb (Jw (JB (Ji e) hp))];exact n)
  (fun b o hc e=>⟨o,k b o hc e⟩) (fun b xs e=>by rw [zb (yG e hn)];exact e) (fun b _ _ e=>by rw [zb (yG e hn)];exact e) (fun b ps e=>⟨#[],by rw [zb (yG e hn),e];simp⟩) (fun m hm=>?_) (fun b u e=>?_) I.bare
 ·obtain ⟨o,es,ep,ho,r⟩:=hm
  exact ⟨o,es,ep,k _ o (fun z=>(hf _ z).2.1 rfl) ho,r⟩
 ·by_cases hb:b=a
  ·subst hb;rw [zV] at e;cases e;exact new
  ·rw [zb hb] at e
   refine (I.hok b u e).stay (fun c v hc q=>k c v ?_ q) (fun c q=>by rw [zb (yG q hn)];exact q) fun c xs q=>by rw [zb (yG q hn)];exact q
   rcases hc with z | z
   ·rw [z];exact nit b u e
   ·exact nit c _ z
end
noncomputable def ContAt(h:Heap)(b:Bool)(c:Addr)(its:Array Value):Prop:=if b=true then h.IsList c its else h.IsTuple c its
noncomputable def IterAt(h:Heap)(b:Bool)(it c:Addr)(i:Nat):Prop:=if b=true then h.IsListIter it c i else h.IsTupleIter it c i
noncomputable def qh(b:Bool):String:=if b=true then "list_iterator" else "tuple_iterator"
section
variable {prog:Program} {w:World} {A:Around} {E:Value->Shared->Prop} {s:Shared} {h h₂:Heap} {b:Bool} {it c:Addr} {i:Nat} {its:Array Value}
theorem ContAt.keep(x:ContAt h b c its)(k:∀ o,h.get? c=some o->h₂.get? c=some o):ContAt h₂ b c its:=by
 cases b with
 | true=>obtain ⟨o,ho,r⟩:=x;exact ⟨o,k o ho,r⟩
 | false=>obtain ⟨o,ho,r⟩:=x;exact ⟨o,k o ho,r⟩
theorem IterAt.keep(x:IterAt h b it c i)(k:∀ o,h.get? it=some o->h₂.get? it=some o):IterAt h₂ b it c i:=by
 cases b with
 | true=>obtain ⟨o,ho,r⟩:=x;exact ⟨o,k o ho,r⟩
 | false=>obtain ⟨o,ho,r⟩:=x;exact ⟨o,k o ho,r⟩
theorem IterAt.has(x:IterAt h b it c i):∃ o,h.get? it=some o/\∀ v,o.data≠.cell v:=by
 cases b with
 | true=>obtain ⟨o,ho,_,d⟩:=x;exact ⟨o,ho,fun v z=>by rw [d] at z;cases z⟩
 | false=>obtain ⟨o,ho,_,d⟩:=x;exact ⟨o,ho,fun v z=>by rw [d] at z;cases z⟩
theorem IterAt.lt(x:IterAt h b it c i):it<h.objs.size:=let ⟨_,e,_⟩:=x.has;Ji e
theorem qW{x:Value}{Q:Value->Shared->Prop}(gi:s.heap.IsTupleIter it c i)(gt:s.heap.IsTuple c its)(gx:its[i]?=some x)
  (k:∀ h',h'.IsTupleIter it c (i+1)->Heap.SameBut it s.heap h'->Q x { s with heap:=h' }):wpAny [11] A (Builtin.SmallTypes.nextOf [84]) Q E s:=by
 obtain ⟨o,go,gc,gd⟩:=id gi
 obtain ⟨ot,got,_,nt,gdt⟩:=gt
 unfold Builtin.SmallTypes.nextOf
 refine wpAny_bind (wpAny_callSpecial?_slot (name:=Str.ofString "__next__") gi.typeIs Qh (wpAny_call_entry Qh gi.typeIs F.entry_tuple_iterator_next ?_ (F.args_tuple_iterator_next_1 _)))
 show wpAny _ _ (field [84] 0 >>= _) _ _ s
 refine wpAny_bind (wpAny_field go gd (x:=.ref c) rfl ?_)
 show wpAny _ _ (if (Value.ref c == Value.none)=true then _ else _) _ _ s
 rw [if_neg (show ¬ ((Value.ref c == Value.none)=true) from Je)]
 show wpAny _ _ (field [84] 1 >>= _) _ _ s
 refine wpAny_bind (wpAny_field go gd (x:=.int i 0) rfl ?_)
 show wpAny _ _ (seqItems? (.ref c) >>= _) _ _ s
 refine wpAny_bind (wpAny_seqItems got gdt ?_)
 simp only [Int.toNat_natCast,gx]
 refine wpAny_bind (wpAny_setField go gd [12] (wpAny_pure ⟨x,rfl,wpAny_pure (k _ ?_ (Heap.SameBut.update ..))⟩))
 exact ⟨_,Heap.get?_update_self _ go (Obj.isFreed_of_fields (Obj.data_mapFields gd _)),(Obj.cls_mapFields ..).trans gc,(by rw [Obj.data_mapFields gd];simp [rawInt])⟩
theorem uE{x:Value}{Q:Value->Shared->Prop}(gi:IterAt s.heap b it c i)(gt:ContAt s.heap b c its)(gx:its[i]?=some x)
  (k:∀ h',IterAt h' b it c (i+1)->Heap.SameBut it s.heap h'->Q x { s with heap:=h' }):wpAny [11] A (Builtin.SmallTypes.nextOf [84]) Q E s:=by
 cases b with
 | true=>exact wpAny_nextOf_list_item gi gt gx k
 | false=>exact qW gi gt gx k
theorem wQ{Q:Value->Shared->Prop}(hh:A.handled=none)(gi:s.heap.IsTupleIter it c i)(gt:s.heap.IsTuple c its)(gx:its[i]?=none)
  (k:∀ h' e,Heap.ExtBut it s.heap h'->(∃ o,h'.get? e=some o/\o.cls=.type "StopIteration")->E (.ref e) { s with heap:=h' }):wpAny [11] A (Builtin.SmallTypes.nextOf [84]) Q E s:=by
 obtain ⟨o,go,gc,gd⟩:=id gi
 obtain ⟨ot,got,_,nt,gdt⟩:=gt
 unfold Builtin.SmallTypes.nextOf
 refine wpAny_bind (wpAny_callSpecial?_slot (name:=Str.ofString "__next__") gi.typeIs Qh (wpAny_call_entry Qh gi.typeIs F.entry_tuple_iterator_next ?_ (F.args_tuple_iterator_next_1 _)))
 show wpAny _ _ (field [84] 0 >>= _) _ _ s
 refine wpAny_bind (wpAny_field go gd (x:=.ref c) rfl ?_)
 show wpAny _ _ (if (Value.ref c == Value.none)=true then _ else _) _ _ s
 rw [if_neg (show ¬ ((Value.ref c == Value.none)=true) from Je)]
 show wpAny _ _ (field [84] 1 >>= _) _ _ s
 refine wpAny_bind (wpAny_field go gd (x:=.int i 0) rfl ?_)
 show wpAny _ _ (seqItems? (.ref c) >>= _) _ _ s
 refine wpAny_bind (wpAny_seqItems got gdt ?_)
 simp only [Int.toNat_natCast,gx]
 refine wpAny_bind (wpAny_rule (wpAny_bind (wpAny_setField go gd [12] ?_)))
 show wpAny _ _ (newExc (.type "StopIteration") [] >>= _) _ _ _
 refine wpAny_bind ?_
 simp only [newExc,newTuple]
 refine wpAny_bind (wpAny_newObj_type ?_ (by size_fits))
 refine wpAny_bind (m:=firstArgMember _ _) [50]
 refine wpAny_newObj_type ?_ (by size_fits)
 simp only [raiseNew]
 refine wpAny_bind (wpAny_handled ?_)
 first | rw [show A.in1.handled=none from hh] | rw [hh]
 refine wpAny_bind (wpAny_pure (wpAny_throw ?_))
 exact k _ _ (((KKq ..).extBut.push _).push _) ⟨_,Jl _ rfl,rfl⟩
theorem qX{Q:Value->Shared->Prop}(hh:A.handled=none)(gi:IterAt s.heap b it c i)(gt:ContAt s.heap b c its)(gx:its[i]?=none)
  (k:∀ h' e,Heap.ExtBut it s.heap h'->(∃ o,h'.get? e=some o/\o.cls=.type "StopIteration")->E (.ref e) { s with heap:=h' }):wpAny [11] A (Builtin.SmallTypes.nextOf [84]) Q E s:=by
 cases b with
 | true=>exact wpAny_nextOf_list_end hh gi gt gx k
 | false=>exact wQ hh gi gt gx k
end
section
variable {prog:Program} {w:World} {A:Around} {E:Value->Shared->Prop} {s:Shared} {b1 b2:Bool} {z TI TO i1 i2 l1 l2:Addr} {k1 k2:Nat} {xs ys:Array Value} {x y p q:Value}
theorem zff{Q:Value->Shared->Prop}(D:ZipApart z TI TO i1 i2 l1 l2)(gz:IsZip s.heap z TI TO .none)(gI:IsPair s.heap TI (.ref i1) (.ref i2))(gO:IsPair s.heap TO p q)
  (g1:IterAt s.heap b1 i1 l1 k1)(g2:IterAt s.heap b2 i2 l2 k2)(c1:ContAt s.heap b1 l1 xs)(c2:ContAt s.heap b2 l2 ys)(gx:xs[k1]?=some x)(gy:ys[k2]?=some y)
  (fin:∀ h',IsZip h' z TI TO (rawInt s.heap.objs.size)->IsPair h' TO x y->IterAt h' b1 i1 l1 (k1+1)->IterAt h' b2 i2 l2 (k2+1)->IsPair h' s.heap.objs.size x y->
   (∀ c o,c ∉ [z,TO,i1,i2]->s.heap.get? c=some o->h'.get? c=some o)->Q [38] { s with heap:=h' }):
  wpAny [11] A (Builtin.«zip.__next__» ⟨[.ref z],[]⟩) (fun fin s'=>∃ v,fin=.done (.ret v)/\Q v s') E s:=by
 show wpAny _ _ (field (.ref z) 2 >>= _) _ _ _
 refine wpAny_bind (wpAny_field gz rfl (x:=.bool false) rfl ?_)
 show wpAny _ _ (field (.ref z) 3 >>= _) _ _ _
 refine wpAny_bind (wpAny_field gz rfl (x:=.ref TI) rfl ?_)
 refine wpAny_bind (wpAny_seqItems gI rfl ?_)
 show wpAny _ _ (Builtin.SmallTypes.ownedTupleIsFree (.ref z) >>= _) _ _ _
 refine wpAny_bind ?_
 unfold Builtin.SmallTypes.ownedTupleIsFree
 refine wpAny_bind (wpAny_field gz rfl (x:=.none) rfl [19])
 simp only [if_true]
 refine wpAny_bind (wpAny_rule ?_)
 refine wpAny_bind (wpAny_field gz rfl (x:=.ref TO) rfl ?_)
 refine wpAny_bind (wpAny_setField_rec gz [12] fun h₁ z₁ s₁=>?_)
 replace z₁:IsZip h₁ z TI TO .ellipsis:=z₁
 refine wpAny_bind ?_
 simp only [List.zipIdx_cons,List.zipIdx_nil,List.forIn_cons,List.forIn_nil]
 refine wpAny_bind (wpAny_bind (wpAny_onRaise ?_))
 show wpAny _ _ (Builtin.SmallTypes.nextOf (.ref i1) >>= _) _ _ _
 refine wpAny_bind (uE (g1.keep fun o e=>s₁.extBut _ _ D.i1z e) (c1.keep fun o e=>s₁.extBut _ _ D.l1z e) gx fun h₂ e₂ s₂=>wpAny_pure ?_)
 have O₂:IsPair h₂ TO p q:=s₂.extBut _ _ D.TOi1 (s₁.extBut _ _ D.TOz gO)
 refine wpAny_bind (wpAny_seqItems O₂ rfl ?_)
 refine wpAny_bind (wpAny_updateSeq_pair O₂ fun h₃ O₃ s₃=>?_)
 replace O₃:IsPair h₃ TO x q:=O₃
 refine wpAny_bind (wpAny_letGo [19])
 refine wpAny_bind (wpAny_bind (wpAny_onRaise ?_))
 show wpAny _ _ (Builtin.SmallTypes.nextOf (.ref i2) >>= _) _ _ _
 refine wpAny_bind (uE (g2.keep fun o e=>s₃.extBut _ _ D.TOi2.symm (s₂.extBut _ _ D.i12.symm (s₁.extBut _ _ D.i2z e))) (c2.keep fun o e=>s₃.extBut _ _ D.l2TO (s₂.extBut _ _ D.l2i1 (s₁.extBut _ _ D.l2z e))) gy fun h₄ e₄ s₄=>wpAny_pure ?_)
 have O₄:IsPair h₄ TO x q:=s₄.extBut _ _ D.TOi2 O₃
 refine wpAny_bind (wpAny_seqItems O₄ rfl ?_)
 refine wpAny_bind (wpAny_updateSeq_pair O₄ fun h₅ O₅ s₅=>?_)
 replace O₅:IsPair h₅ TO x y:=O₅
 refine wpAny_bind (wpAny_letGo (wpAny_pure [19]))
 refine wpAny_bind (wpAny_seqItems O₅ rfl ?_)
 refine wpAny_bind (wpAny_newTuple ?_)
 have sz:h₅.objs.size=s.heap.objs.size:=by rw [s₅.1,s₄.1,s₃.1,s₂.1,s₁.1]
 have z₅:IsZip h₅ z TI TO .ellipsis:=s₅.extBut _ _ D.TOz.symm (s₄.extBut _ _ D.i2z.symm (s₃.extBut _ _ D.TOz.symm (s₂.extBut _ _ D.i1z.symm z₁)))
 have up5:∀ c o,c ∉ [z,TO,i1,i2]->s.heap.get? c=some o->h₅.get? c=some o:=fun c o hc e=>by
  simp only [List.mem_cons,List.not_mem_nil,or_false,not_or] at hc
  exact s₅.extBut _ _ hc.2.1 (s₄.extBut _ _ hc.2.2.2 (s₃.extBut _ _ hc.2.1 (s₂.extBut _ _ hc.2.2.1 (s₁.extBut _ _ hc.1 e))))
 have f1:IterAt h₅ b1 i1 l1 (k1+1):=e₂.keep fun o e=>s₅.extBut _ _ D.TOi1.symm (s₄.extBut _ _ D.i12 (s₃.extBut _ _ D.TOi1.symm e))
 have f2:IterAt h₅ b2 i2 l2 (k2+1):=e₄.keep fun o e=>s₅.extBut _ _ D.TOi2.symm e
 have zlt:z<h₅.objs.size:=Ji z₅
 show wpAny _ _ (Builtin.SmallTypes.ownedTupleHandOut (.ref z) (.ref h₅.objs.size) >>= _) _ _ _
 refine wpAny_bind ?_
 unfold Builtin.SmallTypes.ownedTupleHandOut
 have z₆:IsZip (h₅.push { cls:=.type "tuple",data:=.seq #[x,y] }) z TI TO .ellipsis:=Jb _ z₅
 refine wpAny_bind (wpAny_setField_rec z₆ [12] fun h₇ z₇ s₇=>?_)
 replace z₇:IsZip h₇ z TI TO (rawInt h₅.objs.size):=z₇
 refine wpAny_setField_rec z₇ [12] fun h₈ z₈ s₈=>?_
 replace z₈:IsZip h₈ z TI TO (rawInt h₅.objs.size):=z₈
 have up:∀ c o,c≠z->h₅.get? c=some o->h₈.get? c=some o:=fun c o n e=>s₈.extBut _ _ n (s₇.extBut _ _ n (Jb _ e))
 have T₈:IsPair h₈ h₅.objs.size x y:=s₈.extBut _ _ (Kj zlt) (s₇.extBut _ _ (Kj zlt) (Jl _ rfl))
 rw [sz] at z₈ T₈
 refine wpAny_pure ⟨_,rfl,?_⟩
 show Q (.ref h₅.objs.size) _
 rw [sz]
 exact fin h₈ z₈ (up _ _ D.TOz O₅) (f1.keep fun o e=>up _ o D.i1z e) (f2.keep fun o e=>up _ o D.i2z e) T₈ fun c o hc e=>up c o (fun n=>hc (by simp [n])) (up5 c o hc e)
theorem zgh{Q:PySem.Fin->Shared->Prop}(hh:A.handled=none)(D:ZipApart z TI TO i1 i2 l1 l2)(gz:IsZip s.heap z TI TO .none)(gI:IsPair s.heap TI (.ref i1) (.ref i2))(gO:IsPair s.heap TO p q)
  (g1:IterAt s.heap b1 i1 l1 k1)(g2:IterAt s.heap b2 i2 l2 k2)(c1:ContAt s.heap b1 l1 xs)(c2:ContAt s.heap b2 l2 ys)(ge:xs[k1]?=none∨ys[k2]?=none)
  (fin:∀ h' e,(∀ c o,c ∉ [z,TO,i1,i2]->s.heap.get? c=some o->h'.get? c=some o)->(∃ o,h'.get? e=some o/\o.cls=.type "StopIteration")->E (.ref e) { s with heap:=h' }):
  wpAny [11] A (Builtin.«zip.__next__» ⟨[.ref z],[]⟩) Q E s:=by
 show wpAny _ _ (field (.ref z) 2 >>= _) _ _ _
 refine wpAny_bind (wpAny_field gz rfl (x:=.bool false) rfl ?_)
 show wpAny _ _ (field (.ref z) 3 >>= _) _ _ _
 refine wpAny_bind (wpAny_field gz rfl (x:=.ref TI) rfl ?_)
 refine wpAny_bind (wpAny_seqItems gI rfl ?_)
 show wpAny _ _ (Builtin.SmallTypes.ownedTupleIsFree (.ref z) >>= _) _ _ _
 refine wpAny_bind ?_
 unfold Builtin.SmallTypes.ownedTupleIsFree
 refine wpAny_bind (wpAny_field gz rfl (x:=.none) rfl [19])
 simp only [if_true]
 refine wpAny_bind (wpAny_rule ?_)
 refine wpAny_bind (wpAny_field gz rfl (x:=.ref TO) rfl ?_)
 refine wpAny_bind (wpAny_setField_rec gz [12] fun h₁ z₁ s₁=>?_)
 replace z₁:IsZip h₁ z TI TO .ellipsis:=z₁
 refine wpAny_bind ?_
 simp only [List.zipIdx_cons,List.zipIdx_nil,List.forIn_cons,List.forIn_nil]
 refine wpAny_bind (wpAny_bind (wpAny_onRaise ?_))
 show wpAny _ _ (Builtin.SmallTypes.nextOf (.ref i1) >>= _) _ _ _
 have j1:IterAt h₁ b1 i1 l1 k1:=g1.keep fun o e=>s₁.extBut _ _ D.i1z e
 have d1:ContAt h₁ b1 l1 xs:=c1.keep fun o e=>s₁.extBut _ _ D.l1z e
 cases gx:xs[k1]? with
 | none=>
  refine wpAny_bind (qX hh j1 d1 gx fun h₂ e s₂ he=>?_)
  obtain ⟨oe,hoe,hce⟩:=he
  have z₂:IsZip h₂ z TI TO .ellipsis:=s₂ _ _ D.i1z.symm z₁
  have nez:e≠z:=fun n=>by subst n;rw [z₂] at hoe;cases hoe;simp at hce
  refine wpAny_setField_rec z₂ [12] fun h₃ _ s₃=>fin h₃ e (fun c o hc t=>?_) ⟨oe,s₃.extBut _ _ nez hoe,hce⟩
  simp only [List.mem_cons,List.not_mem_nil,or_false,not_or] at hc
  exact s₃.extBut _ _ hc.1 (s₂ _ _ hc.2.2.1 (s₁.extBut _ _ hc.1 t))
 | some x=>
  have gy:ys[k2]?=none:=by
   rcases ge with g | g
   ·rw [gx] at g;cases g
   ·exact g
  refine wpAny_bind (uE j1 d1 gx fun h₂ e₂ s₂=>wpAny_pure ?_)
  have O₂:IsPair h₂ TO p q:=s₂.extBut _ _ D.TOi1 (s₁.extBut _ _ D.TOz gO)
  refine wpAny_bind (wpAny_seqItems O₂ rfl ?_)
  refine wpAny_bind (wpAny_updateSeq_pair O₂ fun h₃ O₃ s₃=>?_)
  refine wpAny_bind (wpAny_letGo [19])
  refine wpAny_bind (wpAny_bind (wpAny_onRaise ?_))
  show wpAny _ _ (Builtin.SmallTypes.nextOf (.ref i2) >>= _) _ _ _
  refine wpAny_bind (qX hh (g2.keep fun o e=>s₃.extBut _ _ D.TOi2.symm (s₂.extBut _ _ D.i12.symm (s₁.extBut _ _ D.i2z e))) (c2.keep fun o e=>s₃.extBut _ _ D.l2TO (s₂.extBut _ _ D.l2i1 (s₁.extBut _ _ D.l2z e))) gy fun h₄ e s₄ he=>?_)
  obtain ⟨oe,hoe,hce⟩:=he
  have z₄:IsZip h₄ z TI TO .ellipsis:=s₄ _ _ D.i2z.symm (s₃.extBut _ _ D.TOz.symm (s₂.extBut _ _ D.i1z.symm z₁))
  have nez:e≠z:=fun n=>by subst n;rw [z₄] at hoe;cases hoe;simp at hce
  refine wpAny_setField_rec z₄ [12] fun h₅ _ s₅=>fin h₅ e (fun c o hc t=>?_) ⟨oe,s₅.extBut _ _ nez hoe,hce⟩
  simp only [List.mem_cons,List.not_mem_nil,or_false,not_or] at hc
  exact s₅.extBut _ _ hc.1 (s₄ _ _ hc.2.2.2 (s₃.extBut _ _ hc.2.1 (s₂.extBut _ _ hc.2.2.1 (s₁.extBut _ _ hc.1 t))))
theorem zfe{Q:Option Value->Shared->Prop}(D:ZipApart z TI TO i1 i2 l1 l2)(gz:IsZip s.heap z TI TO .none)(gI:IsPair s.heap TI (.ref i1) (.ref i2))(gO:IsPair s.heap TO p q)
  (g1:IterAt s.heap b1 i1 l1 k1)(g2:IterAt s.heap b2 i2 l2 k2)(c1:ContAt s.heap b1 l1 xs)(c2:ContAt s.heap b2 l2 ys)(gx:xs[k1]?=some x)(gy:ys[k2]?=some y)
  (fin:∀ h',IsZip h' z TI TO (rawInt s.heap.objs.size)->IsPair h' TO x y->IterAt h' b1 i1 l1 (k1+1)->IterAt h' b2 i2 l2 (k2+1)->IsPair h' s.heap.objs.size x y->
   (∀ c o,c ∉ [z,TO,i1,i2]->s.heap.get? c=some o->h'.get? c=some o)->Q (some [38]) { s with heap:=h' }):wpAny [11] A (pyNext (.ref z)) Q E s:=by
 have hT:s.TypeIs (.ref z) "zip":=⟨_,gz,rfl⟩
 unfold pyNext
 exact wpAny_bind (wpAny_attempt (wpAny_callSpecial?_slot (name:=Str.ofString "__next__") hT F.slot_zip_next
  (wpAny_call_entry F.slot_zip_next hT F.entry_zip_next (zff D gz gI gO g1 g2 c1 c2 gx gy fun h' a1 a2 a3 a4 a5 a6=>wpAny_pure (fin h' a1 a2 a3 a4 a5 a6)) (F.args_zip_next_1 _))))
theorem zfd{Q:Option Value->Shared->Prop}(hh:A.handled=none)(D:ZipApart z TI TO i1 i2 l1 l2)(gz:IsZip s.heap z TI TO .none)(gI:IsPair s.heap TI (.ref i1) (.ref i2))(gO:IsPair s.heap TO p q)
  (g1:IterAt s.heap b1 i1 l1 k1)(g2:IterAt s.heap b2 i2 l2 k2)(c1:ContAt s.heap b1 l1 xs)(c2:ContAt s.heap b2 l2 ys)(ge:xs[k1]?=none∨ys[k2]?=none)
  (fin:∀ h',(∀ c o,c ∉ [z,TO,i1,i2]->s.heap.get? c=some o->h'.get? c=some o)->Q none { s with heap:=h' }):wpAny [11] A (pyNext (.ref z)) Q E s:=by
 have hT:s.TypeIs (.ref z) "zip":=⟨_,gz,rfl⟩
 unfold pyNext
 refine wpAny_bind (wpAny_attempt (wpAny_callSpecial?_slot (name:=Str.ofString "__next__") hT F.slot_zip_next
  (wpAny_call_entry F.slot_zip_next hT F.entry_zip_next (zgh hh D gz gI gO g1 g2 c1 c2 ge fun h' e hk he=>?_) (F.args_zip_next_1 _))))
 obtain ⟨o,ho,hc⟩:=he
 refine wpAny_bind (wpAny_isInstance (T:="StopIteration") (b:=true) ⟨o,ho,hc⟩ isSubtype_stop ?_)
 exact wpAny_pure (fin _ hk)
theorem kI{b:Bool}{c:Addr}{its:Array Value}{Q:Value->Shared->Prop}(g:ContAt s.heap b c its)(k:Q [38] { s with heap:=s.heap.push { cls:=.type (qh b),data:=.fields #[.ref c,.int 0 0] } }):
  wpAny [11] A (pyIter (.ref c)) Q E s:=by
 cases b with
 | true=>exact wpAny_pyIter_list g k
 | false=>exact wpAny_pyIter_tuple g k
noncomputable abbrev zg1(h:Heap)(b1:Bool)(l1:Addr):Heap:=h.push { cls:=.type (qh b1),data:=.fields #[.ref l1,.int 0 0] }
noncomputable abbrev zg2(h:Heap)(b1 b2:Bool)(l1 l2:Addr):Heap:=(zg1 h b1 l1).push { cls:=.type (qh b2),data:=.fields #[.ref l2,.int 0 0] }
noncomputable abbrev zg3(h:Heap)(b1 b2:Bool)(l1 l2:Addr):Heap:=(zg2 h b1 b2 l1 l2).push { cls:=.type "tuple",data:=.seq #[.ref h.objs.size,.ref (zg1 h b1 l1).objs.size] }
noncomputable abbrev zg4(h:Heap)(b1 b2:Bool)(l1 l2:Addr):Heap:=(zg3 h b1 b2 l1 l2).push { cls:=.type "tuple",data:=.seq #[.none,.none] }
noncomputable abbrev zg5(h:Heap)(b1 b2:Bool)(l1 l2:Addr):Heap:=(zg4 h b1 b2 l1 l2).push { cls:=.type "zip",data:=.fields #[.none,.bool false,.bool false,.ref (zg2 h b1 b2 l1 l2).objs.size,.ref (zg3 h b1 b2 l1 l2).objs.size] }
theorem zgg(b1 b2:Bool)(l1 l2:Addr)(xs ys:Array Value):
  Meets (Builtin.«zip.__new__» ⟨[.type "zip",.ref l1,.ref l2],[]⟩) (fun _ R s=>ContAt s.heap b1 l1 xs/\ContAt s.heap b2 l2 ys/\
   R (.ok (.ret (.ref (zg4 s.heap b1 b2 l1 l2).objs.size))) { s with heap:=zg5 s.heap b1 b2 l1 l2 }):=
 .of_wp fun prog w A R s h=>by
  obtain ⟨hp,g,d,tk,os⟩:=s;obtain ⟨c1,c2,h⟩:=h
  have hsub:=PySem.sub_zip
  have L1:ContAt (Shared.heap ⟨hp,g,d,tk,os⟩) b1 l1 xs:=c1
  have L2':ContAt (Shared.heap ⟨hp.push { cls:=.type (qh b1),data:=.fields #[.ref l1,.int 0 0] },g,d,tk,os⟩) b2 l2 ys:=c2.keep fun o e=>Jb _ e
  wp_walk using kI L1,kI L2'
  exact ⟨_,rfl,h⟩
theorem zgb{Q:Value->Shared->Prop}(c1:ContAt s.heap b1 l1 xs)(c2:ContAt s.heap b2 l2 ys)
  (k:∀ h',IsZip h' (s.heap.objs.size+4) (s.heap.objs.size+2) (s.heap.objs.size+3) .none->IsPair h' (s.heap.objs.size+2) [38] (.ref [59])->
   IsPair h' (s.heap.objs.size+3) .none .none->IterAt h' b1 s.heap.objs.size l1 0->IterAt h' b2 [59] l2 0->(∀ c o,s.heap.get? c=some o->h'.get? c=some o)->Q (.ref (s.heap.objs.size+4)) { s with heap:=h' }):
  wpAny [11] A (call (.type "zip") [.ref l1,.ref l2]) Q E s:=by
 refine callType_new F.called_zip [9] (F.typeCall_zip_2 _ _) (F.newCall_zip_2 _ _) (fun obj=>F.args_object_init_3 obj _ _) F.entry_zip_new (zgg b1 b2 l1 l2 xs ys) ⟨c1,c2,?_⟩
 have e1:(zg1 s.heap b1 l1).objs.size=s.heap.objs.size+1:=KD ..
 have e2:(zg2 s.heap b1 b2 l1 l2).objs.size=s.heap.objs.size+2:=by rw [KD,e1]
 have e3:(zg3 s.heap b1 b2 l1 l2).objs.size=s.heap.objs.size+3:=by rw [KD,e2]
 have e4:(zg4 s.heap b1 b2 l1 l2).objs.size=s.heap.objs.size+4:=by rw [KD,e3]
 have g5:(zg5 s.heap b1 b2 l1 l2).get? (zg4 s.heap b1 b2 l1 l2).objs.size=some _:=Jl _ rfl
 have g4:(zg5 s.heap b1 b2 l1 l2).get? (zg3 s.heap b1 b2 l1 l2).objs.size=some _:=Jb _ (Jl _ rfl)
 have g3:(zg5 s.heap b1 b2 l1 l2).get? (zg2 s.heap b1 b2 l1 l2).objs.size=some _:=Jb _ (Jb _ (Jl _ rfl))
 have g2:(zg5 s.heap b1 b2 l1 l2).get? (zg1 s.heap b1 l1).objs.size=some _:=Jb _ (Jb _ (Jb _ (Jl _ rfl)))
 have g1:(zg5 s.heap b1 b2 l1 l2).get? s.heap.objs.size=some _:=Jb _ (Jb _ (Jb _ (Jb _ (Jl _ rfl))))
 show _/\_
 rw [e2,e3,e4] at g5
 rw [e1,e2] at g3
 rw [e3] at g4
 rw [e1] at g2
 rw [e4]
 have mk:∀ (b:Bool) (h:Heap) (it l:Addr),h.get? it=some { cls:=.type (qh b),data:=.fields #[.ref l,.int 0 0] }->IterAt h b it l 0:=fun b h it l e=>by
  cases b with
  | true=>exact ⟨_,e,rfl,rfl⟩
  | false=>exact ⟨_,e,rfl,rfl⟩
 exact ⟨⟨_,g5,rfl⟩,k _ g5 g3 g4 (mk b1 _ _ _ g1) (mk b2 _ _ _ g2) fun c o e=>Jb _ (Jb _ (Jb _ (Jb _ (Jb _ e))))⟩
end
noncomputable def Sq(K:PySem.W.Frag)(H:Hp)(b:Bool)(a:Addr)(xs:List V):Prop:=if b=true then SqL K H a xs else SqT K H a xs
noncomputable def Itz (K : PySem.W.Frag) (b1 b2 : Bool) (a1 a2 : Addr) : It :=
  ⟨fun i H => ∃ xs ys x y, Sq K H b1 a1 xs ∧ Sq K H b2 a2 ys ∧ xs[i]? = some x ∧ ys[i]? = some y,
   fun i H v H' => ∃ T x y, H T = none ∧ v = .ref T ∧ H' = upd H T (.tup [x, y]) ∧ ∀ xs ys, Sq K H b1 a1 xs → Sq K H b2 a2 ys → xs[i]? = some x ∧ ys[i]? = some y,
   fun i H => ∃ xs ys, Sq K H b1 a1 xs ∧ Sq K H b2 a2 ys ∧ (xs.length ≤ i ∨ ys.length ≤ i)⟩
section
variable {X:Cx} {pins:List [17]} {σ:St} {H:Hp} {s:Shared}
theorem Sq.at{b:Bool}{a:Addr}{xs:List V}(I:Inv X pins σ H s)(h:Sq X.K H b a xs):∃ its:List Value,Vals xs its/\ContAt s.heap b a its.toArray:=by
 cases b with
 | true=>obtain ⟨its,r,p,_⟩:=I.list h;exact ⟨its,r,p.isList⟩
 | false=>obtain ⟨its,r,p,_⟩:=I.tuple h;exact ⟨its,r,p⟩
theorem Sq.inj{b:Bool}{a:Addr}{xs ys:List V}(I:Inv X pins σ H s)(h:Sq X.K H b a xs)(h':Sq X.K H b a ys):xs=ys:=by
 cases b with
 | true=>exact I.list_inj h h'
 | false=>exact I.tuple_inj h h'
theorem Sq.ne{b:Bool}{a it:Addr}{xs:List V}(I:Inv X pins σ H s)(h:Sq X.K H b a xs)(hf:uc X pins H it):a≠it:=by
 rintro rfl
 have nb:∀ o,X.K.lookup a=some o->False:=fun o ho=>by
  obtain ⟨u,hu⟩:=I.ok.mod.kin a o ho |> fun e=>(⟨o,e⟩:∃ u,X.base.get? a=some u)
  rcases hf.2.2.2.1 with z | z
  ·exact I.ok.noex a u hu z
  ·exact absurd (JB (Ji hu) (JI I.ok.bsz z)) (KO _)
 cases b with
 | true=>
  rcases h with (h | ⟨u,h⟩) | ⟨o,_,_,h,_⟩
  ·rw [hf.1] at h;cases h
  ·rw [hf.1] at h;cases h
  ·exact nb o h
 | false=>
  rcases h with (h | ⟨u,h⟩) | ⟨o,_,_,h,_⟩
  ·rw [hf.1] at h;cases h
  ·rw [hf.1] at h;cases h
  ·exact nb o h
end
structure ZApart (z TI TO i1 i2:Addr):Prop where
 a1:TI≠z
 a2:TO≠z
 a3:i1≠z
 a4:i2≠z
 a5:TI≠TO
 a6:TI≠i1
 a7:TI≠i2
 a8:TO≠i1
 a9:TO≠i2
 a10:i1≠i2
theorem zmD{z TI TO i1 i2 b:Addr}(hb:b ∈ [z,TO,i1,i2]):b ∈ [z,TI,TO,i1,i2]:=by
 simp only [List.mem_cons,List.not_mem_nil,or_false] at hb ⊢
 rcases hb with h | h | h | h
 ·exact .inl h
 ·exact .inr (.inr (.inl h))
 ·exact .inr (.inr (.inr (.inl h)))
 ·exact .inr (.inr (.inr (.inr h)))
theorem zgv{P:Program}{w:World}{K:PySem.W.Frag}{es:List Expr}{k:Nat}{pos:Pos}(b1 b2:Bool)(a1 a2 z TI TO i1 i2:Addr)(D:ZApart z TI TO i1 i2):
  Turn P w K (.Tuple es k pos) (Itz K b1 b2 a1 a2) [z,TI,TO,i1,i2] z (fun i h=>IsZip h z TI TO .none/\IsPair h TI (.ref i1) (.ref i2)/\(∃ p q,IsPair h TO p q)/\IterAt h b1 i1 a1 i/\IterAt h b2 i2 a2 i) where
 mem:=by simp
 obj:=by
  rintro i h ⟨gz,gI,⟨p,q,gO⟩,g1,g2⟩ b hb
  simp only [List.mem_cons,List.not_mem_nil,or_false] at hb
  rcases hb with rfl | rfl | rfl | rfl | rfl
  ·exact ⟨_,gz,fun v e=>nomatch e⟩
  ·exact ⟨_,gI,fun v e=>nomatch e⟩
  ·exact ⟨_,gO,fun v e=>nomatch e⟩
  ·exact g1.has
  ·exact g2.has
 keep:=by
  rintro i h h' ⟨gz,gI,⟨p,q,gO⟩,g1,g2⟩ kk
  exact ⟨kk z [12] _ gz,kk TI [12] _ gI,⟨p,q,kk TO [12] _ gO⟩,g1.keep fun o e=>kk i1 [12] o e,g2.keep fun o e=>kk i2 [12] o e⟩
 item:=by
  rintro X hP hw hK hc i pins s σ H E I hf ⟨gz,gI,⟨p,q,gO⟩,g1,g2⟩ ⟨xs,ys,x,y,hx,hy,ex,ey⟩
  subst hP hw hK
  obtain ⟨its1,r1,c1⟩:=hx.at I
  obtain ⟨its2,r2,c2⟩:=hy.at I
  obtain ⟨u,hu,ru⟩:=r1.get ex
  obtain ⟨v,hv,rv⟩:=r2.get ey
  have nf:∀ b ∈ [z,TI,TO,i1,i2],a1≠b/\a2≠b:=fun b hb=>⟨hx.ne I (hf b hb),hy.ne I (hf b hb)⟩
  have DD:ZipApart z TI TO i1 i2 a1 a2:=⟨D.a1,D.a2,D.a3,D.a4,D.a5,D.a6,D.a7,D.a8,D.a9,D.a10,(nf z [12]).1,(nf TO [12]).1,(nf i1 [12]).1,(nf i2 [12]).1,(nf z [12]).2,(nf TO [12]).2,(nf i1 [12]).2,(nf i2 [12]).2⟩
  refine zfe DD gz gI gO g1 g2 c1 c2 (x:=u) (y:=v) (by simpa using hu) (by simpa using hv) fun h' e1 e2 e3 e4 e5 e6=>⟨_,rfl,?_⟩
  refine wpAny_letOwnedTupleGo_zip e1 fun h₂ z₂ s₂=>?_
  have hL:∀ b ∈ [z,TO,i1,i2],uc X pins H b:=fun b hb=>hf b (zmD hb)
  have kk:∀ b o,b ∉ [z,TO,i1,i2]->s.heap.get? b=some o->h₂.get? b=some o:=fun b o hb e=>s₂.extBut _ _ (fun n=>hb (by simp [n])) (e6 b o hb e)
  -- first the records,then the new pair
  have hT:H s.heap.objs.size=none:=I.hok.fresh (Jn _)
  have nz:s.heap.objs.size≠z:=Kj (Ji gz)
  have T2:IsPair h₂ s.heap.objs.size u v:=s₂.extBut _ _ nz e5
  have I2:Inv X pins σ (upd H s.heap.objs.size (.tup [x,y])) { s with heap:=h₂,toks:=s.toks }:=I.turnedLaid (t':=s.toks) kk hL (Nat.le_refl _) ⟨by simp [sizeLine],[u,v],.cons ru (.cons rv .nil),⟨_,T2,rfl,_,rfl⟩⟩
  refine ⟨.ref s.heap.objs.size,_,I2,rfl,⟨_,x,y,hT,rfl,rfl,fun xs' ys' h1 h2=>⟨by rw [h1.inj I hx];exact ex,by rw [h2.inj I hy];exact ey⟩⟩,⟨z₂,?_,⟨u,v,s₂.extBut _ _ D.a2 e2⟩,e3.keep fun o e=>s₂.extBut _ _ D.a3 e,e4.keep fun o e=>s₂.extBut _ _ D.a4 e⟩,fun b hb=>?_⟩
  ·exact s₂.extBut _ _ D.a1 (e6 _ _ (by simp [D.a1,D.a5,D.a6,D.a7]) gI)
  ·rw [zb (fun n=>?_)]
   ·exact (hf b hb).1
   ·have:b<s.heap.objs.size:=by
     simp only [List.mem_cons,List.not_mem_nil,or_false] at hb
     rcases hb with rfl | rfl | rfl | rfl | rfl
     ·exact Ji gz
     ·exact Ji gI
     ·exact Ji gO
     ·exact g1.lt
     ·exact g2.lt
    exact absurd n (Jw this)
 done:=by
  rintro X hP hw hK hc i pins s σ H E I hf ⟨gz,gI,⟨p,q,gO⟩,g1,g2⟩ ⟨xs,ys,hx,hy,hl⟩
  subst hP hw hK
  obtain ⟨its1,r1,c1⟩:=hx.at I
  obtain ⟨its2,r2,c2⟩:=hy.at I
  have l1:=r1.length
  have l2:=r2.length
  have nf:∀ b ∈ [z,TI,TO,i1,i2],a1≠b/\a2≠b:=fun b hb=>⟨hx.ne I (hf b hb),hy.ne I (hf b hb)⟩
  have DD:ZipApart z TI TO i1 i2 a1 a2:=⟨D.a1,D.a2,D.a3,D.a4,D.a5,D.a6,D.a7,D.a8,D.a9,D.a10,(nf z [12]).1,(nf TO [12]).1,(nf i1 [12]).1,(nf i2 [12]).1,(nf z [12]).2,(nf TO [12]).2,(nf i1 [12]).2,(nf i2 [12]).2⟩
  refine zfd (I.ok.hd hc) DD gz gI gO g1 g2 c1 c2 (hl.imp (fun h=>by simpa [← l1] using h) fun h=>by simpa [← l2] using h) fun h' e6=>⟨rfl,I.turnedL (t':=s.toks) e6 fun b hb=>hf b (zmD hb)⟩
 self:=fun _ _ _ _ _ st h=>wpAny_pyIter_zip st.1 h
theorem zkz(n:Nat):ZApart (n+4) (n+2) (n+3) n (n+1):=by constructor<;>(show ¬ (_:Nat)=_;omega)
theorem zij:bootBuiltins "zip"=some (.type "zip"):=by decide +kernel
noncomputable def znT(K:PySem.W.Frag)(ta:TA):TI:=fun σ H R=>ta σ H fun vs H1=>∃ b1 b2 a1 a2,vs=[.ref a1,.ref a2]/\(∃ xs,Sq K H1 b1 a1 xs)/\(∃ ys,Sq K H1 b2 a2 ys)/\R (Itz K b1 b2 a1 a2) H1
theorem zlb{X:Cx}{es:List Expr}{k:Nat}{tpos:Pos}{a b:Expr}{ta:TA}{p pos:Pos}(hg:Gl X "zip")(hm:X.mg "zip"=none)(ha:PA X [a,b] ta)(hs:starEach [a,b] X.env=[(false,eval a X.env),(false,eval b X.env)]:=by rfl)(hs2:starEach [b] X.env=[(false,eval b X.env)]:=by rfl):
  PI X (.Tuple es k tpos) (.Call (.Name "zip" p) [a,b] [] pos) (znT X.K ta):=by
 intro pins s σ H R I h
 refine Call_ (vd I hg hm zij (Kr [75] (by rw [hs,hs2]) (by rw [hs2];rfl)))
 obtain ⟨b1,b2,a1,a2,e,⟨xs,hx⟩,⟨ys,hy⟩,q⟩:=q1
 subst e
 cases r1 with
 | cons r rr=>
  cases rr with
  | cons r' rr=>
   cases rr
   cases r
   cases r'
   obtain ⟨its1,v1,c1⟩:=hx.at I1
   obtain ⟨its2,v2,c2⟩:=hy.at I1
   refine zgb c1 c2 fun h' gz gI gO g1 g2 kk=>?_
   refine wpAny_pyIter_zip gz ?_
   refine ⟨s1.heap.objs.size+4,[s1.heap.objs.size+4,s1.heap.objs.size+2,s1.heap.objs.size+3,s1.heap.objs.size,s1.heap.objs.size+1],_,_,H1,rfl,I1.kept (t':=s1.toks) kk,
    zgv b1 b2 a1 a2 _ _ _ _ _ (zkz s1.heap.objs.size),⟨gz,gI,⟨_,_,gO⟩,g1,g2⟩,fun c hc=>?_,q⟩
   have hc':s1.heap.objs.size≤c:=by
    simp only [List.mem_cons,List.not_mem_nil,or_false] at hc
    rcases hc with rfl | rfl | rfl | rfl | rfl<;>omega
   exact I1.fpOk hc' (I1.hok.fresh hc')
end L2
namespace F
open PySem L2
noncomputable def zjR(f:FA):FA:=fun env=>(f env).bind fun ps=>match ps with | [p,q]=>(xk p).bind fun xs=>(xk q).bind fun ys=>some ((List.zip xs ys).map fun z=>PV.tup [z.1,z.2]) | _=>none
theorem zew{K:PySem.W.Frag}{own:Addr->Option Nat}{H1:Hp}{p:PV}{v:V}{A:List Addr}{ps:List PV}(lp:Bool)(hm:∀ a l,own a=some l->MutH H1 a)(r:Rp K H1 p v A)(hA:(∀ a ∈ A,own a=none)∨(lp=false/\isDatas ps=true))(hs:xk p=some ps):
  ∃ b a xs B,v=.ref a/\Rps K H1 ps xs B/\(∀ a ∈ B,own a=none/\∃ o,H1 a=some o)/\∀ H2,(if lp=true then Stay own H1 H2 else Same H1 H2)->Sq K H2 b a xs/\Rps K H2 ps xs B:=by
 cases p<;>first | cases hs | skip
 ·obtain ⟨a,xs,h1,h2,h3⟩:=r.T
  refine ⟨false,a,xs,A,h1,h3,fun b hb=>⟨?_,(Rps.mut _ h3 b hb).some⟩,fun H2 hR=>?_⟩
  ·rcases hA with hA | ⟨_,hd⟩
   ·exact hA b hb
   ·have:=Rps.data _ hd h3;subst this;exact absurd hb [12]
  ·rcases hA with hA | ⟨e,hd⟩
   ·cases lp with
    | true=>exact ⟨Stay.tup hR hm h2,Rps.stay hR hm _ hA h3⟩
    | false=>exact ⟨Same.tup hR h2,Rps.same hR _ h3⟩
   ·subst e
    exact ⟨Same.tup hR h2,Rps.same hR _ h3⟩
 ·obtain ⟨a,xs,B,h1,h2,rfl,h3⟩:=r.L
  refine ⟨true,a,xs,B,h1,h3,fun b hb=>⟨?_,(Rps.mut _ h3 b hb).some⟩,fun H2 hR=>?_⟩
  ·rcases hA with hA | ⟨_,hd⟩
   ·exact hA b (Jf _ hb)
   ·have:=Rps.data _ hd h3;subst this;exact absurd hb [12]
  ·rcases hA with hA | ⟨e,hd⟩
   ·cases lp with
    | true=>exact ⟨SqL.of (hR _ _ (hA a Jg) h2),Rps.stay hR hm _ (fun b hb=>hA b (Jf _ hb)) h3⟩
    | false=>exact ⟨SqL.of (hR _ _ h2),Rps.same hR _ h3⟩
   ·subst e
    exact ⟨SqL.of (hR _ _ h2),Rps.same hR _ h3⟩
 ·obtain ⟨a,xs,h1,h2,h3⟩:=r.Fl
  refine ⟨true,a,xs,A,h1,h3,fun b hb=>⟨?_,(Rps.mut _ h3 b hb).some⟩,fun H2 hR=>?_⟩
  ·rcases hA with hA | ⟨_,hd⟩
   ·exact hA b hb
   ·have:=Rps.data _ hd h3;subst this;exact absurd hb [12]
  ·rcases hA with hA | ⟨e,hd⟩
   ·cases lp with
    | true=>exact ⟨(Stay.fz hR hm h2).seq,Rps.stay hR hm _ hA h3⟩
    | false=>exact ⟨(h2.same hR).seq,Rps.same hR _ h3⟩
   ·subst e
    exact ⟨(h2.same hR).seq,Rps.same hR _ h3⟩
theorem ziv{K:PySem.W.Frag}{own:Addr->Option Nat}{H1:Hp}{R:Hp->Prop}{b1 b2:Bool}{a1 a2:Addr}{ps qs:List PV}{xs ys:List V}{A B:List Addr}
  (hA:∀ a ∈ A,own a=none/\∃ o,H1 a=some o)(hB:∀ a ∈ B,own a=none/\∃ o,H1 a=some o)(h1:∀ H2,R H2->Sq K H2 b1 a1 xs/\Rps K H2 ps xs A)(h2:∀ H2,R H2->Sq K H2 b2 a2 ys/\Rps K H2 qs ys B):
  Walks K own H1 R (Itz K b1 b2 a1 a2) ((List.zip ps qs).map fun z=>PV.tup [z.1,z.2]):=by
 intro i H2 hR
 obtain ⟨q1,r1⟩:=h1 H2 hR
 obtain ⟨q2,r2⟩:=h2 H2 hR
 refine ⟨fun p hp=>?_,fun hi=>⟨xs,ys,q1,q2,?_⟩⟩
 ·rw [JK] at hp
  obtain ⟨z,hz,hp⟩:=JM.mp hp
  subst hp
  obtain ⟨z1,z2⟩:=List.getElem?_zip_eq_some.mp hz
  obtain ⟨u,C,e1,e2,e3⟩:=r1.get z1
  obtain ⟨v,D,f1,f2,f3⟩:=r2.get z2
  refine ⟨⟨xs,ys,u,v,q1,q2,e1,f1⟩,fun x H3 ⟨T,x',y',hT,ex,eH,hy⟩=>?_⟩
  obtain ⟨g1,g2⟩:=hy xs ys q1 q2
  rw [e1] at g1;cases g1
  rw [f1] at g2;cases g2
  have sm:Same H2 H3:=by rw [eH];exact yF [30] hT
  refine ⟨sm,C++D,?_,fun a ha=>?_⟩
  ·unfold Rp
   refine ⟨T,[u,v],ex,.inl (.inl (by rw [eH,zV])),?_⟩
   unfold Rps
   refine ⟨u,[v],C,D,rfl,rfl,Rp.same sm _ e2,?_⟩
   unfold Rps
   exact ⟨v,[],D,[],rfl,by simp,Rp.same sm _ f2,by unfold Rps;exact ⟨rfl,rfl⟩⟩
  ·rcases List.mem_append.mp ha with ha | ha
   ·exact hA a (e3.subset ha)
   ·exact hB a (f3.subset ha)
 ·rw [Jj,QL] at hi
  rw [← r1.length,← r2.length]
  omega
theorem zkD{X:Cx}{κ:Nat->Option Nat}{G:Hp}{fs:FA}{a b:Expr}{es:List Expr}{k:Nat}{tpos p pos:Pos}(lp:Bool)(hg:Gl X "zip")(hm:X.mg "zip"=none)(ha:VA X κ G .sh [a,b] fs)(hs:starEach [a,b] X.env=[(false,eval a X.env),(false,eval b X.env)]:=by rfl)(hs2:starEach [b] X.env=[(false,eval b X.env)]:=by rfl):
  VIt X κ G lp (.Tuple es k tpos) (.Call (.Name "zip" p) [a,b] [] pos) (zjR fs):=(zlb hg hm ha.1 hs hs2).imp fun σ H R hq_=>by
 refine hq_.elim fun own env ps I hf k=>?_
 unfold zjR at hf
 replace hf:=Ja.mp hf;obtain ⟨qs,hp,hf⟩:=hf
 refine (.in I hp fun vs H1 A s r hc=>?_)
 split at hf
 ·rename_i p q
  cases e1:xk p with
  | none=>rw [e1] at hf;cases hf
  | some xs=>
   cases e2:xk q with
   | none=>rw [e1,e2] at hf;cases hf
   | some ys=>
    rw [e1,e2] at hf
    cases hf
    obtain ⟨v,r',A1,A2,h1,h2,h3,h4⟩:=r.inv
    obtain ⟨v',r'',A1',A2',h1',h2',h3',h4'⟩:=h4.inv
    have hm:∀ a l,own a=some l->MutH H1 a:=fun a l e=>((I.grow s).own a l e).2
    have hcA:∀ a ∈ A,own a=none:=hc
    obtain ⟨b1,a1,vs1,B1,w1,w2,w3,w4⟩:=zew lp hm h3 (.inl fun a ha=>hcA a (by rw [h2];exact Jm _ ha)) e1
    obtain ⟨b2,a2,vs2,B2,w5,w6,w7,w8⟩:=zew lp hm h3' (.inl fun a ha=>hcA a (by rw [h2,h2'];exact Js _ (Jm _ ha))) e2
    have rf:(if lp=true then Stay own H1 H1 else Same H1 H1):=by
     cases lp with
     | true=>exact fun _ _ _ h=>h
     | false=>exact Same.refl _
    exact ⟨b1,b2,a1,a2,by rw [h1,h1',h4'.inv0.1,w1,w5],⟨vs1,(w4 H1 rf).1⟩,⟨vs2,(w8 H1 rf).1⟩,k _ H1 s (ziv w3 w7 w4 w8)⟩
 ·cases hf
end F
namespace F
open PySem PySem.Spec PyProof.Rows L2
section
variable {X:Cx} {κ:Nat->Option Nat} {G:Hp} {c c1 c2:Cat} {a b e:Expr} {es:List Expr} {fa fb f:FE} {t u:FT} {fs:FA} {pos:Pos} {g h:FS} {st:Stmt} {rest:List Stmt} {O:List Nat}
theorem ka{α:Type}:∀ {ps:List α} {j:Nat} {p:α},ps[j]?=some p->∃ l1 l2,ps=l1++p::l2/\l1.length=j
 | [],j,p,h=>by simp at h
 | q::ps,0,p,h=>⟨[],ps,by simp at h;rw [h];rfl,rfl⟩
 | q::ps,j+1,p,h=>by
  obtain ⟨l1,l2,e1,e2⟩:=ka (ps:=ps) (j:=j) (p:=p) (by simpa using h)
  exact ⟨q::l1,l2,by rw [e1];rfl,by simp [e2]⟩
theorem zbg{α:Type}{l1 l2:List α}{p q:α}:(l1++p::l2).set l1.length q=l1++q::l2:=by
 rw [List.set_append]
 simp
theorem VI.turnIn{K:PySem.W.Frag}{own:Addr->Option Nat}{env:En}{σ:St}{H:Hp}{i j:Nat}{ps qs:List PV}(hi:i ∈ O)(I:VI K (ko O) G own env σ H)(hl:zA i env=some (.lst ps))(hj:ps[j]?=some (.lst qs)):
  ∃ a xs b ys B,σ[i]?=some (some [67])/\H a=some (.lst xs)/\xs[j]?=some (.ref b)/\xs.length=ps.length/\H b=some (.lst ys)/\Rps K H qs ys B/\b ∉ B/\B.Nodup/\∀ H1 qs' ys' C,Same H H1->Rps K H1 qs' ys' C->C.Nodup->b ∉ C->(∀ d ∈ C,d ∈ B∨H d=none)->
   ∃ own',VI K (ko O) G own' (env.set i (some (.lst (ps.set j (.lst qs'))))) σ [85]/\Ext own H own' [85]:=by
 obtain ⟨a,xs,B,hσ,ha,hr,nd,ho,hB⟩:=jC hi I hl
 obtain ⟨l1,l2,rfl,rfl⟩:=ka hj
 obtain ⟨v1,v2,A1,A2,rfl,rfl,r1,r2⟩:=hr.split
 obtain ⟨v,r',A3,A4,rfl,rfl,r3,r4⟩:=r2.inv
 obtain ⟨b,ys,B',rfl,hb,rfl,r5⟩:=r3.L
 have n1:=r1.length
 rw [JF,Jz,Jz,JF] at nd
 simp only [List.mem_append,List.mem_cons,not_or] at nd hB
 obtain ⟨⟨na1,⟨nab,naB⟩,na4⟩,nd1,⟨⟨nbB,ndB⟩,nd4,d34⟩,d1⟩:=nd
 refine ⟨a,_,b,ys,B',hσ,ha,by rw [n1];simp,hr.length.symm,hb,r5,nbB,ndB,fun H1 qs' ys' C s1 rC ndC nbC hC=>?_⟩
 have mb:MutH H1 b:=.inl ⟨ys,s1 _ _ hb⟩
 have nb1:b ∉ A1:=fun z=>d1 b z b (.inl [76]) rfl
 have nb4:b ∉ A4:=fun z=>d34 b [76] b z rfl
 have hm:∀ d,(d=a∨d ∈ A1∨d=b∨d ∈ A4)->∃ o,H d=some o:=fun d z=>by
  rcases z with rfl | z | rfl | z
  ·exact ⟨_,ha⟩
  ·exact (Rps.mut _ r1 d z).some
  ·exact ⟨_,hb⟩
  ·exact (Rps.mut _ r4 d z).some
 have nC:∀ d ∈ C,d≠a/\d ∉ A1/\d ∉ A4:=fun d hd=>by
  rcases hC d hd with z | z
  ·exact ⟨fun e=>naB (e ▸ z),fun e=>d1 d e d (.inl (.inr z)) rfl,fun e=>d34 d (.inr z) d e rfl⟩
  ·refine ⟨fun e=>?_,fun e=>?_,fun e=>?_⟩
   ·obtain ⟨o,q⟩:=hm d (.inl e);rw [z] at q;cases q
   ·obtain ⟨o,q⟩:=hm d (.inr (.inl e));rw [z] at q;cases q
   ·obtain ⟨o,q⟩:=hm d (.inr (.inr (.inr e)));rw [z] at q;cases q
 have hob:own b=some i:=hB b (.inr (.inl [76]))
 have hA:(a::(A1++((b::C)++A4))).Nodup:=by
  rw [JF,Jz,Jz,JF]
  simp only [List.mem_append,List.mem_cons,not_or]
  refine ⟨⟨na1,⟨nab,fun z=>(nC a z).1 rfl⟩,na4⟩,nd1,⟨⟨nbC,ndC⟩,nd4,fun d hd d' hd' e=>?_⟩,fun d hd d' hd' e=>?_⟩
  ·subst e
   rcases hd with rfl | hd
   ·exact nb4 hd'
   ·exact (nC d hd).2.2 hd'
  ·subst e
   rcases hd' with (rfl | hd') | hd'
   ·exact nb1 hd
   ·exact (nC d hd').2.1 hd
   ·exact d1 d hd d (.inr hd') rfl
 have hown:∀ d ∈ a::(A1++((b::C)++A4)),own d=some i∨H d=none:=fun d hd=>by
  simp only [List.mem_append,List.mem_cons] at hd
  rcases hd with rfl | hd | (rfl | hd) | hd
  ·exact .inl ho
  ·exact .inl (hB d (.inl hd))
  ·exact .inl hob
  ·rcases hC d hd with z | z
   ·exact .inl (hB d (.inr (.inl (.inr z))))
   ·exact .inr z
  ·exact .inl (hB d (.inr (.inr hd)))
 rw [zbg]
 have r:Rp K [85] (.lst (l1++.lst qs'::l2)) [67] (a::(A1++((b::C)++A4))):=
  .mkL (by rw [zb nab];exact s1 _ _ ha) [46]
 have:=I.take (H2:=upd H1 b (.lst ys')) (v:=.ref a) hi (fun m q w D _ _ z hD=>Rp.upd mb q (fun z'=>hD b z' hob) (Rp.same s1 q z)) (fun d u hd z=>by
  rw [zb (by rintro rfl;exact hd hob)];exact s1 d u z) r hA hown
 rw [jJ hσ] at this
 exact ⟨_,this⟩
end
end F
namespace L2
open PySem PySem.Spec PyProof.Rows
end L2
namespace F
open PySem PySem.Spec PyProof.Rows L2
section
variable {X:Cx} {κ:Nat->Option Nat} {G:Hp} {c:Cat} {a b e:Expr} {fs:FA} {pos:Pos}
noncomputable def zmS(f:FA):FE:=fun env=>(f env).bind fun ps=>if ps.length≤100000 then some (.lst ps) else none
end
theorem VI.free{K:PySem.W.Frag}{κ:Nat->Option Nat}{G:Hp}{own:Addr->Option Nat}{env:En}{σ:St}{H:Hp}(I:VI K κ G own env σ H):VI K (ko []) G (fun _=>none) env σ H:=
 ⟨I.len,fun i p e=>let ⟨v,A,h1,h2,_⟩:=I.slot i p e;⟨v,A,h1,h2,fun _ _ _=>rfl,fun l z=>absurd z (by simp [ko])⟩,fun a l e=>(nomatch e),I.same⟩
theorem ziG{K:PySem.W.Frag}{κ:Nat->Option Nat}{G:Hp}{f:FE}{σ:St}{H:Hp}{Q:VK}(h:tV K κ G [33] f σ H Q):tV K (ko []) G [33] f σ H Q:=by
 obtain ⟨own,env,p,I,hf,k⟩:=h
 exact ⟨fun _=>none,env,p,I.free,hf,fun v H' A s r hc=>k v H' A s r ⟨hc.1,fun a ha=>(hc.2 a ha).imp id fun ⟨_,z,_⟩=>nomatch z⟩⟩
theorem ziD{X:Cx}{κ:Nat->Option Nat}{G:Hp}{e:Expr}{f:FE}(h:VE X (ko []) G [33] e f):VE X κ G [33] e f:=h.imp fun σ H Q q=>ziG q
end F
namespace L2
open PySem PySem.Spec PyProof.Rows
theorem jV:∀ {ns:List Int} {us:List Value},Vals (ns.map V.int) us->IntsAre us ns
 | [],_,h=>by cases h;exact .nil
 | n::ns,_,h=>by
  cases h with
  | cons r rr=>
   obtain ⟨t,rfl⟩:=r
   exact .cons n t (jV rr)
section
variable {X:Cx}
theorem zhG{its:List Value}{ns:List Int}(hi:IntsAre its ns):∃ xs:Array (Int × Tok),its.toArray=intItems xs/\ns=xs.toList.map (·.1):=by
 obtain ⟨xs,e⟩:=hi.allInts.items
 exact ⟨xs,e,by rw [← hi.numsOf,← nums_intItems,← e]⟩
theorem zgc(hc:X.calm=true):CallR X (.builtin "sum") (fun xs H Q=>∃ p,∃ ns:List Int,xs=[.ref p]/\SqL X.K H p (ns.map V.int)/\Q (.int ns.sum) H):=by
 intro pins s σ H vs us Q I r q
 obtain ⟨p,ns,e,hs,q⟩:=q
 subst e
 cases r with
 | cons r rr=>
  cases rr
  cases r
  obtain ⟨its,rv,hl,_⟩:=I.list hs
  obtain ⟨xs,e,hns⟩:=zhG (jV rv)
  refine sum_intListG (I.ok.hd hc) (by rw [← e];exact hl.isList) fun h' tk t' hk=>?_
  refine ⟨.int (preSum (numAt xs) xs.size),_,I.kept hk,⟨t',rfl⟩,?_⟩
  have:preSum (numAt xs) xs.size=ns.sum:=by
   rw [hns,preSum_eq,List.take_of_length_le [12]]
  rw [this];exact q
end
end L2
namespace F
open PySem PySem.Spec PyProof.Rows L2
noncomputable def uz:List PV->Option (List Int)
 | []=>some []
 | .int i::r=>(uz r).map fun ns=>i::ns
 | _=>none
theorem zaK:∀ {ps:List PV} {ns:List Int},uz ps=some ns->ps=ns.map PV.int
 | [],ns,h=>by cases h;rfl
 | p::r,ns,h=>by
  cases p<;>first | (cases h;done) | skip
  rename_i i
  unfold uz at h
  cases hr:uz r with
  | none=>rw [hr] at h;cases h
  | some ms=>
   rw [hr] at h;cases h
   rw [zaK hr];rfl
@[simp] theorem qk:∀ (ns:List Int),uz (ns.map PV.int)=some ns
 | []=>rfl
 | n::ns=>by rw [Jr,uz,qk ns];rfl
theorem zcm{K:PySem.W.Frag}{H:Hp}:∀ {ns:List Int} {xs:List V} {A:List Addr},Rps K H (ns.map PV.int) xs A->xs=ns.map V.int
 | [],_,_,r=>r.inv0.1
 | n::ns,_,_,r=>by
  obtain ⟨v,r',A1,A2,h1,_,h3,h4⟩:=r.inv
  rw [h1,h3.I.1,zcm h4];rfl
noncomputable def zfj:List PV->Option PV
 | [.lst ps]=>match uz ps with | some ns=>some (.int ns.sum) | _=>none
 | _=>none
theorem zlN{K:PySem.W.Frag}:kR K (fun xs H Q=>∃ p,∃ ns:List Int,xs=[.ref p]/\SqL K H p (ns.map V.int)/\Q (.int ns.sum) H) zfj:=by
 intro H ps vs A z Q r e k
 unfold zfj at e
 split at e
 ·split at e
  ·rename_i qs ns hi
   cases e
   have:=zaK hi
   subst this
   obtain ⟨v,rfl,rv⟩:=yX r
   obtain ⟨a,ys,B,e1,h1,_,g⟩:=rv.L
   have:=zcm g
   subst this
   exact ⟨a,ns,by rw [e1],SqL.of h1,k _ H [] [30] (.mkI _) .nil [12]⟩
  ·cases e
 ·cases e
end F
namespace L2
open PySem PySem.Spec PyProof.Rows
end L2
namespace F
open PySem PySem.Spec PyProof.Rows L2
noncomputable def zil:List PV->Option (List Bool)
 | []=>some []
 | .bl b::r=>(zil r).map fun bs=>b::bs
 | _=>none
@[simp] theorem zgf:∀ (bs:List Bool),zil (bs.map PV.bl)=some bs
 | []=>rfl
 | b::bs=>by rw [Jr,zil,zgf bs];rfl
noncomputable def zgQ(p:PV)(j:Nat)(q:PV):PV:=match p with | .lst ps=>.lst (ps.set j q) | .tup ps=>.tup (ps.set j q) | p=>p
noncomputable def kg:PV->Option (List PV) | .lst ps=>some ps | .tup ps=>some ps | _=>none
section
variable {X:Cx} {κ:Nat->Option Nat} {G:Hp} {c c2:Cat} {f fk fm:FE} {st:Stmt} {O:List Nat}
theorem VI.turnTu{K:PySem.W.Frag}{own:Addr->Option Nat}{env:En}{σ:St}{H:Hp}{i j:Nat}{ps qs:List PV}(hi:i ∈ O)(I:VI K (ko O) G own env σ H)(hl:zA i env=some (.tup ps))(hj:ps[j]?=some (.lst qs)):
  ∃ a xs b ys B,σ[i]?=some (some [67])/\SqT K H a xs/\xs[j]?=some (.ref b)/\xs.length=ps.length/\H b=some (.lst ys)/\Rps K H qs ys B/\b ∉ B/\B.Nodup/\∀ H1 qs' ys' C,Same H H1->Rps K H1 qs' ys' C->C.Nodup->b ∉ C->(∀ d ∈ C,d ∈ B∨H d=none)->
   ∃ own',VI K (ko O) G own' (env.set i (some (.tup (ps.set j (.lst qs'))))) σ [85]/\Ext own H own' [85]:=by
 obtain ⟨v,A,hσ,h2,_,h3⟩:=I.slot i _ (uV hl)
 obtain ⟨nd,hB⟩:=h3 i (zcO hi)
 obtain ⟨a,xs,rfl,ha,hr⟩:=h2.T
 obtain ⟨l1,l2,rfl,rfl⟩:=ka hj
 obtain ⟨v1,v2,A1,A2,rfl,rfl,r1,r2⟩:=hr.split
 obtain ⟨v,r',A3,A4,rfl,rfl,r3,r4⟩:=r2.inv
 obtain ⟨b,ys,B',rfl,hb,rfl,r5⟩:=r3.L
 have n1:=r1.length
 rw [Jz,Jz,JF] at nd
 simp only [List.mem_append,List.mem_cons] at nd hB
 obtain ⟨nd1,⟨⟨nbB,ndB⟩,nd4,d34⟩,d1⟩:=nd
 refine ⟨a,_,b,ys,B',hσ,ha,by rw [n1];simp,hr.length.symm,hb,r5,nbB,ndB,fun H1 qs' ys' C s1 rC ndC nbC hC=>?_⟩
 have mb:MutH H1 b:=.inl ⟨ys,s1 _ _ hb⟩
 have nb1:b ∉ A1:=fun z=>d1 b z b (.inl [76]) rfl
 have nb4:b ∉ A4:=fun z=>d34 b [76] b z rfl
 have nC:∀ d ∈ C,d ∉ A1/\d ∉ A4:=fun d hd=>by
  rcases hC d hd with z | z
  ·exact ⟨fun e=>d1 d e d (.inl (.inr z)) rfl,fun e=>d34 d (.inr z) d e rfl⟩
  ·refine ⟨fun e=>?_,fun e=>?_⟩
   ·obtain ⟨o,q⟩:=(Rps.mut _ r1 d e).some;rw [z] at q;cases q
   ·obtain ⟨o,q⟩:=(Rps.mut _ r4 d e).some;rw [z] at q;cases q
 have hob:own b=some i:=hB b (.inr (.inl [76]))
 have hA:(A1++((b::C)++A4)).Nodup:=by
  rw [Jz,Jz,JF]
  simp only [List.mem_append,List.mem_cons]
  refine ⟨nd1,⟨⟨nbC,ndC⟩,nd4,fun d hd d' hd' e=>?_⟩,fun d hd d' hd' e=>?_⟩
  ·subst e
   rcases hd with rfl | hd
   ·exact nb4 hd'
   ·exact (nC d hd).2 hd'
  ·subst e
   rcases hd' with (rfl | hd') | hd'
   ·exact nb1 hd
   ·exact (nC d hd').1 hd
   ·exact d1 d hd d (.inr hd') rfl
 have hown:∀ d ∈ A1++((b::C)++A4),own d=some i∨H d=none:=fun d hd=>by
  simp only [List.mem_append,List.mem_cons] at hd
  rcases hd with hd | (rfl | hd) | hd
  ·exact .inl (hB d (.inl hd))
  ·exact .inl hob
  ·rcases hC d hd with z | z
   ·exact .inl (hB d (.inr (.inl (.inr z))))
   ·exact .inr z
  ·exact .inl (hB d (.inr (.inr hd)))
 rw [zbg]
 have r:Rp K [85] (.tup (l1++.lst qs'::l2)) [67] (A1++((b::C)++A4)):=
  .mkT (mb.tup (Same.tup s1 ha)) [46]
 have:=I.take (H2:=upd H1 b (.lst ys')) (v:=.ref a) hi (fun m q w D _ _ z hD=>Rp.upd mb q (fun z'=>hD b z' hob) (Rp.same s1 q z)) (fun d u hd z=>by
  rw [zb (by rintro rfl;exact hd hob)];exact s1 d u z) r hA hown
 rw [jJ hσ] at this
 exact ⟨_,this⟩
theorem VI.inner{K:PySem.W.Frag}{own:Addr->Option Nat}{env:En}{σ:St}{H:Hp}{i j:Nat}{p:PV}{ps qs:List PV}(hi:i ∈ O)(I:VI K (ko O) G own env σ H)(hl:zA i env=some p)(hp:kg p=some ps)(hj:ps[j]?=some (.lst qs)):
  ∃ a xs b ys B,σ[i]?=some (some [67])/\(SqL K H a xs∨SqT K H a xs)/\xs[j]?=some (.ref b)/\xs.length=ps.length/\H b=some (.lst ys)/\Rps K H qs ys B/\b ∉ B/\B.Nodup/\∀ H1 qs' ys' C,Same H H1->Rps K H1 qs' ys' C->C.Nodup->b ∉ C->(∀ d ∈ C,d ∈ B∨H d=none)->
   ∃ own',VI K (ko O) G own' (env.set i (some (zgQ p j (.lst qs')))) σ [85]/\Ext own H own' [85]:=by
 cases p<;>first | (cases hp;done) | skip
 ·cases hp
  obtain ⟨a,xs,b,ys,B,h1,h2,h3⟩:=VI.turnTu hi I hl hj
  exact ⟨a,xs,b,ys,B,h1,.inr h2,h3⟩
 ·cases hp
  obtain ⟨a,xs,b,ys,B,h1,h2,h3⟩:=VI.turnIn hi I hl hj
  exact ⟨a,xs,b,ys,B,h1,.inl (SqL.of h2),h3⟩
noncomputable def zhV(i:Nat)(fk:FE)(m:En->List PV->Option (List PV)):FS:=fun env=>(zA i env).bind fun p=>(fk env).bind fun k=>(kg p).bind fun ps=>match k with
 | .int z=>(ixN ps.length z).bind fun j=>match ps[j]? with
  | some (.lst qs)=>(m env qs).map fun qs'=>.nx (env.set i (some (zgQ p j (.lst qs'))))
  | _=>none
 | _=>none
theorem zfO{i:Nat}{m:En->List PV->Option (List PV)}{env:En}{o:Out}(hf:zhV i fk m env=some o):
  ∃ p ps z j qs qs',zA i env=some p/\fk env=some (.int z)/\kg p=some ps/\ixN ps.length z=some j/\ps[j]?=some (.lst qs)/\m env qs=some qs'/\o=.nx (env.set i (some (zgQ p j (.lst qs')))):=by
 unfold zhV at hf
 replace hf:=Ja.mp hf;obtain ⟨p,hl,hf⟩:=hf
 replace hf:=Ja.mp hf;obtain ⟨kk,hk,hf⟩:=hf
 replace hf:=Ja.mp hf;obtain ⟨ps,hp,hf⟩:=hf
 split at hf
 case h_2=>cases hf
 rename_i z
 replace hf:=Ja.mp hf;obtain ⟨j,hj,hf⟩:=hf
 split at hf
 case h_2=>cases hf
 rename_i qs hqs
 cases hm:m env qs with
 | none=>rw [hm] at hf;cases hf
 | some qs'=>
  rw [hm] at hf;cases hf
  exact ⟨p,ps,z,j,qs,qs',hl,hk,hp,hj,hqs,hm,rfl⟩
theorem zkT{K:PySem.W.Frag}{H:Hp}{a b:Addr}{xs:List V}{z:Int}{j n:Nat}{Q:VK}(hx:SqL K H a xs∨SqT K H a xs)(hn:xs.length=n)(hj:ixN n z=some j)(hb:xs[j]?=some (.ref b))(q:Q (.ref b) H):rIx K [67] (.int z) H Q:=by
 have:L2.atI xs z=some (.ref b):=by unfold L2.atI;rw [hn,hj];exact hb
 rcases hx with hx | hx
 ·exact .inl ⟨a,xs,z,_,rfl,rfl,hx,this,q⟩
 ·exact .inr (.inl ⟨a,xs,z,_,rfl,rfl,hx,this,q⟩)
theorem ziL{K:PySem.W.Frag}{H H1:Hp}{a:Addr}{xs:List V}(s:Same H H1)(hx:SqL K H a xs∨SqT K H a xs):SqL K H1 a xs∨SqT K H1 a xs:=hx.imp (Same.seq s) (Same.tup s)
noncomputable def kf(f:FE):En->List PV->Option (List PV):=fun env qs=>(f env).bind fun q=>if qs.length<100000 then some (qs++[q]) else none
theorem zbY(i:Nat)(hi:i ∈ O)(hp:PS X st (zav (tBM X.K "list" kZ (tOp (rIx X.K) (uY i) (tV X.K (ko O) G c fk)) (zaw (tV X.K (ko O) G [33] f) zfn)))):VS X (ko O) G st (zhV i fk (kf f)):=hp.imp fun D σ H hq_=>by
 refine hq_.elim fun own env o I hf k=>?_
 obtain ⟨p,ps,z,j,qs,qs',hl,hk,hit,hj,hqs,hm,rfl⟩:=zfO hf
 unfold kf at hm
 replace hm:=Ja.mp hm;obtain ⟨q,hq,hm⟩:=hm
 split at hm
 case isFalse=>cases hm
 rename_i hlen
 cases hm
 obtain ⟨a,xs,b,ys,B,hσ,ha,hx,hxl,hb,hr,nb,ndB,turn⟩:=VI.inner hi I hl hit hqs
 refine ⟨.ref a,hσ,.in I hk fun y H1 _ s1 r1 _=>?_⟩
 rw [r1.I.1]
 refine zkT (ziL s1 ha) hxl hj hx ⟨.inl ⟨rfl,ys,SqL.of (s1 _ _ hb)⟩,.in (I.grow s1) hq fun v H2 C s2 r2 c2=>?_⟩
 have s12:=s1.trans s2
 refine ⟨b,ys,v,rfl,rfl,s12 _ _ hb,by rw [← hr.length,sizeLine_eq];omega,?_⟩
 have fr:∀ d ∈ C,H1 d=none:=fun d hd=>(c2.2 d hd).elim id fun ⟨_,z,_⟩=>nomatch z
 have fr0:∀ d ∈ C,H d=none:=fun d hd=>s1.free (fr d hd)
 obtain ⟨own',h1,h2⟩:=turn H2 (qs++[q]) (ys++[v]) (B++C) s12 ((Rps.same s12 _ hr).append (Rps.one r2)) (Jz.mpr ⟨ndB,c2.1,fun d hd d' hd' e=>by
   subst e
   obtain ⟨o,ho⟩:=(Rps.mut _ hr d hd).some
   rw [fr0 d hd'] at ho;cases ho⟩)
  (fun z=>by
   rcases List.mem_append.mp z with z | z
   ·exact nb z
   ·have:=fr0 b z
    rw [hb] at this;cases this)
  (fun d hd=>(JQ.mp hd).imp id (fr0 d))
 exact k _ _ _ h1 h2
end
end F
namespace L2
open PySem PySem.Spec PyProof.Rows
noncomputable def Ite (K : PySem.W.Frag) (a : Addr) : It :=
  ⟨fun i H => ∃ xs x, SqL K H a xs ∧ xs[i]? = some x,
   fun i H v H' => ∃ T x, H T = none ∧ v = .ref T ∧ H' = upd H T (.tup [.int (i : Int), x]) ∧ ∀ xs, SqL K H a xs → xs[i]? = some x,
   fun i H => ∃ xs, SqL K H a xs ∧ xs.length ≤ i⟩
theorem zfl{P:Program}{w:World}{K:PySem.W.Frag}{es:List Expr}{k:Nat}{pos:Pos}(a e it:Addr)(hei:e≠it):
  Turn P w K (.Tuple es k pos) (Ite K a) [e,it] e (fun i h=>(∃ old,IsEnum h e it (i:Nat) old)/\h.IsListIter it a i) where
 mem:=by simp
 obj:=by
  rintro i h ⟨⟨old,ge⟩,gi⟩ b hb
  simp only [List.mem_cons,List.not_mem_nil,or_false] at hb
  rcases hb with rfl | rfl
  ·exact ⟨_,ge,fun v z=>nomatch z⟩
  ·obtain ⟨o,ho,_,d⟩:=gi
   exact ⟨o,ho,fun v z=>by rw [d] at z;cases z⟩
 keep:=by
  rintro i h h' ⟨⟨old,ge⟩,gi⟩ kk
  obtain ⟨o,ho,r⟩:=gi
  exact ⟨⟨old,kk e [12] _ ge⟩,⟨o,kk it [12] o ho,r⟩⟩
 item:=by
  rintro X hP hw hK hc i pins s σ H E I hf ⟨⟨old,ge⟩,gi⟩ ⟨xs,x,hx,ex⟩
  subst hP hw hK
  obtain ⟨its,r1,c1,_⟩:=I.list hx
  obtain ⟨u,hu,ru⟩:=r1.get ex
  have hsq:Sq X.K H true a xs:=hx
  have ne1:a≠e:=hsq.ne I (hf e [12])
  have ne2:a≠it:=hsq.ne I (hf it [12])
  refine wpAny_pyNext_enum_item ge gi c1.isList (x:=u) (by simpa using hu) hei fun h' ho hit' hT hsz hk=>⟨_,rfl,?_⟩
  refine wpAny_letOwnedTupleGo_enum ho fun h₂ he₂ s₂=>?_
  have hH:H s.heap.objs.size=none:=I.hok.fresh (Jn _)
  have nz:s.heap.objs.size≠e:=Kj (Ji ge)
  have kk:∀ b o,b ∉ [e,it]->s.heap.get? b=some o->h₂.get? b=some o:=fun b o hb q=>by
   simp only [List.mem_cons,List.not_mem_nil,or_false,not_or] at hb
   exact (s₂.2 b hb.1).trans (hk b o hb.1 hb.2 q)
  have T2:h₂.get? s.heap.objs.size=some { cls:=.type "tuple",data:=.seq #[.int (i:Nat) s.toks,u] }:=(s₂.2 _ nz).trans hT
  have I2:=I.turnedLaid (t':=s.toks+1) (h':=h₂) (o':=.tup [.int (i:Int),x]) kk hf (Nat.le_refl _) ⟨by simp [sizeLine],[.int (i:Nat) s.toks,u],.cons ⟨_,rfl⟩ (.cons ru .nil),⟨_,T2,rfl,_,rfl⟩⟩
  refine ⟨.ref s.heap.objs.size,_,I2,rfl,⟨_,x,hH,rfl,rfl,fun xs' h1=>?_⟩,⟨⟨u,by simpa using he₂⟩,hit'.at fun o q=>(s₂.2 it hei.symm).trans q⟩,fun b hb=>?_⟩
  ·rw [I.list_inj h1 hx];exact ex
  ·rw [zb (fun n=>?_)]
   ·exact (hf b hb).1
   ·have:b<s.heap.objs.size:=by
     simp only [List.mem_cons,List.not_mem_nil,or_false] at hb
     rcases hb with rfl | rfl
     ·exact Ji ge
     ·obtain ⟨o,q,_⟩:=gi;exact Ji q
    exact absurd n (Jw this)
 done:=by
  rintro X hP hw hK hc i pins s σ H E I hf ⟨⟨old,ge⟩,gi⟩ ⟨xs,hx,hl⟩
  subst hP hw hK
  obtain ⟨its,r1,c1,_⟩:=I.list hx
  have l1:=r1.length
  refine wpAny_pyNext_enum_end (I.ok.hd hc) ge gi c1.isList (by simpa [← l1] using hl) fun h' hk=>⟨rfl,I.turnedL (t':=s.toks) (L:=[e,it]) (fun b o hb q=>hk b o (fun n=>hb (by simp [n])) q) hf⟩
 self:=fun _ _ _ _ _ st h=>let ⟨⟨_,ge⟩,_⟩:=st;wpAny_pyIter_enum ge h
noncomputable def zkt(K:PySem.W.Frag)(ta:TA):TI:=fun σ H R=>ta σ H fun vs H1=>∃ a,vs=[.ref a]/\(∃ xs,SqL K H1 a xs)/\R (Ite K a) H1
theorem zjh{X:Cx}{es:List Expr}{k:Nat}{tpos:Pos}{a:Expr}{ta:TA}{p pos:Pos}(hg:Gl X "enumerate")(hm:X.mg "enumerate"=none)(ha:PA X [a] ta)(hs:starEach [a] X.env=[(false,eval a X.env)]:=by rfl):
  PI X (.Tuple es k tpos) (.Call (.Name "enumerate" p) [a] [] pos) (zkt X.K ta):=by
 intro pins s σ H R I h
 refine Call_ (vd I hg hm boot_enumerate (Kr [75] hs rfl))
 obtain ⟨a1,e,⟨xs,hx⟩,q⟩:=q1
 subst e
 cases r1 with
 | cons r rr=>
  cases rr
  cases r
  obtain ⟨its1,v1,c1,_⟩:=I1.list hx
  refine call_enumerate_list c1.isList fun h' ge gi hsz kk=>?_
  refine wpAny_pyIter_enum ge ?_
  refine ⟨s1.heap.objs.size+1,[s1.heap.objs.size+1,s1.heap.objs.size],_,_,H1,rfl,I1.kept (t':=s1.toks) kk,zfl a1 _ _ (by show ¬ s1.heap.objs.size+1=s1.heap.objs.size;omega),⟨⟨_,ge⟩,gi⟩,fun c hc=>?_,q⟩
  have hc':s1.heap.objs.size≤c:=by
   simp only [List.mem_cons,List.not_mem_nil,or_false] at hc
   rcases hc with rfl | rfl<;>omega
  exact I1.fpOk hc' (I1.hok.fresh hc')
end L2
namespace F
open PySem PySem.Spec PyProof.Rows L2
noncomputable def zme:PV->Option (List PV) | .lst ps=>some ps | .fls ps=>some ps | _=>none
noncomputable def vy(ps:List PV):List PV:=ps.zipIdx.map fun z=>PV.tup [.int (z.2:Int),z.1]
theorem zhv{K:PySem.W.Frag}{own:Addr->Option Nat}{H1:Hp}{p:PV}{v:V}{A:List Addr}{ps:List PV}(lp:Bool)(hm:∀ a l,own a=some l->MutH H1 a)(r:Rp K H1 p v A)(hA:∀ a ∈ A,own a=none)(hs:zme p=some ps):
  ∃ a xs B,v=.ref a/\Rps K H1 ps xs B/\(∀ a ∈ B,own a=none/\∃ o,H1 a=some o)/\∀ H2,(if lp=true then Stay own H1 H2 else Same H1 H2)->SqL K H2 a xs/\Rps K H2 ps xs B:=by
 cases p<;>first | (cases hs;done) | skip
 ·cases hs
  obtain ⟨a,xs,B,h1,h2,rfl,h3⟩:=r.L
  refine ⟨a,xs,B,h1,h3,fun b hb=>⟨hA b (Jf _ hb),(Rps.mut _ h3 b hb).some⟩,fun H2 hR=>?_⟩
  cases lp with
  | true=>exact ⟨SqL.of (hR _ _ (hA a Jg) h2),Rps.stay hR hm _ (fun b hb=>hA b (Jf _ hb)) h3⟩
  | false=>exact ⟨SqL.of (hR _ _ h2),Rps.same hR _ h3⟩
 ·cases hs
  obtain ⟨a,xs,h1,h2,h3⟩:=r.Fl
  refine ⟨a,xs,A,h1,h3,fun b hb=>⟨hA b hb,(Rps.mut _ h3 b hb).some⟩,fun H2 hR=>?_⟩
  cases lp with
  | true=>exact ⟨(Stay.fz hR hm h2).seq,Rps.stay hR hm _ hA h3⟩
  | false=>exact ⟨(h2.same hR).seq,Rps.same hR _ h3⟩
theorem ziy{K:PySem.W.Frag}{own:Addr->Option Nat}{H1:Hp}{R:Hp->Prop}{a1:Addr}{ps:List PV}{xs:List V}{A:List Addr}
  (hA:∀ a ∈ A,own a=none/\∃ o,H1 a=some o)(h1:∀ H2,R H2->SqL K H2 a1 xs/\Rps K H2 ps xs A):Walks K own H1 R (Ite K a1) (vy ps):=by
 intro i H2 hR
 obtain ⟨q1,r1⟩:=h1 H2 hR
 refine ⟨fun p hp=>?_,fun hi=>⟨xs,q1,by rw [← r1.length];simpa [vy] using hi⟩⟩
 unfold vy at hp
 rw [JK] at hp
 obtain ⟨z,hz,hp⟩:=JM.mp hp
 subst hp
 rw [List.getElem?_zipIdx] at hz
 obtain ⟨p,z1,rfl⟩:=JM.mp hz
 obtain ⟨u,C,e1,e2,e3⟩:=r1.get z1
 refine ⟨⟨xs,u,q1,e1⟩,fun x H3 ⟨T,x',hT,ex,eH,hy⟩=>?_⟩
 have g1:=hy xs q1
 rw [e1] at g1;cases g1
 have sm:Same H2 H3:=by rw [eH];exact yF [30] hT
 refine ⟨sm,C,?_,fun a ha=>hA a (e3.subset ha)⟩
 rw [ex]
 refine .mkT (.inl (.inl (by rw [eH,zV]))) ?_
 have:=Rps.cons (K:=K) (H:=H3) (.mkI (((0+i:Nat)):Int)) (Rps.one (Rp.same sm _ e2))
 simpa using this
end F
namespace L2
open PySem PySem.Spec PyProof.Rows
end L2
namespace F
open PySem PySem.Spec PyProof.Rows L2
theorem ku{K:PySem.W.Frag}{H:Hp}:∀ {ks:List Key} {ps:List PV} {xs:List V} {A:List Addr} {k:Key},Rps K H ps xs A->ks.length=ps.length->vp ks ps k=none->xj (ks.zip xs) k=none
 | [],_,_,_,_,_,_,_=>by simp [xj]
 | k'::ks,[],_,_,_,_,hl,_=>by simp at hl
 | k'::ks,q::ps,_,_,k,r,hl,h=>by
  obtain ⟨w,r',A1,A2,rfl,rfl,h3,h4⟩:=r.inv
  unfold vp at h
  rw [Ks,Qe] at h
  by_cases hk:k'=k
  ·subst hk
   simp at h
  ·have:decide (k'=k)=false:=decide_eq_false hk
   rw [show decide ((k',q).1=k)=false from this] at h
   have g1:=ku (ks:=ks) (k:=k) h4 (by simpa using hl) h
   rw [Ks]
   unfold xj at g1 ⊢
   rw [Qe,show decide ((k',w).1=k)=false from this]
   exact g1
noncomputable def xx:PV->Option Key | .int i=>some (.inl i) | .str x=>some (.inr x) | _=>none
theorem jU{K:PySem.W.Frag}{H:Hp}{p:PV}{v:V}{A:List Addr}{k:Key}(h:xx p=some k)(r:Rp K H p v A):v=kV k:=by
 cases p<;>first | (cases h;done) | skip
 ·cases h;exact r.I.1
 ·cases h;exact r.S.1
noncomputable def ziE(d k x:PV):Option PV:=match d with
 | .dct ks ps=>if (isDatas ps && zj x)=true then (xx k).map fun key=>(vp ks ps key).getD x else none
 | _=>none
noncomputable def zjT(fd fk fx:FE):FE:=fun env=>(fd env).bind fun d=>(fk env).bind fun k=>(fx env).bind fun x=>ziE d k x
theorem zlC{K:PySem.W.Frag}{H:Hp}{ks:List Key}{ps:List PV}{xs:List V}{a:Addr}{key:Key}{x:PV}{w:V}(hl:ks.length=ps.length)(hd:isDatas ps=true)(ha:H a=some (.dK (ks.zip xs)))(r:Rps K H ps xs [])(rx:Rp K H x w []):
  ∃ o,DGet H a (kV key) o/\Rp K H ((vp ks ps key).getD x) (o.getD w) []:=by
 refine ⟨_,DGet.k ha,?_⟩
 cases hg:vp ks ps key with
 | none=>rw [ku r hl hg];exact rx
 | some p=>
  obtain ⟨v,C,h1,h2,h3⟩:=jD r hg
  have:=List.sublist_nil.mp h3
  subst this
  rw [h1]
  exact h2
section
variable {X:Cx} {κ:Nat->Option Nat} {G:Hp} {c c1 c2:Cat} {o e f:Expr} {fd fk fx:FE} {apos cpos:Pos}
theorem zes(hu:X.A.units+1<cLine)(ho:VE X κ G c o fd)(he:VE X κ G c1 e fk)(hf:VE X κ G c2 f fx)(m:M2 X o "get" apos e f cpos):VE X κ G [33] (.Call (.Attribute o "get" apos) [e,f] [] cpos) (zjT fd fk fx):=
 (zct hu ho he hf m).imp fun σ H Q hq_=>by
 refine hq_.elim fun own env z I h k=>?_
 unfold zjT at h
 replace h:=Ja.mp h;obtain ⟨d,hd,h⟩:=h
 replace h:=Ja.mp h;obtain ⟨kk,hk,h⟩:=h
 replace h:=Ja.mp h;obtain ⟨x,hx,h⟩:=h
 unfold ziE at h
 split at h
 ·rename_i ks ps
  split at h
  ·rename_i hdat
   rw [JO] at hdat
   cases hkey:xx kk with
   | none=>rw [hkey] at h;cases h
   | some key=>
    rw [hkey] at h;cases h
    refine (.in I hd fun v H1 A s1 r1 _=>?_)
    obtain ⟨a,ys,B,e1,h1,hl,_,g⟩:=r1.D
    have:=Rps.data _ hdat.1 g
    subst this
    refine ⟨a,e1,.inl ⟨_,.inl h1⟩,.in (I.grow s1) hk fun y H2 _ s2 r2 _=>(.in ((I.grow s1).grow s2) hx fun w H3 A3 s3 r3 _=>?_)⟩
    have eA:=Rp.data x hdat.2 r3
    subst eA
    have s23:=s2.trans s3
    obtain ⟨ov,q1,q2⟩:=zlC (key:=key) hl hdat.1 (s23 _ _ h1) (Rps.same s23 _ g) r3
    rw [jU hkey r2]
    exact ⟨ov,q1,k _ H3 [] (s1.trans s23) q2 ⟨.nil,by simp⟩⟩
  ·cases h
 ·cases h
end
end F
namespace L2
open PySem PySem.Spec PyProof.Rows
noncomputable abbrev itT(h:Heap)(l:Addr):Heap:=h.push { cls:=.type "tuple_iterator",data:=.fields #[.ref l,.int 0 0] }
noncomputable abbrev enT(h:Heap)(l:Addr):Heap:=(itT h l).push { cls:=.type "enumerate",data:=.fields #[.none,.bool false,.ref h.objs.size,rawInt 0,.none,.none] }
theorem zdJ(l:Addr)(zs:Array Value)(m:Nat)(dd:Option Addr)(ss:Array (Option Value)):
  Meets (Builtin.«enumerate.__new__» ⟨[.type "enumerate",.ref l],[]⟩) (fun _ R s=>s.heap.get? l=some { cls:=.type "tuple",dict:=dd,data:=.seq zs m,slots:=ss }/\R (.ok (.ret (.ref (itT s.heap l).objs.size))) { s with heap:=enT s.heap l }):=
 .of_wp fun P w A R s hz=>by
  obtain ⟨hp,gg,dr,tk,os⟩:=s
  obtain ⟨hl,hz⟩:=hz
  have sub:=sub_enumerate
  have hT:Heap.IsTuple (Shared.heap ⟨hp,gg,dr,tk,os⟩) l zs:=⟨_,hl,rfl,m,rfl⟩
  wp_walk using Qn hl
  refine wpAny_stack_any fun st=>wpAny_pure ?_
  split
  ·rename_i c _ _ _ _ _
   cases (c == Value.type "enumerate")<;>(wp_walk using AutoSeq1.wpAny_loadPart' hl,wpAny_pyIter_tuple hT;exact ⟨_,rfl,hz⟩)
  ·wp_walk using Qn hl,wpAny_pyIter_tuple hT
   exact ⟨_,rfl,hz⟩
theorem zef{prog:Program}{w:World}{A:Around}{E:Value->Shared->Prop}{s:Shared}{l:Addr}{zs:Array Value}{Q:Value->Shared->Prop}(hT:s.heap.IsTuple l zs)
  (k:∀ h',IsEnum h' [59] s.heap.objs.size 0 .none->h'.IsTupleIter s.heap.objs.size l 0->(∀ b o,s.heap.get? b=some o->h'.get? b=some o)->Q (.ref [59]) { s with heap:=h' }):
  wpAny [11] A (call (.type "enumerate") [.ref l]) Q E s:=by
 obtain ⟨⟨c,dd,dt,ss⟩,hl,hc,m,hd⟩:=hT
 replace hc:c=.type "tuple":=hc
 replace hd:dt=.seq zs m:=hd
 subst hc hd
 refine callType_new F.called_enumerate [9] (F.typeCall_enumerate_1 _) (F.newCall_enumerate_1 _) (fun o=>F.args_object_init_2 o _) F.entry_enumerate_new (zdJ l zs m dd ss) ⟨hl,?_⟩
 have z1:(itT s.heap l).objs.size=s.heap.objs.size+1:=KD ..
 show _/\_
 rw [z1]
 have he:IsEnum (enT s.heap l) [59] s.heap.objs.size 0 .none:=by
  have e:=Jl (itT s.heap l) (o:={ cls:=.type "enumerate",data:=.fields #[.none,.bool false,.ref s.heap.objs.size,rawInt 0,.none,.none] }) rfl
  rw [z1] at e;exact e
 exact ⟨⟨_,he,rfl⟩,k _ he ⟨_,Jb _ (Jl _ rfl),rfl,rfl⟩ fun b o x=>Jb _ (Jb _ x)⟩
theorem zfR{P:Program}{w:World}{A:Around}{it c:Addr}{its:Array Value}(hh:A.handled=none)(hne:c≠it):
  Draws P w A it [it,c] its.size (fun i x=>its[i]?=some x) (fun i h=>h.IsTupleIter it c i/\h.IsTuple c its) where
 live:=fun i h ⟨⟨o,e,_⟩,_⟩=>⟨o,e⟩
 frame:=fun i h h' ⟨⟨o,e,r⟩,⟨o',e',r'⟩⟩ k=>⟨⟨o,k it [12] o e,r⟩,⟨o',k c [12] o' e',r'⟩⟩
 item:=fun i s Q E hi ⟨gi,gt⟩ k=>qW gi gt (x:=its[i]) (Ky hi) fun h' gi' sb=>k _ h' s.toks (Ky hi) ⟨gi',let ⟨o,e,r⟩:=gt;⟨o,(sb.2 c hne).trans e,r⟩⟩ sb
 done:=fun s Q E ⟨gi,gt⟩ k=>wQ hh gi gt [12] k
theorem zfS{P:Program}{w:World}{A:Around}{it c:Addr}{its:Array Value}{n:Nat}(hh:A.handled=none)(hx:its[n]?=none):
  Draws P w A it [it,c] n (fun _ _=>False) (fun i h=>i=n/\h.IsTupleIter it c i/\h.IsTuple c its) where
 live:=fun i h ⟨_,⟨o,e,_⟩,_⟩=>⟨o,e⟩
 frame:=fun i h h' ⟨q,⟨o,e,r⟩,⟨o',e',r'⟩⟩ k=>⟨q,⟨o,k it [12] o e,r⟩,⟨o',k c [12] o' e',r'⟩⟩
 item:=fun i s Q E hi ⟨q,_⟩ k=>absurd hi [8]
 done:=fun s Q E ⟨_,gi,gt⟩ k=>wQ hh gi gt hx k
noncomputable def zlQ (K : PySem.W.Frag) (a : Addr) : It :=
  ⟨fun i H => ∃ xs x, SqT K H a xs ∧ xs[i]? = some x,
   fun i H v H' => ∃ T x, H T = none ∧ v = .ref T ∧ H' = upd H T (.tup [.int (i : Int), x]) ∧ ∀ xs, SqT K H a xs → xs[i]? = some x,
   fun i H => ∃ xs, SqT K H a xs ∧ xs.length ≤ i⟩
theorem zdp{P:Program}{w:World}{K:PySem.W.Frag}{es:List Expr}{k:Nat}{pos:Pos}(a e it:Addr)(hei:e≠it):
  Turn P w K (.Tuple es k pos) (zlQ K a) [e,it] e (fun i h=>(∃ old,IsEnum h e it (i:Nat) old)/\h.IsTupleIter it a i) where
 mem:=by simp
 obj:=by
  rintro i h ⟨⟨old,ge⟩,gi⟩ b hb
  simp only [List.mem_cons,List.not_mem_nil,or_false] at hb
  rcases hb with rfl | rfl
  ·exact ⟨_,ge,fun v z=>nomatch z⟩
  ·obtain ⟨o,ho,_,d⟩:=gi
   exact ⟨o,ho,fun v z=>by rw [d] at z;cases z⟩
 keep:=by
  rintro i h h' ⟨⟨old,ge⟩,gi⟩ kk
  obtain ⟨o,ho,r⟩:=gi
  exact ⟨⟨old,kk e [12] _ ge⟩,⟨o,kk it [12] o ho,r⟩⟩
 item:=by
  rintro X hP hw hK hc i pins s σ H E I hf ⟨⟨old,ge⟩,gi⟩ ⟨xs,x,hx,ex⟩
  subst hP hw hK
  have hsq:Sq X.K H false a xs:=hx
  obtain ⟨its,r1,c1⟩:=hsq.at I
  replace c1:s.heap.IsTuple a its.toArray:=c1
  obtain ⟨u,hu,ru⟩:=r1.get ex
  have ne1:a≠e:=hsq.ne I (hf e [12])
  have ne2:a≠it:=hsq.ne I (hf it [12])
  have hil:i<its.toArray.size:=by
   have:=(Jp.mp hu).1
   simpa using this
  refine wpAny_pyNext_enum_itemD (zfR (I.ok.hd hc) ne2) ge ⟨gi,c1⟩ hil hei (by simp [hei,ne1.symm]) fun x' h' tk hx' ho hit' hT hsz hk=>⟨_,rfl,?_⟩
  have exu:x'=u:=by
   have h1:its[i]?=some x':=by simpa using hx'
   rw [hu] at h1;exact (Jq h1).symm
  subst exu
  refine wpAny_letOwnedTupleGo_enum ho fun h₂ he₂ s₂=>?_
  have hH:H s.heap.objs.size=none:=I.hok.fresh (Jn _)
  have nz:s.heap.objs.size≠e:=Kj (Ji ge)
  have kk:∀ b o,b ∉ [e,it]->s.heap.get? b=some o->h₂.get? b=some o:=fun b o hb q=>by
   simp only [List.mem_cons,List.not_mem_nil,or_false,not_or] at hb
   exact (s₂.2 b hb.1).trans (hk b o hb.1 hb.2 q)
  have T2:h₂.get? s.heap.objs.size=some { cls:=.type "tuple",data:=.seq #[.int (i:Nat) tk,x'] }:=(s₂.2 _ nz).trans hT
  have I2:=I.turnedLaid (t':=tk+1) (h':=h₂) (o':=.tup [.int (i:Int),x]) kk hf (Nat.le_refl _) ⟨by simp [sizeLine],[.int (i:Nat) tk,x'],.cons ⟨_,rfl⟩ (.cons ru .nil),⟨_,T2,rfl,_,rfl⟩⟩
  refine ⟨.ref s.heap.objs.size,_,I2,rfl,⟨_,x,hH,rfl,rfl,fun xs' h1=>?_⟩,⟨⟨x',by simpa using he₂⟩,?_⟩,fun b hb=>?_⟩
  ·have h1':Sq X.K H false a xs':=h1
   rw [h1'.inj I hsq];exact ex
  ·obtain ⟨o,q,r⟩:=hit'.1
   exact ⟨o,(s₂.2 it hei.symm).trans q,r⟩
  ·rw [zb (fun n=>?_)]
   ·exact (hf b hb).1
   ·have:b<s.heap.objs.size:=by
     simp only [List.mem_cons,List.not_mem_nil,or_false] at hb
     rcases hb with rfl | rfl
     ·exact Ji ge
     ·obtain ⟨o,q,_⟩:=gi;exact Ji q
    exact absurd n (Jw this)
 done:=by
  rintro X hP hw hK hc i pins s σ H E I hf ⟨⟨old,ge⟩,gi⟩ ⟨xs,hx,hl⟩
  subst hP hw hK
  have hsq:Sq X.K H false a xs:=hx
  obtain ⟨its,r1,c1⟩:=hsq.at I
  replace c1:s.heap.IsTuple a its.toArray:=c1
  have l1:=r1.length
  have ne2:a≠it:=hsq.ne I (hf it [12])
  have nx:its.toArray[i]?=none:=by simpa [← l1] using hl
  refine wpAny_pyNext_enum_endD (zfS (c:=a) (I.ok.hd hc) nx) ge ⟨rfl,gi,c1⟩ fun h' hk=>⟨rfl,I.turnedL (t':=s.toks) (L:=[e,it]) (fun b o hb q=>hk b o (fun n=>hb (by simp [n])) q) hf⟩
 self:=fun _ _ _ _ _ st h=>let ⟨⟨_,ge⟩,_⟩:=st;wpAny_pyIter_enum ge h
noncomputable def zlB(K:PySem.W.Frag)(ta:TA):TI:=fun σ H R=>ta σ H fun vs H1=>∃ a,vs=[.ref a]/\(∃ xs,SqT K H1 a xs)/\R (zlQ K a) H1
theorem zgZ{X:Cx}{es:List Expr}{k:Nat}{tpos:Pos}{a:Expr}{ta:TA}{p pos:Pos}(hg:Gl X "enumerate")(hm:X.mg "enumerate"=none)(ha:PA X [a] ta)(hs:starEach [a] X.env=[(false,eval a X.env)]:=by rfl):
  PI X (.Tuple es k tpos) (.Call (.Name "enumerate" p) [a] [] pos) (zlB X.K ta):=by
 intro pins s σ H R I h
 refine Call_ (vd I hg hm boot_enumerate (Kr [75] hs rfl))
 obtain ⟨a1,e,⟨xs,hx⟩,q⟩:=q1
 subst e
 cases r1 with
 | cons r rr=>
  cases rr
  cases r
  have hsq:Sq X.K H1 false a1 xs:=hx
  obtain ⟨its1,v1,c1⟩:=hsq.at I1
  refine zef (zs:=its1.toArray) c1 fun h' ge gi kk=>?_
  refine wpAny_pyIter_enum ge ?_
  refine ⟨s1.heap.objs.size+1,[s1.heap.objs.size+1,s1.heap.objs.size],_,_,H1,rfl,I1.kept (t':=s1.toks) kk,zdp a1 _ _ (by show ¬ s1.heap.objs.size+1=s1.heap.objs.size;omega),⟨⟨_,ge⟩,gi⟩,fun c hc=>?_,q⟩
  have hc':s1.heap.objs.size≤c:=by
   simp only [List.mem_cons,List.not_mem_nil,or_false] at hc
   rcases hc with rfl | rfl<;>omega
  exact I1.fpOk hc' (I1.hok.fresh hc')
end L2
namespace F
open PySem PySem.Spec PyProof.Rows L2
noncomputable def vk(f:FA):FA:=fun env=>(f env).bind fun ps=>match ps with | [p]=>(xk p).map vy | _=>none
theorem zgl{K:PySem.W.Frag}{own:Addr->Option Nat}{H1:Hp}{R:Hp->Prop}{a1:Addr}{ps:List PV}{xs:List V}{A:List Addr}
  (hA:∀ a ∈ A,own a=none/\∃ o,H1 a=some o)(h1:∀ H2,R H2->SqT K H2 a1 xs/\Rps K H2 ps xs A):Walks K own H1 R (zlQ K a1) (vy ps):=by
 intro i H2 hR
 obtain ⟨q1,r1⟩:=h1 H2 hR
 refine ⟨fun p hp=>?_,fun hi=>⟨xs,q1,by rw [← r1.length];simpa [vy] using hi⟩⟩
 unfold vy at hp
 rw [JK] at hp
 obtain ⟨z,hz,hp⟩:=JM.mp hp
 subst hp
 rw [List.getElem?_zipIdx] at hz
 obtain ⟨p,z1,rfl⟩:=JM.mp hz
 obtain ⟨u,C,e1,e2,e3⟩:=r1.get z1
 refine ⟨⟨xs,u,q1,e1⟩,fun x H3 ⟨T,x',hT,ex,eH,hy⟩=>?_⟩
 have g1:=hy xs q1
 rw [e1] at g1;cases g1
 have sm:Same H2 H3:=by rw [eH];exact yF [30] hT
 refine ⟨sm,C,?_,fun a ha=>hA a (e3.subset ha)⟩
 rw [ex]
 refine .mkT (.inl (.inl (by rw [eH,zV]))) ?_
 have:=Rps.cons (K:=K) (H:=H3) (.mkI (((0+i:Nat)):Int)) (Rps.one (Rp.same sm _ e2))
 simpa using this
theorem zbZ{X:Cx}{κ:Nat->Option Nat}{G:Hp}{fs:FA}{a:Expr}{es:List Expr}{k:Nat}{tpos p pos:Pos}(lp:Bool)(hg:Gl X "enumerate")(hm:X.mg "enumerate"=none)(ha:VA X κ G .sh [a] fs)(hs:starEach [a] X.env=[(false,eval a X.env)]:=by rfl):
  VIt X κ G lp (.Tuple es k tpos) (.Call (.Name "enumerate" p) [a] [] pos) (vk fs):=(zkn (zjh hg hm ha.1 hs) (zgZ hg hm ha.1 hs)).imp fun σ H R hq_=>by
 refine hq_.elim fun own env ps I hf k=>?_
 unfold vk at hf
 replace hf:=Ja.mp hf;obtain ⟨qs,hp,hf⟩:=hf
 split at hf
 case h_2=>cases hf
 rename_i p
 have rf:∀ (lp:Bool) (H1:Hp),(if lp=true then Stay own H1 H1 else Same H1 H1):=fun lp H1=>by
  cases lp with
  | true=>exact fun _ _ _ h=>h
  | false=>exact Same.refl _
 have lst:∀ xs,zme p=some xs->ps=vy xs->zkt X.K (tVA X.K κ G .sh fs) σ H R:=fun xs e1 e2=>by
  refine (.in I hp fun vs H1 A s r hc=>?_)
  obtain ⟨v,rfl,rv⟩:=yX r
  have hm:∀ a l,own a=some l->MutH H1 a:=fun a l e=>((I.grow s).own a l e).2
  obtain ⟨a1,vs1,B1,w1,w2,w3,w4⟩:=zhv lp hm rv hc e1
  exact ⟨a1,by rw [w1],⟨vs1,(w4 H1 (rf lp H1)).1⟩,k _ H1 s (by rw [e2];exact ziy w3 w4)⟩
 cases p<;>first | cases hf | skip
 ·refine .inr (.in I hp fun vs H1 A s r hc=>?_)
  obtain ⟨v,rfl,rv⟩:=yX r
  have hm:∀ a l,own a=some l->MutH H1 a:=fun a l e=>((I.grow s).own a l e).2
  obtain ⟨a,xs,h1,h2,h3⟩:=rv.T
  refine ⟨a,by rw [h1],⟨xs,h2⟩,k _ H1 s (zgl (xs:=xs) (A:=A) (fun b hb=>⟨hc b hb,(Rps.mut _ h3 b hb).some⟩) fun H2 hR=>?_)⟩
  cases lp with
  | true=>exact ⟨Stay.tup hR hm h2,Rps.stay hR hm _ hc h3⟩
  | false=>exact ⟨Same.tup hR h2,Rps.same hR _ h3⟩
 ·exact .inl (lst _ rfl rfl)
 ·exact .inl (lst _ rfl rfl)
end F
namespace L2
open PySem PySem.Spec PyProof.Rows
section
variable {X:Cx} {pins:List [17]} {σ:St} {H:Hp} {s:Shared} {a:Addr} {kvs:List (Key × V)} {k:Key} {z:V} {u r:Value} {A:Around} {E:Value->Shared->Prop}
theorem zib{Q:Value->Shared->Prop}(I:Inv X pins σ H s)(e:H a=some (.dK kvs))(ry:RelV (kV k) u)(rz:RelV z r)(hl:kvs.length<sizeLine)
  (h1:∀ v w' s',xj kvs k=some v->Inv X pins σ H s'->RelV v w'->Q w' s')(h2:∀ s',xj kvs k=none->Inv X pins σ (upd H a (.dK (xt kvs k z))) s'->Q r s'):
  wpAny [14] A (call (.builtin "dict.setdefault") [.ref a,u,r]) Q E s:=by
 obtain ⟨zz,hd,vs,rel,dd⟩:=zaO I.hok e
 have lp:(xt kvs k z).length≤sizeLine:=by have:=we kvs k z;omega
 refine call_meetsIn PySem.F.slot_dict_setdefault dd.typeIs PySem.F.entry_dict_setdefault (PySem.F.args_dict_setdefault_3 _ _ _) (kt_meets_setdefault (zK X.prog X.w) a (kL ry) hd r)
  ⟨vs,dd,by rw [← rel.length];exact zz,fun v hv=>?_,fun hn h' dd' hs=>?_⟩
 ·have hr:=rel.val k
  rw [hv] at hr
  cases hq:xj kvs k with
  | none=>rw [hq] at hr;cases hr
  | some y=>rw [hq] at hr;exact h1 y v _ hq (I.tok _) hr
 ·have hr:=rel.val k
  rw [hn] at hr
  have hq:xj kvs k=none:=by
   cases hq:xj kvs k with
   | none=>rfl
   | some y=>rw [hq] at hr;cases hr
  have he:∃ q,h'.get? a=some q:=let ⟨q,_,_,hq,_⟩:=dd';⟨q,hq⟩
  exact h2 _ hq (km I (by rw [e];exact True.intro) hs he (zdX lp hd (rel.put k rz) dd'))
end
noncomputable def zkj(td ty tx:TE):TE:=fun σ H Q=>td σ H fun x H1=>∃ a,x=.ref a/\IsD H1 a/\ty σ H1 fun y H2=>tx σ H2 fun z H3=>∃ kvs k,H3 a=some (.dK kvs)/\y=kV k/\kvs.length<sizeLine/\
 (∀ v,xj kvs k=some v->Q v H3)/\(xj kvs k=none->Q z (upd H3 a (.dK (xt kvs k z))))
theorem zji{X:Cx}{o e f:Expr}{apos cpos:Pos}{td ty tx:TE}(ho:PE X o td)(he:PE X e ty)(hf:PE X f tx)(m:M2 X o "setdefault" apos e f cpos):PE X (.Call (.Attribute o "setdefault" apos) [e,f] [] cpos) (zkj td ty tx):=by
 intro pins s σ H Q I h
 refine wpAny_Call_method m.base m.few m.line PySem.F.plainAttrs_dict PySem.F.slot_dict_setdefault PySem.F.type_dict_setdefault (thn (ho pins s σ H _ I h) fun u s1 hq_=>?_)
 obtain ⟨x,H1,I1,rx,a,ex,d,q1⟩:=hq_
 subst ex
 obtain rfl:u=Value.ref a:=rx
 obtain ⟨t1,t2,_⟩:=zhI I1 d
 refine ⟨t1,t2,?_⟩
 rw [m.trees]
 refine Qu rfl (Calls.evalArgs_plain (Qa (thn (he pins s1 σ H1 _ I1 q1) fun iv s2 hq_=>?_)))
 obtain ⟨y,H2,I2,ry,q2⟩:=hq_
 refine Qa (thn (hf pins s2 σ H2 _ I2 q2) fun fv s3 hq_=>Calls.spliced_nil ?_)
 obtain ⟨z,H3,I3,rz,kvs,k,ea,ey,hl,q3,q4⟩:=hq_
 subst ey
 exact zib I3 ea ry rz hl (fun v w' s4 hv I4 rw'=>⟨v,H3,I4,rw',q3 v hv⟩) fun s4 hn I4=>⟨z,_,I4,rz,q4 hn⟩
end L2
namespace F
open PySem PySem.Spec PyProof.Rows L2
noncomputable def kIx(ks:List Key)(k:Key):Option Nat:=ks.findIdx? fun x=>decide (x=k)
theorem zby:∀ {ks:List Key} {xs:List V} (_:ks.length=xs.length) (k:Key),xj (ks.zip xs) k=(kIx ks k).bind fun j=>xs[j]?
 | [],[],_,_=>rfl
 | [],_::_,h,_=>by simp at h
 | _::_,[],h,_=>by simp at h
 | k'::ks,x::xs,h,k=>by
  have ih:=zby (ks:=ks) (xs:=xs) (by simpa using h) k
  unfold xj kIx at ih ⊢
  rw [Ks,Qe,List.findIdx?_cons]
  by_cases e:k'=k
  ·simp [e]
  ·have e1:decide (((k',x):Key × V).1=k)=false:=decide_eq_false e
   have e2:decide (k'=k)=false:=decide_eq_false e
   rw [e1,if_neg Je]
   show Option.map _ (List.find? _ _)=_
   rw [ih]
   cases List.findIdx? (fun x=>decide (x=k)) ks<;>simp
theorem zcR{ks:List Key}{k:Key}(h:kIx ks k=none):jX ks k=false:=by
 unfold kIx at h
 unfold jX
 rw [List.findIdx?_eq_none_iff] at h
 rw [List.any_eq_false]
 exact fun x hx=>by rw [h x hx];exact Je
theorem zhC{ks:List Key}{k:Key}{j:Nat}(h:kIx ks k=some j):j<ks.length:=by
 unfold kIx at h
 obtain ⟨h1,_⟩:=List.findIdx?_eq_some_iff_getElem.mp h
 exact h1
section
variable {X:Cx} {κ:Nat->Option Nat} {G:Hp} {c c1 c2:Cat} {f fk fx fd:FE} {st:Stmt} {O:List Nat}
theorem VI.turnDi{K:PySem.W.Frag}{own:Addr->Option Nat}{env:En}{σ:St}{H:Hp}{i j:Nat}{ks:List Key}{ps qs:List PV}(hi:i ∈ O)(I:VI K (ko O) G own env σ H)(hl:zA i env=some (.dct ks ps))(hj:ps[j]?=some (.lst qs)):
  ∃ a xs b ys B,σ[i]?=some (some [67])/\H a=some (.dK (ks.zip xs))/\xs[j]?=some (.ref b)/\xs.length=ps.length/\ks.length=ps.length/\H b=some (.lst ys)/\Rps K H qs ys B/\b ∉ B/\B.Nodup/\∀ H1 qs' ys' C,Same H H1->Rps K H1 qs' ys' C->C.Nodup->b ∉ C->(∀ d ∈ C,d ∈ B∨H d=none)->
   ∃ own',VI K (ko O) G own' (env.set i (some (.dct ks (ps.set j (.lst qs'))))) σ [85]/\Ext own H own' [85]:=by
 obtain ⟨a,xs,B,hσ,ha,hkl,hr,nd,ho,hB⟩:=zbN hi I hl
 obtain ⟨l1,l2,rfl,rfl⟩:=ka hj
 obtain ⟨v1,v2,A1,A2,rfl,rfl,r1,r2⟩:=hr.split
 obtain ⟨v,r',A3,A4,rfl,rfl,r3,r4⟩:=r2.inv
 obtain ⟨b,ys,B',rfl,hb,rfl,r5⟩:=r3.L
 have n1:=r1.length
 rw [JF,Jz,Jz,JF] at nd
 simp only [List.mem_append,List.mem_cons,not_or] at nd hB
 obtain ⟨⟨na1,⟨nab,naB⟩,na4⟩,nd1,⟨⟨nbB,ndB⟩,nd4,d34⟩,d1⟩:=nd
 refine ⟨a,_,b,ys,B',hσ,ha,by rw [n1];simp,hr.length.symm,hkl,hb,r5,nbB,ndB,fun H1 qs' ys' C s1 rC ndC nbC hC=>?_⟩
 have mb:MutH H1 b:=.inl ⟨ys,s1 _ _ hb⟩
 have nb1:b ∉ A1:=fun z=>d1 b z b (.inl [76]) rfl
 have nb4:b ∉ A4:=fun z=>d34 b [76] b z rfl
 have hm:∀ d,(d=a∨d ∈ A1∨d=b∨d ∈ A4)->∃ o,H d=some o:=fun d z=>by
  rcases z with rfl | z | rfl | z
  ·exact ⟨_,ha⟩
  ·exact (Rps.mut _ r1 d z).some
  ·exact ⟨_,hb⟩
  ·exact (Rps.mut _ r4 d z).some
 have nC:∀ d ∈ C,d≠a/\d ∉ A1/\d ∉ A4:=fun d hd=>by
  rcases hC d hd with z | z
  ·exact ⟨fun e=>naB (e ▸ z),fun e=>d1 d e d (.inl (.inr z)) rfl,fun e=>d34 d (.inr z) d e rfl⟩
  ·refine ⟨fun e=>?_,fun e=>?_,fun e=>?_⟩
   ·obtain ⟨o,q⟩:=hm d (.inl e);rw [z] at q;cases q
   ·obtain ⟨o,q⟩:=hm d (.inr (.inl e));rw [z] at q;cases q
   ·obtain ⟨o,q⟩:=hm d (.inr (.inr (.inr e)));rw [z] at q;cases q
 have hob:own b=some i:=hB b (.inr (.inl [76]))
 have hA:(a::(A1++((b::C)++A4))).Nodup:=by
  rw [JF,Jz,Jz,JF]
  simp only [List.mem_append,List.mem_cons,not_or]
  refine ⟨⟨na1,⟨nab,fun z=>(nC a z).1 rfl⟩,na4⟩,nd1,⟨⟨nbC,ndC⟩,nd4,fun d hd d' hd' e=>?_⟩,fun d hd d' hd' e=>?_⟩
  ·subst e
   rcases hd with rfl | hd
   ·exact nb4 hd'
   ·exact (nC d hd).2.2 hd'
  ·subst e
   rcases hd' with (rfl | hd') | hd'
   ·exact nb1 hd
   ·exact (nC d hd').2.1 hd
   ·exact d1 d hd d (.inr hd') rfl
 have hown:∀ d ∈ a::(A1++((b::C)++A4)),own d=some i∨H d=none:=fun d hd=>by
  simp only [List.mem_append,List.mem_cons] at hd
  rcases hd with rfl | hd | (rfl | hd) | hd
  ·exact .inl ho
  ·exact .inl (hB d (.inl hd))
  ·exact .inl hob
  ·rcases hC d hd with z | z
   ·exact .inl (hB d (.inr (.inl (.inr z))))
   ·exact .inr z
  ·exact .inl (hB d (.inr (.inr hd)))
 rw [zbg]
 have r:Rp K [85] (.dct ks (l1++.lst qs'::l2)) [67] (a::(A1++((b::C)++A4))):=
  .mkD (by rw [zb nab];exact s1 _ _ ha) (by simpa using hkl) [46]
 have:=I.take (H2:=upd H1 b (.lst ys')) (v:=.ref a) hi (fun m q w D _ _ z hD=>Rp.upd mb q (fun z'=>hD b z' hob) (Rp.same s1 q z)) (fun d u hd z=>by
  rw [zb (by rintro rfl;exact hd hob)];exact s1 d u z) r hA hown
 rw [jJ hσ] at this
 exact ⟨_,this⟩
theorem VI.newK{K:PySem.W.Frag}{own:Addr->Option Nat}{env:En}{σ:St}{H H1:Hp}{i:Nat}{ks:List Key}{ps:List PV}{key:Key}{p:PV}{v:V}{C:List Addr}(hi:i ∈ O)(I:VI K (ko O) G own env σ H)(hl:zA i env=some (.dct ks ps))(hn:jX ks key=false)
  (s:Same H H1)(r:Rp K H1 p v C)(ndC:C.Nodup)(hC:∀ d ∈ C,H d=none):∃ a xs,σ[i]?=some (some [67])/\H a=some (.dK (ks.zip xs))/\xs.length=ks.length/\
   ∃ own',VI K (ko O) G own' (env.set i (some (.dct (ks++[key]) (ps++[p])))) σ (upd H1 a (.dK (xt (ks.zip xs) key v)))/\Ext own H own' (upd H1 a (.dK (xt (ks.zip xs) key v))):=by
 obtain ⟨a,xs,B,hσ,ha,hkl,hr,nd,ho,hB⟩:=zbN hi I hl
 have hxl:=hr.length
 refine ⟨a,xs,hσ,ha,by omega,?_⟩
 have e:xt (ks.zip xs) key v=(ks++[key]).zip (xs++[v]):=by
  rw [qv [8]]
  unfold xo
  rw [hn,if_neg Je]
 rw [e]
 have nC:a ∉ C:=fun z=>by rw [hC a z] at ha;cases ha
 have nB:a ∉ B:=(JF.mp nd).1
 have m1:MutH H1 a:=.inr ⟨_,s _ _ ha⟩
 have hnd:(a::(B++C)).Nodup:=by
  rw [← List.cons_append]
  refine Jz.mpr ⟨nd,ndC,fun x hx y' hy' hxy=>?_⟩
  subst hxy
  have hn:=hC x hy'
  rcases List.mem_cons.mp hx with rfl | hx
  ·exact nC hy'
  ·obtain ⟨o,ho⟩:=(Rps.mut ps hr x hx).some
   rw [hn] at ho;cases ho
 have hBC:∀ b ∈ B++C,own b=some i∨H b=none:=by
  intro b hb
  rcases List.mem_append.mp hb with hb | hb
  ·exact .inl (hB b hb)
  ·exact .inr (hC b hb)
 obtain ⟨h1,h2⟩:=I.turn (p:=.dct (ks++[key]) (ps++[p])) (o:=.dK ((ks++[key]).zip (xs++[v]))) (B:=B++C) hi s hσ ho (.inr ⟨_,ha⟩)
  (.mkD zV (by simp [hkl]) ((Rps.upd m1 ps nB (Rps.same s ps hr)).append (Rps.one (Rp.upd m1 p nC r)))) hnd hBC
 exact ⟨_,h1,h2⟩
noncomputable def zcV(i:Nat)(fk f:FE):FS:=fun env=>(f env).bind fun q=>(zA i env).bind fun l=>(fk env).bind fun k=>match l with
 | .dct ks ps=>(xx k).bind fun key=>if (!jX ks key && decide (ks.length<100000))=true then some (.nx (env.set i (some (.dct (ks++[key]) (ps++[q]))))) else none
 | _=>none
theorem ziA(i:Nat)(hi:i ∈ O)(hp:PS X st (zey (uY i) (tV X.K (ko O) G c2 fk) (tV X.K (ko O) G [33] f))):VS X (ko O) G st (zcV i fk f):=hp.imp fun D σ H hq_=>by
 refine hq_.elim fun own env o I hf k=>?_
 unfold zcV at hf
 replace hf:=Ja.mp hf;obtain ⟨q,hq,hf⟩:=hf
 replace hf:=Ja.mp hf;obtain ⟨l,hl,hf⟩:=hf
 replace hf:=Ja.mp hf;obtain ⟨kk,hk,hf⟩:=hf
 cases l<;>first | (cases hf;done) | skip
 rename_i ks ps
 dsimp only at hf
 replace hf:=Ja.mp hf;obtain ⟨key,hkey,hf⟩:=hf
 split at hf
 case isFalse=>cases hf
 rename_i hc
 cases hf
 simp only [Bool.and_eq_true,Bool.not_eq_true',decide_eq_true_eq] at hc
 obtain ⟨a0,xs0,hσ,ha,_,_⟩:=VI.newK (p:=.non) (v:=.non) (C:=[]) hi I hl hc.1 [30] .mkN .nil [12]
 refine (.in I hq fun v H1 A s1 r1 c1=>⟨.ref a0,hσ,.in (I.grow s1) hk fun y H2 B s2 r2 _=>?_⟩)
 have s12:=s1.trans s2
 obtain ⟨a,xs,hσ',ha',hxl,own',g1,g2⟩:=VI.newK (p:=q) (v:=v) (C:=A) hi I hl hc.1 s12 (Rp.same s2 q r1) c1.1 fun d hd=>(c1.2 d hd).elim id fun ⟨_,z,_⟩=>nomatch z
 rw [hσ] at hσ'
 cases hσ'
 refine ⟨a0,_,rfl,by rw [jU hkey r2];exact DPut.k (s12 _ _ ha') (by rw [QL,sizeLine_eq];omega),k _ _ _ g1 g2⟩
noncomputable def vj(i:Nat)(fk f:FE):FS:=fun env=>(zA i env).bind fun l=>(fk env).bind fun k=>match l with
 | .dct ks ps=>if ks.length<100000 then (xx k).bind fun key=>match kIx ks key with
   | some j=>match ps[j]? with
    | some (.lst qs)=>(f env).bind fun q=>if qs.length<100000 then some (.nx (env.set i (some (.dct ks (ps.set j (.lst (qs++[q]))))))) else none
    | _=>none
   | none=>(f (env.set i (some (.dct (ks++[key]) (ps++[PV.lst []]))))).bind fun q=>some (.nx ((env.set i (some (.dct (ks++[key]) (ps++[PV.lst []])))).set i (some (.dct (ks++[key]) ((ps++[PV.lst []]).set ps.length (.lst [q])))))) else none
 | _=>none
theorem zfi(i:Nat)(hi:i ∈ O)(hp:PS X st (zav (tBM X.K "list" kZ (zkj (uY i) (tV X.K (ko O) G c fk) (tV X.K (ko O) G [33] (xU zJ))) (zaw (tV X.K (ko O) G [33] f) zfn)))):VS X (ko O) G st (vj i fk f):=hp.imp fun D σ H hq_=>by
 refine hq_.elim fun own env o I hf k=>?_
 unfold vj at hf
 replace hf:=Ja.mp hf;obtain ⟨l,hl,hf⟩:=hf
 replace hf:=Ja.mp hf;obtain ⟨kk,hk,hf⟩:=hf
 cases l<;>first | (cases hf;done) | skip
 rename_i ks ps
 dsimp only at hf
 split at hf
 case isFalse=>cases hf
 rename_i hkl
 replace hf:=Ja.mp hf;obtain ⟨key,hkey,hf⟩:=hf
 -- the arguments of setdefault
 obtain ⟨a,xs,B,hσ,ha,hkps,hr,nd,ho,hB⟩:=zbN hi I hl
 have hxl:=hr.length
 refine ⟨.ref a,hσ,a,rfl,.inl ⟨_,.inl ha⟩,.in I hk fun y H1 A1 s1 r1 _=>(.in (I.grow s1) rfl fun z H2 A2 s2 r2 c2=>?_)⟩
 have s12:=s1.trans s2
 have hy:=jU hkey r1
 refine ⟨ks.zip xs,key,s12 _ _ ha,hy,by rw [QL,sizeLine_eq];omega,fun v hv=>?_,fun hv=>?_⟩
 ·-- it is there
  rw [zby [8]] at hv
  replace hv:=Ja.mp hv;obtain ⟨j,hj,hv⟩:=hv
  rw [hj] at hf
  dsimp only at hf
  split at hf
  case h_2=>cases hf
  rename_i qs hqs
  replace hf:=Ja.mp hf;obtain ⟨q,hq,hf⟩:=hf
  split at hf
  case isFalse=>cases hf
  rename_i hlen
  cases hf
  obtain ⟨a',xs',b,ys,B',hσ',ha',hx,hxl',_,hb,hr',nb,ndB,turn⟩:=VI.turnDi hi I hl hqs
  rw [hσ] at hσ'
  cases hσ'
  rw [ha] at ha'
  have ez:xs=xs':=by
   have e:ks.zip xs=ks.zip xs':=HO.dK.inj (Jq ha')
   have h1:=congrArg (List.map Prod.snd) e
   rwa [List.map_snd_zip [8],List.map_snd_zip [8]] at h1
  subst ez
  rw [hx] at hv
  cases hv
  refine ⟨.inl ⟨rfl,ys,SqL.of (s12 _ _ hb)⟩,.in (I.grow s12) hq fun v H3 C s3 r3 c3=>?_⟩
  have s13:=s12.trans s3
  refine ⟨b,ys,v,rfl,rfl,s13 _ _ hb,by rw [← hr'.length,sizeLine_eq];omega,?_⟩
  have fr0:∀ d ∈ C,H d=none:=fun d hd=>s12.free ((c3.2 d hd).elim id fun ⟨_,z,_⟩=>nomatch z)
  obtain ⟨own',h1,h2⟩:=turn H3 (qs++[q]) (ys++[v]) (B'++C) s13 ((Rps.same s13 _ hr').append (Rps.one r3)) (Jz.mpr ⟨ndB,c3.1,fun d hd d' hd' e=>by
    subst e
    obtain ⟨o,ho⟩:=(Rps.mut _ hr' d hd).some
    rw [fr0 d hd'] at ho;cases ho⟩)
   (fun z=>by
    rcases List.mem_append.mp z with z | z
    ·exact nb z
    ·have:=fr0 b z
     rw [hb] at this;cases this)
   (fun d hd=>(JQ.mp hd).imp id (fr0 d))
  exact k _ _ _ h1 h2
 ·-- it is new
  have hj:kIx ks key=none:=by
   cases hj:kIx ks key with
   | none=>rfl
   | some j=>
    rw [zby [8],hj,Jc] at hv
    have:=zhC hj
    rw [List.getElem?_eq_none_iff] at hv
    omega
  rw [hj] at hf
  dsimp only at hf
  have hn:=zcR hj
  have fr2:∀ d ∈ A2,H d=none:=fun d hd=>s1.free ((c2.2 d hd).elim id fun ⟨_,z,_⟩=>nomatch z)
  obtain ⟨a',xs',hσ',ha',hxl',own1,I1,x1⟩:=VI.newK (p:=.lst []) (v:=z) (C:=A2) hi I hl hn s12 r2 c2.1 fr2
  rw [hσ] at hσ'
  cases hσ'
  rw [ha] at ha'
  have ez:xs=xs':=by
   have e:ks.zip xs=ks.zip xs':=HO.dK.inj (Jq ha')
   have h1:=congrArg (List.map Prod.snd) e
   rwa [List.map_snd_zip [8],List.map_snd_zip [8]] at h1
  subst ez
  generalize hH3:upd H2 a (HO.dK (xt (ks.zip xs) key z))=H3 at I1 x1
  generalize he1:env.set i (some (.dct (ks++[key]) (ps++[PV.lst []])))=env1 at I1 hf
  replace hf:=Ja.mp hf;obtain ⟨q,hq,hf⟩:=hf
  cases hf
  have il:i<env.length:=(Jp.mp (uV hl)).1
  have hl1:zA i env1=some (.dct (ks++[key]) (ps++[PV.lst []])):=by
   rw [← he1];unfold zA;rw [List.getElem?_set,if_pos rfl,if_pos il];rfl
  have hqs:(ps++[PV.lst []])[ps.length]?=some (.lst []):=by simp
  obtain ⟨a'',xs'',b,ys,B',hσ'',ha'',hx,hxl'',_,hb,hr',nb,ndB,turn⟩:=VI.turnDi hi I1 hl1 hqs
  rw [hσ] at hσ''
  cases hσ''
  -- the list just made
  have e0:xt (ks.zip xs) key z=(ks++[key]).zip (xs++[z]):=by
   rw [qv [8]]
   unfold xo
   rw [hn,if_neg Je]
  have ha3:H3 a=some (.dK ((ks++[key]).zip (xs++[z]))):=by rw [← hH3,zV,e0]
  rw [ha3] at ha''
  have ez:xs++[z]=xs'':=by
   have e:(ks++[key]).zip (xs++[z])=(ks++[key]).zip xs'':=HO.dK.inj (Jq ha'')
   have h1:=congrArg (List.map Prod.snd) e
   rwa [List.map_snd_zip (by simp;omega),List.map_snd_zip (by rw [hxl''];simp;omega)] at h1
  subst ez
  have hzb:z=.ref b:=by
   rw [hxl,List.getElem?_concat_length] at hx
   exact Jq hx
  subst hzb
  have hq0:ys=[]:=by have:=hr'.length;cases ys with | nil=>rfl | cons _ _=>simp at this
  subst hq0
  have eB:=hr'.inv0.2
  subst eB
  refine ⟨.inl ⟨rfl,[],SqL.of hb⟩,own1,env1,q,I1,hq,fun v H4 C s4 r4 c4=>?_⟩
  refine ⟨b,[],v,rfl,rfl,s4 _ _ hb,by rw [sizeLine_eq];simp,?_⟩
  have fr4:∀ d ∈ C,H3 d=none:=fun d hd=>(c4.2 d hd).elim id fun ⟨_,z,_⟩=>nomatch z
  obtain ⟨own',h1,h2⟩:=turn H4 [q] [v] C s4 (Rps.one r4) c4.1 (fun z=>by have:=fr4 b z;rw [hb] at this;cases this) (fun d hd=>.inr (fr4 d hd))
  exact k _ _ _ h1 (x1.trans h2)
noncomputable def zbG(fk f:FE):FE:=fun env=>(fk env).bind fun k=>(f env).bind fun q=>(xx k).map fun key=>.dct [key] [q]
theorem zgq{ek ev:Expr}{pos:Pos}(hk:VE X κ G c ek fk)(hv:VE X κ G [33] ev f):VE X κ G [33] (.Dict [some ek] [ev] pos) (zbG fk f):=
 (zjj (zgX hk hv zjd) rfl rfl [12] [12]).imp fun σ H Q hq_=>by
 refine hq_.elim fun own env p I hf k=>?_
 unfold zbG at hf
 replace hf:=Ja.mp hf;obtain ⟨kk,hkk,hf⟩:=hf
 replace hf:=Ja.mp hf;obtain ⟨q,hq,hf⟩:=hf
 cases hkey:xx kk with
 | none=>rw [hkey] at hf;cases hf
 | some key=>
  rw [hkey] at hf
  cases hf
  intro a ha
  have s0:Same H (upd H a (.dK [])):=yF [30] ha
  refine (.in (I.grow s0) hkk fun y H1 A1 s1 r1 _=>(.in ((I.grow s0).grow s1) hq fun v H2 A2 s2 r2 c2=>?_))
  have h2a:H2 a=some (.dK []):=s2 _ _ (s1 _ _ zV)
  have hy:=jU hkey r1
  refine ⟨h2a,[(key,v)],by rw [hy];rfl,by simp,?_⟩
  have e:jx [] [(key,v)]=[key].zip [v]:=rfl
  rw [e]
  have fr:∀ d ∈ A2,H1 d=none:=fun d hd=>(c2.2 d hd).elim id fun ⟨_,z,_⟩=>nomatch z
  have nA:a ∉ A2:=fun z=>by have:=fr a z;rw [s1 _ _ zV] at this;cases this
  have m2:MutH H2 a:=.inr ⟨_,h2a⟩
  have sH:Same H (upd H2 a (.dK ([key].zip [v]))):=fun b o hb=>by
   rw [zb (by rintro rfl;rw [ha] at hb;cases hb)]
   exact s2 _ _ (s1 _ _ (s0 _ _ hb))
  refine k _ _ (a::A2) sH (.mkD zV rfl (Rps.one (Rp.upd m2 q nA r2))) ⟨JF.mpr ⟨nA,c2.1⟩,fun d hd=>.inl ?_⟩
  rcases List.mem_cons.mp hd with rfl | hd
  ·exact ha
  ·exact s0.free (s1.free (fr d hd))
noncomputable def zeR(k i:Nat):FS:=fun env=>(zA i env).bind fun l=>match l with | .lst (q::ps)=>if (zj q && isDatas ps)=true then some (.nx ((env.set i (some (.lst ps))).set k (some q))) else none | _=>none
theorem ziB(k i:Nat)(hi:i ∈ O)(hk:k ∉ O)(hp:PS X st (qD (tBM X.K "list" zgN (uY i) (zaw (tC (.int 0)) zfn)) (uj k))):VS X (ko O) G st (zeR k i):=hp.imp fun D σ H hq_=>by
 refine hq_.elim fun own env o I hf kk=>?_
 unfold zeR at hf
 replace hf:=Ja.mp hf;obtain ⟨l,hl,hf⟩:=hf
 split at hf
 case h_2=>cases hf
 rename_i q ps
 split at hf
 case isFalse=>cases hf
 rename_i hd
 cases hf
 rw [JO] at hd
 obtain ⟨a,xs,B,hσ,ha,hr,nd,ho,hB⟩:=jC hi I hl
 obtain ⟨y,ys,A1,A2,rfl,rfl,r1,r2⟩:=hr.inv
 have e1:=Rp.data q hd.1 r1
 have e2:=Rps.data ps hd.2 r2
 subst e1 e2
 have m1:MutH H a:=.inl ⟨_,ha⟩
 refine ⟨.ref a,hσ,.inl ⟨rfl,y::ys,SqL.of ha⟩,a,y::ys,0,0,y,rfl,rfl,ha,by decide,by decide,by simp [seqIndex?],rfl,?_⟩
 obtain ⟨h1,h2⟩:=I.turn (p:=.lst ps) (o:=.lst ys) (B:=[]) hi [30] hσ ho m1 (.mkL zV (Rps.upd m1 _ [12] r2)) [12] [12]
 exact kk _ _ _ (h1.set_sh (zdR hk) (Rp.upd m1 q [12] r1) [12]) h2
noncomputable def zce(d k x:PV):Option PV:=match d with
 | .dct ks ps=>(xx k).map fun key=>(vp ks ps key).getD x
 | _=>none
noncomputable def zeS(fd fk fx:FE):FE:=fun env=>(fd env).bind fun d=>(fk env).bind fun k=>(fx env).bind fun x=>zce d k x
theorem ziC{o e f':Expr}{apos cpos:Pos}(hu:X.A.units+1<cLine)(ho:VE X κ G .sh o fd)(he:VE X κ G c1 e fk)(hf:VE X κ G .sh f' fx)(m:M2 X o "get" apos e f' cpos):VE X κ G .sh (.Call (.Attribute o "get" apos) [e,f'] [] cpos) (zeS fd fk fx):=
 (zct hu ho he hf m).imp fun σ H Q hq_=>by
 refine hq_.elim fun own env z I h k=>?_
 unfold zeS at h
 replace h:=Ja.mp h;obtain ⟨d,hd,h⟩:=h
 replace h:=Ja.mp h;obtain ⟨kk,hk,h⟩:=h
 replace h:=Ja.mp h;obtain ⟨x,hx,h⟩:=h
 unfold zce at h
 split at h
 case h_2=>cases h
 rename_i ks ps
 cases hkey:xx kk with
 | none=>rw [hkey] at h;cases h
 | some key=>
  rw [hkey] at h;cases h
  refine (.in I hd fun v H1 A s1 r1 cA=>?_)
  obtain ⟨a,ys,B,e1,h1,hl,rfl,g⟩:=r1.D
  refine ⟨a,e1,.inl ⟨_,.inl h1⟩,.in (I.grow s1) hk fun y H2 _ s2 r2 _=>(.in ((I.grow s1).grow s2) hx fun w H3 A3 s3 r3 c3=>?_)⟩
  have s23:=s2.trans s3
  have hy:=jU hkey r2
  rw [hy]
  refine ⟨_,DGet.k (s23 _ _ h1),?_⟩
  cases hg:vp ks ps key with
  | none=>
   rw [ku g hl hg]
   refine k _ _ A3 (s1.trans s23) ?_ c3
   show Rp X.K H3 ((vp ks ps key).getD x) w A3
   rw [hg];exact r3
  | some p=>
   obtain ⟨v,C,h3,h4,h5⟩:=jD g hg
   rw [h3]
   refine k _ _ C (s1.trans s23) ?_ fun d hd=>cA d (Jf _ (h5.subset hd))
   show Rp X.K H3 ((vp ks ps key).getD x) v C
   rw [hg];exact Rp.same s23 p h4
end
section
variable {K:PySem.W.Frag} {H:Hp}
theorem zeK{ks:List Key}{k:Key}{j:Nat}(h:kIx ks k=some j):ks[j]?=some k:=by
 unfold kIx at h
 obtain ⟨h1,h2,_⟩:=List.findIdx?_eq_some_iff_getElem.mp h
 rw [Jd h1,of_decide_eq_true h2]
end
end F
namespace L2
open PySem PySem.Spec PyProof.Rows
theorem zik:bootBuiltins "set"=some (.type "set"):=by decide +kernel
theorem len_le_of(xs:List Int):∀ ys:List Int,xs.Nodup->(∀ x ∈ xs,x ∈ ys)->xs.length≤ys.length:=by
 induction xs with
 | nil=>intro ys _ _;exact Km _
 | cons x xs ih=>
  intro ys nd h
  rw [JF] at nd
  have hx:=h x Jg
  have:=ih (ys.erase x) nd.2 fun y hy=>by
   have hne:y≠x:=fun e=>nd.1 (e ▸ hy)
   exact (List.mem_erase_of_ne hne).mpr (h y (Jf _ hy))
  rw [List.length_erase_of_mem hx] at this
  have hp:0<ys.length:=List.length_pos_of_mem hx
  simp only [List.length_cons]
  omega
end L2
namespace F
open PySem PySem.Spec PyProof.Rows L2
end F
namespace L2
open PySem PySem.Spec PyProof.Rows
end L2
namespace F
open PySem PySem.Spec PyProof.Rows L2
noncomputable def zbx:List Key->Option (List Int)
 | []=>some []
 | .inl n::r=>(zbx r).map fun ns=>n::ns
 | _=>none
@[simp] theorem zcQ:∀ ns:List Int,zbx (ns.map Sum.inl)=some ns
 | []=>rfl
 | n::ns=>by rw [Jr,zbx,zcQ ns];rfl
end F
namespace L2
open PySem PySem.Spec PyProof.Rows
end L2
namespace F
open PySem PySem.Spec PyProof.Rows L2
section
variable {X:Cx} {κ:Nat->Option Nat} {G:Hp} {O:List Nat} {st:Stmt} {c c1 c2:Cat} {f fk fa fb:FE} {a b e:Expr} {es:List Expr} {pos:Pos}
noncomputable def zlR(l:Nat)(own:Addr->Option Nat)(H:Hp)(own':Addr->Option Nat)(H':Hp):Prop:=∀ b o,own b≠some l->H b=some o->own' b=own b/\H' b=some o
open Classical in
noncomputable abbrev FI:=En->Option (Int × En)
noncomputable def tVi(K:PySem.W.Frag)(κ:Nat->Option Nat)(G:Hp)(l:Nat)(f:FI):TE:=fun σ H Q=>∃ own env i e',VI K κ G own env σ H/\f env=some (i,e')/\∀ H' own',VI K κ G own' e' σ H'->zlR l own H own' H'->Q [87] H'
theorem tVi.in{K:PySem.W.Frag}{l:Nat}{σ:St}{H:Hp}{Q:VK}{f:FI}{own:Addr->Option Nat}{env e':En}{i:Int}(I:VI K κ G own env σ H)(hf:f env=some (i,e'))(k:∀ H' own',VI K κ G own' e' σ H'->zlR l own H own' H'->Q [87] H'):tVi K κ G l f σ H Q:=⟨own,env,i,e',I,hf,k⟩
theorem tVi.elim{K:PySem.W.Frag}{l:Nat}{σ:St}{H:Hp}{Q:VK}{f:FI}{C:Prop}(h:tVi K κ G l f σ H Q)(k:∀ own env i e',VI K κ G own env σ H->f env=some (i,e')->(∀ H' own',VI K κ G own' e' σ H'->zlR l own H own' H'->Q [87] H')->C):C:=
 let ⟨own,env,i,e',I,hf,q⟩:=h
 k own env i e' I hf q
noncomputable abbrev FB:=En->Option (Bool × En)
end
end F
namespace F
open PySem
namespace Tab
noncomputable def leaps(mask:Nat):Nat->Nat × Nat->Nat × Nat
 | 0,z=>z
 | n+1,z=>leaps mask n (SetTable.leap mask z.1 z.2)
theorem zaI(mask:Nat):∀ (a b:Nat) (z:Nat × Nat),leaps mask (a+b) z=leaps mask b (leaps mask a z)
 | 0,b,z=>by rw [Qc];rfl
 | a+1,b,z=>by rw [Nat.succ_add];exact zaI mask a b _
theorem zaH(mask:Nat):∀ (n:Nat) (z:Nat × Nat),(leaps mask n z).2=z.2 / 32 ^ n
 | 0,z=>by simp [leaps]
 | n+1,z=>by
  unfold leaps
  rw [zaH mask n]
  show z.2 / 32 / 32 ^ n=_
  rw [Nat.div_div_eq_div_mul,Nat.pow_succ,Nat.mul_comm]
theorem zcL(mask:Nat):∀ (n:Nat) (z:Nat × Nat),z.1≤mask->(leaps mask n z).1≤mask
 | 0,z,h=>h
 | n+1,z,h=>zcL mask n _ (Kb (Qt _ (KM _)))
noncomputable def ud(mask:Nat):Nat->Nat->Nat
 | 0,i=>i
 | n+1,i=>ud mask n ((i * 5+1) % (mask+1))
theorem zco(mask:Nat):∀ (n i:Nat),leaps mask n (i,0)=(ud mask n i,0)
 | 0,i=>rfl
 | n+1,i=>by
  show leaps mask n ((i * 5+1+0 / 32) % (mask+1),0 / 32)=_
  rw [Nat.zero_div,Nat.add_zero,zco mask n];rfl
theorem uS(mask:Nat):∀ (a b i:Nat),ud mask (a+b) i=ud mask b (ud mask a i)
 | 0,b,i=>by rw [Qc];rfl
 | a+1,b,i=>by rw [Nat.succ_add];exact uS mask a b _
noncomputable def Full(mask:Nat):Prop:=ud mask (mask+1) 0=0/\∀ j,j≤mask->∃ a,a≤mask/\ud mask a 0=j
noncomputable def zhj(mask:Nat):Nat->Nat->List Nat
 | 0,_=>[]
 | n+1,i=>i::zhj mask n ((i * 5+1) % (mask+1))
theorem zaF(mask:Nat):∀ (n i j:Nat),j ∈ zhj mask n i->∃ a,a<n/\ud mask a i=j
 | 0,i,j,h=>by cases h
 | n+1,i,j,h=>by
  rcases List.mem_cons.mp h with rfl | h
  ·exact ⟨0,KM _,rfl⟩
  ·obtain ⟨a,ha,e⟩:=zaF mask n _ j h
   exact ⟨a+1,Nat.succ_lt_succ ha,e⟩
theorem zbD{mask:Nat}(h1:ud mask (mask+1) 0=0)(h2:((List.range (mask+1)).all fun j=>(zhj mask (mask+1) 0).contains j)=true):Full mask:=by
 refine ⟨h1,fun j hj=>?_⟩
 have:=QG.mp h2 j (Jt.mpr (Nat.lt_succ_of_le hj))
 obtain ⟨a,ha,e⟩:=zaF mask (mask+1) 0 j (List.contains_iff_mem.mp this)
 exact ⟨a,Kb ha,e⟩
theorem full7:Full 7:=zbD [25] [25]
theorem full31:Full 31:=zbD [25] [25]
theorem full127:Full 127:=zbD [25] [25]
theorem Full.to{mask:Nat}(F:Full mask){i j:Nat}(hi:i≤mask)(hj:j≤mask):∃ m,m≤mask/\ud mask m i=j:=by
 obtain ⟨a,ha,ea⟩:=F.2 i hi
 obtain ⟨b,hb,eb⟩:=F.2 j hj
 by_cases h:a≤b
 ·refine ⟨b - a,by omega,?_⟩
  rw [← ea,← uS,show a+(b - a)=b by omega,eb]
 ·refine ⟨mask+1+b - a,by omega,?_⟩
  rw [← ea,← uS,show a+(mask+1+b - a)=mask+1+b by omega,uS,F.1,eb]
theorem Full.leaps{mask:Nat}(F:Full mask){i p j:Nat}(hi:i≤mask)(hp:p<2 ^ 64)(hj:j≤mask):∃ n,n<SetTable.turns mask/\(Tab.leaps mask n (i,p)).1=j:=by
 have hz:(Tab.leaps mask 13 (i,p)).2=0:=by
  rw [zaH]
  exact Nat.div_eq_of_lt (JB hp [9])
 obtain ⟨m,hm,e⟩:=F.to (zcL mask 13 (i,p) hi) hj
 refine ⟨13+m,by show _<mask+15;omega,?_⟩
 rw [zaI]
 have:Tab.leaps mask 13 (i,p)=((Tab.leaps mask 13 (i,p)).1,0):=Prod.ext rfl hz
 rw [this,zco,e]
theorem zeY(h:Int):SetTable.bits h<2 ^ 64:=by
 unfold SetTable.bits
 have:=JW h (show (0:Int)<2 ^ 64 by decide)
 have:=JY h (show (2 ^ 64:Int)≠0 by decide)
 omega
theorem vC{mask i:Nat}(hi:i≤mask):i≤SetTable.runEnd mask i/\SetTable.runEnd mask i≤mask/\SetTable.runEnd mask i≤i+9:=by
 unfold SetTable.runEnd
 split<;>omega
theorem zjP{mask:Nat}{owner:Array (Option Nat)}{j:Nat}(hj:owner.getD j (some 0)=none):∀ (n fuel i p:Nat),n<fuel->i≤mask->(leaps mask n (i,p)).1=j->∃ j',SetTable.layClean.free mask owner fuel i p=some j'/\j'≤mask/\owner.getD j' (some 0)=none:=by
 intro n
 induction n with
 | zero=>
  intro fuel i p hf hi e
  obtain ⟨f,rfl⟩:=JH (Kj hf)
  have e':i=j:=e
  subst e'
  have hr:=vC hi
  unfold SetTable.layClean.free
  cases h:(List.range (SetTable.runEnd mask i+1 - i)).find? fun k=>(owner.getD (i+k) (some 0)).isNone with
  | none=>
   have:=List.find?_eq_none.mp h 0 (Jt.mpr [8])
   rw [Nat.add_zero,hj] at this
   exact absurd rfl this
  | some k=>
   have h1:=Jt.mp (List.mem_of_find?_eq_some h)
   have h2:=List.find?_some h
   exact ⟨i+k,rfl,by omega,Option.isNone_iff_eq_none.mp h2⟩
 | succ n ih=>
  intro fuel i p hf hi e
  obtain ⟨f,rfl⟩:=JH (Kj (Qs (Km _) hf))
  have hr:=vC hi
  unfold SetTable.layClean.free
  cases h:(List.range (SetTable.runEnd mask i+1 - i)).find? fun k=>(owner.getD (i+k) (some 0)).isNone with
  | some k=>
   have h1:=Jt.mp (List.mem_of_find?_eq_some h)
   have h2:=List.find?_some h
   exact ⟨i+k,rfl,by omega,Option.isNone_iff_eq_none.mp h2⟩
  | none=>exact ih f _ _ [8] (Kb (Qt _ (KM _))) e
theorem zhR:∀ (l:List (Option Nat)) (j k:Nat),l[j]?=some none->((l.set j (some k)).filterMap id).Perm (k::l.filterMap id)
 | [],j,k,h=>by simp at h
 | x::l,0,k,h=>by
  have:x=none:=by simpa using h
  subst this
  exact .refl _
 | x::l,j+1,k,h=>by
  have ih:=zhR l j k (by simpa using h)
  rw [List.set_cons_succ]
  cases x with
  | none=>simpa using ih
  | some y=>
   simp only [List.filterMap_cons,id]
   exact (ih.cons y).trans (.swap _ _ _)
theorem zeQ:∀ (l:List (Option Nat)),(l.filterMap id).length<l.length->∃ j,j<l.length/\l[j]?=some none
 | [],h=>by simp at h
 | none::l,h=>⟨0,by simp,rfl⟩
 | some y::l,h=>by
  obtain ⟨j,h1,h2⟩:=zeQ l (by simpa using h)
  exact ⟨j+1,by simpa using h1,by simpa using h2⟩
structure Laid (mask:Nat) (owner:Array (Option Nat)) (k:Nat):Prop where
 size:owner.size=mask+1
 perm:(owner.toList.filterMap id).Perm (List.range k).reverse
theorem uH{owner:Array (Option Nat)}{j:Nat}{d:Option Nat}:owner.getD j d=owner.toList[j]?.getD d:=by
 rw [KJ,Jx]
theorem zhx {mask : Nat} (F : Full mask) : ∀ (hs : List Int) (owner : Array (Option Nat)) (k : Nat), Laid mask owner k → k + hs.length ≤ mask → ∃ owner', hs.foldl (fun acc h => do
      let (owner, k) ← acc
      let j ← SetTable.layClean.free mask owner (SetTable.turns mask) (SetTable.bits h % (mask + 1)) (SetTable.bits h)
      pure (owner.setIfInBounds j (some k), k + 1)) (some (owner, k)) = some (owner', k + hs.length) ∧ Laid mask owner' (k + hs.length)
  | [], owner, k, L, hk => ⟨owner, rfl, L⟩
  | h :: hs, owner, k, L, hk => by
    rw [JD] at hk
    have hlen : (owner.toList.filterMap id).length = k := by rw [L.perm.length_eq]; simp
    obtain ⟨j0, hj0, hj1⟩ := zeQ owner.toList (by rw [hlen, Jk, L.size]; omega)
    rw [Jk, L.size] at hj0
    have hi : SetTable.bits h % (mask + 1) ≤ mask := Kb (Qt _ (KM _))
    obtain ⟨n, hn, e⟩ := F.leaps (j := j0) hi (zeY h) [8]
    obtain ⟨j, f1, f2, f3⟩ := zjP (mask := mask) (owner := owner) (j := j0) (by rw [uH, hj1]; rfl) n _ _ _ hn hi e
    have hjs : j < owner.size := by rw [L.size]; omega
    have hjn : owner.toList[j]? = some none := by
      rw [uH] at f3
      cases q : owner.toList[j]? with
      | none => rw [q] at f3; cases f3
      | some x => rw [q] at f3; exact congrArg some f3
    have L' : Laid mask (owner.setIfInBounds j (some k)) (k + 1) := by
      refine ⟨by rw [Array.size_setIfInBounds]; exact L.size, ?_⟩
      rw [QI, List.range_succ, List.reverse_append]
      exact (zhR _ j k hjn).trans (L.perm.cons k)
    obtain ⟨owner', g1, g2⟩ := zhx F hs _ (k + 1) L' [8]
    refine ⟨owner', ?_, by rw [JD, show k + (hs.length + 1) = k + 1 + hs.length by omega]; exact g2⟩
    rw [List.foldl_cons, JD, show k + (hs.length + 1) = k + 1 + hs.length by omega, ← g1]
    congr 1
    show (do let j ← SetTable.layClean.free mask owner _ _ _; pure (owner.setIfInBounds j (some k), k + 1)) = _
    rw [f1]; rfl
theorem zcN{mask:Nat}(F:Full mask){hashes:Array Int}(hn:hashes.size≤mask):∃ owner,SetTable.layClean mask hashes=some owner/\Laid mask owner hashes.size:=by
 have L0:Laid mask (Array.replicate (mask+1) none) 0:=⟨by simp,by
  have:(Array.replicate (mask+1) (none:Option Nat)).toList.filterMap id=[]:=by
   rw [Array.toList_replicate,List.filterMap_eq_nil_iff]
   intro a ha
   rw [List.eq_of_mem_replicate ha];rfl
  rw [this];exact .refl _⟩
 obtain ⟨owner,h1,h2⟩:=zhx F hashes.toList _ 0 L0 (by rw [Jk];omega)
 rw [Qc,Jk] at h1 h2
 refine ⟨owner,?_,h2⟩
 unfold SetTable.layClean
 rw [← Array.foldl_toList,h1];rfl
noncomputable def zem(xs:Array Nat):Prop:=xs.toList.Pairwise (·<·)
structure Good (t:SetTable) (n:Nat) (led:Bool):Prop where
 full:Full t.mask
 size:t.place.size=n
 room:n≤t.mask
 dm:t.dummies=#[]
 rise:zem t.place
 le:∀ j ∈ t.place.toList,j≤t.mask
 led:t.led=led
 plain:t.plain=true
theorem Good.fits{t:SetTable}{n:Nat}{led:Bool}(g:Good t n led):t.fits n=true:=by
 unfold SetTable.fits SetTable.fill
 rw [g.dm,g.size]
 simp [g.room]
theorem zjF{mask finger moves:Nat}{led plain:Bool}{hashes:Array Int}(F:Full mask)(hn:hashes.size≤mask)(hp:plain=true):∃ t order,SetTable.laid mask finger moves led plain hashes=some (t,order)/\order.toList.Perm (List.range hashes.size)/\Good t hashes.size led/\t.mask=mask:=by
 obtain ⟨owner,h1,L⟩:=zcN F hn
 let live:=(List.range (mask+1)).filterMap fun j=>(owner.getD j none).map (j,·)
 have hs:live.map (·.2)=owner.toList.filterMap id:=by
  have e1:live.map (·.2)=(List.range (mask+1)).filterMap fun j=>owner.getD j none:=by
   rw [List.map_filterMap]
   congr 1
   funext j
   cases owner.getD j none<;>rfl
  have e2:owner.toList=(List.range (mask+1)).map fun j=>owner.getD j none:=by
   apply Qi
   intro j
   rw [JK]
   by_cases hj:j<mask+1
   ·rw [List.getElem?_range hj,Option.map_some,uH]
    have:j<owner.toList.length:=by rw [Jk,L.size];exact hj
    rw [Jd this];rfl
   ·rw [Qf (by rw [Jk,L.size];omega),Qf (by rw [JL];omega)];rfl
  rw [e1]
  conv=>rhs;rw [e2,List.filterMap_map]
  rfl
 have hp2:(live.map (·.2)).Perm (List.range hashes.size):=by rw [hs];exact L.perm.trans (List.reverse_perm _)
 have hl:live.length=hashes.size:=by have:=hp2.length_eq;simpa using this
 have hr:(live.map (·.1)).Pairwise (·<·):=by
  rw [Kw]
  refine List.Pairwise.filterMap _ (fun a a' hlt b hb b' hb'=>?_) List.pairwise_lt_range
  obtain ⟨x,_,rfl⟩:=JM.mp hb
  obtain ⟨y,_,rfl⟩:=JM.mp hb'
  exact hlt
 have hle:∀ j ∈ live.map (·.1),j≤mask:=fun j hj=>by
  obtain ⟨z,hz,rfl⟩:=Jv.mp hj
  obtain ⟨a,ha,hb⟩:=List.mem_filterMap.mp hz
  obtain ⟨x,_,rfl⟩:=JM.mp hb
  have:=Jt.mp ha
  show a≤mask
  omega
 refine ⟨{ mask,place:=(live.map (·.1)).toArray,dummies:=#[],finger,led,moves,plain },(live.map (·.2)).toArray,?_,by simpa using hp2,⟨F,by simpa using hl,hn,rfl,by unfold zem;simpa using hr,by simpa using hle,rfl,hp⟩,rfl⟩
 unfold SetTable.laid
 rw [h1];rfl
theorem zim{xs:Array Nat}{j:Nat}(hr:zem xs):∀ (fuel lo hi:Nat),lo≤hi->hi≤xs.size->hi - lo≤fuel->(∀ i x,i<lo->xs[i]?=some x->x<j)->(∀ i x,hi≤i->xs[i]?=some x->j≤x)->
  SetTable.below.go xs j fuel lo hi≤xs.size/\(∀ i x,i<SetTable.below.go xs j fuel lo hi->xs[i]?=some x->x<j)/\∀ i x,SetTable.below.go xs j fuel lo hi≤i->xs[i]?=some x->j≤x:=by
 have mono:∀ a b x y,a<b->xs[a]?=some x->xs[b]?=some y->x<y:=fun a b x y hab ha hb=>by
  rw [← Jx] at ha hb
  obtain ⟨h1,e1⟩:=Jp.mp ha
  obtain ⟨h2,e2⟩:=Jp.mp hb
  rw [← e1,← e2]
  exact Jy.mp hr a b h1 h2 hab
 intro fuel
 induction fuel with
 | zero=>
  intro lo hi h1 h2 h3 h4 h5
  unfold SetTable.below.go
  obtain rfl:lo=hi:=by omega
  exact ⟨h2,h4,h5⟩
 | succ fuel ih=>
  intro lo hi h1 h2 h3 h4 h5
  unfold SetTable.below.go
  by_cases hlt:lo<hi
  ·rw [if_pos hlt]
   dsimp only
   have hm:(lo+hi) / 2<xs.size:=by omega
   have hg:xs[(lo+hi) / 2]?=some (xs.getD ((lo+hi) / 2) j):=by
    rw [KJ,getElem?_pos xs _ hm];rfl
   generalize hx:xs.getD ((lo+hi) / 2) j=x at hg
   split
   ·rename_i hc
    exact ih _ _ [8] h2 [8] (fun i y hi' hy=>by
     by_cases e:i=(lo+hi) / 2
     ·rw [e,hg] at hy;cases hy;exact hc
     ·exact Nat.lt_trans (mono i _ y x [8] hy hg) hc) h5
   ·rename_i hc
    exact ih _ _ [8] [8] [8] h4 (fun i y hi' hy=>by
     by_cases e:i=(lo+hi) / 2
     ·rw [e,hg] at hy;cases hy;omega
     ·have:=mono _ i x y [8] hg hy;omega)
  ·rw [if_neg hlt]
   obtain rfl:lo=hi:=by omega
   exact ⟨h2,h4,h5⟩
theorem below_ok{xs:Array Nat}(hr:zem xs)(j:Nat):SetTable.below xs j≤xs.size/\(∀ i x,i<SetTable.below xs j->xs[i]?=some x->x<j)/\∀ i x,SetTable.below xs j≤i->xs[i]?=some x->j≤x:=
 zim hr _ 0 xs.size (Km _) (Jn _) [8] (fun i x h=>absurd h (Qg _)) fun i x h e=>by
  rw [getElem?_neg xs i [8]] at e;cases e
theorem zcT{xs:Array Nat}{j:Nat}(hr:zem xs)(hj:xs[SetTable.below xs j]?≠some j):zem (SetTable.insertAt xs (SetTable.below xs j) j):=by
 obtain ⟨b1,b2,b3⟩:=below_ok hr j
 unfold zem
 rw [SetTable.toList_insertAt,JE,KB]
 refine ⟨hr.sublist (List.take_sublist _ _),⟨fun y hy=>?_,hr.sublist (List.drop_sublist _ _)⟩,fun x hx y hy=>?_⟩
 ·obtain ⟨i,hi⟩:=Qd.mp hy
  rw [List.getElem?_drop,Jx] at hi
  have h1:=b3 _ _ (QH _ _) hi
  by_cases e:y=j
  ·subst e
   cases i with
   | zero=>exact absurd hi hj
   | succ i=>
    have hb:SetTable.below xs y<xs.size:=by
     have:=(JG.mp hi).1;omega
    have h2:=b3 _ _ (Jn _) (getElem?_pos xs _ hb)
    have h3:=Jy.mp hr (SetTable.below xs y) (SetTable.below xs y+(i+1)) (by rw [Jk];exact hb) (by rw [Jk];exact (JG.mp hi).1) [8]
    rw [KU,KU] at h3
    have h4:=(JG.mp hi).2
    omega
  ·omega
 ·have hxj:x<j:=by
   obtain ⟨i,hi⟩:=Qd.mp hx
   rw [List.getElem?_take] at hi
   split at hi
   ·rename_i h;rw [Jx] at hi;exact b2 i x h hi
   ·cases hi
  rcases List.mem_cons.mp hy with rfl | hy
  ·exact hxj
  ·obtain ⟨i,hi⟩:=Qd.mp hy
   rw [List.getElem?_drop,Jx] at hi
   have h1:=b3 _ _ (QH _ _) hi
   omega
theorem zdu{t:SetTable}(hd:t.dummies=#[]){j:Nat}(h:j ∉ t.place.toList):t.slot j=.empty:=by
 unfold SetTable.slot
 dsimp only
 rw [if_neg,hd]
 ·rfl
 ·intro e
  have:=beq_iff_eq.mp e
  rw [← Jx] at this
  exact h (JN this)
theorem zgG{t:SetTable}{j:Nat}(h:t.slot j=.empty):t.place[SetTable.below t.place j]?≠some j:=fun e=>by
 unfold SetTable.slot at h
 dsimp only at h
 rw [if_pos (beq_iff_eq.mpr e)] at h
 cases h
theorem vR{t:SetTable}(hd:t.dummies=#[])(j:Nat):t.slot j≠.dummy:=fun h=>by
 unfold SetTable.slot at h
 dsimp only at h
 split at h
 ·cases h
 ·rw [hd] at h;cases h
noncomputable def zbv(t:SetTable)(P:SetTable.Probe):SetTable.Probe:={ P with j:=[43].1,more:=SetTable.runEnd t.mask [43].1 - [43].1,i:=[43].1,perturb:=[43].2 }
section
variable {t:SetTable} {hashAt:Nat->Int} {h:Int}
theorem ki(f:Nat)(P:SetTable.Probe):SetTable.probe.go t hashAt h (f+1) P=match t.slot P.j with
  | .empty=>some (.empty P.j P.dummy)
  | .dummy=>SetTable.probe.go t hashAt h f (t.advance { P with dummy:=some P.j })
  | .live i=>if hashAt i == h then some (.candidate P.j i (t.advance P)) else SetTable.probe.go t hashAt h f (t.advance P):=rfl
theorem zkQ(hd:t.dummies=#[])(hA:∀ i,(hashAt i == h)=false):∀ (m fuel:Nat) (P:SetTable.Probe),P.more=m->m<fuel->P.j+m≤t.mask->
  (∃ j,SetTable.probe.go t hashAt h fuel P=some (.empty j P.dummy)/\t.slot j=.empty/\j≤t.mask)∨SetTable.probe.go t hashAt h fuel P=SetTable.probe.go t hashAt h (fuel - (m+1)) (zbv t P):=by
 intro m
 induction m with
 | zero=>
  intro fuel P hm hf hj
  obtain ⟨f,rfl⟩:=JH (Kj hf)
  rw [Qq,ki]
  cases hs:t.slot P.j with
  | empty=>exact .inl ⟨P.j,rfl,hs,by omega⟩
  | dummy=>exact absurd hs (vR hd _)
  | live i=>
   right
   dsimp only
   rw [hA i,if_neg Je]
   have:t.advance P=zbv t P:=by
    unfold SetTable.advance
    rw [if_neg [8]];rfl
   rw [this];rfl
 | succ m ih=>
  intro fuel P hm hf hj
  obtain ⟨f,rfl⟩:=JH (Kj (Qs (Km _) hf))
  rw [Qq,ki]
  cases hs:t.slot P.j with
  | empty=>exact .inl ⟨P.j,rfl,hs,by omega⟩
  | dummy=>exact absurd hs (vR hd _)
  | live i=>
   dsimp only
   rw [hA i,if_neg Je]
   have:t.advance P={ P with j:=P.j+1,more:=m }:=by
    unfold SetTable.advance
    rw [if_pos [8],hm];rfl
   rw [this]
   rcases ih f { P with j:=P.j+1,more:=m } rfl [8] (by show P.j+1+m≤t.mask;omega) with h1 | h1
   ·exact .inl h1
   ·right
    rw [h1,show f+1 - (m+1+1)=f - (m+1) by omega];rfl
theorem zgV(hd:t.dummies=#[])(hA:∀ i,(hashAt i == h)=false){j0:Nat}(h0:t.slot j0=.empty):∀ (n fuel:Nat) (P:SetTable.Probe),P.j=P.i->P.more=SetTable.runEnd t.mask P.i - P.i->P.i≤t.mask->10 * n+10≤fuel->(leaps t.mask n (P.i,P.perturb)).1=j0->
  ∃ j,SetTable.probe.go t hashAt h fuel P=some (.empty j P.dummy)/\t.slot j=.empty/\j≤t.mask:=by
 intro n
 induction n with
 | zero=>
  intro fuel P h1 h2 h3 h4 h5
  obtain ⟨f,rfl⟩:=JH (show fuel≠0 by omega)
  have e:P.j=j0:=h1.trans h5
  unfold SetTable.probe.go
  rw [e,h0]
  exact ⟨j0,rfl,h0,by omega⟩
 | succ n ih=>
  intro fuel P h1 h2 h3 h4 h5
  have hr:=vC h3
  rcases zkQ hd hA P.more fuel P rfl [8] [8] with h6 | h6
  ·exact h6
  ·rw [h6]
   exact ih _ (zbv t P) rfl rfl (Kb (Qt _ (KM _))) [8] h5
end
theorem znM:∀ (mask:Nat) (l:List Nat),l.Pairwise (·<·)->l.length≤mask->∃ j,j≤mask/\j ∉ l:=by
 intro mask l hr hl
 refine JJ fun hn=>?_
 have sub:∀ j ∈ List.range (mask+1),j ∈ l:=fun j hj=>JJ fun h=>hn ⟨j,Kb (Jt.mp hj),h⟩
 have nd:((List.range (mask+1)).map Int.ofNat).Nodup:=by
  rw [Ka,Kw]
  exact List.pairwise_lt_range.imp fun h e=>by have:=Int.ofNat.inj e;omega
 have:=L2.len_le_of _ (l.map Int.ofNat) nd fun x hx=>by
  obtain ⟨j,hj,rfl⟩:=Jv.mp hx
  exact Jv.mpr ⟨j,sub j hj,rfl⟩
 rw [Jj,Jj,JL] at this
 omega
theorem zkX{t:SetTable}{n:Nat}{led:Bool}(g:Good t n led)(hn:n+1≤t.mask){j:Nat}(hs:t.slot j=.empty)(hj:j≤t.mask):Good (t.put j).1 (n+1) led/\(t.put j).1.mask=t.mask:=by
 have hd:(t.put j).1.dummies=#[]:=by
  unfold SetTable.put
  dsimp only
  rw [g.dm];rfl
 refine ⟨⟨g.full,?_,hn,hd,zcT g.rise (zgG hs),fun k hk=>?_,g.led,g.plain⟩,rfl⟩
 ·show (SetTable.insertAt t.place (SetTable.below t.place j) j).size=n+1
  have:=(SetTable.insertAt_perm t.place (SetTable.below t.place j) j).length_eq
  rw [Jk,Jk,Ke,g.size] at this
  exact this
 ·have hk':k ∈ (SetTable.insertAt t.place (SetTable.below t.place j) j).toList:=hk
  rw [(SetTable.insertAt_perm t.place (SetTable.below t.place j) j).mem_iff,KI] at hk'
  rcases List.mem_append.mp hk' with h | h
  ·exact g.le k h
  ·rw [Jh.mp h];exact hj
end Tab
end F
namespace F
open PySem PySem.Spec PyProof.Rows
noncomputable def elN(e:Int × Value):Int:=numOf e.2
structure SetTb (prog:Program) (w:World) (es:Array (Int × Value)) (t:SetTable) (L:List Int) (led:Bool):Prop where
 el:ElemsOf (intKind prog w) es.toList
 perm:(es.toList.map elN).Perm L
 good:Tab.Good t es.size led
 mask:t.mask=7∨t.mask=31∨t.mask=127
 nf:es.size * 5<t.mask * 3
noncomputable def zoC(prog:Program)(w:World)(h:Heap)(a:Addr)(L:List Int)(led:Bool):Prop:=∃ o es ep t,h.get? a=some o/\o.ExactSet/\o.data=.set es ep t/\SetTb prog w es t L led
section
variable {prog:Program} {w:World} {A:Around} {E:Value->Shared->Prop} {s:Shared}
theorem zax{h:Heap}{a:Addr}{o:Obj}{es es':Array (Int × Value)}{ep:Nat}{t t':SetTable}(ho:h.get? a=some o)(hd:o.data=.set es ep t):(h.update a (Obj.putSet es' t')).get? a=some { o with data:=.set es' (ep+1) t' }:=by
 have:=JX (Obj.putSet es' t') ho (by rw [putSet_of es' t' hd];rfl)
 rw [putSet_of es' t' hd] at this;exact this
theorem zhn(a:Value){Q₁:Value->Shared->Prop}
  (h:Q₁ [38] { s with heap:=s.heap.push { cls:=.type "set",dict:=none,data:=.set #[] 0 (.fresh 0 0 (!w.params.followText "set-order")) } }):
  codeAny [11] A (.call (.builtin "set.__new__") ⟨[.type "set",a],[]⟩) (wants Q₁ E) s:=by
 refine codeAny_of_tree ?_
 show wpAny _ A.in1 (do checkBuiltinCall "set.__new__" ⟨[.type "set",a],[]⟩;again (.builtin "set.__new__" ⟨[.type "set",a],[]⟩)) _ _ s
 refine wpAny_bind (wpAny_of_eq (PySem.F.newCall_set_1 a) (wpAny_pure ⟨plainId_quiet PySem.F.plain_set_new _,codeAny_builtin PySem.F.entry_set_new ?_⟩))
 rw [Ql PySem.F.plain_set_new _]
 unfold Builtin.«set.__new__» Builtin.Frozenset.newClass
 have hsub:=sub_set_self
 obtain ⟨hp,g,d,tk,os⟩:=s
 dsimp only
 wp_walk
 refine wpAny_askSetting [19]
 dsimp only
 simp only [newObj]
 refine wpAny_bind (wpAny_alloc [19])
 exact wpAny_pure h
end
end F
namespace F
open PySem PySem.Spec PyProof.Rows PySem.W
theorem ye:Slot "set" "__iter__" "set.__iter__":=
 .of (owner:="set") (n:="__iter__") (by rw [typeLookup_type,builtinLookup_eq_fast];kernel_rfl) [25] [25] [25]
  (by first | exact .inl [25] | exact .inr [25]) (by rw [isSubtype_type];kernel_rfl)
theorem wV:entryFor table "set.__iter__"=some Builtin.«frozenset.__iter__»:=entryFor_alias (id':="frozenset.__iter__") (by kernel_rfl) rfl [25] (by kernel_rfl)
theorem vA(a:Value):argsOk "set.__iter__" ⟨[a],[]⟩:=by unfold argsOk;kernel_rfl
theorem slot_si_next:Slot "set_iterator" "__next__" "set_iterator.__next__":=
 .of (owner:="set_iterator") (n:="__next__") (by rw [typeLookup_type,builtinLookup_eq_fast];kernel_rfl) [25] [25] [25]
  (by first | exact .inl [25] | exact .inr [25]) (by rw [isSubtype_type];kernel_rfl)
theorem yf:entryFor table "set_iterator.__next__"=some Builtin.«set_iterator.__next__»:=entryFor_of_tree (by kernel_rfl)
theorem yv(a:Value):argsOk "set_iterator.__next__" ⟨[a],[]⟩:=by unfold argsOk;kernel_rfl
theorem wA:Slot "set_iterator" "__iter__" "set_iterator.__iter__":=
 .of (owner:="set_iterator") (n:="__iter__") (by rw [typeLookup_type,builtinLookup_eq_fast];kernel_rfl) [25] [25] [25]
  (by first | exact .inl [25] | exact .inr [25]) (by rw [isSubtype_type];kernel_rfl)
theorem ul:entryFor table "set_iterator.__iter__"=some Builtin.«dict_keyiterator.__iter__»:=entryFor_alias (id':="dict_keyiterator.__iter__") (by kernel_rfl) rfl [25] (by kernel_rfl)
theorem jf(a:Value):argsOk "set_iterator.__iter__" ⟨[a],[]⟩:=by unfold argsOk;kernel_rfl
noncomputable def IsSI(h:Heap)(it a:Addr)(slot i n ep:Nat):Prop:=∃ o,h.get? it=some o/\o.cls=.type "set_iterator"/\o.data=.fields #[.int slot 0,.int i 0,.ref a,.int n 0,.int ep 0]
noncomputable def SetAt(h:Heap)(a:Addr)(es:Array (Int × Value))(ep:Nat)(t:SetTable):Prop:=∃ o,h.get? a=some o/\o.ExactSet/\o.data=.set es ep t
theorem kD{α:Type}:∀ (l:List α) (k:Nat) (h:k<l.length),(l[k]::l.eraseIdx k).Perm l
 | x::l,0,_=>.refl _
 | x::l,k+1,h=>by
  rw [List.eraseIdx_cons_succ,List.getElem_cons_succ]
  exact (List.Perm.swap x _ _).trans (List.Perm.cons x (kD l k (Qw h)))
theorem zeB{α:Type}(next:Nat->Nat):∀ (fuel k:Nat) (left:List α) (out:Array α),left.length=fuel->(pickOrder.go next fuel k left out).toList.Perm (out.toList++left)
 | 0,k,left,out,h=>by
  rw [KY.mp h,Kk]
  exact .refl _
 | fuel+1,k,left,out,h=>by
  have hlt:next k % left.length<left.length:=Qt _ [8]
  unfold pickOrder.go
  rw [Jd hlt]
  dsimp only
  refine (zeB next fuel (k+1) _ _ (by rw [List.length_eraseIdx_of_lt hlt];omega)).trans ?_
  rw [KI,JC]
  refine QA _ ?_
  rw [List.singleton_append]
  exact kD _ _ hlt
theorem zfy{α:Type}(next:Nat->Nat)(xs:Array α):(pickOrder next xs).toList.Perm xs.toList:=by
 have:=zeB next xs.size 0 xs.toList #[] (by rw [Jk])
 simpa [pickOrder] using this
section
variable {prog:Program} {w:World} {A:Around} {E:Value->Shared->Prop} {s:Shared} {a:Addr} {es:Array (Int × Value)} {ep:Nat} {t:SetTable}
noncomputable def xO(w:World)(a:Addr)(es:Array (Int × Value))(ep:Nat):Array (Int × Value):=if w.params.followText "set-order"=true then pickOrder (w.params.setOrder a ep) es else es
theorem its_perm:(xO w a es ep).toList.Perm es.toList:=by
 unfold xO
 split
 ·exact zfy _ _
 ·exact .refl _
theorem wR:(xO w a es ep).size=es.size:=by
 have:=(its_perm (w:=w) (a:=a) (es:=es) (ep:=ep)).length_eq
 rw [Jk,Jk] at this
 exact this
noncomputable def zn(w:World)(t:SetTable):Nat->Nat
 | 0=>0
 | i+1=>if w.params.followText "set-order"=true then 0 else t.place.getD i 0+1
theorem zeh{n:Nat}{led:Bool}(g:Tab.Good t n led)(hw:¬ w.params.followText "set-order"=true){i:Nat}(hi:i≤n):SetTable.below t.place (zn w t i)=i:=by
 obtain ⟨b1,b2,b3⟩:=Tab.below_ok g.rise (zn w t i)
 have hsz:=g.size
 cases i with
 | zero=>
  refine Nat.le_zero.mp (QB fun h=>?_)
  have h0:0<t.place.size:=by omega
  have:=b2 0 _ h (getElem?_pos t.place 0 h0)
  exact Qg _ this
 | succ i=>
  have e:zn w t (i+1)=t.place.getD i 0+1:=if_neg hw
  have hi':i<t.place.size:=by omega
  have eg:t.place.getD i 0=t.place[i]:=by simp [Array.getD,hi']
  rw [e,eg] at b1 b2 b3 ⊢
  generalize hb:SetTable.below t.place (t.place[i]+1)=b at b1 b2 b3 ⊢
  have h1:i<b:=Nat.lt_of_not_le fun h=>by
   have:=b3 i _ h (getElem?_pos t.place i hi')
   omega
  refine Nat.le_antisymm (QB fun h=>?_) h1
  have hi2:i+1<t.place.size:=by omega
  have h2:=b2 (i+1) _ h (getElem?_pos t.place (i+1) hi2)
  have h3:=Jy.mp g.rise i (i+1) (by rw [Jk];exact hi') (by rw [Jk];exact hi2) (QE i)
  rw [KU,KU] at h3
  omega
theorem zcD{led:Bool}{Q:Option (Value × Nat)->Shared->Prop}(hl:led=!w.params.followText "set-order")(hA:SetAt s.heap a es ep t)(g:Tab.Good t es.size led){i:Nat}(hi:i≤es.size)
  (h:Q ((xO w a es ep)[i]?.map fun e=>(e.2,zn w t (i+1))) s):wpAny [11] A (setNext a (zn w t i) i ep) Q E s:=by
 obtain ⟨o,ho,hex,hd⟩:=hA
 unfold setNext
 refine wpAny_bind (wpAny_setState_of ho hd g.fits ?_)
 dsimp only
 unfold setsByText
 refine wpAny_bind (wpAny_bind (wpAny_askSetting [19]))
 show wpAny _ _ (if w.params.followText "set-order"=true then _ else _) _ _ _
 by_cases hw:w.params.followText "set-order"=true
 ·rw [if_pos hw]
  rw [if_neg [12]]
  unfold setWalk
  refine wpAny_bind (wpAny_bind (wpAny_setState_of ho hd g.fits ?_))
  dsimp only
  unfold setsByText
  refine wpAny_bind (wpAny_bind (wpAny_askSetting [19]))
  show wpAny _ _ (if w.params.followText "set-order"=true then _ else _) _ _ _
  rw [if_pos hw]
  refine wpAny_bind (wpAny_askSetting (wpAny_pure [19]))
  have e1:xO w a es ep=pickOrder (w.params.setOrder a ep) es:=if_pos hw
  have e2:zn w t i=zn w t (i+1):=by
   have e3:∀ j,zn w t (j+1)=0:=fun j=>if_pos hw
   cases i with
   | zero=>rw [e3];rfl
   | succ i=>rw [e3,e3]
  rw [e1,← e2] at h
  exact h
 ·rw [if_neg hw]
  have hp:=g.plain
  have hled:t.led=true:=by rw [g.led,hl,Bool.eq_false_iff.mpr hw];rfl
  refine wpAny_ite_split (fun hc=>?_) (fun _=>?_)
  ·have:(!t.plain && decide (es.size > 1))=true:=hc
   rw [hp] at this
   cases this
  ·refine wpAny_bind ?_
   show wpAny _ _ (if (!t.led && !es.isEmpty)=true then unsupported "set:maker-not-led" else pure ()) _ _ _
   rw [hled]
   refine wpAny_pure [19]
   have e1:xO w a es ep=es:=if_neg hw
   rw [e1] at h
   rw [zeh g hw hi]
   by_cases hlt:i<es.size
   ·have hlt':i<t.place.size:=by rw [g.size];exact hlt
    have e2:zn w t (i+1)=t.place[i]+1:=by
     refine (if_neg hw).trans ?_
     simp [Array.getD,hlt']
    rw [e2] at h
    rw [getElem?_pos es i hlt] at h ⊢
    rw [getElem?_pos t.place i hlt']
    exact h
   ·rw [getElem?_neg es i hlt] at h ⊢
    exact h
theorem IsSI.typeIs{it:Addr}{slot i n:Nat}(x:IsSI s.heap it a slot i n ep):s.TypeIs [84] "set_iterator":=let ⟨o,ho,hc,_⟩:=x;⟨o,ho,hc⟩
theorem zhF{led:Bool}{Q:Value->Shared->Prop}(hl:led=!w.params.followText "set-order")(hA:SetAt s.heap a es ep t)(g:Tab.Good t es.size led)
  (hQ:Q [38] { s with heap:=s.heap.push { cls:=.type "set_iterator",data:=.fields #[.int 0 0,.int 0 0,.ref a,.int es.size 0,.int ep 0] } }):
  wpAny [11] A (pyIter [67]) Q E s:=by
 obtain ⟨o,ho,hex,hd⟩:=id hA
 have hT:s.TypeIs [67] "set":=⟨o,ho,hex.1⟩
 refine wpAny_pyIter_slot hT ye (wpAny_call_entry ye hT wV ?_ (vA _))
 unfold Builtin.«frozenset.__iter__» Builtin.Frozenset.slot0 slotArgs
 simp only [List.isEmpty_nil,Bool.not_true,Bool.false_eq_true,↓reduceIte,bind_assoc,List.length_nil,bne_self_eq_false]
 unfold Builtin.Frozenset.addrOf Builtin.Frozenset.sizeOf setEntries setDrawn setsByText
 refine wpAny_bind [19]
 refine wpAny_bind [19]
 refine wpAny_bind (wpAny_bind (wpAny_bind (wpAny_setState_of ho hd g.fits (wpAny_pure [19]))))
 refine wpAny_bind (wpAny_bind (wpAny_setState_of ho hd g.fits ?_))
 dsimp only
 refine wpAny_bind (wpAny_bind (wpAny_askSetting (wpAny_pure [19])))
 refine wpAny_ite_split (fun hc=>?_) (fun _=>?_)
 ·have h2:=(QC.mp hc).2
  have h3:(!t.plain && decide (es.size > 1))=true:=h2
  rw [g.plain] at h3
  cases h3
 ·refine wpAny_bind [19]
  refine wpAny_bind (wpAny_setEpoch_of ho hd g.fits ?_)
  refine wpAny_bind [61]
  exact hQ
theorem zcl{it:Addr}{slot i n:Nat}{Q:Value->Shared->Prop}(hit:IsSI s.heap it a slot i n ep)(h:Q [84] s):wpAny [11] A (pyIter [84]) Q E s:=by
 refine wpAny_pyIter_slot hit.typeIs wA (wpAny_call_entry wA hit.typeIs ul ?_ (jf _))
 show wpAny _ _ (ret [84]) _ _ s
 exact wpAny_pure ⟨_,rfl,"set_iterator",_,hit.typeIs,slot_si_next.lookup,h⟩
theorem zhH{it:Addr}{i:Nat}{led:Bool}{Q:Option Value->Shared->Prop}(hl:led=!w.params.followText "set-order")(hit:IsSI s.heap it a (zn w t i) i es.size ep)(hA:SetAt s.heap a es ep t)(g:Tab.Good t es.size led){x:Int × Value}(hx:(xO w a es ep)[i]?=some x)
  (hQ:∀ h',IsSI h' it a (zn w t (i+1)) (i+1) es.size ep->Heap.SameBut it s.heap h'->Q (some x.2) { s with heap:=h' }):wpAny [11] A (pyNext [84]) Q E s:=by
 obtain ⟨o,ho,hc,hd⟩:=id hit
 obtain ⟨oa,hoa,hexa,hda⟩:=id hA
 have hlt:i<es.size:=by
  rw [← wR (w:=w) (a:=a) (ep:=ep)]
  exact (JG.mp hx).1
 unfold pyNext
 refine wpAny_bind (wpAny_attempt (wpAny_callSpecial?_slot (name:=Str.ofString "__next__") hit.typeIs slot_si_next
  (wpAny_call_entry slot_si_next hit.typeIs yf ?_ (yv _))))
 unfold Builtin.«set_iterator.__next__»
 refine wpAny_bind [19]
 refine wpAny_bind (wpAny_fieldsOf ho hd ?_)
 dsimp only
 unfold setEntries
 refine wpAny_bind (wpAny_bind (wpAny_setState_of hoa hda g.fits [19]))
 refine wpAny_ite_split (fun hcc=>?_) (fun _=>?_)
 ·simp at hcc
 ·simp only [Int.toNat_natCast]
  refine wpAny_bind (zcD hl hA g (Nat.le_of_lt hlt) ?_)
  rw [hx]
  show wpAny _ _ (setField [84] 0 (rawInt (zn w t (i+1):Nat)) >>= _) _ _ _
  refine wpAny_bind (wpAny_setField ho hd [12] ?_)
  have ho1:=JX (Obj.mapFields [55]) ho (KQ (Kt hd _))
  have hd1:=Kt hd [55]
  refine wpAny_bind (wpAny_setField (s:={ s with heap:=s.heap.update it (Obj.mapFields [55]) }) ho1 hd1 [12] ?_)
  have ho2:=JX (Obj.mapFields (·.setIfInBounds 1 (rawInt ((i:Int)+1)))) ho1 (KQ (Kt hd1 _))
  refine wpAny_pure ⟨_,rfl,wpAny_pure [80]⟩
theorem zjY{it:Addr}{i:Nat}{led:Bool}{Q:Option Value->Shared->Prop}(hh:A.handled=none)(hl:led=!w.params.followText "set-order")(hit:IsSI s.heap it a (zn w t i) i es.size ep)(hA:SetAt s.heap a es ep t)(g:Tab.Good t es.size led)(hi:i=es.size)
  (hQ:∀ h',Heap.ExtBut it s.heap h'->Q none { s with heap:=h' }):wpAny [11] A (pyNext [84]) Q E s:=by
 obtain ⟨o,ho,hc,hd⟩:=id hit
 obtain ⟨oa,hoa,hexa,hda⟩:=id hA
 unfold pyNext
 refine wpAny_bind (wpAny_attempt (wpAny_callSpecial?_slot (name:=Str.ofString "__next__") hit.typeIs slot_si_next
  (wpAny_call_entry slot_si_next hit.typeIs yf ?_ (yv _))))
 unfold Builtin.«set_iterator.__next__»
 refine wpAny_bind [19]
 refine wpAny_bind (wpAny_fieldsOf ho hd ?_)
 dsimp only
 unfold setEntries
 refine wpAny_bind (wpAny_bind (wpAny_setState_of hoa hda g.fits [19]))
 refine wpAny_ite_split (fun hcc=>?_) (fun _=>?_)
 ·simp at hcc
 ·simp only [Int.toNat_natCast]
  refine wpAny_bind (zcD hl hA g (Nat.le_of_eq hi) ?_)
  rw [getElem?_neg _ i (by rw [wR];omega)]
  show wpAny _ _ (setField [84] 2 .none >>= _) _ _ _
  refine wpAny_bind (wpAny_setField ho hd [12] ?_)
  show wpAny _ _ (newExc (.type "StopIteration") [] >>= _) _ _ _
  refine wpAny_bind ?_
  simp only [newExc,newTuple]
  refine wpAny_bind (wpAny_newObj_type ?_ (by size_fits))
  refine wpAny_bind (m:=firstArgMember _ _) [50]
  refine wpAny_newObj_type ?_ (by size_fits)
  simp only [raiseNew]
  refine wpAny_bind (wpAny_handled ?_)
  rw [show A.in1.handled=none from hh]
  refine wpAny_bind (wpAny_pure (wpAny_throw ?_))
  refine wpAny_bind [89]
  exact wpAny_pure (hQ _ (((KKq ..).extBut.push _).push _))
theorem SetAt.at{h h':Heap}(x:SetAt h a es ep t)(e:∀ o,h.get? a=some o->h'.get? a=some o):SetAt h' a es ep t:=let ⟨o,ho,r⟩:=x;⟨o,e _ ho,r⟩
theorem IsSI.at{h h':Heap}{it:Addr}{slot i n:Nat}(x:IsSI h it a slot i n ep)(e:∀ o,h.get? it=some o->h'.get? it=some o):IsSI h' it a slot i n ep:=let ⟨o,ho,r⟩:=x;⟨o,e _ ho,r⟩
theorem zfh{led:Bool}(hh:A.handled=none)(hl:led=!w.params.followText "set-order")(g:Tab.Good t es.size led)(I:Addr)(hne:a≠I):
  PySem.Walks prog w A I [I,a] [I] es.size (fun i v=>∃ x,(xO w a es ep)[i]?=some x/\v=x.2) (fun i h=>IsSI h I a (zn w t i) i es.size ep/\SetAt h a es ep t) where
 sub:=fun b hb=>by simp at hb;simp [hb]
 frame:=fun _ _ _ st hk=>⟨st.1.at fun o e=>hk I [12] o e,st.2.at fun o e=>hk a [12] o e⟩
 item:=fun i s Q E hi st hQ=>by
  have hi':i<(xO w a es ep).size:=by rw [wR];exact hi
  refine zhH hl st.1 st.2 g (getElem?_pos _ i hi') fun h' hit' hs'=>?_
  exact hQ _ h' s.toks ⟨_,getElem?_pos _ i hi',rfl⟩ ⟨hit',st.2.at fun o e=>by rw [hs'.2 a hne];exact e⟩ fun b o hb e=>hs'.extBut b o (fun h=>hb (by simp [h])) e
 done:=fun s Q E st hQ=>zjY hh hl st.1 st.2 g rfl fun h' he'=>hQ h' s.toks fun b o hb e=>he' b o (fun h=>hb (by simp [h])) e
 self:=fun _ _ _ _ st hQ=>zcl st.1 hQ
theorem ql{Q:Bool->Shared->Prop}{r:Addr}(hT:s.TypeIs (.ref r) "set")(h:Q false s):wpAny [11] A (Builtin.List.listLengthHint (.ref r)) Q E s:=by
 unfold Builtin.List.listLengthHint
 refine wpAny_bind (wpAny_specialOf hT PySem.F.slot_set_len.lookup ?_)
 generalize hid:("set.__len__":String)=id0
 wp_delta
 rw [show splitId id0=some ("set","__len__") from by subst hid;decide +kernel]
 subst hid
 refine wpAny_bind (wpAny_isInstance (T:="set") (b:=true) hT (by rw [isSubtype_type];kernel_rfl) ?_)
 refine wpAny_ite_split (fun hab=>absurd hab [9]) (fun _=>?_)
 refine wpAny_ite_split (fun _=>?_) (fun hab=>absurd [25] hab)
 refine wpAny_bind (wpAny_typeOf hT ?_)
 exact wpAny_pure h
theorem ziK{led:Bool}(hl:led=!w.params.followText "set-order")(g:Tab.Good t es.size led):KdlSrc prog w "set" a a es.size (fun i v=>∃ x,(xO w a es ep)[i]?=some x/\v=x.2) (fun h=>SetAt h a es ep t) where
 type:=fun _ ⟨o,ho,hex,_⟩=>⟨o,ho,hex.1⟩
 there:=fun _ ⟨o,ho,_⟩=>⟨Ji ho,Ji ho⟩
 keep:=fun _ _ hm hk=>hm.at fun o e=>hk a [76] o e
 notList:=by decide
 notTuple:=by decide
 hint:=fun _ _ _ _ ⟨o,ho,hex,_⟩ hq=>ql ⟨o,ho,hex.1⟩ hq
 iter:=fun _ s hh hm=>⟨_,_,(fun _ _ hq=>zhF hl hm g hq),zfh hh hl g _ (Jw (let ⟨o,ho,_⟩:=hm;Ji ho)),⟨⟨_,Jl _ rfl,rfl,rfl⟩,hm.at fun o e=>Jb _ e⟩⟩
end
end F
namespace L2
open PySem PySem.Spec PyProof.Rows F
end L2
namespace F
open PySem PySem.Spec PyProof.Rows L2
end F
namespace L2
open PySem PySem.Spec PyProof.Rows PySem.W
end L2
namespace F
open PySem PySem.Spec PyProof.Rows L2
end F
namespace HT
open PySem PySem.Spec PyProof.Rows
end HT
namespace L2
open PySem PySem.Spec PyProof.Rows
end L2
namespace F
open PySem PySem.Spec PyProof.Rows L2
section
variable {X:Cx} {κ:Nat->Option Nat} {G:Hp} {O:List Nat} {st:Stmt} {es:List Expr} {pos:Pos}
noncomputable def zos(O':List Nat)(own:Addr->Option Nat):Addr->Option Nat:=fun a=>(own a).bind fun l=>if l ∈ O' then some l else none
end
end F
namespace F
open PySem PySem.Spec PyProof.Rows L2 PySem.W
inductive Df (K:PySem.W.Frag) (x:Str) (st:Stmt):Prop
 | mk {f:Addr} {oc:Value} {od:Option Addr} {kV dc pm:Value} {an:Option Addr} {cd ct:Value} {sl:Array (Option Value)} (a:nsIn K mainGlobals x=some (some (.ref f))) (l:K.lookup f=some ⟨oc,od,.func (fnOf x x (vo st) (wD st) (zM st) .none kV dc pm an cd ct),sl⟩) (c:codeIn K cd x=true) (k:keepIn K (.ref f)=true):Df K x st
theorem Df.fn{P:Program}{w:World}{K:PySem.W.Frag}{h:Heap}{mg:Str->Option Value}{base:Heap}{x:Str}{st:Stmt}{k:Nat}{ps:List Str}{sp:Sp}(d:Df K x st)(X:K.In h)(G:h.Ns mainGlobals mg)(ok:∀ f fd,Fun K x x st f fd->FnOk P w K mg base CX0 k f fd ps sp)
  (hb:∀ (kV doc pm:Value) (an:Option Addr) (cdv ct:Value) (us:List Value),us.length=ps.length->bindArgs (PySem.W.fnOf x x (vo st) (wD st) (zM st) .none kV doc pm an cdv ct) ⟨us,[]⟩=pure (ps.zip us)):Fn P w K mg base x k ps sp:=by
 obtain ⟨a,l,c,k⟩:=d
 have F:=zhP (st:=st) l c k
 exact ⟨_,_,ok _ _ F,mg_of X G a,k,F.binds hb⟩
end F
namespace L2
open PySem PySem.Spec PyProof.Rows
end L2
namespace F
open PySem PySem.Spec PyProof.Rows L2
end F
namespace F
open PySem PySem.W PyProof.Rows
section
variable {O:KeyOrd} {key:Nat->O.α} {n:Nat} {α β:Type}
noncomputable def Ans(key:Nat->O.α)(n:Nat):KasT α->(α->Prop)->Prop
 | .ret a,P=>P a
 | .ask i j k,P=>(i<n/\j<n/\i≠j)/\Ans key n (k (O.blt (key i) (key j))) P
noncomputable def Kp(key:Nat->O.α)(p:Array Nat)(i:Nat):O.α:=key (p.getD i 0)
noncomputable def Up(key:Nat->O.α)(p:Array Nat)(k:Nat):Prop:=∀ i j,i≤j->j<k->O.kle (Kp key p i) (Kp key p j)
noncomputable def Dn(key:Nat->O.α)(p:Array Nat)(k:Nat):Prop:=∀ i j,i≤j->j<k->O.kle (Kp key p j) (Kp key p i)
structure Pm (n:Nat) (p:Array Nat):Prop where
 sz:p.size=n
 pm:p.toList.Perm (List.range n)
theorem Up.one{p:Array Nat}:Up key p 1:=fun i j h1 h2=>by
 obtain rfl:i=j:=by omega
 exact Kl _
theorem Up.more{p:Array Nat}{k:Nat}(h:Up key p k)(h0:1≤k)(hl:O.kle (Kp key p (k - 1)) (Kp key p k)):Up key p (k+1):=fun i j h1 h2=>by
 rcases Nat.lt_or_ge j k with c | c
 ·exact h i j h1 c
 ·obtain rfl:j=k:=by omega
  rcases Nat.lt_or_ge i j with d | d
  ·exact JP (h i (j - 1) [8] [8]) hl
  ·obtain rfl:i=j:=by omega
   exact Kl _
theorem Dn.more{p:Array Nat}{k:Nat}(h:Dn key p k)(h0:1≤k)(hl:O.kle (Kp key p k) (Kp key p (k - 1))):Dn key p (k+1):=fun i j h1 h2=>by
 rcases Nat.lt_or_ge j k with c | c
 ·exact h i j h1 c
 ·obtain rfl:j=k:=by omega
  rcases Nat.lt_or_ge i j with d | d
  ·exact JP hl (h i (j - 1) [8] [8])
  ·obtain rfl:i=j:=by omega
   exact Kl _
structure Fall (key:Nat->O.α) (n r:Nat) (x:Array Nat × Nat × Nat):Prop where
 pm:Pm n x.1
 lo:1≤x.2.1
 hi:x.2.1≤r
 dn:Dn key x.1 x.2.1
 q:x.2.2+1≤x.2.1
 eq:∀ i,x.2.1 - (x.2.2+1)≤i->i<x.2.1->Kp key x.1 i=Kp key x.1 (x.2.1 - 1)
theorem Fall.zero{p:Array Nat}{m r:Nat}(hp:Pm n p)(h1:1≤m)(hm:m≤r)(d:Dn key p m):Fall key n r (p,m,0):=
 ⟨hp,h1,hm,d,h1,fun i a b=>by
  have a':m - 1≤i:=a
  have b':i<m:=b
  obtain rfl:i=m - 1:=by omega
  rfl⟩
end
end F
namespace HT
open PySem PySem.Spec PyProof.Rows
open PySem.AutoSeq1 (wpAny_loadPart')
open PySem.MeetsSeq PySem.MeetsSeq2 PySem.MeetsSeq3
end HT
namespace F
open PySem PySem.Spec PySem.W PyProof.Rows
structure Heads (h:Heap) (a:Addr) (vs:List Value) (hs:List Int):Prop where
 len:vs.length=hs.length
 at':∀ i,i<vs.length->∃ l items t m,vs.getD i Value.none=.ref l/\l≠a/\h.get? l=some { cls:=.type "list",dict:=none,data:=.seq items m,slots:=#[] }/\items[0]?=some (.int (hs.getD i 0) t)
 nd:hs.Nodup
end F
namespace L2
open PySem PySem.Spec PySem.W PyProof.Rows
structure HeadsV (H:Hp) (xs:List V) (hs:List Int):Prop where
 len:xs.length=hs.length
 at':∀ i,i<xs.length->∃ l r,xs[i]?=some (.ref l)/\H l=some (.lst (.int (hs.getD i 0)::r))
 nd:hs.Nodup
theorem jl{qs:List V}{its:List Value}(r:Vals qs its):∀ o:List Nat,(∀ i ∈ o,i<qs.length)->Vals (o.map fun i=>qs.getD i V.non) (o.map fun i=>its.getD i Value.none)
 | [],_=>.nil
 | i::o,h=>by
  have hi:i<qs.length:=h i Jg
  obtain ⟨u,e,ru⟩:=r.get (Jd hi)
  refine .cons ?_ (jl r o fun j hj=>h j (Jf _ hj))
  show RelV (qs.getD i V.non) (its.getD i Value.none)
  rw [Kh,Kh,e,Jd hi]
  exact ru
end L2
namespace F
open PySem PySem.Spec PyProof.Rows L2
theorem qH{K:PySem.W.Frag}{H:Hp}{qs:List PV}{xs:List V}{B:List Addr}(r:Rps K H qs xs B):∀ o:List Nat,(∀ i ∈ o,i<qs.length)->∃ C,Rps K H (o.map fun i=>qs.getD i PV.non) (o.map fun i=>xs.getD i V.non) C/\∀ a ∈ C,a ∈ B
 | [],_=>⟨[],.nil,fun _ h=>nomatch h⟩
 | i::o,h=>by
  have hi:i<qs.length:=h i Jg
  obtain ⟨v,C,e,rv,sub⟩:=r.get (Jd hi)
  obtain ⟨D,rD,hD⟩:=qH r o fun j hj=>h j (Jf _ hj)
  refine ⟨C++D,.cons ?_ rD,fun a ha=>(JQ.mp ha).elim (fun z=>sub.subset z) (hD a)⟩
  show Rp K H (qs.getD i PV.non) (xs.getD i V.non) C
  rw [Kh,Kh,e,Jd hi]
  exact rv
end F
namespace HT
open PySem PySem.Spec PySem.W PyProof.Rows
open PySem.AutoSeq1 (wpAny_loadPart')
end HT
namespace L2
open PySem PySem.Spec PySem.W PyProof.Rows
end L2
namespace F
open PySem PySem.Spec PyProof.Rows L2
end F
namespace L2
open PySem PySem.Spec PySem.W PyProof.Rows
end L2
namespace F
open PySem PySem.Spec PyProof.Rows L2
end F
namespace F
open PySem PySem.Spec PyProof.Rows
namespace Tab
noncomputable def adv(t:SetTable):Nat->SetTable.Probe->SetTable.Probe
 | 0,P=>P
 | n+1,P=>adv t n (t.advance P)
noncomputable def In(t:SetTable)(P:SetTable.Probe):Prop:=P.j+P.more≤t.mask/\P.dummy=none
theorem In.next{t:SetTable}{P:SetTable.Probe}(h:In t P):In t (t.advance P):=by
 unfold SetTable.advance
 split
 ·rename_i hm
  exact ⟨by show P.j+1+(P.more - 1)≤t.mask;have:=h.1;omega,h.2⟩
 ·have hi:[43].1≤t.mask:=Kb (Qt _ (KM _))
  have hr:=vC hi
  exact ⟨by show [43].1+(SetTable.runEnd t.mask [43].1 - [43].1)≤t.mask;omega,h.2⟩
theorem In.start(t:SetTable)(h:Int):In t (t.probeStart h):=by
 have hi:SetTable.bits h % (t.mask+1)≤t.mask:=Kb (Qt _ (KM _))
 have hr:=vC hi
 exact ⟨by show SetTable.bits h % (t.mask+1)+(SetTable.runEnd t.mask (SetTable.bits h % (t.mask+1)) - SetTable.bits h % (t.mask+1))≤t.mask;omega,rfl⟩
section
variable {t:SetTable} {h:Int}
theorem zeE{hashAt:Nat->Int}(hd:t.dummies=#[]):∀ (fuel:Nat) (P:SetTable.Probe) {j:Nat} {d:Option Nat},SetTable.probe.go t hashAt h fuel P=some (.empty j d)->∃ m,m<fuel/\t.slot (adv t m P).j=.empty
 | 0,P,j,d,e=>nomatch e
 | f+1,P,j,d,e=>by
  rw [ki] at e
  cases hs:t.slot P.j with
  | empty=>exact ⟨0,KM _,hs⟩
  | dummy=>exact absurd hs (vR hd _)
  | live i=>
   rw [hs] at e
   dsimp only at e
   split at e
   ·cases e
   ·obtain ⟨m,h1,h2⟩:=zeE hd f _ e
    exact ⟨m+1,Nat.succ_lt_succ h1,h2⟩
theorem zjw{n:Nat}{led:Bool}(g:Good t n led)(h:Int):∃ m,m<10 * SetTable.turns t.mask/\t.slot (adv t m (t.probeStart h)).j=.empty:=by
 obtain ⟨j0,h0,h1⟩:=znM t.mask t.place.toList g.rise (by rw [Jk,g.size];exact g.room)
 have hi:SetTable.bits h % (t.mask+1)≤t.mask:=Kb (Qt _ (KM _))
 obtain ⟨m,hm,e⟩:=g.full.leaps (j:=j0) hi (zeY h) h0
 obtain ⟨j,e1,e2,e3⟩:=zgV (t:=t) (hashAt:=fun _=>h+1) (h:=h) g.dm (fun _=>beq_eq_false_iff_ne.mpr [8]) (zdu g.dm h1) m (10 * SetTable.turns t.mask) (t.probeStart h) rfl rfl hi [8] e
 exact zeE g.dm _ _ e1
inductive Meet (t:SetTable) (m:Nat) (P:SetTable.Probe):Option SetTable.Met->Prop
 | empty (j:Nat):t.slot j=.empty->j≤t.mask->Meet t m P (some (.empty j none))
 | cand (j i k:Nat) (next:SetTable.Probe):t.slot j=.live i->k<m->In t next->t.slot (adv t k next).j=.empty->Meet t m P (some (.candidate j i next))
theorem zeO{hashAt:Nat->Int}(hd:t.dummies=#[]):∀ (m fuel:Nat) (P:SetTable.Probe),m<fuel->In t P->t.slot (adv t m P).j=.empty->Meet t m P (SetTable.probe.go t hashAt h fuel P)
 | m,0,P,hf,_,_=>absurd hf (Qg _)
 | m,f+1,P,hf,hi,hm=>by
  rw [ki]
  cases hs:t.slot P.j with
  | empty=>
   dsimp only
   rw [hi.2]
   exact .empty P.j hs (by have:=hi.1;omega)
  | dummy=>exact absurd hs (vR hd _)
  | live i=>
   dsimp only
   cases m with
   | zero=>
    have:t.slot P.j=.empty:=hm
    rw [hs] at this;cases this
   | succ m=>
    split
    ·exact .cand P.j i m _ hs (QE _) hi.next hm
    ·have:=zeO (hashAt:=hashAt) hd m f (t.advance P) (Qw hf) hi.next hm
     generalize SetTable.probe.go t hashAt h f (t.advance P)=r at this
     cases this with
     | empty j h1 h2=>exact .empty j h1 h2
     | cand j i k next h1 h2 h3 h4=>exact .cand j i k next h1 [8] h3 h4
theorem probe_meet{hashAt:Nat->Int}{m:Nat}{P:SetTable.Probe}{r:Option SetTable.Met}(hd:t.dummies=#[])(e:t.probe hashAt h P=r)(hm:m<10 * SetTable.turns t.mask)(hi:In t P)(hs:t.slot (adv t m P).j=.empty):Meet t m P r:=by
 rw [← e]
 exact zeO hd m _ P hm hi hs
theorem probe_some{hashAt:Nat->Int}{m:Nat}{P:SetTable.Probe}(hd:t.dummies=#[])(hm:m<10 * SetTable.turns t.mask)(hi:In t P)(hs:t.slot (adv t m P).j=.empty):∃ met,t.probe hashAt h P=some met:=by
 have:=probe_meet (h:=h) (hashAt:=hashAt) hd rfl hm hi hs
 generalize t.probe hashAt h P=r at this
 cases this with
 | empty j h1 h2=>exact ⟨_,rfl⟩
 | cand j i k next h1 h2 h3 h4=>exact ⟨_,rfl⟩
theorem zfs{j i:Nat}{n:Nat}{led:Bool}(g:Good t n led)(h:t.slot j=.live i):i<n:=by
 unfold SetTable.slot at h
 dsimp only at h
 split at h
 ·rename_i hc
  cases h
  have e:=beq_iff_eq.mp hc
  obtain ⟨h1,_⟩:=JG.mp e
  rw [← g.size];exact h1
 ·split at h<;>cases h
end
end Tab
noncomputable def ElT(prog:Program)(w:World)(h:Heap)(e:Int × Value):Prop:=∃ b k,e.2=.ref b/\IsTupleKey (intKind prog w) h k b/\e.1=tupleKeyHash (intKind prog w) k
structure SetTt (prog:Program) (w:World) (h:Heap) (es:Array (Int × Value)) (t:SetTable) (L:List Value) (led:Bool):Prop where
 el:∀ e ∈ es.toList,ElT prog w h e
 perm:(es.toList.map (·.2)).Perm L
 good:Tab.Good t es.size led
 mask:t.mask=7∨t.mask=31∨t.mask=127
 nf:es.size * 5<t.mask * 3
noncomputable def zoB(prog:Program)(w:World)(h:Heap)(a:Addr)(L:List Value)(led:Bool):Prop:=∃ o es ep t,h.get? a=some o/\o.ExactSet/\o.data=.set es ep t/\SetTt prog w h es t L led
section
variable {prog:Program} {w:World} {A:Around} {E:Value->Shared->Prop} {s:Shared}
structure Tups (prog:Program) (w:World) (h0:Heap) (n:Nat) (ad:Nat->Addr) (key:Nat->List Int) (wr:List Addr):Prop where
 at':∀ i,i<n->IsTupleKey (intKind prog w) h0 (key i) (ad i)
 out:∀ i,i<n->ad i ∉ wr
 ne:∀ i j,i<j->j<n->key i≠key j
noncomputable def tl(ad:Nat->Addr)(n:Nat):List Value:=(List.range n).map fun j=>.ref (ad j)
end
end F
namespace F
open PySem PySem.Spec PySem.W PyProof.Rows
noncomputable def plt(a b:Int × Int):Prop:=a.1<b.1∨a.1=b.1/\a.2<b.2
instance (a b:Int × Int):Decidable (plt a b):=by unfold plt;infer_instance
structure PairsAt (h:Heap) (a:Addr) (vs:List Value) (ks:List (Int × Int)):Prop where
 len:vs.length=ks.length
 at':∀ i,i<vs.length->∃ l o items m t u,vs.getD i Value.none=.ref l/\l≠a/\h.get? l=some o/\o.cls=.type "tuple"/\o.data=.seq items m/\items.toList=[.int (ks.getD i (0,0)).1 t,.int (ks.getD i (0,0)).2 u]
 nd:ks.Nodup
end F
namespace F
theorem jL{α:Type}(d:α)(ks:List α):(List.range ks.length).map (ks.getD · d)=ks:=by
 apply List.ext_getElem
 ·simp
 ·intro i h1 h2
  simp [List.getD,h2]
end F
namespace L2
open PySem PySem.Spec PySem.W PyProof.Rows F
theorem zeu:∀ {xs:List V} {its:List Value},Vals xs its->∀ i,i<xs.length->RelV (xs.getD i .non) (its.getD i Value.none)
 | _,_,.nil,i,h=>absurd h (Qg _)
 | _::_,_::_,.cons r _,0,_=>r
 | _::xs,_::us,.cons _ t,i+1,h=>zeu (xs:=xs) (its:=us) t i (Qw h)
noncomputable def adV(xs:List V)(i:Nat):Addr:=match xs.getD i .non with | .ref a=>a | _=>0
end L2
namespace F
open PySem PySem.Spec PyProof.Rows L2
namespace Tab
noncomputable def GoodN(t:SetTable)(n:Nat)(led:Bool):Prop:=Good { t with plain:=true } n led
section
variable {t:SetTable} {n:Nat} {led:Bool}
theorem GoodN.fits(g:GoodN t n led):t.fits n=true:=Good.fits (t:={ t with plain:=true }) g
theorem GoodN.dm(g:GoodN t n led):t.dummies=#[]:=Good.dm (t:={ t with plain:=true }) g
theorem GoodN.ledd{l:Bool}(g:GoodN t n l):t.led=l:=Good.led (t:={ t with plain:=true }) g
theorem GoodN.size(g:GoodN t n led):t.place.size=n:=Good.size (t:={ t with plain:=true }) g
theorem GoodN.live{j i:Nat}(g:GoodN t n led)(h:t.slot j=.live i):i<n:=zfs (t:={ t with plain:=true }) g h
theorem zaY:∀ (m:Nat) (P:SetTable.Probe),adv { t with plain:=true } m P=adv t m P
 | 0,P=>rfl
 | m+1,P=>zaY m (t.advance P)
theorem GoodN.near(g:GoodN t n led)(h:Int):∃ m,m<10 * SetTable.turns t.mask/\t.slot (adv t m (t.probeStart h)).j=.empty:=by
 obtain ⟨m,h1,h2⟩:=zjw g h
 rw [zaY] at h2
 exact ⟨m,h1,h2⟩
theorem GoodN.put(g:GoodN t n led)(hn:n+1≤t.mask){j:Nat}(hs:t.slot j=.empty)(hj:j≤t.mask):GoodN (t.put j).1 (n+1) led/\(t.put j).1.mask=t.mask:=zkX (t:={ t with plain:=true }) g hn hs hj
theorem laid_any{mask finger moves:Nat}{led plain:Bool}{hashes:Array Int}(F:Full mask)(hn:hashes.size≤mask):∃ t order,SetTable.laid mask finger moves led plain hashes=some (t,order)/\order.toList.Perm (List.range hashes.size)/\GoodN t hashes.size led/\t.mask=mask:=by
 obtain ⟨t,order,h1,h2,h3,h4⟩:=zjF (finger:=finger) (moves:=moves) (led:=led) (plain:=true) F hn rfl
 refine ⟨{ t with plain:=plain },order,?_,h2,?_,h4⟩
 ·unfold SetTable.laid at h1 ⊢
  cases hc:SetTable.layClean mask hashes with
  | none=>rw [hc] at h1;cases h1
  | some owner=>
   rw [hc] at h1
   cases h1
   rfl
 ·have e:t.plain=true:=h3.plain
  unfold GoodN
  have:({ ({ t with plain:=plain }:SetTable) with plain:=true }:SetTable)=t:=by
   cases t;simp only at e;subst e;rfl
  rw [this];exact h3
end
end Tab
noncomputable def ElM(prog:Program)(w:World)(h:Heap)(e:Int × Value):Prop:=∃ b k,e.2=.ref b/\IsTupleKey [39] h k b/\e.1=tupleKeyHash [39] k
noncomputable def NoM(prog:Program)(w:World)(h:Heap)(k:List Key)(v:Value):Prop:=∀ b' k',v=.ref b'->IsTupleKey [39] h k' b'->k'≠k
section
variable {prog:Program} {w:World} {A:Around} {E:Value->Shared->Prop} {s:Shared}
theorem zaE{k:List Key}{vs:List Value}(h:ItemsAre [39] k vs):∀ v ∈ vs,(∃ n t,v=Value.int n t)∨∃ x t,v=Value.str x t:=by
 induction h with
 | nil=>intro v hv;cases hv
 | @cons n v ks vs h1 _ ih=>
  intro u hu
  rcases List.mem_cons.mp hu with rfl | hu
  ·rcases zU h1 with ⟨i,t,_,e⟩ | ⟨y,t,_,e⟩
   ·exact .inl ⟨i,t,e⟩
   ·exact .inr ⟨y,t,e⟩
  ·exact ih u hu
theorem zar{k:List Key}{b:Addr}{Q:Bool->Shared->Prop}(hk:IsTupleKey [39] s.heap k b)(h:∀ c,Q c s):wpAny [11] A (hashByValue 8 (.ref b)) Q E s:=by
 have hT:=hk.typeIs
 obtain ⟨o,items,n,ho,_,hd,hi⟩:=hk
 unfold hashByValue
 refine wpAny_bind (wpAny_specialOf hT PySem.F.slot_tuple_hash.lookup ?_)
 show wpAny _ _ (seqItems? (.ref b) >>= _) _ _ s
 refine wpAny_bind ?_
 unfold seqItems?
 refine wpAny_bind (wpAny_load ho ?_)
 rw [hd]
 refine wpAny_pure ?_
 refine wpAny_bind ?_
 show wpAny _ _ (forIn items _ _) _ _ s
 rw [← Array.forIn_toList]
 refine wpAny_forIn_list _ (fun rest r s'=>r.1=none/\s'=s/\∀ v ∈ rest,(∃ n t,v=Value.int n t)∨∃ x t,v=Value.str x t) _ ?_ ?_ _ _ ⟨rfl,rfl,zaE hi⟩
 ·rintro v rest r s' ⟨hr,rfl,hall⟩
  rcases hall v List.mem_cons_self with ⟨n,t,rfl⟩ | ⟨n,t,rfl⟩
  ·rw [show hashByValue 7 (Value.int n t)=pure true from rfl]
   refine wpAny_bind [19]
   simp only [Bool.not_true,Bool.false_eq_true,if_false]
   exact wpAny_pure ⟨rfl,rfl,fun u hu'=>hall u (Jf _ hu')⟩
  ·rw [show hashByValue 7 (Value.str n t)=pure false from rfl]
   refine wpAny_bind [19]
   simp only [Bool.not_false,if_true]
   exact wpAny_pure (wpAny_pure (h false))
 ·rintro ⟨r1,r2⟩ s' ⟨hr,rfl,_⟩
  simp only at hr
  subst hr
  exact wpAny_pure (h true)
theorem zaD{k:List Key}{b:Addr}{Q:Bool->Shared->Prop}(hk:IsTupleKey [39] s.heap k b)(h:Q false s):wpAny [11] A (ofAClassStatement 8 (.ref b)) Q E s:=by
 have hT:=hk.typeIs
 obtain ⟨o,items,n,ho,_,hd,hi⟩:=hk
 unfold ofAClassStatement
 refine wpAny_bind (wpAny_typeOf hT ?_)
 dsimp only
 rw [if_pos [9]]
 refine wpAny_bind [19]
 simp only [Bool.not_true,Bool.false_eq_true,if_false]
 show wpAny _ _ (seqItems? (.ref b) >>= _) _ _ s
 refine wpAny_bind ?_
 unfold seqItems?
 refine wpAny_bind (wpAny_load ho ?_)
 rw [hd]
 refine wpAny_pure ?_
 dsimp only
 refine wpAny_bind ?_
 show wpAny _ _ (forIn items _ _) _ _ s
 rw [← Array.forIn_toList]
 refine wpAny_forIn_list _ (fun rest r s'=>r.1=none/\s'=s/\∀ v ∈ rest,(∃ n t,v=Value.int n t)∨∃ x t,v=Value.str x t) _ ?_ ?_ _ _ ⟨rfl,rfl,zaE hi⟩
 ·rintro v rest r s' ⟨hr,rfl,hall⟩
  have hv:ofAClassStatement 7 v=pure false:=by rcases hall v List.mem_cons_self with ⟨n,t,rfl⟩ | ⟨n,t,rfl⟩<;>rfl
  rw [hv]
  refine wpAny_bind [19]
  simp only [Bool.false_eq_true,if_false]
  exact wpAny_pure ⟨rfl,rfl,fun u hu'=>hall u (Jf _ hu')⟩
 ·rintro ⟨r1,r2⟩ s' ⟨hr,rfl,_⟩
  simp only at hr
  subst hr
  exact wpAny_pure h
theorem zfH{k:List Key}{b:Addr}{ys:List Value}{Q:Bool->Shared->Prop}(hk:IsTupleKey [39] s.heap k b)(hy:∀ y ∈ ys,∃ b' k',y=.ref b'/\IsTupleKey [39] s.heap k' b')(h:Q false s):wpAny [11] A (searchCouldBeSeen (.ref b) ys) Q E s:=by
 unfold searchCouldBeSeen
 refine wpAny_bind ?_
 refine wpAny_forIn_list _ (fun rest r s'=>r.1=none/\s'=s/\∀ y ∈ rest,∃ b' k',y=.ref b'/\IsTupleKey [39] s.heap k' b') _ ?_ ?_ _ _ ⟨rfl,rfl,hy⟩
 ·rintro y rest r s' ⟨hr,rfl,hall⟩
  obtain ⟨b',k',rfl,hk'⟩:=hall y Jg
  have hn:∀ u ∈ rest,∃ b' k',u=.ref b'/\IsTupleKey [39] s'.heap k' b':=fun u hu=>hall u (Jf _ hu)
  dsimp only
  split
  ·exact wpAny_pure ⟨rfl,rfl,hn⟩
  ·refine wpAny_bind (wpAny_eqIsQuiet_tuple hk ?_)
   simp only [Bool.not_true,Bool.false_eq_true,if_false]
   refine wpAny_bind (wpAny_eqIsQuiet_tuple hk' ?_)
   simp only [Bool.not_true,Bool.false_eq_true,if_false]
   refine wpAny_bind (zaD hk ?_)
   simp only [Bool.false_eq_true,if_false]
   refine wpAny_bind (zaD hk' ?_)
   simp only [Bool.false_eq_true,if_false]
   exact wpAny_pure ⟨rfl,rfl,hn⟩
 ·rintro ⟨r1,r2⟩ s' ⟨hr,rfl,_⟩
  simp only at hr
  subst hr
  exact wpAny_pure h
theorem zfG{t:SetTable}(h:t.mask=7∨t.mask=31∨t.mask=127):t.gaveWay=false:=by
 unfold SetTable.gaveWay
 rcases h with h | h | h<;>(rw [h];rfl)
theorem zdx{a b:Addr}{o:Obj}{es:Array (Int × Value)}{ep:Nat}{t:SetTable}{led:Bool}{k:List Key}{Q:SetFound->Shared->Prop}{hh:Int}(ho:s.heap.get? a=some o)(hd:o.data=.set es ep t)(g:Tab.GoodN t es.size led)(hm7:t.mask=7∨t.mask=31∨t.mask=127)(hel:∀ e ∈ es.toList,ElM prog w s.heap e)(hk:IsTupleKey [39] s.heap k b)(hno:∀ e ∈ es.toList,NoM prog w s.heap k e.2)(hu:A.units<cLine)(hq:∀ j,t.slot j=.empty->j≤t.mask->Q (.free j false) s):
  ∀ (m fuel:Nat) (st:Option SetTable.Probe),m<fuel->m<10 * SetTable.turns t.mask->Tab.In t (st.getD (t.probeStart hh))->t.slot (Tab.adv t m (st.getD (t.probeStart hh))).j=.empty->wpAny [11] A (setSearchFrom a (.ref b) hh true fuel st) Q E s:=by
 intro m fuel
 induction fuel generalizing m with
 | zero=>intro st hf;exact absurd hf (Qg _)
 | succ f ih=>
  intro st hf ht hi hs
  unfold setSearchFrom
  refine wpAny_bind (wpAny_setState_of ho hd g.fits ?_)
  dsimp only
  rw [zfG hm7]
  simp only [Bool.false_eq_true,if_false]
  split
  ·rename_i met he
   have hM:=Tab.probe_meet g.dm he ht hi hs
   cases hM with
   | empty j h1 h2=>exact wpAny_pure (hq j h1 h2)
   | cand j i c next h1 h2 h3 h4=>
    have hin:=g.live h1
    have hei:es[i] ∈ es.toList:=by simp
    obtain ⟨b',k',e1,e2,e3⟩:=hel _ hei
    have hne:=hno _ hei b' k' e1 e2
    have rest:wpAny [11] A (do
      let some (_,y):=es[i]? | unsupported "internal:set-entry"
      let equal ← holding [y] (eqBool y (.ref b))
      let (es',_,t') ← setState a
      if true && equal then return .there none
      let some same:=t'.sameMemory t.moves t.mask | unsupported "set.changed-during-lookup:is-the-new-block-at-the-old-address"
      let still ← match (if same then t'.slot j else .empty) with
       | .live i'=>match es'[i']? with
        | some (_,y')=>do pure (if ← isSame y' y then some i' else none)
        | none=>pure none
       | _=>pure none
      match still with
      | none=>rule "set.search.anew";setSearchFrom a (.ref b) hh true f none
      | some i'=>if equal then return .there (some i') else setSearchFrom a (.ref b) hh true f (some next)) Q E s:=by
     rw [Ky hin]
     generalize hee:es[i]=ee at *
     obtain ⟨eh,y⟩:=ee
     simp only at e1
     subst e1
     dsimp only
     refine wpAny_bind (wpAny_holding (wpAny_eqBool_tuple hu e2 hk ?_))
     rw [decide_eq_false hne]
     refine wpAny_bind (wpAny_setState_of ho hd g.fits ?_)
     dsimp only
     simp only [Bool.and_false,Bool.false_eq_true,if_false]
     rw [show t.sameMemory t.moves t.mask=some true by unfold SetTable.sameMemory;simp]
     dsimp only
     rw [if_pos rfl,h1]
     dsimp only
     rw [Ky hin,hee]
     dsimp only
     refine wpAny_bind ?_
     unfold isSame
     simp only [beq_self_eq_true,if_true]
     refine wpAny_pure ?_
     simp only [if_true]
     exact ih c (some next) [8] [8] h3 h4
    cases hl:t.led with
    | true=>
     simp only [Bool.not_true,Bool.false_eq_true,if_false]
     exact rest
    | false=>
     simp only [Bool.not_false,if_true]
     refine wpAny_bind (zfH hk (fun y hy=>?_) ?_)
     ·obtain ⟨e,he',rfl⟩:=Jv.mp hy
      have:e ∈ es.toList:=by
       rw [Array.mem_toList_iff] at he' ⊢
       exact (Array.mem_filter.mp he').1
      obtain ⟨b',k',e1,e2,_⟩:=hel e this
      exact ⟨b',k',e1,e2⟩
     ·simp only [Bool.false_eq_true,if_false]
      exact rest
  ·rename_i he
   exact absurd (Tab.probe_some g.dm ht hi hs) fun ⟨met,hm⟩=>he met hm
structure SetTm (prog:Program) (w:World) (h:Heap) (es:Array (Int × Value)) (t:SetTable) (L:List Value) (led:Bool):Prop where
 el:∀ e ∈ es.toList,ElM prog w h e
 perm:(es.toList.map (·.2)).Perm L
 good:Tab.GoodN t es.size led
 mask:t.mask=7∨t.mask=31∨t.mask=127
 nf:es.size * 5<t.mask * 3
noncomputable def SetM(prog:Program)(w:World)(h:Heap)(a:Addr)(L:List Value)(led:Bool):Prop:=∃ o es ep t,h.get? a=some o/\o.ExactSet/\o.data=.set es ep t/\SetTm prog w h es t L led
theorem SetTm.size{h:Heap}{es:Array (Int × Value)}{t:SetTable}{L:List Value}{led:Bool}(b:SetTm prog w h es t L led):es.size=L.length:=by
 have:=b.perm.length_eq
 rw [Jj,Jk] at this
 exact this
theorem ziF{h:Heap}{k:List Key}{a b:Addr}{o:Obj}{es:Array (Int × Value)}{ep:Nat}{t:SetTable}(hk:IsTupleKey [39] h k b)(ho:h.get? a=some o)(hd:o.data=.set es ep t):b≠a:=by
 rintro rfl
 obtain ⟨o',items,n,ho',_,hd',_⟩:=hk
 obtain rfl:o'=o:=Jq (ho'.symm.trans ho)
 rw [hd] at hd';exact nomatch hd'
theorem uR{h h':Heap}{k:List Key}{b:Addr}(hk:IsTupleKey [39] h k b)(e:∀ o,h.get? b=some o->h'.get? b=some o):IsTupleKey [39] h' k b:=by
 obtain ⟨o,items,n,ho,r⟩:=hk
 exact ⟨o,items,n,e o ho,r⟩
theorem zdh{a b:Addr}{L:List Value}{led:Bool}{k:List Key}{Q:Bool->Shared->Prop}(hu:A.units<cLine)(hS:SetM prog w s.heap a L led)(hl:L.length<63)(hk:IsTupleKey [39] s.heap k b)(hno:∀ v ∈ L,NoM prog w s.heap k v)
  (h:∀ h' x,Heap.SameBut a s.heap h'->SetM prog w h' a (L++[.ref b]) led->Q x { s with heap:=h' }):wpAny [11] A (setAddHashed a (.ref b) (tupleKeyHash [39] k)) Q E s:=by
 obtain ⟨o,es,ep,t,ho,hex,hd,B⟩:=hS
 have hf:=B.good.fits
 have hsz:=B.size
 have hnf:=B.nf
 have hEl:∀ {h':Heap},Heap.SameBut a s.heap h'->∀ e,ElM prog w s.heap e->ElM prog w h' e:=fun hs e ⟨b',k',e1,e2,e3⟩=>⟨b',k',e1,uR e2 fun o' ho'=>(hs.2 b' (ziF e2 ho hd)).trans ho',e3⟩
 have hkE:ElM prog w s.heap (tupleKeyHash [39] k,.ref b):=⟨b,k,rfl,hk,rfl⟩
 unfold setAddHashed setAddHashedIn
 refine wpAny_holding (wpAny_bind (wpAny_setState_of ho hd hf ?_))
 dsimp only
 rw [show byScan (.ref b) es=false from rfl]
 simp only [Bool.false_eq_true,if_false]
 obtain ⟨m,hm1,hm2⟩:=B.good.near (tupleKeyHash [39] k)
 have hturn:10 * SetTable.turns t.mask≤1420:=by unfold SetTable.turns;rcases B.mask with z | z | z<;>omega
 refine wpAny_bind ?_
 unfold setSearch
 refine zdx ho hd B.good B.mask B.el hk (fun e he=>hno _ (B.perm.mem_iff.mp (Jv.mpr ⟨e,he,rfl⟩))) hu (fun j hj1 hj2=>?_) m 100000 none [8] hm1 (Tab.In.start _ _) hm2
 dsimp only
 refine wpAny_bind (wpAny_setState_of ho hd hf ?_)
 dsimp only
 obtain ⟨g0,m0⟩:=B.good.put (by rcases B.mask with z | z | z<;>omega) hj1 hj2
 have key:∀ c:Bool,wpAny [11] A (do
   let t1:=if c=true then (t.put j).1 else { (t.put j).1 with plain:=false }
   storeSet a (SetTable.insertAt es (t.put j).2 (tupleKeyHash [39] k,Value.ref b)) t1
   if (!false && t1.tooFull)=true then setRelay a [72]
   return true) Q E s:=fun c=>by
  obtain ⟨t1,ht1,g1,m1⟩:∃ t1,t1=(if c=true then (t.put j).1 else { (t.put j).1 with plain:=false })/\Tab.GoodN t1 (es.size+1) led/\t1.mask=t.mask:=by
   cases c with
   | true=>exact ⟨_,rfl,g0,m0⟩
   | false=>exact ⟨_,rfl,g0,m0⟩
  dsimp only
  rw [← ht1]
  have p1:=SetTable.insertAt_perm es (t.put j).2 (tupleKeyHash [39] k,Value.ref b)
  generalize SetTable.insertAt es (t.put j).2 (tupleKeyHash [39] k,Value.ref b)=es1 at *
  rw [KI] at p1
  have hz1:es1.size=es.size+1:=by
   have:=p1.length_eq
   rw [Jk,Jo,Jk,Qz] at this
   exact this
  have hb1:es1.size<scanBound:=by show es1.size<4096;omega
  have el1:∀ e ∈ es1.toList,ElM prog w s.heap e:=fun e he=>by
   rcases List.mem_append.mp (p1.mem_iff.mp he) with z | z
   ·exact B.el e z
   ·rw [Jh.mp z];exact hkE
  have pm1:(es1.toList.map (·.2)).Perm (L++[.ref b]):=(p1.map _).trans (by rw [Kd];exact B.perm.append_right _)
  refine wpAny_bind (wpAny_storeSet_of ho hd ?_ (fits_of_scanBound hb1))
  have ho1:=zax (es':=es1) (t':=t1) ho hd
  have hsb1:=KKq s.heap a (Obj.putSet es1 t1)
  have hfill:t1.fill=es.size+1:=by unfold SetTable.fill;rw [g1.size,g1.dm];rfl
  have good1:Tab.GoodN t1 es1.size led:=by rw [hz1];exact g1
  by_cases hT:t1.tooFull=true
  ·have hT':(es.size+1) * 5 ≥ t.mask * 3:=by
    unfold SetTable.tooFull at hT
    rw [hfill,m1] at hT
    exact of_decide_eq_true hT
   obtain ⟨hF,hmk,hn5,hsl⟩:Tab.Full (SetTable.sizeAbove [72] - 1)/\(SetTable.sizeAbove [72] - 1=7∨SetTable.sizeAbove [72] - 1=31∨SetTable.sizeAbove [72] - 1=127)/\(es.size+1) * 5<(SetTable.sizeAbove [72] - 1) * 3/\SetTable.sizeAbove [72]≤sizeLine:=by
    rcases B.mask with h7 | h7 | h7
    ·have:es.size+1=5:=by omega
     rw [this]
     have e:SetTable.sizeAbove (SetTable.grown 5)=32:=by decide
     rw [e,sizeLine_eq]
     exact ⟨Tab.full31,.inr [76],by decide,by decide⟩
    ·have:es.size+1=19:=by omega
     rw [this]
     have e:SetTable.sizeAbove (SetTable.grown 19)=128:=by decide
     rw [e,sizeLine_eq]
     exact ⟨Tab.full127,.inr (.inr rfl),by decide,by decide⟩
    ·omega
   rw [hT]
   simp only [Bool.not_false,Bool.and_self,if_true]
   unfold setRelay
   refine wpAny_bind ?_
   refine wpAny_bind (wpAny_setState_of ho1 rfl good1.fits ?_)
   dsimp only
   rw [if_neg [8]]
   obtain ⟨t2,order,h1,h2,h3,h4⟩:=Tab.laid_any (finger:=t1.finger) (moves:=t1.movedTo (SetTable.sizeAbove [72] - 1)) (led:=t1.led) (plain:=t1.plain) (hashes:=es1.map (·.1)) hF (by rw [Array.size_map,hz1];omega)
   rw [Array.size_map] at h2 h3
   rw [g1.ledd] at h3
   have p2:(order.filterMap (es1[·]?)).toList.Perm es1.toList:=by
    have e:=(h2.filterMap (es1[·]?))
    rw [filterMap_getElem?_range] at e
    rw [Array.toList_filterMap];exact e
   have hz2:(order.filterMap (es1[·]?)).size=es1.size:=by
    have:=p2.length_eq
    rw [Jk,Jk] at this
    exact this
   have hrl:t1.relaid (es1.map (·.1)) [72]=some (t2,order):=h1
   rw [hrl]
   refine wpAny_bind ?_
   show wpAny _ _ (if ((order.filterMap (es1[·]?)).size != es1.size)=true then _ else _) _ _ _
   rw [if_neg (by rw [hz2];simp)]
   refine wpAny_pure ?_
   generalize order.filterMap (es1[·]?)=es2 at *
   refine wpAny_storeSet_of ho1 rfl ?_ (fits_of_scanBound (by rw [hz2];exact hb1))
   refine wpAny_pure ?_
   have hsb2:=hsb1.trans (KKq (s.heap.update a (Obj.putSet es1 t1)) a (Obj.putSet es2 t2))
   refine h _ true hsb2 ⟨_,es2,_,t2,zax ho1 rfl,hex,rfl,fun e he=>hEl hsb2 e (el1 e (p2.mem_iff.mp he)),(p2.map _).trans pm1,by rw [hz2];exact h3,by rw [h4];exact hmk,by rw [hz2,hz1,h4];exact hn5⟩
  ·have hT':¬ (es.size+1) * 5 ≥ t.mask * 3:=fun z=>hT (by
    unfold SetTable.tooFull
    rw [hfill,m1]
    exact decide_eq_true z)
   rw [Bool.eq_false_iff.mpr hT]
   simp only [Bool.not_false,Bool.and_false,Bool.false_eq_true,if_false]
   refine wpAny_pure ?_
   exact h _ true hsb1 ⟨_,es1,_,t1,ho1,hex,rfl,fun e he=>hEl hsb1 e (el1 e he),pm1,good1,by rw [m1];exact B.mask,by rw [hz1,m1];omega⟩
 cases hpl:(t.put j).1.plain with
 | true=>
  rw [if_pos rfl]
  exact wpAny_bind (zar hk fun c=>key c)
 | false=>
  rw [if_neg Je]
  exact wpAny_bind (wpAny_pure (key true))
theorem SetM.keep{h h':Heap}{a:Addr}{L:List Value}{led:Bool}(x:SetM prog w h a L led)(k:∀ o,h.get? a=some o->h'.get? a=some o)(kk:∀ b,Value.ref b ∈ L->∀ o,h.get? b=some o->h'.get? b=some o):SetM prog w h' a L led:=by
 obtain ⟨o,es,ep,t,ho,hx,hd,B⟩:=x
 refine ⟨o,es,ep,t,k o ho,hx,hd,fun e he=>?_,B.perm,B.good,B.mask,B.nf⟩
 obtain ⟨b,c,e1,e2,e3⟩:=B.el e he
 exact ⟨b,c,e1,uR e2 (kk b (by rw [← e1];exact B.perm.mem_iff.mp (Jv.mpr ⟨e,he,rfl⟩))),e3⟩
theorem SetM.fresh{h:Heap}{a:Addr}{led:Bool}(ho:h.get? a=some { cls:=.type "set",dict:=none,data:=.set #[] 0 (.fresh 0 0 led) }):SetM prog w h a [] led:=
 ⟨_,#[],0,_,ho,⟨rfl,rfl,rfl⟩,rfl,fun e he=>by simp at he,.refl _,⟨Tab.full7,rfl,Nat.zero_le _,rfl,List.Pairwise.nil,fun j hj=>by simp [SetTable.fresh] at hj,rfl,rfl⟩,.inl rfl,by show 0 * 5<7 * 3;decide⟩
structure TupsM (prog:Program) (w:World) (h0:Heap) (n:Nat) (ad:Nat->Addr) (key:Nat->List Key) (wr:List Addr):Prop where
 at':∀ i,i<n->IsTupleKey [39] h0 (key i) (ad i)
 out:∀ i,i<n->ad i ∉ wr
 ne:∀ i j,i<j->j<n->key i≠key j
noncomputable def tlM(ad:Nat->Addr)(n:Nat):List Value:=(List.range n).map fun j=>.ref (ad j)
theorem zgw(ad:Nat->Addr)(n:Nat):tlM ad (n+1)=tlM ad n++[.ref (ad n)]:=by simp [tlM,List.range_succ]
theorem zeG{ad:Nat->Addr}{n:Nat}{b:Addr}(h:Value.ref b ∈ tlM ad n):∃ j,j<n/\b=ad j:=by
 obtain ⟨j,hj,e⟩:=Jv.mp h
 exact ⟨j,List.mem_range.mp hj,by injection e with e;exact e.symm⟩
theorem zbb{R:Result->Shared->Prop}{I:Addr}{fp wr:List Addr}{G:Array GenState->Array GenState->Prop}{n:Nat}{P:Nat->Value->Prop}{St:Nat->Shared->Prop}{led:Bool}(W:WalksS prog w A.in1 I fp wr G n P St)(S:Addr)(hSf:S ∉ fp){h0:Heap}{ad:Nat->Addr}{key:Nat->List Key}(hval:∀ i v,P i v->v=.ref (ad i))(T:TupsM prog w h0 n ad key (S::wr))(hn:n<63)(hu:A.units+8<cLine):
  ∀ (k i:Nat) (s:Shared),n - i=k->i≤n->St i s->(∀ b o,b ∉ S::wr->h0.get? b=some o->s.heap.get? b=some o)->SetM prog w s.heap S (tlM ad i) led->
   (∀ s',Moved (S::wr) G s s'->SetM prog w s'.heap S (tlM ad n) led->R (.ok (.ret .none)) s')->
   codeAny [11] A (.builtin "set.update.loop" ⟨[.ref S,.ref I],[]⟩) R s:=by
 have hSw:S ∉ wr:=fun h=>hSf (W.sub _ h)
 have hsub:∀ b ∈ wr,b ∈ S::wr:=fun b hb=>Jf _ hb
 have keep:∀ {i:Nat} {s s':Shared},i≤n->Moved wr G s s'->SetM prog w s.heap S (tlM ad i) led->SetM prog w s'.heap S (tlM ad i) led:=fun hi hm hS=>hS.keep (fun o ho=>hm.heap S o hSw ho) fun b hb o ho=>by
  obtain ⟨j,hj,rfl⟩:=zeG hb
  exact hm.heap _ o (fun z=>T.out j [8] (hsub _ z)) ho
 intro k
 induction k with
 | zero=>
  intro i s hk hi hst _ hS hR
  have hin:i=n:=by omega
  subst hin
  refine codeAny_builtin F.entry_set_update_loop ?_
  rw [Ql F.plain_set_update_loop _]
  show wpAny _ A.in1 (pyNext (.ref I) >>= _) _ _ s
  refine wpAny_bind (W.done s _ _ hst fun s' hm=>?_)
  show wpAny _ A.in1 (ret Value.none) _ _ s'
  exact wpAny_pure (hR s' (hm.mono hsub) (keep hi hm hS))
 | succ k ih=>
  intro i s hk hi hst h0s hS hR
  have hlt:i<n:=by omega
  refine codeAny_builtin F.entry_set_update_loop ?_
  rw [Ql F.plain_set_update_loop _]
  show wpAny _ A.in1 (pyNext (.ref I) >>= _) _ _ s
  refine wpAny_bind (W.item i s _ _ hlt hst fun v s' hP hst' hm=>?_)
  have hv:=hval i v hP
  subst hv
  have hS':=keep hi hm hS
  have h0s':∀ b o,b ∉ S::wr->h0.get? b=some o->s'.heap.get? b=some o:=fun b o hb ho=>hm.heap b o (fun z=>hb (hsub _ z)) (h0s b o hb ho)
  have hkey:∀ j,j<n->IsTupleKey [39] s'.heap (key j) (ad j):=fun j hj=>uR (T.at' j hj) fun o ho=>h0s' _ o (T.out j hj) ho
  show wpAny _ A.in1 (holding [Value.ref (ad i)] (setAdd S (.ref (ad i))) >>= _) _ _ s'
  refine wpAny_bind (wpAny_holding ?_)
  unfold setAdd
  refine wpAny_holding ?_
  have hu1:A.in1.units<cLine:=by show A.units+1<cLine;omega
  refine wpAny_bind (wpAny_pyHash_tuple hu1 (hkey i hlt) ?_)
  refine zdh (s:={ s' with toks:=s'.toks+((key i).length+1) }) hu1 hS' (by rw [tlM,List.length_map,List.length_range];omega) (hkey i hlt) (fun v hv b' k' e hk'=>?_) fun h' _ hsb hS2=>?_
  ·subst e
   obtain ⟨j,hj,rfl⟩:=zeG hv
   rw [hk'.inj (hkey j [8])]
   exact T.ne j i hj hlt
  ·rw [← zgw] at hS2
   refine wpAny_pure ⟨plainId_quiet F.plain_set_update_loop _,ih (i+1) _ [8] hlt (W.frame _ s' _ _ hst' (QH _ _) fun b hb o e=>?_) (fun b o hb ho=>?_) hS2 fun s'' hm'' hS''=>?_⟩
   ·rw [hsb.2 b (fun h:b=S=>hSf (by rw [← h];exact hb))];exact e
   ·rw [hsb.2 b (fun h:b=S=>hb (by rw [h];exact Jg))];exact h0s' b o hb ho
   ·refine hR s'' (Moved.trans W.gtrans ((hm.mono hsub).then_heap (QH _ _) fun b o hb e=>?_) hm'') hS''
    rw [hsb.2 b (fun h:b=S=>hb (by rw [h];exact Jg))];exact e
end
end F
namespace F
open PySem PySem.Spec PyProof.Rows PySem.W
section
variable {prog:Program} {w:World} {A:Around} {E:Value->Shared->Prop} {s:Shared} {a:Addr} {es:Array (Int × Value)} {ep:Nat} {t:SetTable}
theorem zaZ{src:Source}{n:Nat}{Q:Nat->Shared->Prop}(hn:n≠0)(h:∀ i d,i<n->Q i { s with drawn:=d }):wpAny [11] A (choose src n) Q E s:=fun Γ p hΓ=>by
 unfold choose
 rw [Sem.wp_choose]
 refine ⟨hn,?_⟩
 have:=h ([11].w.draws src (s.drawn.get src) % n) (s.drawn.bump src) (Qt _ (Nat.pos_of_ne_zero hn))
 simpa using this
theorem uM{α:Type}:∀ (n:Nat) (xs:List α) {s:Shared} {Q:List α->Shared->Prop},xs.length=n->(∀ ys d,ys.Perm xs->Q ys { s with drawn:=d })->wpAny [11] A (drawOrder n xs) Q E s
 | 0,xs,s,Q,hl,h=>by
  obtain rfl:=KY.mp hl
  unfold drawOrder
  exact wpAny_pure (h [] s.drawn (.refl _))
 | n+1,[],s,Q,hl,h=>nomatch hl
 | n+1,x::xs,s,Q,hl,h=>by
  unfold drawOrder
  refine wpAny_bind (zaZ (by rw [hl];omega) fun i d hi=>?_)
  rw [Jd hi]
  dsimp only
  refine wpAny_bind (uM n ((x::xs).eraseIdx i) (s:={ s with drawn:=d }) (by rw [List.length_eraseIdx_of_lt hi,hl];omega) fun ys d' hp=>?_)
  exact wpAny_pure (h _ d' ((hp.cons _).trans (kD _ _ hi)))
noncomputable def IsSD(h:Heap)(it tp a:Addr)(i n ep:Nat):Prop:=∃ o,h.get? it=some o/\o.cls=.type "set_iterator"/\o.data=.fields #[.ref tp,.int i 0,.ref a,.int n 0,.int ep 0]
noncomputable def OrdAt(h:Heap)(tp:Addr)(ord:List Nat):Prop:=∃ o k,h.get? tp=some o/\o.data=.seq (ord.map fun (i:Nat)=>rawInt i).toArray k
theorem IsSD.typeIs{it tp:Addr}{i n:Nat}(x:IsSD s.heap it tp a i n ep):s.TypeIs [84] "set_iterator":=let ⟨o,ho,hc,_⟩:=x;⟨o,ho,hc⟩
theorem IsSD.at{h h':Heap}{it tp:Addr}{i n:Nat}(x:IsSD h it tp a i n ep)(e:∀ o,h.get? it=some o->h'.get? it=some o):IsSD h' it tp a i n ep:=let ⟨o,ho,r⟩:=x;⟨o,e _ ho,r⟩
theorem OrdAt.at{h h':Heap}{tp:Addr}{ord:List Nat}(x:OrdAt h tp ord)(e:∀ o,h.get? tp=some o->h'.get? tp=some o):OrdAt h' tp ord:=let ⟨o,k,ho,r⟩:=x;⟨o,k,e _ ho,r⟩
theorem ziQ{it tp:Addr}{i n:Nat}{Q:Value->Shared->Prop}(hit:IsSD s.heap it tp a i n ep)(h:Q [84] s):wpAny [11] A (pyIter [84]) Q E s:=by
 refine wpAny_pyIter_slot hit.typeIs wA (wpAny_call_entry wA hit.typeIs ul ?_ (jf _))
 show wpAny _ _ (ret [84]) _ _ s
 exact wpAny_pure ⟨_,rfl,"set_iterator",_,hit.typeIs,slot_si_next.lookup,h⟩
theorem zjN{it tp:Addr}{i j:Nat}{ord:List Nat}{x:Int × Value}{Q:Option Value->Shared->Prop}(hit:IsSD s.heap it tp a i es.size ep)(hO:OrdAt s.heap tp ord)(hA:SetAt s.heap a es ep t)(hf:t.fits es.size=true)(hj:ord[i]?=some j)(hx:es[j]?=some x)
  (hQ:∀ h',IsSD h' it tp a (i+1) es.size ep->Heap.SameBut it s.heap h'->Q (some x.2) { s with heap:=h' }):wpAny [11] A (pyNext [84]) Q E s:=by
 obtain ⟨o,ho,hc,hd⟩:=id hit
 obtain ⟨ot,kt,hot,hdt⟩:=hO
 obtain ⟨oa,hoa,hexa,hda⟩:=id hA
 unfold pyNext
 refine wpAny_bind (wpAny_attempt (wpAny_callSpecial?_slot (name:=Str.ofString "__next__") hit.typeIs slot_si_next
  (wpAny_call_entry slot_si_next hit.typeIs yf ?_ (yv _))))
 unfold Builtin.«set_iterator.__next__»
 refine wpAny_bind [19]
 refine wpAny_bind (wpAny_fieldsOf ho hd ?_)
 dsimp only
 unfold setEntries
 refine wpAny_bind (wpAny_bind (wpAny_setState_of hoa hda hf [19]))
 refine wpAny_ite_split (fun hcc=>?_) (fun _=>?_)
 ·simp at hcc
 ·simp only [Int.toNat_natCast]
  refine wpAny_bind ?_
  unfold seqItems?
  refine wpAny_bind (wpAny_load hot ?_)
  rw [hdt]
  refine wpAny_pure ?_
  dsimp only
  have e1:(ord.map fun (i:Nat)=>rawInt i).toArray[i]?=some (.int (j:Int) 0):=by
   rw [List.getElem?_toArray,JK,hj];rfl
  rw [e1]
  dsimp only
  refine wpAny_bind ?_
  unfold setNextDrawn
  refine wpAny_bind (wpAny_setState_of hoa hda hf ?_)
  dsimp only
  rw [if_neg [12],Int.toNat_natCast,hx]
  refine wpAny_pure ?_
  refine wpAny_bind (wpAny_setField ho hd [12] ?_)
  have ho1:=JX (Obj.mapFields (·.setIfInBounds 1 (rawInt ((i:Int)+1)))) ho (KQ (Kt hd _))
  refine wpAny_pure ⟨_,rfl,wpAny_pure (hQ _ ⟨_,ho1,(Obj.cls_mapFields ..).trans hc,by rw [Obj.data_mapFields hd];simp [rawInt]⟩ (Heap.SameBut.update ..))⟩
theorem zlK{it tp:Addr}{i:Nat}{ord:List Nat}{Q:Option Value->Shared->Prop}(hh:A.handled=none)(hit:IsSD s.heap it tp a i es.size ep)(hO:OrdAt s.heap tp ord)(hA:SetAt s.heap a es ep t)(hf:t.fits es.size=true)(hi:ord.length≤i)
  (hQ:∀ h',Heap.ExtBut it s.heap h'->Q none { s with heap:=h' }):wpAny [11] A (pyNext [84]) Q E s:=by
 obtain ⟨o,ho,hc,hd⟩:=id hit
 obtain ⟨ot,kt,hot,hdt⟩:=hO
 obtain ⟨oa,hoa,hexa,hda⟩:=id hA
 unfold pyNext
 refine wpAny_bind (wpAny_attempt (wpAny_callSpecial?_slot (name:=Str.ofString "__next__") hit.typeIs slot_si_next
  (wpAny_call_entry slot_si_next hit.typeIs yf ?_ (yv _))))
 unfold Builtin.«set_iterator.__next__»
 refine wpAny_bind [19]
 refine wpAny_bind (wpAny_fieldsOf ho hd ?_)
 dsimp only
 unfold setEntries
 refine wpAny_bind (wpAny_bind (wpAny_setState_of hoa hda hf [19]))
 refine wpAny_ite_split (fun hcc=>?_) (fun _=>?_)
 ·simp at hcc
 ·simp only [Int.toNat_natCast]
  refine wpAny_bind ?_
  unfold seqItems?
  refine wpAny_bind (wpAny_load hot ?_)
  rw [hdt]
  refine wpAny_pure ?_
  dsimp only
  have e1:(ord.map fun (i:Nat)=>rawInt i).toArray[i]?=none:=by
   rw [List.getElem?_toArray,JK,Qf hi];rfl
  rw [e1]
  dsimp only
  refine wpAny_bind (wpAny_setField ho hd [12] ?_)
  have ho1:=JX (Obj.mapFields (·.setIfInBounds 0 (rawInt 0))) ho (KQ (Kt hd _))
  have hd1:=Kt hd (·.setIfInBounds 0 (rawInt 0))
  refine wpAny_bind (wpAny_setField (s:={ s with heap:=s.heap.update it (Obj.mapFields (·.setIfInBounds 0 (rawInt 0))) }) ho1 hd1 [12] ?_)
  show wpAny _ _ (newExc (.type "StopIteration") [] >>= _) _ _ _
  refine wpAny_bind ?_
  simp only [newExc,newTuple]
  refine wpAny_bind (wpAny_newObj_type ?_ (by size_fits))
  refine wpAny_bind (m:=firstArgMember _ _) [50]
  refine wpAny_newObj_type ?_ (by size_fits)
  simp only [raiseNew]
  refine wpAny_bind (wpAny_handled ?_)
  rw [show A.in1.handled=none from hh]
  refine wpAny_bind (wpAny_pure (wpAny_throw ?_))
  refine wpAny_bind [89]
  exact wpAny_pure (hQ _ ((((KKq ..).trans (KKq ..)).extBut.push _).push _))
theorem zjL{Q:Value->Shared->Prop}(hb:¬ w.params.followText "set-order"=true)(hdr:(!t.plain && decide (es.size > 1))=true)(hA:SetAt s.heap a es ep t)(hf:t.fits es.size=true)(hz:es.size≤1000)
  (hQ:∀ (ord:List Nat) d,ord.Perm (List.range es.size)->Q (.ref [59]) { s with heap:=(s.heap.push { cls:=.type "tuple",data:=.seq (ord.map fun (i:Nat)=>rawInt i).toArray }).push { cls:=.type "set_iterator",data:=.fields #[.ref s.heap.objs.size,.int 0 0,.ref a,.int es.size 0,.int ep 0] },drawn:=d }):
  wpAny [11] A (pyIter [67]) Q E s:=by
 obtain ⟨o,ho,hex,hd⟩:=id hA
 have hT:s.TypeIs [67] "set":=⟨o,ho,hex.1⟩
 refine wpAny_pyIter_slot hT ye (wpAny_call_entry ye hT wV ?_ (vA _))
 unfold Builtin.«frozenset.__iter__» Builtin.Frozenset.slot0 slotArgs
 simp only [List.isEmpty_nil,Bool.not_true,Bool.false_eq_true,↓reduceIte,bind_assoc,List.length_nil,bne_self_eq_false]
 unfold Builtin.Frozenset.addrOf Builtin.Frozenset.sizeOf setEntries setDrawn setsByText
 refine wpAny_bind [19]
 refine wpAny_bind [19]
 refine wpAny_bind (wpAny_bind (wpAny_bind (wpAny_setState_of ho hd hf (wpAny_pure [19]))))
 refine wpAny_bind (wpAny_bind (wpAny_setState_of ho hd hf ?_))
 dsimp only
 refine wpAny_bind (wpAny_bind (wpAny_askSetting (wpAny_pure [19])))
 refine wpAny_ite_split (fun _=>?_) (fun hc=>?_)
 ·refine wpAny_bind (uM es.size (List.range es.size) JL fun ord d hp=>?_)
  refine wpAny_bind (wpAny_newTuple ?_ (by rw [Jj,hp.length_eq,JL,sizeLine_eq];omega))
  refine wpAny_bind (wpAny_setEpoch_of (Jb _ ho) hd hf ?_)
  refine wpAny_bind [61]
  have:=hQ ord d hp
  simpa [Heap.size_push,rawInt] using this
 ·refine absurd (QC.mpr ⟨?_,hdr⟩) hc
  show (!w.params.followText "set-order")=true
  rw [Bool.eq_false_iff.mpr hb];rfl
theorem zgj{ord:List Nat}(hh:A.handled=none)(hf:t.fits es.size=true)(hl:ord.length=es.size)(ho:∀ j ∈ ord,j<es.size)(I tp:Addr)(h1:a≠I)(h2:tp≠I):
  PySem.Walks prog w A I [I,tp,a] [I] es.size (fun i v=>∃ j x,ord[i]?=some j/\es[j]?=some x/\v=x.2) (fun i h=>IsSD h I tp a i es.size ep/\OrdAt h tp ord/\SetAt h a es ep t) where
 sub:=fun b hb=>by simp at hb;simp [hb]
 frame:=fun _ _ _ st hk=>⟨st.1.at fun o e=>hk I [12] o e,st.2.1.at fun o e=>hk tp [12] o e,st.2.2.at fun o e=>hk a [12] o e⟩
 item:=fun i s Q E hi st hQ=>by
  have hi':i<ord.length:=by omega
  have hj:=Jd hi'
  have hx:=getElem?_pos es ord[i] (ho _ (Kf hi'))
  refine zjN st.1 st.2.1 st.2.2 hf hj hx fun h' hit' hs'=>?_
  exact hQ _ h' s.toks ⟨_,_,hj,hx,rfl⟩ ⟨hit',st.2.1.at fun o e=>by rw [hs'.2 tp h2];exact e,st.2.2.at fun o e=>by rw [hs'.2 a h1];exact e⟩ fun b o hb e=>hs'.extBut b o (fun h=>hb (by simp [h])) e
 done:=fun s Q E st hQ=>zlK hh st.1 st.2.1 st.2.2 hf [8] fun h' he'=>hQ h' s.toks fun b o hb e=>he' b o (fun h=>hb (by simp [h])) e
 self:=fun _ _ _ _ st hQ=>ziQ st.1 hQ
theorem zfP{R:Result->Shared->Prop}(hh:A.handled=none)(hb:¬ w.params.followText "set-order"=true)(hdr:(!t.plain && decide (es.size > 1))=true)(hA:SetAt s.heap a es ep t)(hf:t.fits es.size=true)(hz:es.size≤1000)(S:Addr)(hSa:S≠a)(res:Value)(c₀:Nat)(hS:s.heap.get? S=some { cls:=.type "list",data:=.seq #[] c₀ })
  (hR:∀ h' tk d acc' c' (ord:List Nat),ord.Perm (List.range es.size)->(∀ b o,b≠S->s.heap.get? b=some o->h'.get? b=some o)->h'.get? S=some { cls:=.type "list",dict:=none,data:=.seq acc' c',slots:=#[] }->ItemsOf (fun i v=>∃ j x,ord[i]?=some j/\es[j]?=some x/\v=x.2) acc' es.size->R (.ok (.ret res)) { s with heap:=h',toks:=tk,drawn:=d }):
  wpAny [11] A.in1 (Builtin.List.listExtendWith (.ref S) [67] res)
   (fun fin s'=>match fin with | .done f=>R (.ok f) s' | .again c'=>c'.quiet=true/\codeAny [11] A c' R s') (fun e s'=>R (.error e) s') s:=by
 obtain ⟨oa,hoa,hexa,hda⟩:=id hA
 have hT:s.TypeIs [67] "set":=⟨oa,hoa,hexa.1⟩
 have hSl:=Ji hS
 have hal:=Ji hoa
 unfold Builtin.List.listExtendWith
 refine wpAny_bind (wpAny_typeOf (T:="set") hT ?_)
 have h1:Builtin.List.listSameRef (.ref S) [67]=false:=by simp [Builtin.List.listSameRef,hSa]
 have n1:(Value.type "set" == Value.type "list")=false:=by decide
 have n2:(Value.type "set" == Value.type "tuple")=false:=by decide
 simp only [h1,n1,n2,Bool.or_false,Bool.false_eq_true,if_false]
 refine wpAny_bind (zjL hb hdr hA hf hz fun ord d hp=>?_)
 have hol:ord.length=es.size:=by rw [hp.length_eq,JL]
 have hoj:∀ j ∈ ord,j<es.size:=fun j hj=>Jt.mp (hp.mem_iff.mp hj)
 generalize hh1:(s.heap.push { cls:=.type "tuple",data:=.seq (ord.map fun (i:Nat)=>rawInt i).toArray })=h1'
 have hsz1:h1'.objs.size=s.heap.objs.size+1:=by rw [← hh1];exact KD ..
 have keep1:∀ b o,s.heap.get? b=some o->[34].get? b=some o:=fun b o e=>Jb _ (by rw [← hh1];exact Jb _ e)
 have st:IsSD [34] [59] s.heap.objs.size a 0 es.size ep/\OrdAt [34] s.heap.objs.size ord/\SetAt [34] a es ep t:=by
  refine ⟨⟨_,by rw [← hsz1];exact Jl _ rfl,rfl,rfl⟩,⟨_,_,Jb _ (by rw [← hh1];exact Jl _ rfl),rfl⟩,hA.at fun o e=>keep1 a o e⟩
 have W:=zgj (prog:=prog) (w:=w) (A:=A.in1) (a:=a) (es:=es) (ep:=ep) (t:=t) hh hf hol hoj [59] s.heap.objs.size (Jw (KG hal)) (Jw (QE _))
 have hSf:S ∉ [s.heap.objs.size+1,s.heap.objs.size,a]:=by
  simp only [List.mem_cons,List.not_mem_nil,or_false,not_or]
  exact ⟨Jw (KG hSl),Jw hSl,hSa⟩
 have key:∀ (h:Heap) (c₁ tk:Nat),IsSD h [59] s.heap.objs.size a 0 es.size ep/\OrdAt h s.heap.objs.size ord/\SetAt h a es ep t->(∀ b o,b≠S->s.heap.get? b=some o->h.get? b=some o)->
   h.get? S=some { cls:=.type "list",data:=.seq #[] c₁ }->codeAny [11] A (.builtin "list.extend.loop" ⟨[.ref S,.ref [59],res],[]⟩) R { s with heap:=h,toks:=tk,drawn:=d }:=by
  intro h c₁ tk hst hk hS₁
  refine codeAny_extend_loopS W.toS (by rw [sizeLine_eq];omega) S hSf res es.size 0 _ #[] c₁ rfl (Km _) hst hS₁ (ItemsOf.nil _) fun s' acc' c' hm hS' hacc=>?_
  rw [Moved.eq_with hm]
  refine hR s'.heap s'.toks d acc' c' ord hp (fun b o hb e=>hm.heap b o (fun hmem=>?_) (hk b o hb e)) hS' hacc
  rcases List.mem_cons.mp hmem with e' | hmem
  ·exact hb e'
  ·have:=Ji e
   rw [Jh.mp hmem] at this
   exact absurd this [12]
 have hS₁:=keep1 S _ hS
 refine wpAny_bind (wpAny_holding (ql (st.2.2.elim fun o z=>⟨o,z.1,z.2.1.1⟩) ?_))
 refine wpAny_ite_split (fun _=>?_) (fun _=>wpAny_pure ⟨plainId_quiet PySem.F.plain_extend_loop _,key _ c₀ _ st (fun b o _ e=>keep1 b o e) hS₁⟩)
 refine wpAny_bind (wpAny_rule ?_)
 refine wpAny_bind ?_
 show wpAny _ _ (updateSeq S (·.push .none) >>= fun _=>updateSeq S (·.pop)) _ _ _
 refine wpAny_bind (wpAny_updateSeq hS₁ rfl ?_)
 have hS₂:=JX (Obj.mapSeq (·.push Value.none)) hS₁ rfl
 refine wpAny_updateSeq (hz:=by seq_fits) hS₂ rfl ?_
 have hS₃:=JX (Obj.mapSeq (·.pop)) hS₂ rfl
 refine wpAny_pure ⟨plainId_quiet PySem.F.plain_extend_loop _,key _ _ _ ?_ (fun b o hb e=>?_) hS₃⟩
 ·refine W.frame 0 _ _ st fun b hb o e=>?_
  have hbS:b≠S:=fun h=>hSf (h ▸ hb)
  exact (KL _ _ (Ne.symm hbS)).trans ((KL _ _ (Ne.symm hbS)).trans e)
 ·exact (KL _ _ (Ne.symm hb)).trans ((KL _ _ (Ne.symm hb)).trans (keep1 b o e))
theorem zeD{Q:Option (Value × Nat)->Shared->Prop}(hw:w.params.followText "set-order"=true)(hA:SetAt s.heap a es ep t)(hf:t.fits es.size=true){i:Nat}(hi:i≤es.size)
  (h:Q ((xO w a es ep)[i]?.map fun e=>(e.2,zn w t (i+1))) s):wpAny [11] A (setNext a (zn w t i) i ep) Q E s:=by
 obtain ⟨o,ho,hex,hd⟩:=hA
 unfold setNext
 refine wpAny_bind (wpAny_setState_of ho hd hf ?_)
 dsimp only
 unfold setsByText
 refine wpAny_bind (wpAny_bind (wpAny_askSetting [19]))
 show wpAny _ _ (if w.params.followText "set-order"=true then _ else _) _ _ _
 rw [if_pos hw]
 rw [if_neg [12]]
 unfold setWalk
 refine wpAny_bind (wpAny_bind (wpAny_setState_of ho hd hf ?_))
 dsimp only
 unfold setsByText
 refine wpAny_bind (wpAny_bind (wpAny_askSetting [19]))
 show wpAny _ _ (if w.params.followText "set-order"=true then _ else _) _ _ _
 rw [if_pos hw]
 refine wpAny_bind (wpAny_askSetting (wpAny_pure [19]))
 have e1:xO w a es ep=pickOrder (w.params.setOrder a ep) es:=if_pos hw
 have e2:zn w t i=zn w t (i+1):=by
  have e3:∀ j,zn w t (j+1)=0:=fun j=>if_pos hw
  cases i with
  | zero=>rw [e3];rfl
  | succ i=>rw [e3,e3]
 rw [e1,← e2] at h
 exact h
theorem zjK{Q:Value->Shared->Prop}(hw:w.params.followText "set-order"=true)(hA:SetAt s.heap a es ep t)(hf:t.fits es.size=true)
  (hQ:Q [38] { s with heap:=s.heap.push { cls:=.type "set_iterator",data:=.fields #[.int 0 0,.int 0 0,.ref a,.int es.size 0,.int ep 0] } }):
  wpAny [11] A (pyIter [67]) Q E s:=by
 obtain ⟨o,ho,hex,hd⟩:=id hA
 have hT:s.TypeIs [67] "set":=⟨o,ho,hex.1⟩
 refine wpAny_pyIter_slot hT ye (wpAny_call_entry ye hT wV ?_ (vA _))
 unfold Builtin.«frozenset.__iter__» Builtin.Frozenset.slot0 slotArgs
 simp only [List.isEmpty_nil,Bool.not_true,Bool.false_eq_true,↓reduceIte,bind_assoc,List.length_nil,bne_self_eq_false]
 unfold Builtin.Frozenset.addrOf Builtin.Frozenset.sizeOf setEntries setDrawn setsByText
 refine wpAny_bind [19]
 refine wpAny_bind [19]
 refine wpAny_bind (wpAny_bind (wpAny_bind (wpAny_setState_of ho hd hf (wpAny_pure [19]))))
 refine wpAny_bind (wpAny_bind (wpAny_setState_of ho hd hf ?_))
 dsimp only
 refine wpAny_bind (wpAny_bind (wpAny_askSetting (wpAny_pure [19])))
 refine wpAny_ite_split (fun hc=>?_) (fun _=>?_)
 ·have h2:=(QC.mp hc).1
  have h3:(!w.params.followText "set-order")=true:=h2
  rw [hw] at h3
  cases h3
 ·refine wpAny_bind [19]
  refine wpAny_bind (wpAny_setEpoch_of ho hd hf ?_)
  refine wpAny_bind [61]
  exact hQ
theorem zjM{it:Addr}{i:Nat}{Q:Option Value->Shared->Prop}(hw:w.params.followText "set-order"=true)(hit:IsSI s.heap it a (zn w t i) i es.size ep)(hA:SetAt s.heap a es ep t)(hf:t.fits es.size=true){x:Int × Value}(hx:(xO w a es ep)[i]?=some x)
  (hQ:∀ h',IsSI h' it a (zn w t (i+1)) (i+1) es.size ep->Heap.SameBut it s.heap h'->Q (some x.2) { s with heap:=h' }):wpAny [11] A (pyNext [84]) Q E s:=by
 obtain ⟨o,ho,hc,hd⟩:=id hit
 obtain ⟨oa,hoa,hexa,hda⟩:=id hA
 have hlt:i<es.size:=by
  rw [← wR (w:=w) (a:=a) (ep:=ep)]
  exact (JG.mp hx).1
 unfold pyNext
 refine wpAny_bind (wpAny_attempt (wpAny_callSpecial?_slot (name:=Str.ofString "__next__") hit.typeIs slot_si_next
  (wpAny_call_entry slot_si_next hit.typeIs yf ?_ (yv _))))
 unfold Builtin.«set_iterator.__next__»
 refine wpAny_bind [19]
 refine wpAny_bind (wpAny_fieldsOf ho hd ?_)
 dsimp only
 unfold setEntries
 refine wpAny_bind (wpAny_bind (wpAny_setState_of hoa hda hf [19]))
 refine wpAny_ite_split (fun hcc=>?_) (fun _=>?_)
 ·simp at hcc
 ·simp only [Int.toNat_natCast]
  refine wpAny_bind (zeD hw hA hf (Nat.le_of_lt hlt) ?_)
  rw [hx]
  show wpAny _ _ (setField [84] 0 (rawInt (zn w t (i+1):Nat)) >>= _) _ _ _
  refine wpAny_bind (wpAny_setField ho hd [12] ?_)
  have ho1:=JX (Obj.mapFields [55]) ho (KQ (Kt hd _))
  have hd1:=Kt hd [55]
  refine wpAny_bind (wpAny_setField (s:={ s with heap:=s.heap.update it (Obj.mapFields [55]) }) ho1 hd1 [12] ?_)
  have ho2:=JX (Obj.mapFields (·.setIfInBounds 1 (rawInt ((i:Int)+1)))) ho1 (KQ (Kt hd1 _))
  refine wpAny_pure ⟨_,rfl,wpAny_pure [80]⟩
theorem zlJ{it:Addr}{i:Nat}{Q:Option Value->Shared->Prop}(hh:A.handled=none)(hw:w.params.followText "set-order"=true)(hit:IsSI s.heap it a (zn w t i) i es.size ep)(hA:SetAt s.heap a es ep t)(hf:t.fits es.size=true)(hi:i=es.size)
  (hQ:∀ h',Heap.ExtBut it s.heap h'->Q none { s with heap:=h' }):wpAny [11] A (pyNext [84]) Q E s:=by
 obtain ⟨o,ho,hc,hd⟩:=id hit
 obtain ⟨oa,hoa,hexa,hda⟩:=id hA
 unfold pyNext
 refine wpAny_bind (wpAny_attempt (wpAny_callSpecial?_slot (name:=Str.ofString "__next__") hit.typeIs slot_si_next
  (wpAny_call_entry slot_si_next hit.typeIs yf ?_ (yv _))))
 unfold Builtin.«set_iterator.__next__»
 refine wpAny_bind [19]
 refine wpAny_bind (wpAny_fieldsOf ho hd ?_)
 dsimp only
 unfold setEntries
 refine wpAny_bind (wpAny_bind (wpAny_setState_of hoa hda hf [19]))
 refine wpAny_ite_split (fun hcc=>?_) (fun _=>?_)
 ·simp at hcc
 ·simp only [Int.toNat_natCast]
  refine wpAny_bind (zeD hw hA hf (Nat.le_of_eq hi) ?_)
  rw [getElem?_neg _ i (by rw [wR];omega)]
  show wpAny _ _ (setField [84] 2 .none >>= _) _ _ _
  refine wpAny_bind (wpAny_setField ho hd [12] ?_)
  show wpAny _ _ (newExc (.type "StopIteration") [] >>= _) _ _ _
  refine wpAny_bind ?_
  simp only [newExc,newTuple]
  refine wpAny_bind (wpAny_newObj_type ?_ (by size_fits))
  refine wpAny_bind (m:=firstArgMember _ _) [50]
  refine wpAny_newObj_type ?_ (by size_fits)
  simp only [raiseNew]
  refine wpAny_bind (wpAny_handled ?_)
  rw [show A.in1.handled=none from hh]
  refine wpAny_bind (wpAny_pure (wpAny_throw ?_))
  refine wpAny_bind [89]
  exact wpAny_pure (hQ _ (((KKq ..).extBut.push _).push _))
theorem zgi(hh:A.handled=none)(hw:w.params.followText "set-order"=true)(hf:t.fits es.size=true)(I:Addr)(hne:a≠I):
  PySem.Walks prog w A I [I,a] [I] es.size (fun i v=>∃ x,(xO w a es ep)[i]?=some x/\v=x.2) (fun i h=>IsSI h I a (zn w t i) i es.size ep/\SetAt h a es ep t) where
 sub:=fun b hb=>by simp at hb;simp [hb]
 frame:=fun _ _ _ st hk=>⟨st.1.at fun o e=>hk I [12] o e,st.2.at fun o e=>hk a [12] o e⟩
 item:=fun i s Q E hi st hQ=>by
  have hi':i<(xO w a es ep).size:=by rw [wR];exact hi
  refine zjM hw st.1 st.2 hf (getElem?_pos _ i hi') fun h' hit' hs'=>?_
  exact hQ _ h' s.toks ⟨_,getElem?_pos _ i hi',rfl⟩ ⟨hit',st.2.at fun o e=>by rw [hs'.2 a hne];exact e⟩ fun b o hb e=>hs'.extBut b o (fun h=>hb (by simp [h])) e
 done:=fun s Q E st hQ=>zlJ hh hw st.1 st.2 hf rfl fun h' he'=>hQ h' s.toks fun b o hb e=>he' b o (fun h=>hb (by simp [h])) e
 self:=fun _ _ _ _ st hQ=>zcl st.1 hQ
theorem zkL(hw:w.params.followText "set-order"=true)(hf:t.fits es.size=true):KdlSrc prog w "set" a a es.size (fun i v=>∃ x,(xO w a es ep)[i]?=some x/\v=x.2) (fun h=>SetAt h a es ep t) where
 type:=fun _ ⟨o,ho,hex,_⟩=>⟨o,ho,hex.1⟩
 there:=fun _ ⟨o,ho,_⟩=>⟨Ji ho,Ji ho⟩
 keep:=fun _ _ hm hk=>hm.at fun o e=>hk a [76] o e
 notList:=by decide
 notTuple:=by decide
 hint:=fun _ _ _ _ ⟨o,ho,hex,_⟩ hq=>ql ⟨o,ho,hex.1⟩ hq
 iter:=fun _ s hh hm=>⟨_,_,(fun _ _ hq=>zjK hw hm hf hq),zgi hh hw hf _ (Jw (let ⟨o,ho,_⟩:=hm;Ji ho)),⟨⟨_,Jl _ rfl,rfl,rfl⟩,hm.at fun o e=>Jb _ e⟩⟩
end
end F
namespace F
open PySem PySem.Spec PySem.W PyProof.Rows
noncomputable def dS:Str:=⟨#[]⟩
noncomputable def qlt(a b:Int × Str):Prop:=a.1<b.1∨a.1=b.1/\a.2.cps.toList<b.2.cps.toList
instance (a b:Int × Str):Decidable (qlt a b):=by unfold qlt;infer_instance
structure PairsQ (h:Heap) (a:Addr) (vs:List Value) (ks:List (Int × Str)):Prop where
 len:vs.length=ks.length
 at':∀ i,i<vs.length->∃ l o items m t u,vs.getD i Value.none=.ref l/\l≠a/\h.get? l=some o/\o.cls=.type "tuple"/\o.data=.seq items m/\items.toList=[.int (ks.getD i (0,dS)).1 t,.str (ks.getD i (0,dS)).2 u]
 nd:ks.Nodup
end F
namespace F
open PySem PySem.Spec PyProof.Rows L2
section
variable {prog:Program} {w:World} {A:Around} {E:Value->Shared->Prop} {s:Shared}
theorem zgd{l:Addr}{items:Array Value}{ad:Nat->Addr}{key:Nat->List Key}{Q:Value->Shared->Prop}
  (hh:A.handled=none)(hu:A.units+16<cLine)(hl:s.heap.IsList l items)(hv:∀ i v,items[i]?=some v->v=Value.ref (ad i))(T:TupsM prog w s.heap items.size ad key [])(hb:items.size<63)
  (h:∀ (h':Heap) (tk:Nat),SetM prog w h' s.heap.objs.size (tlM ad items.size) (!w.params.followText "set-order")->
   (∀ b o,b<s.heap.objs.size->s.heap.get? b=some o->h'.get? b=some o)->Q [38] { s with heap:=h',toks:=tk }):
  wpAny [11] A (call (.type "set") [.ref l]) Q E s:=by
 generalize hled:(!w.params.followText "set-order")=led at h
 let o0:Obj:={ cls:=.type "set",dict:=none,data:=.set #[] 0 (.fresh 0 0 led) }
 obtain ⟨c,tl0,hmro⟩:=PySem.F.called_set.mro
 have hmade:=PySem.F.called_set.made
 have hsub:=PySem.F.called_set.sub
 refine wpAny_call (codeAny_of_tree ?_)
 show wpAny _ _ (callAny (.type "set") _) _ _ _
 refine wpAny_pure ⟨Code.quiet_builtin _ [25],codeAny_builtin PySem.F.entry_type_call ?_⟩
 rw [Around.under_plain (weight_type_call_type "set" [.ref l] []) rfl]
 have h1:=PySem.F.called_set.notType
 have h2:=PySem.F.called_set.canCreate
 have hct:=PySem.F.typeCall_set_1 (.ref l)
 repeat (any_goals (first | assumption | wp_step))
 refine codeAny_mono (zhn (.ref l) (E:=E) (Q₁:=fun obj s₁=>obj=.ref s.heap.objs.size/\s₁={ s with heap:=s.heap.push o0 }) ⟨rfl,by rw [hled]⟩) fun r s₁ hr=>?_
 cases r with
 | error e=>exact hr
 | ok fl=>
  cases fl with
  | ret obj=>
   obtain ⟨rfl,rfl⟩:=hr
   have hS:(s.heap.push o0).get? s.heap.objs.size=some o0:=Jl _ rfl
   have hT:Shared.TypeIs { s with heap:=s.heap.push o0 } [38] "set":=⟨_,hS,rfl⟩
   have hli:=PySem.F.called_set.init.lookup
   have hbi:=PySem.F.called_set.init.bind [38]
   repeat (any_goals (first | assumption | wp_step))
   refine codeAny_mono (codeAny_call_builtin (R:=wants (fun r s₂=>r=.none/\∃ h' tk,s₂={ s with heap:=h',toks:=tk }/\
     SetM prog w h' s.heap.objs.size (tlM ad items.size) led/\(∀ b o,b<s.heap.objs.size->s.heap.get? b=some o->h'.get? b=some o)) E) PySem.F.called_set.init.plain PySem.F.entry_set_init (check_set_init_1 hT ?_)) fun r₂ s₂ hr₂=>?_
   ·obtain ⟨ol,hol,hcl,nl,hdl⟩:=hl
    obtain ⟨ocls,odict,odata,oslots⟩:=ol
    simp only at hcl hdl
    subst hcl;subst hdl
    have hol':(s.heap.push o0).get? l=some { cls:=.type "list",dict:=odict,data:=.seq items nl,slots:=oslots }:=Jb _ hol
    have hsls:=PySem.F.sub_list_set
    have hslf:=PySem.F.sub_list_frozenset
    have hne:(Value.type "list" == Value.type "dict")=false:=by decide
    have hl1:(s.heap.push o0).IsList l items:=⟨_,hol',rfl,nl,rfl⟩
    unfold Builtin.«set.__init__» noKeywords Builtin.Frozenset.updateFrom
    generalize hPI:pyIter=PI
    wp_walk
    subst hPI
    refine wpAny_pyIter_list hl1 ?_
    refine wpAny_bind (wpAny_runValue ?_)
    have hlS:l<s.heap.objs.size:=Ji hol
    have hh3:A.in1.in1.in1.handled=none:=by simp [hh]
    have hneI:l≠(s.heap.push o0).objs.size:=by
     rw [KD];exact Jw (KG hlS)
    have hSf:s.heap.objs.size ∉ [(s.heap.push o0).objs.size,l]:=by
     rw [Heap.size_push];simp only [List.mem_cons,List.mem_singleton,List.not_mem_nil,or_false,not_or]
     exact ⟨Jw (QE _),Kj hlS⟩
    have hu2:A.in1.in1.units+8<cLine:=by show A.units+1+1+8<cLine;omega
    have T2:TupsM prog w s.heap items.size ad key (s.heap.objs.size::[(s.heap.push o0).objs.size]):=⟨T.at',fun i hi z=>by
     obtain ⟨o',_,_,ho',_⟩:=T.at' i hi
     have hlt:=Ji ho'
     simp only [List.mem_cons,List.not_mem_nil,or_false] at z
     rcases z with z | z
     ·exact Jw hlt z
     ·rw [KD] at z
      exact Jw (KG hlt) z,T.ne⟩
    refine zbb ((Walks.list hh3 _ l hneI items).toS) s.heap.objs.size hSf hv T2 hb hu2 (items.size - 0) 0 _ [8] (Km _)
     ⟨⟨_,Jl _ rfl,rfl,rfl⟩,(hl1.push _)⟩ (fun b o _ e=>Jb _ (Jb _ e)) (SetM.fresh (Jb _ hS)) ?hR
    case hR=>
     intro s' hm hS'
     obtain ⟨h',g',d',tk',os'⟩:=s'
     have eg:g'=s.gens:=hm.gens
     have ed:d'=s.drawn:=hm.drawn
     have eo:os'=s.os:=hm.os
     subst eg;subst ed;subst eo
     show wpAny _ _ _ _ _ _
     refine wpAny_pure ?_
     show wpAny _ _ (ret Value.none) _ _ _
     refine wpAny_pure ⟨rfl,h',tk',rfl,hS',fun b o hb e=>?_⟩
     have hb1:b≠s.heap.objs.size:=Jw hb
     have hb2:b≠(s.heap.push o0).objs.size:=by
      rw [KD];exact Jw (KG hb)
     exact hm.heap b o (by simp only [List.mem_cons,List.mem_singleton,List.not_mem_nil,or_false,not_or];exact ⟨hb1,hb2⟩) (Heap.get?_push_of_some _ (Heap.get?_push_of_some _ e))
   ·cases r₂ with
    | error e=>exact hr₂
    | ok fl₂=>
     cases fl₂ with
     | ret r=>
      obtain ⟨rfl,h',tk,rfl,hS',hk'⟩:=hr₂
      repeat (any_goals (first | assumption | wp_step))
      exact h _ _ hS' hk'
     | _=>exact hr₂.elim
  | _=>exact hr.elim
end
end F
namespace F
open PySem PySem.Spec PyProof.Rows PySem.W
section
variable {prog:Program} {w:World} {A:Around} {E:Value->Shared->Prop} {s:Shared} {a:Addr} {es:Array (Int × Value)} {ep:Nat} {t:SetTable}
theorem zeb{R:List Value->Shared->Prop}(hh:A.handled=none)(hb:¬ w.params.followText "set-order"=true)(hdr:(!t.plain && decide (es.size > 1))=true)(hA:SetAt s.heap a es ep t)(hf:t.fits es.size=true)(hz:es.size≤1000)
  (h:∀ (h':Heap) (tk:Nat) d (acc:Array Value) (ord:List Nat),ord.Perm (List.range es.size)->(∀ b o,s.heap.get? b=some o->h'.get? b=some o)->ItemsOf (fun i v=>∃ j x,ord[i]?=some j/\es[j]?=some x/\v=x.2) acc es.size->R acc.toList { s with heap:=h',toks:=tk,drawn:=d }):
  wpAny [11] A (collect [67]) R E s:=by
 obtain ⟨oa,hoa,_⟩:=id hA
 have hlt:=Ji hoa
 unfold collect
 refine wpAny_bind (wpAny_runValue (codeAny_builtin entry_proto_collect' ?_))
 rw [Ql PySem.F.plain_proto_collect _]
 show wpAny _ A.in1 (newList [] >>= fun l=>again (.builtin "list.__iadd__" ⟨[l,.ref a],[]⟩)) _ _ s
 refine wpAny_bind (wpAny_newObj_type ?_)
 refine wpAny_pure ⟨plainId_quiet PySem.F.plain_list_iadd _,codeAny_builtin entry_list_iadd' ?_⟩
 rw [Ql PySem.F.plain_list_iadd _]
 have hS₁:(s.heap.push { cls:=.type "list",data:=.seq ([]:List Value).toArray }).get? s.heap.objs.size=some { cls:=.type "list",data:=.seq #[] }:=Jl _ rfl
 show wpAny _ A.in1 (Builtin.List.listExtendWith [38] [67] [38]) _ _ _
 have key:=zfP (prog:=prog) (A:=A) (s:={ s with heap:=s.heap.push { cls:=.type "list",data:=.seq ([]:List Value).toArray } })
  (R:=fun (q:Result) (s':Shared)=>∃ (h':Heap) (tk:Nat) (d:Drawn) (acc':Array Value) (c':Nat) (ord:List Nat),q=.ok (.ret [38])/\s'={ s with heap:=h',toks:=tk,drawn:=d }/\ord.Perm (List.range es.size)/\
   (∀ b o,s.heap.get? b=some o->h'.get? b=some o)/\h'.get? s.heap.objs.size=some { cls:=.type "list",dict:=none,data:=.seq acc' c',slots:=#[] }/\ItemsOf (fun i v=>∃ j x,ord[i]?=some j/\es[j]?=some x/\v=x.2) acc' es.size)
  hh hb hdr (hA.at fun o e=>Jb _ e) hf hz s.heap.objs.size (Kj hlt) [38] 0 hS₁
  (fun h' tk d acc' c' ord hp hk hS' hacc=>⟨h',tk,d,acc',c',ord,rfl,rfl,hp,fun b o e=>hk b o (Jw (Ji e)) (Jb _ e),hS',hacc⟩)
 refine wpAny_mono key (fun fin s' x=>?_) fun e s' x=>?_
 ·cases fin with
  | done f=>
   obtain ⟨h',tk,d,acc',c',ord,e,rfl,hp,hk,hS',hacc⟩:=x
   cases e
   show wpAny _ A (load s.heap.objs.size >>= _) _ _ _
   refine wpAny_bind (wpAny_load hS' ?_)
   exact wpAny_pure (h h' tk d acc' ord hp hk hacc)
  | again c₁=>
   refine ⟨x.1,codeAny_mono x.2 fun q s₂ y=>?_⟩
   obtain ⟨h',tk,d,acc',c',ord,rfl,rfl,hp,hk,hS',hacc⟩:=y
   show wpAny _ A (load s.heap.objs.size >>= _) _ _ _
   refine wpAny_bind (wpAny_load hS' ?_)
   exact wpAny_pure (h h' tk d acc' ord hp hk hacc)
 ·obtain ⟨_,_,_,_,_,_,e',_⟩:=x
  cases e'
theorem zdS{acc:Array Value}{ord:List Nat}(hp:ord.Perm (List.range es.size))(hi:ItemsOf (fun i v=>∃ j x,ord[i]?=some j/\es[j]?=some x/\v=x.2) acc es.size):acc.toList.Perm (es.toList.map (·.2)):=by
 have e:acc.toList=ord.map fun j=>(es.toList.map (·.2)).getD j Value.none:=by
  apply Qi
  intro i
  rw [JK,Jx]
  by_cases hj:i<es.size
  ·have hj':i<acc.size:=by rw [hi.1];exact hj
   obtain ⟨j,x,h1,h2,h3⟩:=hi.2 i acc[i] (getElem?_pos acc i hj')
   rw [getElem?_pos acc i hj',h1,h3,Option.map_some,Kh,JK,Jx,h2];rfl
  ·rw [getElem?_neg acc i (by rw [hi.1];exact hj),Qf (by rw [hp.length_eq,JL];omega)];rfl
 rw [e]
 have:=hp.map fun j=>(es.toList.map (·.2)).getD j Value.none
 have e2:=jL Value.none (es.toList.map (·.2))
 rw [Jj,Jk] at e2
 rwa [e2] at this
theorem zga{R:List Value->Shared->Prop}{led:Bool}(hh:A.handled=none)(hl:led=!w.params.followText "set-order")(hA:SetAt s.heap a es ep t)(g:Tab.GoodN t es.size led)(h2:2≤es.size)(hz:es.size≤1000)
  (h:∀ (h':Heap) (tk:Nat) d (acc:Array Value),(∀ b o,s.heap.get? b=some o->h'.get? b=some o)->acc.toList.Perm (es.toList.map (·.2))->R acc.toList { s with heap:=h',toks:=tk,drawn:=d }):
  wpAny [11] A (collect [67]) R E s:=by
 have fin:∀ (h':Heap) (tk:Nat) (acc:Array Value),(∀ b o,s.heap.get? b=some o->h'.get? b=some o)->ItemsOf (fun i v=>∃ x,(xO w a es ep)[i]?=some x/\v=x.2) acc es.size->R acc.toList { s with heap:=h',toks:=tk }:=fun h' tk acc hk hi=>by
  refine h h' tk s.drawn acc hk ?_
  have hacc:acc.toList=(xO w a es ep).toList.map (·.2):=by
   apply Qi
   intro j
   rw [JK,Jx,Jx]
   by_cases hj:j<es.size
   ·have hj':j<acc.size:=by rw [hi.1];exact hj
    obtain ⟨x,hx1,hx2⟩:=hi.2 j acc[j] (getElem?_pos acc j hj')
    rw [getElem?_pos acc j hj',hx1,hx2];rfl
   ·rw [getElem?_neg acc j (by rw [hi.1];exact hj),getElem?_neg _ j (by rw [wR];exact hj)];rfl
  rw [hacc]
  exact its_perm.map _
 by_cases hw:w.params.followText "set-order"=true
 ·exact PySem.W.kdu_collect (zkL (ep:=ep) hw g.fits) hh hA (by rw [sizeLine_eq];omega) fin
 ·cases hp:t.plain with
  | true=>
   have g':Tab.Good t es.size led:=by
    have e:({ t with plain:=true }:SetTable)=t:=by cases t;simp only at hp;subst hp;rfl
    have:=g
    unfold Tab.GoodN at this
    rwa [e] at this
   exact PySem.W.kdu_collect (ziK (ep:=ep) hl g') hh hA (by rw [sizeLine_eq];omega) fin
  | false=>
   exact zeb hh hw (by rw [hp];simp;omega) hA g.fits hz fun h' tk d acc ord hp hk hi=>h h' tk d acc hk (zdS hp hi)
end
end F
namespace F
end F
namespace L2
open PySem PySem.Spec PySem.W PyProof.Rows F
theorem Inv.drew{X:Cx}{pins:List [17]}{σ:St}{H:Hp}{s:Shared}{d:Drawn}(I:Inv X pins σ H s):Inv X pins σ H { s with drawn:=d }:=⟨I.ok,I.os,I.bare,I.base,I.loc,I.cell,I.free,I.freeC,I.pin,I.hok,I.len⟩
end L2
namespace F
open PySem PySem.Spec PyProof.Rows L2
end F
namespace L2
open PySem PySem.Spec PySem.W PyProof.Rows F
end L2
namespace F
open PySem PySem.Spec PyProof.Rows L2
end F
namespace TS
open PySem PyProof.Rows
noncomputable def zbC:Bool->Keyed->Array Keyed->Nat->Nat->Nat->StateT SortSt Sem (Option Nat):=sortPriv% PySem.Builtin.gallop
noncomputable def zhr:Array Keyed->Array Keyed->StateT SortSt Sem (Array Keyed):=sortPriv% PySem.Builtin.mergeLo
noncomputable def zhs:Array Keyed->Array Keyed->StateT SortSt Sem (Array Keyed):=sortPriv% PySem.Builtin.mergeHi
noncomputable def ziP:Nat->StateT SortSt Sem Unit:=sortPriv% PySem.Builtin.setMinGallop
section
variable {prog:Program} {w:World} {A:Around} {E:Value->Shared->Prop} {s:Shared} {O:KeyOrd} {key:Keyed->O.α} {L:List Keyed} {κ:SortKind} {st:SortSt}
noncomputable def Asks(prog:Program)(w:World)(A:Around)(s:Shared)(κ:SortKind)(L:List Keyed)(key:Keyed->O.α):Prop:=
 ∀ x y (Q:Bool->Shared->Prop),x ∈ L->y ∈ L->Q (O.blt (key x) (key y)) s->wpAny [11] A (keyLt' κ x.1 y.1) Q (fun _ _=>False) s
theorem ky{x y:Keyed}{Q:Option Bool->SortSt->Prop}(hA:Asks prog w A s κ L key)(hk:kindOf st=κ)(hx:x ∈ L)(hy:y ∈ L)(h:Q (some (O.blt (key x) (key y))) st):wpS [11] A E s (lt' x y) Q st:=by
 rw [lt'_eq]
 refine wpS_bind (wpS_get ?_)
 rw [hk]
 refine wpS_bind (wpS_lift (wpAny_attempt (wpAny_mono (hA x y (fun b s'=>s'=s/\b=O.blt (key x) (key y)) hx hy ⟨rfl,rfl⟩) (fun b s' hb=>?_) fun _ _ z=>z.elim)))
 obtain ⟨rfl,rfl⟩:=hb
 exact ⟨rfl,wpS_pure h⟩
theorem zi{xs:Array Keyed}{i:Nat}{x:Keyed}{Q:Keyed->SortSt->Prop}(hx:xs[i]?=some x)(h:Q x st):wpS [11] A E s (elem' xs i) Q st:=by
 rw [elem'_eq,hx];exact wpS_pure h
noncomputable def bey(l:Bool)(k x:O.α):Bool:=if l=true then O.blt x k else !O.blt k x
theorem zit{l:Bool}{xs:Array Keyed}{i:Nat}{k0 x:Keyed}{Q:Option Bool->SortSt->Prop}(hA:Asks prog w A s κ L key)(hk:kindOf st=κ)(hi:xs[i]?=some x)(hx:x ∈ L)(h0:k0 ∈ L)(h:Q (some (bey l (key k0) (key x))) st):
  wpS [11] A E s (do let x ← elem' xs i;if l=true then lt' x k0 else do { let r ← lt' k0 x;pure (r.map fun x=>!x) }) Q st:=by
 refine wpS_bind (zi hi ?_)
 cases l with
 | true=>exact ky hA hk hx h0 h
 | false=>exact wpS_bind (ky hA hk h0 hx (wpS_pure h))
noncomputable def Step(p:Nat->Bool)(n:Nat):Prop:=∀ i j,i≤j->j<n->p j=true->p i=true
theorem Step.no{p:Nat->Bool}{n i j:Nat}(h:Step p n)(hij:i≤j)(hj:j<n)(e:p i=false):p j=false:=by
 cases c:p j with
 | false=>rfl
 | true=>rw [h i j hij hj c] at e;cases e
noncomputable def Cut(p:Nat->Bool)(n k:Nat):Prop:=k≤n/\(∀ i,i<k->p i=true)/\∀ i,k≤i->i<n->p i=false
theorem zde {n : Nat} {p : Nat → Bool} {f : Nat → StateT SortSt Sem (Option Bool)} (hf : ∀ i (Q : Option Bool → SortSt → Prop), i < n → Q (some (p i)) st → wpS [11] A E s (f i) Q st) (hp : Step p n) {lo hi : Nat} (h1 : lo ≤ hi) (h2 : hi ≤ n) (a : ∀ i, i < lo → p i = true) (b : ∀ i, hi ≤ i → i < n → p i = false)
    {Q : Option (Option Nat) × Nat × Nat → SortSt → Prop} (h : ∀ k, Cut p n k → Q (none, k, k) st) :
    wpS [11] A E s (forIn [:n] ((none, lo, hi) : Option (Option Nat) × Nat × Nat) fun _ c =>
      if c.2.1 ≥ c.2.2 then pure (.done (none, c.2.1, c.2.2)) else do
        let x ← f (c.2.1 + (c.2.2 - c.2.1) / 2)
        match x with
        | some m => if m = true then pure (.yield (none, c.2.1 + (c.2.2 - c.2.1) / 2 + 1, c.2.2)) else pure (.yield (none, c.2.1, c.2.1 + (c.2.2 - c.2.1) / 2))
        | _ => pure (.done (some none, c.2.1, c.2.2))) Q st := by
  refine wpS_forRange (I := fun x c st' => st' = st ∧ ∃ lo hi, c = (none, lo, hi) ∧ lo ≤ hi ∧ hi ≤ n ∧ hi - lo ≤ n - x ∧ (∀ i, i < lo → p i = true) ∧ ∀ i, hi ≤ i → i < n → p i = false) ?_ ?_ ⟨rfl, lo, hi, rfl, h1, h2, by omega, a, b⟩
  · rintro x c st' _ hx ⟨rfl, lo, hi, rfl, h1, h2, h3, a, b⟩
    dsimp only
    by_cases hg : lo ≥ hi
    · rw [if_pos hg]
      obtain rfl : lo = hi := by omega
      exact wpS_pure (h lo ⟨h2, a, b⟩)
    · rw [if_neg hg]
      refine wpS_bind (hf _ _ [8] ?_)
      cases c : p (lo + (hi - lo) / 2) with
      | true => exact wpS_pure ⟨rfl, _, _, rfl, by omega, h2, by omega, fun i hi' => hp i _ [8] [8] c, b⟩
      | false => exact wpS_pure ⟨rfl, _, _, rfl, by omega, by omega, by omega, a, fun i h4 h5 => hp.no h4 h5 c⟩
  · rintro c st' ⟨rfl, lo, hi, rfl, h1, h2, h3, a, b⟩
    obtain rfl : lo = hi := by omega
    exact h lo ⟨h2, a, b⟩
theorem k4{l:Bool}{k0:Keyed}{xs:Array Keyed}{base n hint:Nat}{Q:Option Nat->SortSt->Prop}(hA:Asks prog w A s κ L key)(hk:kindOf st=κ)(h0:k0 ∈ L){g:Nat->Keyed}(hx:∀ i,i<n->xs[base+i]?=some (g i)/\g i ∈ L)
  (hp:Step (fun i=>bey l (key k0) (key (g i))) n)(hh:hint<n)(h:∀ k,Cut (fun i=>bey l (key k0) (key (g i))) n k->Q (some k) st):wpS [11] A E s (zbC l k0 xs base n hint) Q st:=by
 have hf:∀ i (Q:Option Bool->SortSt->Prop),i<n->Q (some (bey l (key k0) (key (g i)))) st->wpS [11] A E s (do let x ← elem' xs (base+i);if l=true then lt' x k0 else do { let r ← lt' k0 x;pure (r.map fun x=>!x) }) Q st:=fun i Q hi hq=>zit hA hk (hx i hi).1 (hx i hi).2 h0 hq
 generalize hpp:(fun i=>bey l (key k0) (key (g i)))=p at *
 have hpi:∀ i,bey l (key k0) (key (g i))=p i:=fun i=>by rw [← hpp]
 refine wpS_bind (hf hint _ hh ?_)
 rw [hpi]
 cases c:p hint with
 | true=>
  dsimp only
  rw [if_pos rfl]
  refine wpS_bind (wpS_mono (wpS_forRange (I:=fun x c st'=>st'=st/\∃ la of,c=(none,la,of)/\la<of/\x+1≤of/\hint+la<n/\p (hint+la)=true) (Q:=fun c st'=>st'=st/\∃ la of,c=(none,la,of)/\la<of/\hint+la<n/\p (hint+la)=true/\(n - hint≤of∨hint+of<n/\p (hint+of)=false)) ?_ ?_ ⟨rfl,0,1,rfl,by omega,by omega,by omega,c⟩) ?_)
  ·rintro x c st' _ hx ⟨rfl,la,of,rfl,h1,h2,h3,h4⟩
   dsimp only
   by_cases hg:of ≥ n - hint
   ·rw [if_pos hg]
    exact wpS_pure ⟨rfl,la,of,rfl,h1,h3,h4,.inl hg⟩
   ·rw [if_neg hg]
    refine wpS_bind (hf (hint+of) _ [8] ?_)
    rw [hpi]
    cases d:p (hint+of) with
    | true=>exact wpS_pure ⟨rfl,of,2 * of+1,rfl,by omega,by omega,by omega,d⟩
    | false=>exact wpS_pure ⟨rfl,la,of,rfl,h1,h3,h4,.inr ⟨by omega,d⟩⟩
  ·rintro c st' ⟨rfl,la,of,rfl,h1,h2,h3,h4⟩
   exact ⟨rfl,la,of,rfl,h1,h3,h4,.inl [8]⟩
  ·rintro c st' ⟨rfl,la,of,rfl,h1,h3,h4,h5⟩
   dsimp only
   refine wpS_bind (zde (p:=p) (fun i Q hi hq=>hf i Q hi (by rw [hpi];exact hq)) hp [8] [8] (fun i hi=>hp i _ [8] h3 h4) (fun i h6 h7=>?_) fun k hc=>wpS_pure (h k hc))
   rcases h5 with h5 | ⟨h5,h8⟩
   ·omega
   ·exact hp.no [8] h7 h8
 | false=>
  dsimp only
  rw [if_neg Je]
  refine wpS_bind (wpS_mono (wpS_forRange (I:=fun x c st'=>st'=st/\∃ la of,c=(none,la,of)/\la<of/\x+1≤of/\la≤hint/\p (hint - la)=false) (Q:=fun c st'=>st'=st/\∃ la of,c=(none,la,of)/\la<of/\la≤hint/\p (hint - la)=false/\(hint+1≤of∨of≤hint/\p (hint - of)=true)) ?_ ?_ ⟨rfl,0,1,rfl,by omega,by omega,by omega,c⟩) ?_)
  ·rintro x c st' _ hx ⟨rfl,la,of,rfl,h1,h2,h3,h4⟩
   dsimp only
   by_cases hg:of ≥ hint+1
   ·rw [if_pos hg]
    exact wpS_pure ⟨rfl,la,of,rfl,h1,h3,h4,.inl hg⟩
   ·rw [if_neg hg]
    refine wpS_bind (hf (hint - of) _ [8] ?_)
    rw [hpi]
    cases d:p (hint - of) with
    | false=>exact wpS_pure ⟨rfl,of,2 * of+1,rfl,by omega,by omega,by omega,d⟩
    | true=>exact wpS_pure ⟨rfl,la,of,rfl,h1,h3,h4,.inr ⟨by omega,d⟩⟩
  ·rintro c st' ⟨rfl,la,of,rfl,h1,h2,h3,h4⟩
   exact ⟨rfl,la,of,rfl,h1,h3,h4,.inl [8]⟩
  ·rintro c st' ⟨rfl,la,of,rfl,h1,h3,h4,h5⟩
   dsimp only
   refine wpS_bind (zde (p:=p) (fun i Q hi hq=>hf i Q hi (by rw [hpi];exact hq)) hp [8] [8] (fun i hi=>?_) (fun i h6 h7=>hp.no h6 h7 h4) fun k hc=>wpS_pure (h k hc))
   rcases h5 with h5 | ⟨h5,h8⟩
   ·omega
   ·exact hp i _ [8] [8] h8
end
section
variable {prog:Program} {w:World} {A:Around} {E:Value->Shared->Prop} {s:Shared} {O:KeyOrd} {key:Keyed->O.α} {L T out X Y X1 X2:List Keyed} {κ:SortKind} {st st' st'':SortSt}
noncomputable def Srt(key:Keyed->O.α)(l:List Keyed):Prop:=l.Pairwise fun x y=>O.kle (key x) (key y)
structure Inv (key:Keyed->O.α) (T out X Y:List Keyed):Prop where
 perm:(out++(X++Y)).Perm T
 srt:Srt key out
 cut:∀ x ∈ out,∀ y ∈ X++Y,O.kle (key x) (key y)
theorem Inv.swap(h:Inv key T out X Y):Inv key T out Y X:=
 ⟨(QA out List.perm_append_comm).trans h.perm,h.srt,fun x hx y hy=>h.cut x hx y (JQ.mpr (JQ.mp hy).symm)⟩
theorem Inv.move(h:Inv key T out (X1++X2) Y)(hs:Srt key (X1++X2))(hc:∀ x ∈ X1,∀ y ∈ Y,O.kle (key x) (key y)):Inv key T (out++X1) X2 Y:=by
 obtain ⟨s1,s2,s3⟩:=JE.mp hs
 refine ⟨?_,List.pairwise_append.mpr ⟨h.srt,s1,fun x hx y hy=>h.cut x hx y (by simp [hy])⟩,fun x hx y hy=>?_⟩
 ·have:=h.perm
  rw [JC] at this ⊢
  exact this
 ·rcases List.mem_append.mp hx with hx | hx
  ·exact h.cut x hx y (by rcases List.mem_append.mp hy with hy | hy<;>simp [hy])
  ·rcases List.mem_append.mp hy with hy | hy
   ·exact s3 x hx y hy
   ·exact hc x hx y hy
theorem Inv.fin(h:Inv key T out X Y)(h1:Srt key X)(h2:Srt key Y)(hc:∀ x ∈ X,∀ y ∈ Y,O.kle (key x) (key y)):(out++X++Y).Perm T/\Srt key (out++X++Y):=by
 rw [JC]
 exact ⟨h.perm,JE.mpr ⟨h.srt,JE.mpr ⟨h1,h2,hc⟩,h.cut⟩⟩
noncomputable def Sm(st st':SortSt):Prop:=∃ g,st'=SortSt.mk' (kindOf st) [47] (pendingOf st) g (failedOf st)
theorem Sm.refl(st:SortSt):Sm st st:=⟨gallopOf st,rfl⟩
theorem Sm.trans(h:Sm st st')(k:Sm st' st''):Sm st st'':=by
 obtain ⟨g,rfl⟩:=h;obtain ⟨g',rfl⟩:=k;exact ⟨g',rfl⟩
theorem Sm.kind(h:Sm st st'):kindOf st'=kindOf st:=by obtain ⟨g,rfl⟩:=h;rfl
theorem vM{g:Nat}{Q:Unit->SortSt->Prop}(h:∀ st',Sm st st'->Q () st'):wpS [11] A E s (ziP g) Q st:=
 wpS_modify (h _ ⟨g,rfl⟩)
theorem jb(a:Array Keyed)(i:Nat):(a.extract i).toList=a.toList.drop i:=by
 rw [Array.toList_extract,List.extract];exact List.take_of_length_le [12]
theorem zeT(a:Array Keyed)(i k:Nat):(a.extract i (i+k)).toList=(a.toList.drop i).take k:=by simp [List.extract]
theorem xf{a:Array Keyed}{i:Nat}(h:i<a.size):∃ x,a[i]?=some x/\x ∈ a.toList/\a.toList.drop i=x::a.toList.drop (i+1):=by
 refine ⟨a[i],by simp [h],by simp,?_⟩
 rw [List.drop_eq_getElem_cons (by simpa using h)];simp
theorem Srt.drop(h:Srt key X)(i:Nat):Srt key (X.drop i):=List.Pairwise.sublist (List.drop_sublist i X) h
theorem Srt.head{x:Keyed}(h:Srt key (x::X)):∀ y ∈ X,O.kle (key x) (key y):=(KB.mp h).1
theorem Srt.at{a:Array Keyed}(h:Srt key a.toList){i j:Nat}{x y:Keyed}(hi:a[i]?=some x)(hj:a[j]?=some y)(hij:i≤j):O.kle (key x) (key y):=by
 rcases Nat.lt_or_ge i j with c | c
 ·obtain ⟨hi',ei⟩:=JG.mp hi
  obtain ⟨hj',ej⟩:=JG.mp hj
  have:=List.pairwise_iff_getElem.mp h i j (by simpa using hi') (by simpa using hj') c
  simpa [ei,ej] using this
 ·obtain rfl:i=j:=by omega
  rw [hi] at hj;cases hj;exact KeyOrd.kle_refl _
theorem gal{l:Bool}{k0:Keyed}{a:Array Keyed}{i:Nat}{Q:Option Nat->SortSt->Prop}(hA:Asks prog w A s κ L key)(hk:kindOf st=κ)(h0:k0 ∈ L)(ha:∀ x ∈ a.toList,x ∈ L)(hs:Srt key a.toList){n hint:Nat}(hn:i+n≤a.size)(hh:hint<n)
  (h:∀ k,k≤n->(∀ j x,j<k->a[i+j]?=some x->bey l (key k0) (key x)=true)->(∀ j x,k≤j->j<n->a[i+j]?=some x->bey l (key k0) (key x)=false)->Q (some k) st):wpS [11] A E s (zbC l k0 a i n hint) Q st:=by
 have hg:∀ j,j<n->a[i+j]?=some (a.getD (i+j) [74])/\a.getD (i+j) [74] ∈ L:=fun j hj=>by
  have:i+j<a.size:=by omega
  have e:a.getD (i+j) [74]=a[i+j]:=by simp [Array.getD,this]
  rw [e]
  exact ⟨by simp [this],ha _ [12]⟩
 refine k4 hA hk h0 hg (fun j j' hj hj' e=>?_) hh fun k hc=>h k hc.1 (fun j x hj e=>?_) fun j x hj hj' e=>?_
 ·have:=hs.at (hg j [8]).1 (hg j' hj').1 [8]
  cases l with
  | true=>exact KeyOrd.klt_of_kle_of_klt this e
  | false=>
   have e':O.blt (key k0) (key (a.getD (i+j') [74]))=false:=by simpa [bey] using e
   have:O.blt (key k0) (key (a.getD (i+j) [74]))=false:=JP this e'
   show (!O.blt _ _)=true
   rw [this];rfl
 ·have:=hc.2.1 j hj
  rw [(hg j (by have:=hc.1;omega)).1] at e
  cases e;exact this
 ·have:=hc.2.2 j hj hj'
  rw [(hg j hj').1] at e
  cases e;exact this
noncomputable def Fin(key:Keyed->O.α)(st:SortSt)(T:List Keyed)(r:Array Keyed)(st':SortSt):Prop:=Sm st st'/\r.toList.Perm T/\Srt key r.toList
structure Lo (key:Keyed->O.α) (st:SortSt) (a b:Array Keyed) (m:Nat) (out:Array Keyed) (ia ib:Nat) (st':SortSt):Prop where
 sm:Sm st st'
 inv:Inv key [16] out.toList (a.toList.drop ia) (b.toList.drop ib)
 ha:ia+2≤a.size
 hb:ib+1≤b.size
 hm:m≤out.size
noncomputable def LoQ(key:Keyed->O.α)(st:SortSt)(a b:Array Keyed)(m:Nat)(r:ForInStep (Option (Array Keyed) × Array Keyed × Nat × Nat × Nat × Nat × Nat))(st':SortSt):Prop:=match r with
 | .done c=>(∃ r,c.1=some r/\Fin key st [16] r st')∨∃ out ia ib mg ac bc,c=(none,out,ia,ib,mg,ac,bc)/\Lo key st a b m out ia ib st'
 | .yield c=>∃ out ia ib mg ac bc,c=(none,out,ia,ib,mg,ac,bc)/\Lo key st a b m out ia ib st'
theorem vF{a:Array Keyed}{i:Nat}{x:Keyed}(h:x ∈ a.toList.drop i):∃ j,i+j<a.size/\a[i+j]?=some x:=by
 obtain ⟨j,hj,e⟩:=JZ h
 rw [KP,Jk] at hj
 refine ⟨j,by omega,?_⟩
 rw [List.getElem_drop] at e
 rw [Ky [8],← KU,e]
theorem jS{a:Array Keyed}{i k:Nat}{x:Keyed}(h:x ∈ (a.toList.drop i).take k):∃ j,j<k/\a[i+j]?=some x:=by
 obtain ⟨j,hj,e⟩:=JZ h
 rw [Ku,KP,Jk] at hj
 refine ⟨j,by omega,?_⟩
 rw [List.getElem_take,List.getElem_drop] at e
 rw [Ky [8],← KU,e]
theorem Inv.moveX{a out:Array Keyed}{i k:Nat}(h:Inv key T out.toList (a.toList.drop i) Y)(hs:Srt key a.toList)(hc:∀ x ∈ (a.toList.drop i).take k,∀ y ∈ Y,O.kle (key x) (key y)):Inv key T (out++a.extract i (i+k)).toList (a.toList.drop (i+k)) Y:=by
 rw [JU,zeT,← List.drop_drop]
 exact Inv.move (by rw [Ko];exact h) (by rw [Ko];exact hs.drop i) hc
theorem jT{a:Array Keyed}{i j:Nat}{y z x:Keyed}(hs:Srt key a.toList)(hz:a[i]?=some z)(hj:a[i+j]?=some x)(hy:O.kle (key y) (key z)):O.kle (key y) (key x):=JP hy (hs.at hz hj [8])
theorem zbU{a b:Array Keyed}{Q:Array Keyed->SortSt->Prop}(hA:Asks prog w A s κ L key)(hk:kindOf st=κ)(ha:∀ x ∈ a.toList,x ∈ L)(hb:∀ x ∈ b.toList,x ∈ L)(sa:Srt key a.toList)(sb:Srt key b.toList)(a1:1≤a.size)(b1:1≤b.size)
  (hf:∀ x y,b[0]?=some x->a[0]?=some y->O.kle (key x) (key y))(hl:∀ x ∈ b.toList,∀ y,a[a.size - 1]?=some y->O.kle (key x) (key y))(h:∀ r st',Fin key st [16] r st'->Q r st'):wpS [11] A E s (zhr a b) Q st:=by
 -- the ends
 have done1:∀ {out:Array Keyed} {ia ib st'},Sm st st'->Inv key [16] out.toList (a.toList.drop ia) (b.toList.drop ib)->(a.size≤ia∨b.size≤ib)->Fin key st [16] (out++a.extract ia++b.extract ib) st':=fun {out ia ib st'} sm I hz=>by
  obtain ⟨f1,f2⟩:=I.fin (sa.drop _) (sb.drop _) (by
   rcases hz with hz | hz
   ·rw [List.drop_of_length_le (by simpa using hz)];simp
   ·rw [List.drop_of_length_le (l:=b.toList) (by simpa using hz)];simp)
  refine ⟨sm,?_⟩
  rw [JU,JU,jb,jb]
  exact ⟨f1,f2⟩
 have done2:∀ {out:Array Keyed} {ia ib st'},Sm st st'->Inv key [16] out.toList (a.toList.drop ia) (b.toList.drop ib)->ia+1=a.size->Fin key st [16] (out++b.extract ib++a.extract ia) st':=fun {out ia ib st'} sm I hz=>by
  obtain ⟨z,z1,z2,z3⟩:=xf (a:=a) (i:=ia) [8]
  obtain ⟨f1,f2⟩:=I.swap.fin (sb.drop _) (sa.drop _) (by
   rw [z3,List.drop_of_length_le (l:=a.toList) (by simp;omega)]
   intro x hx y hy
   rw [Jh.mp hy]
   exact hl x (Qk hx) z (by rw [← hz];exact z1))
  refine ⟨sm,?_⟩
  rw [JU,JU,jb,jb]
  exact ⟨f1,f2⟩
 -- one of b,one of a
 have pushB:∀ {out:Array Keyed} {ia ib y},Inv key [16] out.toList (a.toList.drop ia) (b.toList.drop ib)->b[ib]?=some y->(∀ x ∈ a.toList.drop ia,O.kle (key y) (key x))->Inv key [16] (out.push y).toList (a.toList.drop ia) (b.toList.drop (ib+1)):=fun {out ia ib y} I hy hc=>by
  obtain ⟨hlt,_⟩:=JG.mp hy
  obtain ⟨z,z1,z2,z3⟩:=xf hlt
  rw [hy] at z1;cases z1
  rw [z3] at I
  rw [KI]
  refine (Inv.move (X1:=[y]) I.swap ?_ (by simpa using hc)).swap
  rw [List.singleton_append,← z3];exact sb.drop _
 have pushA:∀ {out:Array Keyed} {ia ib y},Inv key [16] out.toList (a.toList.drop ia) (b.toList.drop ib)->a[ia]?=some y->(∀ x ∈ b.toList.drop ib,O.kle (key y) (key x))->Inv key [16] (out.push y).toList (a.toList.drop (ia+1)) (b.toList.drop ib):=fun {out ia ib y} I hy hc=>by
  obtain ⟨hlt,_⟩:=JG.mp hy
  obtain ⟨z,z1,z2,z3⟩:=xf hlt
  rw [hy] at z1;cases z1
  rw [z3] at I
  rw [KI]
  refine Inv.move (X1:=[y]) I ?_ (by simpa using hc)
  rw [List.singleton_append,← z3];exact sa.drop _
 refine wpS_bind (wpS_lift (wpAny_rule ⟨rfl,?_⟩))
 extract_lets -underBinder total done lastA
 obtain ⟨y0,y1,y2,y3⟩:=xf (a:=b) (i:=0) [8]
 obtain ⟨x0,x1,x2,x3⟩:=xf (a:=a) (i:=0) [8]
 refine wpS_bind (zi y1 ?_)
 extract_lets -underBinder out0 ia0 ib0
 have I0:Inv key [16] out0.toList (a.toList.drop 0) (b.toList.drop 1):=by
  have:=pushB (out:=#[]) (ia:=0) (ib:=0) (y:=y0) ⟨List.Perm.refl _,.nil,by simp⟩ y1 (fun x hx=>by
   rw [x3] at hx
   rcases List.mem_cons.mp hx with rfl | hx
   ·exact hf _ _ y1 x1
   ·refine JP (hf _ _ y1 x1) ?_
    have:=sa
    rw [← List.drop_zero (l:=a.toList),x3] at this
    exact this.head x hx)
  exact this
 by_cases hb1:1=b.size
 ·rw [if_pos (beq_iff_eq.mpr hb1)]
  exact wpS_pure (h _ _ (done1 (Sm.refl _) I0 (.inr [8])))
 rw [if_neg (fun z=>hb1 (beq_iff_eq.mp z))]
 by_cases ha1:0+1=a.size
 ·rw [if_pos (beq_iff_eq.mpr ha1)]
  exact wpS_pure (h _ _ (done2 (Sm.refl _) I0 ha1))
 rw [if_neg (fun z=>ha1 (beq_iff_eq.mp z))]
 refine wpS_bind (wpS_get ?_)
 extract_lets -underBinder mg0
 have len:∀ {out:Array Keyed} {ia ib},Inv key [16] out.toList (a.toList.drop ia) (b.toList.drop ib)->out.size+(a.size - ia+(b.size - ib))=total:=fun {out ia ib} I=>by
  have:=I.perm.length_eq
  simpa using this
 refine wpS_bind (wpS_mono (wpS_forRange (I:=fun x c st'=>∃ out ia ib mg,c=(none,out,ia,ib,mg)/\Lo key st a b (x+1) out ia ib st') (Q:=fun c st'=>∃ r,c.1=some r/\Fin key st [16] r st') ?_ ?_ ⟨out0,ia0,ib0,mg0,rfl,⟨Sm.refl _,I0,by show 0+2≤_;omega,by show 1+1≤_;omega,by show 0+1≤1;omega⟩⟩) ?_)
 ·rintro x c st1 _ hx ⟨out,ia,ib,mg,rfl,V⟩
  extract_lets -underBinder
  refine wpS_bind (wpS_mono (wpS_forRange (I:=fun x1 c st'=>∃ out ia ib ac bc,c=(none,out,ia,ib,ac,bc)/\Lo key st a b (x+1+x1) out ia ib st') (Q:=fun c st'=>(∃ r,c.1=some r/\Fin key st [16] r st')∨∃ out ia ib ac bc,c=(none,out,ia,ib,ac,bc)/\Lo key st a b (x+2) out ia ib st') ?_ ?_ ⟨out,ia,ib,0,0,rfl,V⟩) ?_)
  ·rintro x1 c st2 _ hx1 ⟨out,ia,ib,ac,bc,rfl,V⟩
   have vm:=V.hm
   have va:=V.ha
   have vb:=V.hb
   dsimp only
   obtain ⟨y,y1,y2,y3⟩:=xf (a:=b) (i:=ib) [8]
   obtain ⟨z,z1,z2,z3⟩:=xf (a:=a) (i:=ia) [8]
   refine wpS_bind (zi y1 (wpS_bind (zi z1 (wpS_bind (ky hA (V.sm.kind.trans hk) (hb y y2) (ha z z2) ?_)))))
   cases c:O.blt (key y) (key z) with
   | true=>
    dsimp only
    rw [if_pos rfl]
    have I1:=pushB V.inv y1 fun x hx=>by
     obtain ⟨j,_,hj⟩:=vF hx
     exact jT sa z1 hj (Kc c)
    refine wpS_bind (zi y1 ?_)
    by_cases hz:ib+1=b.size
    ·rw [if_pos [70]]
     exact wpS_pure (.inl ⟨_,rfl,done1 V.sm I1 (.inr [8])⟩)
    rw [if_neg [37]]
    split
    ·exact wpS_pure (.inr ⟨_,_,_,_,_,rfl,⟨V.sm,I1,va,by omega,by rw [Ke];omega⟩⟩)
    ·exact wpS_pure ⟨_,_,_,_,_,rfl,⟨V.sm,I1,va,by omega,by rw [Ke];omega⟩⟩
   | false=>
    dsimp only
    rw [if_neg Je]
    have I1:=pushA V.inv z1 fun x hx=>by
     obtain ⟨j,_,hj⟩:=vF hx
     exact jT sb y1 hj c
    refine wpS_bind (zi z1 ?_)
    by_cases hz:ia+1+1=a.size
    ·rw [if_pos [70]]
     exact wpS_pure (.inl ⟨_,rfl,done2 V.sm I1 hz⟩)
    rw [if_neg [37]]
    split
    ·exact wpS_pure (.inr ⟨_,_,_,_,_,rfl,⟨V.sm,I1,by omega,vb,by rw [Ke];omega⟩⟩)
    ·exact wpS_pure ⟨_,_,_,_,_,rfl,⟨V.sm,I1,by omega,vb,by rw [Ke];omega⟩⟩
  ·rintro c st2 ⟨out,ia,ib,ac,bc,rfl,V⟩
   have:=V.hm
   have ht:1≤total:=by show 1≤a.size+b.size;omega
   exact .inr ⟨_,_,_,_,_,rfl,⟨V.sm,V.inv,V.ha,V.hb,by omega⟩⟩
  rintro c st2 (⟨r,hr,F⟩ | ⟨out,ia,ib,ac,bc,rfl,V⟩)
  ·extract_lets -underBinder rr
   have:rr=some r:=hr
   rw [this]
   exact wpS_pure ⟨r,rfl,F⟩
  refine wpS_bind (wpS_lift (wpAny_rule ⟨rfl,?_⟩))
  extract_lets -underBinder mg1
  refine wpS_bind (wpS_mono (wpS_forRange (I:=fun _ c st'=>∃ out ia ib mg ac bc,c=(none,out,ia,ib,mg,ac,bc)/\Lo key st a b (x+2) out ia ib st') (Q:=fun c st'=>(∃ r,c.1=some r/\Fin key st [16] r st')∨∃ out ia ib mg ac bc,c=(none,out,ia,ib,mg,ac,bc)/\Lo key st a b (x+2) out ia ib st') ?_ ?_ ⟨out,ia,ib,_,ac,bc,rfl,V⟩) ?_)
  ·rintro x2 c st3 _ hx2 ⟨out,ia,ib,mg,ac,bc,rfl,V⟩
   have vm:=V.hm
   have va:=V.ha
   have vb:=V.hb
   obtain ⟨y,y1,y2,y3⟩:=xf (a:=b) (i:=ib) [8]
   extract_lets -underBinder _ o _ i _ j _ m _ ac bc jp
   have hjp:∀ u g,wpS [11] A E s (jp u g) (LoQ key st a b (x+2)) st3:=by
    intro u g
    refine wpS_bind (vM fun st4 sm4=>?_)
    have sm:=V.sm.trans sm4
    refine wpS_bind (zi y1 (wpS_bind (gal (a:=a) (i:=ia) hA (sm.kind.trans hk) (hb y y2) ha sa (by show ia+(a.size - ia)≤_;omega) (by show 0<a.size - ia;omega) fun k k1 klo khi=>?_)))
    dsimp (config:={zeta:=false,zetaHave:=false}) only
    extract_lets -underBinder ac1 jp2 o3 ia3
    have hj2:∀ u (o:Array Keyed) i,Inv key [16] o.toList (a.toList.drop i) (b.toList.drop ib)->i+2≤a.size->(∀ x ∈ a.toList.drop i,O.kle (key y) (key x))->x+2≤o.size->wpS [11] A E s (jp2 u o i) (LoQ key st a b (x+2)) st4:=by
     intro u o i I hi hc ho
     refine wpS_bind (zi y1 ?_)
     extract_lets -underBinder o2 ib2
     have I1:Inv key [16] o2.toList (a.toList.drop i) (b.toList.drop ib2):=pushB I y1 hc
     have ho2:x+2≤o2.size:=by show _≤(o.push y).size;rw [Ke];omega
     by_cases hz:ib2=b.size
     ·rw [if_pos [70]]
      exact wpS_pure (.inl ⟨_,rfl,done1 sm I1 (.inr [8])⟩)
     rw [if_neg [37]]
     have hib2:ib2+1≤b.size:=by have:ib2=ib+1:=rfl;omega
     clear_value o2 ib2
     obtain ⟨z,z1,z2,z3⟩:=xf (a:=a) (i:=i) [8]
     refine wpS_bind (zi z1 (wpS_bind (gal (a:=b) (i:=ib2) hA (sm.kind.trans hk) (ha z z2) hb sb (by show ib2+(b.size - ib2)≤_;omega) (by show 0<b.size - ib2;omega) fun k k1 klo khi=>?_)))
     dsimp (config:={zeta:=false,zetaHave:=false}) only
     extract_lets -underBinder bc1 jp3 o3 ib3
     have hj3:∀ u (o:Array Keyed) j,Inv key [16] o.toList (a.toList.drop i) (b.toList.drop j)->j+1≤b.size->(∀ x ∈ b.toList.drop j,O.kle (key z) (key x))->x+2≤o.size->wpS [11] A E s (jp3 u o j) (LoQ key st a b (x+2)) st4:=by
      intro u o j I hj hc ho
      refine wpS_bind (zi z1 ?_)
      have I1:=pushA I z1 hc
      dsimp only
      by_cases hz:i+1+1=a.size
      ·rw [if_pos [70]]
       exact wpS_pure (.inl ⟨_,rfl,done2 sm I1 hz⟩)
      rw [if_neg [37]]
      have W:Lo key st a b (x+2) (o.push z) (i+1) j st4:=⟨sm,I1,by omega,hj,by rw [Ke];omega⟩
      split
      ·exact wpS_pure (.inr ⟨_,_,_,_,_,_,rfl,W⟩)
      ·exact wpS_pure ⟨_,_,_,_,_,_,rfl,W⟩
     clear_value jp3
     have hrest:∀ x ∈ b.toList.drop (ib2+k),O.kle (key z) (key x):=fun x hx=>by
      obtain ⟨j,j1,j2⟩:=vF hx
      rw [Nat.add_assoc] at j2
      exact khi (k+j) x [8] [8] j2
     by_cases hk0:k > 0
     ·rw [if_pos hk0]
      have I2:Inv key [16] o3.toList (a.toList.drop i) (b.toList.drop ib3):=(Inv.moveX (k:=k) I1.swap sb fun y' hy' x' hx'=>by
       obtain ⟨j,j1,j2⟩:=jS hy'
       obtain ⟨j',j3,j4⟩:=vF hx'
       exact jT sa z1 j4 (Kc (klo j y' j1 j2))).swap
      by_cases hz:ib3=b.size
      ·rw [if_pos [70]]
       exact wpS_pure (.inl ⟨_,rfl,done1 sm I2 (.inr [8])⟩)
      rw [if_neg [37]]
      refine hj3 _ _ _ I2 (by have:ib3=ib2+k:=rfl;omega) hrest (by show _≤(o2++_).size;rw [Qy];omega)
     ·rw [if_neg hk0]
      obtain rfl:k=0:=by omega
      exact hj3 _ _ _ I1 hib2 hrest ho2
    clear_value jp2
    have hrest:∀ x ∈ a.toList.drop (ia+k),O.kle (key y) (key x):=fun x hx=>by
     obtain ⟨j,j1,j2⟩:=vF hx
     rw [Nat.add_assoc] at j2
     have k1:k≤a.size - ia:=k1
     have:=khi (k+j) x [8] (show k+j<a.size - ia by omega) j2
     have e:O.blt (key y) (key x)=true:=by simpa [bey] using this
     exact Kc e
    by_cases hk0:k > 0
    ·rw [if_pos hk0]
     have I2:Inv key [16] o3.toList (a.toList.drop ia3) (b.toList.drop ib):=Inv.moveX (k:=k) V.inv sa fun y' hy' x' hx'=>by
      obtain ⟨j,j1,j2⟩:=jS hy'
      obtain ⟨j',j3,j4⟩:=vF hx'
      have:=klo j y' j1 j2
      have e:O.blt (key y) (key y')=false:=by simpa [bey] using this
      exact jT sb y1 j4 e
     by_cases hz:ia3+1=a.size
     ·rw [if_pos [70]]
      exact wpS_pure (.inl ⟨_,rfl,done2 sm I2 hz⟩)
     rw [if_neg [37]]
     by_cases hz2:ia3=a.size
     ·rw [if_pos (beq_iff_eq.mpr hz2)]
      exact wpS_pure (.inl ⟨_,rfl,done1 sm I2 (.inl [8])⟩)
     rw [if_neg (fun z=>hz2 (beq_iff_eq.mp z))]
     exact hj2 _ _ _ I2 (by have:ia3=ia+k:=rfl;omega) hrest (by show _≤(out++_).size;rw [Qy];omega)
    ·rw [if_neg hk0]
     obtain rfl:k=0:=by omega
     exact hj2 _ _ _ V.inv va hrest vm
   clear_value jp
   split
   ·exact wpS_mono (hjp _ _) fun r st' h=>by cases r<;>exact h
   ·exact wpS_mono (hjp _ _) fun r st' h=>by cases r<;>exact h
  ·rintro c st3 ⟨out,ia,ib,mg,ac,bc,rfl,V⟩
   exact .inr ⟨_,_,_,_,_,_,rfl,V⟩
  rintro c st3 (⟨r,hr,F⟩ | ⟨out,ia,ib,mg,ac,bc,rfl,V⟩)
  ·extract_lets -underBinder rr
   have:rr=some r:=hr
   rw [this]
   exact wpS_pure ⟨r,rfl,F⟩
  dsimp only
  refine wpS_bind (vM fun st4 sm4=>wpS_pure ⟨_,_,_,_,rfl,⟨V.sm.trans sm4,V.inv,V.ha,V.hb,V.hm⟩⟩)
 ·rintro c st1 ⟨out,ia,ib,mg,rfl,V⟩
  have:=len V.inv
  have:=V.hm
  omega
 ·rintro c st1 ⟨r,hr,F⟩
  extract_lets -underBinder rr
  have:rr=some r:=hr
  rw [this]
  exact wpS_pure (h r st1 F)
end
section
variable {prog:Program} {w:World} {A:Around} {E:Value->Shared->Prop} {s:Shared} {O:KeyOrd} {key:Keyed->O.α} {L T R X Y X1 X2:List Keyed} {κ:SortKind} {st st' st'':SortSt}
structure InvH (key:Keyed->O.α) (T R X Y:List Keyed):Prop where
 perm:(X++Y++R).Perm T
 srt:Srt key R
 cut:∀ x ∈ X++Y,∀ y ∈ R,O.kle (key x) (key y)
theorem InvH.swap(h:InvH key T R X Y):InvH key T R Y X:=
 ⟨(List.Perm.append_right R List.perm_append_comm).trans h.perm,h.srt,fun x hx y hy=>h.cut x (JQ.mpr (JQ.mp hx).symm) y hy⟩
theorem InvH.move(h:InvH key T R Y (X1++X2))(hs:Srt key (X1++X2))(hc:∀ x ∈ X2,∀ y ∈ Y,O.kle (key y) (key x)):InvH key T (X2++R) Y X1:=by
 obtain ⟨s1,s2,s3⟩:=JE.mp hs
 refine ⟨?_,List.pairwise_append.mpr ⟨s2,h.srt,fun x hx y hy=>h.cut x (by simp [hx]) y hy⟩,fun x hx y hy=>?_⟩
 ·have:=h.perm
  rw [JC] at this ⊢
  rw [JC] at this
  exact this
 ·rcases List.mem_append.mp hy with hy | hy
  ·rcases List.mem_append.mp hx with hx | hx
   ·exact hc y hy x hx
   ·exact s3 x hx y hy
  ·exact h.cut x (by rcases List.mem_append.mp hx with hx | hx<;>simp [hx]) y hy
theorem InvH.fin(h:InvH key T R X Y)(h1:Srt key X)(h2:Srt key Y)(hc:∀ x ∈ X,∀ y ∈ Y,O.kle (key x) (key y)):(X++Y++R).Perm T/\Srt key (X++Y++R):=
 ⟨h.perm,JE.mpr ⟨JE.mpr ⟨h1,h2,hc⟩,h.srt,h.cut⟩⟩
theorem ja(a:Array Keyed)(n:Nat):(a.extract 0 n).toList=a.toList.take n:=by rw [Array.toList_extract,List.extract];simp
theorem qq(a:Array Keyed)(i n:Nat):(a.extract i n).toList=(a.toList.take n).drop i:=by rw [Array.toList_extract,List.extract,List.drop_take]
theorem Srt.take(h:Srt key X)(i:Nat):Srt key (X.take i):=List.Pairwise.sublist (List.take_sublist i X) h
theorem vE{a:Array Keyed}{n:Nat}{x:Keyed}(h:x ∈ a.toList.take n):∃ j,j<n/\a[j]?=some x:=by
 obtain ⟨j,j1,j2⟩:=jS (i:=0) (by rw [List.drop_zero];exact h)
 exact ⟨j,j1,by rw [Qc] at j2;exact j2⟩
theorem zeH{a:Array Keyed}{i n:Nat}{x:Keyed}(h:x ∈ (a.toList.take n).drop i):∃ j,i≤j/\j<n/\a[j]?=some x:=by
 rw [List.drop_take] at h
 obtain ⟨j,j1,j2⟩:=jS h
 exact ⟨i+j,by omega,by omega,j2⟩
theorem vO{a:Array Keyed}{n:Nat}(h1:1≤n)(h:n≤a.size):∃ x,a[n - 1]?=some x/\x ∈ a.toList/\(a.toList.take n).drop (n - 1)=[x]:=by
 obtain ⟨x,x1,x2,x3⟩:=xf (a:=a) (i:=n - 1) [8]
 refine ⟨x,x1,x2,?_⟩
 rw [List.drop_take,x3,show n - (n - 1)=1 by omega];rfl
theorem InvH.moveX{a out:Array Keyed}{i n:Nat}(h:InvH key T out.toList.reverse Y (a.toList.take n))(hin:i≤n)(hs:Srt key a.toList)(hc:∀ x ∈ (a.toList.take n).drop i,∀ y ∈ Y,O.kle (key y) (key x)):InvH key T (out++(a.extract i n).reverse).toList.reverse Y (a.toList.take i):=by
 rw [JU,List.reverse_append,Qm,List.reverse_reverse,qq]
 have e:(a.toList.take n).take i++(a.toList.take n).drop i=a.toList.take n:=Ko _ _
 rw [List.take_take,Nat.min_eq_left hin] at e
 exact InvH.move (by rw [e];exact h) (by rw [e];exact hs.take n) hc
structure Hi (key:Keyed->O.α) (st:SortSt) (a b:Array Keyed) (m:Nat) (out:Array Keyed) (na nb:Nat) (st':SortSt):Prop where
 sm:Sm st st'
 inv:InvH key [16] out.toList.reverse (a.toList.take na) (b.toList.take nb)
 ha:1≤na/\na≤a.size
 hb:2≤nb/\nb≤b.size
 hm:m≤out.size
noncomputable def HiQ(key:Keyed->O.α)(st:SortSt)(a b:Array Keyed)(m:Nat)(r:ForInStep (Option (Array Keyed) × Nat × Nat × Array Keyed × Nat × Nat × Nat))(st':SortSt):Prop:=match r with
 | .done c=>(∃ r,c.1=some r/\Fin key st [16] r st')∨∃ na nb out mg ac bc,c=(none,na,nb,out,mg,ac,bc)/\Hi key st a b m out na nb st'
 | .yield c=>∃ na nb out mg ac bc,c=(none,na,nb,out,mg,ac,bc)/\Hi key st a b m out na nb st'
theorem zbV{a b:Array Keyed}{Q:Array Keyed->SortSt->Prop}(hA:Asks prog w A s κ L key)(hk:kindOf st=κ)(ha:∀ x ∈ a.toList,x ∈ L)(hb:∀ x ∈ b.toList,x ∈ L)(sa:Srt key a.toList)(sb:Srt key b.toList)(a1:1≤a.size)(b1:1≤b.size)
  (hf:∀ x ∈ a.toList,∀ y,b[0]?=some y->O.kle (key y) (key x))(hl:∀ x ∈ b.toList,∀ y,a[a.size - 1]?=some y->O.kle (key x) (key y))(h:∀ r st',Fin key st [16] r st'->Q r st'):wpS [11] A E s (zhs a b) Q st:=by
 have done1:∀ {out:Array Keyed} {na nb st'},Sm st st'->InvH key [16] out.toList.reverse (a.toList.take na) (b.toList.take nb)->(na=0∨nb=0)->Fin key st [16] (a.extract 0 na++b.extract 0 nb++out.reverse) st':=fun {out na nb st'} sm I hz=>by
  obtain ⟨f1,f2⟩:=I.fin (sa.take _) (sb.take _) (by
   rcases hz with rfl | rfl
   ·simp
   ·simp)
  refine ⟨sm,?_⟩
  rw [JU,JU,ja,ja,Qm]
  exact ⟨f1,f2⟩
 have done2:∀ {out:Array Keyed} {na nb st'},Sm st st'->InvH key [16] out.toList.reverse (a.toList.take na) (b.toList.take nb)->nb=1->Fin key st [16] (b.extract 0 nb++a.extract 0 na++out.reverse) st':=fun {out na nb st'} sm I hz=>by
  subst hz
  obtain ⟨f1,f2⟩:=I.swap.fin (sb.take _) (sa.take _) (fun x hx y hy=>by
   obtain ⟨j,j1,j2⟩:=vE hx
   obtain rfl:j=0:=by omega
   exact hf y (QF hy) x j2)
  refine ⟨sm,?_⟩
  rw [JU,JU,ja,ja,Qm]
  exact ⟨f1,f2⟩
 have pushB:∀ {out:Array Keyed} {na nb y},1≤nb->nb≤b.size->InvH key [16] out.toList.reverse (a.toList.take na) (b.toList.take nb)->b[nb - 1]?=some y->(∀ x ∈ a.toList.take na,O.kle (key x) (key y))->InvH key [16] (out.push y).toList.reverse (a.toList.take na) (b.toList.take (nb - 1)):=fun {out na nb y} h1 h2 I hy hc=>by
  obtain ⟨z,z1,z2,z3⟩:=vO h1 h2
  rw [hy] at z1;cases z1
  have:=InvH.moveX (i:=nb - 1) I [8] sb (by rw [z3];simpa using hc)
  have e:(b.extract (nb - 1) nb).toList=[y]:=by rw [qq,z3]
  rw [JU,Qm,e] at this
  rw [KI];exact this
 have pushA:∀ {out:Array Keyed} {na nb y},1≤na->na≤a.size->InvH key [16] out.toList.reverse (a.toList.take na) (b.toList.take nb)->a[na - 1]?=some y->(∀ x ∈ b.toList.take nb,O.kle (key x) (key y))->InvH key [16] (out.push y).toList.reverse (a.toList.take (na - 1)) (b.toList.take nb):=fun {out na nb y} h1 h2 I hy hc=>by
  obtain ⟨z,z1,z2,z3⟩:=vO h1 h2
  rw [hy] at z1;cases z1
  have:=(InvH.moveX (i:=na - 1) I.swap [8] sa (by rw [z3];simpa using hc)).swap
  have e:(a.extract (na - 1) na).toList=[y]:=by rw [qq,z3]
  rw [JU,Qm,e] at this
  rw [KI];exact this
 have topB:∀ {n:Nat} {y x:Keyed},b[n - 1]?=some y->x ∈ b.toList.take n->O.kle (key x) (key y):=fun {n y x} hy hx=>by
  obtain ⟨j,j1,j2⟩:=vE hx
  exact sb.at j2 hy [8]
 have topA:∀ {n:Nat} {y x:Keyed},a[n - 1]?=some y->x ∈ a.toList.take n->O.kle (key x) (key y):=fun {n y x} hy hx=>by
  obtain ⟨j,j1,j2⟩:=vE hx
  exact sa.at j2 hy [8]
 refine wpS_bind (wpS_lift (wpAny_rule ⟨rfl,?_⟩))
 extract_lets -underBinder total done firstB na0 nb0
 obtain ⟨z0,z1,z2,z3⟩:=vO (a:=a) a1 (Jn _)
 refine wpS_bind (zi z1 ?_)
 extract_lets -underBinder out0
 have I0:InvH key [16] out0.toList.reverse (a.toList.take na0) (b.toList.take nb0):=by
  have eA:a.toList.take a.size=a.toList:=List.take_of_length_le [12]
  have eB:b.toList.take b.size=b.toList:=List.take_of_length_le [12]
  exact pushA (out:=#[]) (nb:=b.size) a1 (Nat.le_refl _) ⟨by rw [eA,eB];simp,.nil,by simp⟩ z1 (fun x hx=>hl x (List.mem_of_mem_take hx) z0 z1)
 by_cases ha1:na0=0
 ·rw [if_pos (beq_iff_eq.mpr ha1)]
  exact wpS_pure (h _ _ (done1 (Sm.refl _) I0 (.inl ha1)))
 rw [if_neg (fun z=>ha1 (beq_iff_eq.mp z))]
 by_cases hb1:nb0=1
 ·rw [if_pos (beq_iff_eq.mpr hb1)]
  exact wpS_pure (h _ _ (done2 (Sm.refl _) I0 hb1))
 rw [if_neg (fun z=>hb1 (beq_iff_eq.mp z))]
 refine wpS_bind (wpS_get ?_)
 extract_lets -underBinder mg0
 have len:∀ {out:Array Keyed} {na nb},na≤a.size->nb≤b.size->InvH key [16] out.toList.reverse (a.toList.take na) (b.toList.take nb)->out.size+(na+nb)=total:=fun {out na nb} h1 h2 I=>by
  have:=I.perm.length_eq
  simp only [List.length_append,List.length_take,List.length_reverse,Array.length_toList] at this
  show _=a.size+b.size
  omega
 refine wpS_bind (wpS_mono (wpS_forRange (I:=fun x c st'=>∃ na nb out mg,c=(none,na,nb,out,mg)/\Hi key st a b (x+1) out na nb st') (Q:=fun c st'=>∃ r,c.1=some r/\Fin key st [16] r st') ?_ ?_ ⟨na0,nb0,out0,mg0,rfl,⟨Sm.refl _,I0,⟨by omega,by show a.size - 1≤_;omega⟩,⟨by have:nb0=b.size:=rfl;omega,Jn _⟩,by show 0+1≤1;omega⟩⟩) ?_)
 ·rintro x c st1 _ hx ⟨na,nb,out,mg,rfl,V⟩
  extract_lets -underBinder
  refine wpS_bind (wpS_mono (wpS_forRange (I:=fun x1 c st'=>∃ na nb out ac bc,c=(none,na,nb,out,ac,bc)/\Hi key st a b (x+1+x1) out na nb st') (Q:=fun c st'=>(∃ r,c.1=some r/\Fin key st [16] r st')∨∃ na nb out ac bc,c=(none,na,nb,out,ac,bc)/\Hi key st a b (x+2) out na nb st') ?_ ?_ ⟨na,nb,out,0,0,rfl,V⟩) ?_)
  ·rintro x1 c st2 _ hx1 ⟨na,nb,out,ac,bc,rfl,V⟩
   have vm:=V.hm
   have va:=V.ha
   have vb:=V.hb
   dsimp only
   obtain ⟨y,y1,y2,y3⟩:=vO (a:=b) (n:=nb) [8] [8]
   obtain ⟨z,z1,z2,z3⟩:=vO (a:=a) (n:=na) [8] [8]
   refine wpS_bind (zi y1 (wpS_bind (zi z1 (wpS_bind (ky hA (V.sm.kind.trans hk) (hb y y2) (ha z z2) ?_)))))
   cases c:O.blt (key y) (key z) with
   | true=>
    dsimp only
    rw [if_pos rfl]
    have I1:=pushA va.1 va.2 V.inv z1 fun x hx=>JP (topB y1 hx) (Kc c)
    refine wpS_bind (zi z1 ?_)
    by_cases hz:na - 1=0
    ·rw [if_pos [70]]
     exact wpS_pure (.inl ⟨_,rfl,done1 V.sm I1 (.inl hz)⟩)
    rw [if_neg [37]]
    split
    ·exact wpS_pure (.inr ⟨_,_,_,_,_,rfl,⟨V.sm,I1,by omega,vb,by rw [Ke];omega⟩⟩)
    ·exact wpS_pure ⟨_,_,_,_,_,rfl,⟨V.sm,I1,by omega,vb,by rw [Ke];omega⟩⟩
   | false=>
    dsimp only
    rw [if_neg Je]
    have I1:=pushB [8] vb.2 V.inv y1 fun x hx=>JP (topA z1 hx) c
    refine wpS_bind (zi y1 ?_)
    by_cases hz:nb - 1=1
    ·rw [if_pos [70]]
     exact wpS_pure (.inl ⟨_,rfl,done2 V.sm I1 hz⟩)
    rw [if_neg [37]]
    split
    ·exact wpS_pure (.inr ⟨_,_,_,_,_,rfl,⟨V.sm,I1,va,by omega,by rw [Ke];omega⟩⟩)
    ·exact wpS_pure ⟨_,_,_,_,_,rfl,⟨V.sm,I1,va,by omega,by rw [Ke];omega⟩⟩
  ·rintro c st2 ⟨na,nb,out,ac,bc,rfl,V⟩
   have:=V.hm
   have ht:1≤total:=by show 1≤a.size+b.size;omega
   exact .inr ⟨_,_,_,_,_,rfl,⟨V.sm,V.inv,V.ha,V.hb,by omega⟩⟩
  rintro c st2 (⟨r,hr,F⟩ | ⟨na,nb,out,ac,bc,rfl,V⟩)
  ·extract_lets -underBinder rr
   have:rr=some r:=hr
   rw [this]
   exact wpS_pure ⟨r,rfl,F⟩
  refine wpS_bind (wpS_lift (wpAny_rule ⟨rfl,?_⟩))
  extract_lets -underBinder mg1
  refine wpS_bind (wpS_mono (wpS_forRange (I:=fun _ c st'=>∃ na nb out mg ac bc,c=(none,na,nb,out,mg,ac,bc)/\Hi key st a b (x+2) out na nb st') (Q:=fun c st'=>(∃ r,c.1=some r/\Fin key st [16] r st')∨∃ na nb out mg ac bc,c=(none,na,nb,out,mg,ac,bc)/\Hi key st a b (x+2) out na nb st') ?_ ?_ ⟨na,nb,out,_,ac,bc,rfl,V⟩) ?_)
  ·rintro x2 c st3 _ hx2 ⟨na,nb,out,mg,ac,bc,rfl,V⟩
   have vm:=V.hm
   have va:=V.ha
   have vb:=V.hb
   obtain ⟨y,y1,y2,y3⟩:=vO (a:=b) (n:=nb) [8] [8]
   extract_lets -underBinder _ i _ j _ o _ m _ ac bc jp
   have hjp:∀ u g,wpS [11] A E s (jp u g) (HiQ key st a b (x+2)) st3:=by
    intro u g
    refine wpS_bind (vM fun st4 sm4=>?_)
    have sm:=V.sm.trans sm4
    refine wpS_bind (zi y1 (wpS_bind (gal (a:=a) (i:=0) hA (sm.kind.trans hk) (hb y y2) ha sa (by show 0+na≤_;omega) (by show na - 1<na;omega) fun k k1 klo khi=>?_)))
    have k1:k≤na:=k1
    dsimp (config:={zeta:=false,zetaHave:=false}) only
    extract_lets -underBinder kk ac1 jp2 o3 na3
    have hj2:∀ u (na:Nat) (o:Array Keyed),InvH key [16] o.toList.reverse (a.toList.take na) (b.toList.take nb)->1≤na->na≤a.size->(∀ x ∈ a.toList.take na,O.kle (key x) (key y))->x+2≤o.size->wpS [11] A E s (jp2 u na o) (HiQ key st a b (x+2)) st4:=by
     intro u na o I hi hi2 hc ho
     refine wpS_bind (zi y1 ?_)
     extract_lets -underBinder o2
     have I1:InvH key [16] o2.toList.reverse (a.toList.take na) (b.toList.take (nb - 1)):=pushB [8] vb.2 I y1 hc
     have ho2:x+2≤o2.size:=by show _≤(o.push y).size;rw [Ke];omega
     by_cases hz:nb - 1=1
     ·rw [if_pos [70]]
      exact wpS_pure (.inl ⟨_,rfl,done2 sm I1 hz⟩)
     rw [if_neg [37]]
     clear_value o2
     obtain ⟨z,z1,z2,z3⟩:=vO (a:=a) (n:=na) [8] [8]
     refine wpS_bind (zi z1 (wpS_bind (gal (a:=b) (i:=0) hA (sm.kind.trans hk) (ha z z2) hb sb (by show 0+(nb - 1)≤_;omega) (by show nb - 1 - 1<nb - 1;omega) fun k k1 klo khi=>?_)))
     have k1:k≤nb - 1:=k1
     dsimp (config:={zeta:=false,zetaHave:=false}) only
     extract_lets -underBinder kk bc1 jp3 o3 nb3
     have hj3:∀ u (nb:Nat) (o:Array Keyed),InvH key [16] o.toList.reverse (a.toList.take na) (b.toList.take nb)->2≤nb->nb≤b.size->(∀ x ∈ b.toList.take nb,O.kle (key x) (key z))->x+2≤o.size->wpS [11] A E s (jp3 u nb o) (HiQ key st a b (x+2)) st4:=by
      intro u nb o I hj hj2 hc ho
      refine wpS_bind (zi z1 ?_)
      have I1:=pushA hi hi2 I z1 hc
      dsimp only
      by_cases hz:na - 1=0
      ·rw [if_pos [70]]
       exact wpS_pure (.inl ⟨_,rfl,done1 sm I1 (.inl hz)⟩)
      rw [if_neg [37]]
      have W:Hi key st a b (x+2) (o.push z) (na - 1) nb st4:=⟨sm,I1,by omega,⟨hj,hj2⟩,by rw [Ke];omega⟩
      split
      ·exact wpS_pure (.inr ⟨_,_,_,_,_,_,rfl,W⟩)
      ·exact wpS_pure ⟨_,_,_,_,_,_,rfl,W⟩
     clear_value jp3
     have hrest:∀ x ∈ b.toList.take k,O.kle (key x) (key z):=fun x hx=>by
      obtain ⟨j,j1,j2⟩:=vE hx
      exact Kc (klo j x j1 (by rw [Qc];exact j2))
     by_cases hk0:kk > 0
     ·rw [if_pos hk0]
      have I2:InvH key [16] o3.toList.reverse (a.toList.take na) (b.toList.take nb3):=InvH.moveX I1 [8] sb fun y' hy' x' hx'=>by
       obtain ⟨j,j1,j2,j3⟩:=zeH hy'
       exact JP (topA z1 hx') (khi j y' j1 j2 (by rw [Qc];exact j3))
      by_cases hz:nb3=1
      ·rw [if_pos [70]]
       exact wpS_pure (.inl ⟨_,rfl,done2 sm I2 hz⟩)
      rw [if_neg [37]]
      by_cases hz2:nb3=0
      ·rw [if_pos (beq_iff_eq.mpr hz2)]
       exact wpS_pure (.inl ⟨_,rfl,done1 sm I2 (.inr hz2)⟩)
      rw [if_neg (fun z=>hz2 (beq_iff_eq.mp z))]
      exact hj3 _ _ _ I2 [8] (by show k≤_;omega) hrest (by show _≤(o2++_).size;rw [Qy];omega)
     ·rw [if_neg hk0]
      obtain rfl:k=nb - 1:=by have:kk=nb - 1 - k:=rfl;omega
      exact hj3 _ _ _ I1 [8] [8] hrest ho2
    clear_value jp2
    have hrest:∀ x ∈ a.toList.take k,O.kle (key x) (key y):=fun x hx=>by
     obtain ⟨j,j1,j2⟩:=vE hx
     have:=klo j x j1 (by rw [Qc];exact j2)
     have e:O.blt (key y) (key x)=false:=by simpa [bey] using this
     exact e
    by_cases hk0:kk > 0
    ·rw [if_pos hk0]
     have I2:InvH key [16] o3.toList.reverse (a.toList.take na3) (b.toList.take nb):=(InvH.moveX V.inv.swap (show k≤na from k1) sa fun y' hy' x' hx'=>by
      obtain ⟨j,j1,j2,j3⟩:=zeH hy'
      have:=khi j y' j1 j2 (by rw [Qc];exact j3)
      have e:O.blt (key y) (key y')=true:=by simpa [bey] using this
      exact JP (topB y1 hx') (Kc e)).swap
     by_cases hz:na3=0
     ·rw [if_pos [70]]
      exact wpS_pure (.inl ⟨_,rfl,done1 sm I2 (.inl hz)⟩)
     rw [if_neg [37]]
     exact hj2 _ _ _ I2 [8] (by show k≤_;omega) hrest (by show _≤(out++_).size;rw [Qy];omega)
    ·rw [if_neg hk0]
     obtain rfl:k=na:=by have:kk=na - k:=rfl;omega
     exact hj2 _ _ _ V.inv va.1 va.2 hrest vm
   clear_value jp
   split
   ·exact wpS_mono (hjp _ _) fun r st' h=>by cases r<;>exact h
   ·exact wpS_mono (hjp _ _) fun r st' h=>by cases r<;>exact h
  ·rintro c st3 ⟨na,nb,out,mg,ac,bc,rfl,V⟩
   exact .inr ⟨_,_,_,_,_,_,rfl,V⟩
  rintro c st3 (⟨r,hr,F⟩ | ⟨na,nb,out,mg,ac,bc,rfl,V⟩)
  ·extract_lets -underBinder rr
   have:rr=some r:=hr
   rw [this]
   exact wpS_pure ⟨r,rfl,F⟩
  dsimp only
  refine wpS_bind (vM fun st4 sm4=>wpS_pure ⟨_,_,_,_,rfl,⟨V.sm.trans sm4,V.inv,V.ha,V.hb,V.hm⟩⟩)
 ·rintro c st1 ⟨na,nb,out,mg,rfl,V⟩
  have:=len V.ha.2 V.hb.2 V.inv
  have:=V.hm
  omega
 ·rintro c st1 ⟨r,hr,F⟩
  extract_lets -underBinder rr
  have:rr=some r:=hr
  rw [this]
  exact wpS_pure (h r st1 F)
end
section
variable {prog:Program} {w:World} {A:Around} {E:Value->Shared->Prop} {s:Shared} {O:KeyOrd} {key:Keyed->O.α} {L P X Y S:List Keyed} {κ:SortKind} {st st' st'':SortSt}
theorem kd{xs:Array Keyed}(e:xs.toList=P++X++S){i:Nat}(hi:i<X.length):xs[P.length+i]?=some X[i]:=by
 rw [← Jx,e,JC,Kv [8],Qr,JR hi,Jd hi]
theorem zmL{l:Bool}{k0:Keyed}{xs:Array Keyed}{base n hint:Nat}{Q:Option Nat->SortSt->Prop}(hA:Asks prog w A s κ L key)(hk:kindOf st=κ)(h0:k0 ∈ L)(e:xs.toList=P++X++S)(hX:∀ x ∈ X,x ∈ L)(hs:Srt key X)(hb:base=P.length)(hn:n=X.length)(hh:hint<n)
  (h:∀ k,k≤X.length->(∀ x ∈ X.take k,bey l (key k0) (key x)=true)->(∀ x ∈ X.drop k,bey l (key k0) (key x)=false)->Q (some k) st):wpS [11] A E s (zbC l k0 xs base n hint) Q st:=by
 subst hb hn
 have hg:∀ j (hj:j<X.length),X.getD j [74]=X[j]:=fun j hj=>by simp [List.getD,hj]
 refine k4 (g:=fun j=>X.getD j [74]) hA hk h0 (fun j hj=>?_) (fun j j' hj hj' c=>?_) hh fun k hc=>h k hc.1 (fun x hx=>?_) fun x hx=>?_
 ·show xs[P.length+j]?=some (X.getD j _)/\X.getD j _ ∈ L
  rw [hg j hj]
  exact ⟨kd e hj,hX _ (Kf hj)⟩
 ·dsimp only at c ⊢
  rw [hg j' hj'] at c
  rw [hg j [8]]
  rcases Nat.lt_or_ge j j' with d | d
  ·have:=Jy.mp hs j j' [8] hj' d
   cases l with
   | true=>exact KeyOrd.klt_of_kle_of_klt this c
   | false=>
    have e':O.blt (key k0) (key X[j'])=false:=by simpa [bey] using c
    have:O.blt (key k0) (key X[j])=false:=JP this e'
    show (!O.blt _ _)=true
    rw [this];rfl
  ·obtain rfl:j=j':=by omega
   exact c
 ·obtain ⟨j,hj,rfl⟩:=JZ hx
  rw [Ku] at hj
  have:=hc.2.1 j [8]
  dsimp only at this
  rw [hg j [8]] at this
  rw [List.getElem_take];exact this
 ·obtain ⟨j,hj,rfl⟩:=JZ hx
  rw [KP] at hj
  have:=hc.2.2 (k+j) [8] [8]
  dsimp only at this
  rw [hg (k+j) [8]] at this
  rw [List.getElem_drop];exact this
theorem kw(off:Nat):∀ (M:List Keyed) (xs:Array Keyed) (P M0 S:List Keyed) (j:Nat),xs.toList=P++M0++S->M0.length=M.length->P.length=off+j->((M.zipIdx j).foldl (fun a x=>a.setIfInBounds (off+x.snd) x.fst) xs).toList=P++M++S
 | [],xs,P,M0,S,j,e,hl,hp=>by
  have:M0=[]:=KY.mp hl
  subst this
  exact e
 | m::M,xs,P,M0,S,j,e,hl,hp=>by
  match M0,hl with
  | m0::M0,hl=>
   rw [List.zipIdx_cons,List.foldl_cons,kw off M _ (P++[m]) M0 S (j+1) ?_ (Nat.succ.inj hl) (by rw [Jo,hp];rfl)]
   ·simp
   ·rw [QI,e]
    dsimp only
    rw [JC,List.set_append_right _ _ [8],hp,Nat.sub_self]
    simp
theorem zfr{A1 A2 M B1 B2:List Keyed}{b0 z:Keyed}(hX:Srt key (A1++A2))(hY:Srt key (B1++B2))(hM:Srt key M)(pm:M.Perm (A2++B1))(h1:∀ x ∈ A1,∀ y ∈ B1++B2,O.kle (key x) (key y))(h2:∀ x ∈ A2,∀ y ∈ B2,O.kle (key x) (key y)):Srt key (A1++M++B2):=by
 obtain ⟨a1,a2,a3⟩:=JE.mp hX
 obtain ⟨b1,b2,b3⟩:=JE.mp hY
 refine JE.mpr ⟨JE.mpr ⟨a1,hM,fun x hx y hy=>?_⟩,b2,fun x hx y hy=>?_⟩
 ·rcases List.mem_append.mp (pm.mem_iff.mp hy) with hy | hy
  ·exact a3 x hx y hy
  ·exact h1 x hx y (Jm _ hy)
 ·rcases List.mem_append.mp hx with hx | hx
  ·exact h1 x hx y (Js _ hy)
  ·rcases List.mem_append.mp (pm.mem_iff.mp hx) with hx | hx
   ·exact h2 x hx y hy
   ·exact b3 x hx y hy
theorem zhX{xs:Array Keyed}{P X S:List Keyed}{i j:Nat}(e:xs.toList=P++X++S)(hi:i=P.length)(hj:j=P.length+X.length):(xs.extract i j).toList=X:=by
 subst hi hj
 rw [zeT,e,JC,List.drop_left',List.take_left']
 all_goals rfl
theorem zbT{st2:SortSt}{Q:PUnit->SortSt->Prop}(h:∀ st1,st2=st1->Q ⟨⟩ st1):wpS [11] A E s (set st2:StateT SortSt Sem PUnit) Q st:=by
 unfold wpS;exact wpAny_pure ⟨rfl,h _ rfl⟩
theorem zbW{i:Nat}{p1 p2:List (Nat × Nat × Nat)}{pw pw2:Nat}{Q:Bool->SortSt->Prop}(hA:Asks prog w A s κ L key)(hk:kindOf st=κ)(hL:∀ x ∈ [47].toList,x ∈ L)(e:[47].toList=P++X++Y++S)(nX:X≠[])(nY:Y≠[])(sX:Srt key X)(sY:Srt key Y)
  (hp:(pendingOf st).toList=p1++(P.length,X.length,pw)::(P.length+X.length,Y.length,pw2)::p2)(hi:i=p1.length)(hf:failedOf st=none)
  (h:∀ Z st',Z.Perm (X++Y)->Srt key Z->[60].toList=P++Z++S->(pendingOf st').toList=p1++(P.length,X.length+Y.length,pw)::p2->kindOf st'=κ->failedOf st'=none->Q true st'):wpS [11] A E s (mergeAt' i) Q st:=by
 subst hi
 have g1:(pendingOf st)[p1.length]?=some (P.length,X.length,pw):=by rw [← Array.getElem?_toList,hp];simp
 have g2:(pendingOf st)[p1.length+1]?=some (P.length+X.length,Y.length,pw2):=by
  rw [← Jx,hp,Kv [8],Qr];rfl
 have er:(((pendingOf st).setIfInBounds p1.length (P.length,X.length+Y.length,pw)).eraseIdxIfInBounds (p1.length+1)).toList=p1++(P.length,X.length+Y.length,pw)::p2:=by
  rw [Array.toList_eraseIdxIfInBounds,QI,hp,List.set_append_right _ _ (Jn _),Nat.sub_self,List.set_cons_zero,List.eraseIdx_append_of_length_le [8],Qr];rfl
 have eX:[47].toList=P++X++(Y++S):=by rw [e];simp
 have eY:[47].toList=(P++X)++Y++S:=e
 have hXL:∀ x ∈ X,x ∈ L:=fun x hx=>hL x (by rw [e];simp [hx])
 have hYL:∀ x ∈ Y,x ∈ L:=fun x hx=>hL x (by rw [e];simp [hx])
 have lX:0<X.length:=List.length_pos_iff.mpr nX
 have lY:0<Y.length:=List.length_pos_iff.mpr nY
 refine wpS_bind (wpS_get ?_)
 extract_lets -underBinder
 rw [g1,g2]
 dsimp (config:={zeta:=false,zetaHave:=false}) only
 refine wpS_bind (zbT fun st1 hst1=>?_)
 have k1:kindOf st1=κ:=by rw [← hst1];exact hk
 have f1:failedOf st1=none:=by rw [← hst1];exact hf
 have ar1:arrOf st1=arrOf st:=by rw [← hst1]
 have pe1:(pendingOf st1).toList=p1++(P.length,X.length+Y.length,pw)::p2:=by rw [← hst1];exact er
 have y0:[47][P.length+X.length]?=some Y[0]:=by
  have:=kd eY (i:=0) lY
  rw [Jo] at this;exact this
 have hY0:∀ y ∈ Y,O.kle (key Y[0]) (key y):=fun y hy=>by
  obtain ⟨j,hj,rfl⟩:=JZ hy
  rcases Nat.eq_zero_or_pos j with rfl | c
  ·exact Kl _
  ·exact Jy.mp sY 0 j lY hj c
 have same:Srt key (X++Y)->wpS [11] A E s (pure true) Q st1:=fun hs=>wpS_pure (h (X++Y) st1 (List.Perm.refl _) hs (by rw [ar1,e];simp) pe1 k1 f1)
 refine wpS_bind (zi y0 (wpS_bind (zmL (P:=P) (X:=X) (S:=Y++S) hA k1 (hYL _ (Kf lY)) eX hXL sX rfl rfl lX fun k hk1 klo khi=>?_)))
 dsimp (config:={zeta:=false,zetaHave:=false}) only
 have kl:∀ x ∈ X.take k,∀ y ∈ Y,O.kle (key x) (key y):=fun x hx y hy=>by
  have:=klo x hx
  have e:O.blt (key Y[0]) (key x)=false:=by simpa [bey] using this
  exact JP (show O.kle (key x) (key Y[0]) from e) (hY0 y hy)
 have kh:∀ x ∈ X.drop k,O.kle (key Y[0]) (key x):=fun x hx=>by
  have:=khi x hx
  have e:O.blt (key Y[0]) (key x)=true:=by simpa [bey] using this
  exact Kc e
 by_cases hz:X.length - k=0
 ·rw [if_pos [70]]
  refine same (JE.mpr ⟨sX,sY,fun x hx y hy=>kl x ?_ y hy⟩)
  rw [List.take_of_length_le [8]];exact hx
 rw [if_neg [37]]
 have zl:X.length - 1<X.length:=by omega
 have z0:[47][P.length+k+(X.length - k) - 1]?=some X[X.length - 1]:=by
  have:=kd eX zl
  rwa [show P.length+(X.length - 1)=P.length+k+(X.length - k) - 1 by omega] at this
 have hZ:∀ x ∈ X,O.kle (key x) (key X[X.length - 1]):=fun x hx=>by
  obtain ⟨j,hj,rfl⟩:=JZ hx
  rcases Nat.lt_or_ge j (X.length - 1) with c | c
  ·exact Jy.mp sX j _ hj zl c
  ·have:j=X.length - 1:=by omega
   subst this;exact Kl _
 generalize hzz:X[X.length - 1]=z at *
 have zX:z ∈ X:=by rw [← hzz];exact Kf zl
 refine wpS_bind (zi z0 (wpS_bind (zmL (P:=P++X) (X:=Y) (S:=S) hA k1 (hXL _ zX) eY hYL sY (by rw [Jo]) rfl [8] fun m hm1 mlo mhi=>?_)))
 dsimp (config:={zeta:=false,zetaHave:=false}) only
 have mh:∀ x ∈ X,∀ y ∈ Y.drop m,O.kle (key x) (key y):=fun x hx y hy=>JP (hZ x hx) (mhi y hy)
 by_cases hz2:m=0
 ·rw [if_pos (beq_iff_eq.mpr hz2)]
  subst hz2
  exact same (JE.mpr ⟨sX,sY,fun x hx y hy=>mh x hx y hy⟩)
 rw [if_neg (fun z=>hz2 (beq_iff_eq.mp z))]
 extract_lets -underBinder xa yb jp
 have tdX:X.take k++X.drop k=X:=Ko k X
 have tdY:Y.take m++Y.drop m=Y:=Ko m Y
 have exa:xa.toList=X.drop k:=zhX (P:=P++X.take k) (S:=Y++S) (by rw [JC P,tdX];exact eX) (by rw [Jo,Ku];omega) (by rw [Jo,Ku,KP];omega)
 have eyb:yb.toList=Y.take m:=zhX (P:=P++X) (S:=Y.drop m++S) (eY.trans (by rw [show P++X++Y.take m++(Y.drop m++S)=P++X++(Y.take m++Y.drop m)++S by simp only [List.append_assoc],tdY])) (by rw [List.length_append]) (by rw [List.length_append,List.length_take];omega)
 have sxa:xa.size=X.length - k:=by rw [← Jk,exa,KP]
 have syb:yb.size=m:=by rw [← Jk,eyb,Ku];omega
 have a1:1≤xa.size:=by omega
 have b1:1≤yb.size:=by omega
 have la:∀ x ∈ xa.toList,x ∈ L:=fun x hx=>hXL x (Qk (exa ▸ hx))
 have lb:∀ x ∈ yb.toList,x ∈ L:=fun x hx=>hYL x (QF (eyb ▸ hx))
 have sa:Srt key xa.toList:=by rw [exa];exact sX.drop k
 have sb:Srt key yb.toList:=by rw [eyb];exact sY.take m
 have hb0:∀ y,yb[0]?=some y->y=Y[0]:=fun y hy=>by
  rw [← Jx,eyb,List.getElem?_take,if_pos [8],Jd lY] at hy
  exact (Jq hy).symm
 have hal:∀ y,xa[xa.size - 1]?=some y->y=z:=fun y hy=>by
  rw [← Jx,exa,List.getElem?_drop,Jd [8]] at hy
  have:=Jq hy
  rw [← this,← hzz]
  congr 1
  omega
 have hl:∀ x ∈ yb.toList,∀ y,xa[xa.size - 1]?=some y->O.kle (key x) (key y):=fun x hx y hy=>by
  rw [hal y hy]
  exact Kc (mlo x (eyb ▸ hx))
 have hjp:∀ (r:Array Keyed) st2,Fin key st1 (xa.toList++yb.toList) r st2->wpS [11] A E s (jp r) Q st2:=by
  intro r st2 F
  obtain ⟨⟨g,rfl⟩,pm,sr⟩:=F
  rw [exa,eyb] at pm
  refine wpS_bind (wpS_modify (wpS_bind (wpS_get ?_)))
  have wb:=kw (P.length+k) r.toList (arrOf st1) (P++X.take k) (X.drop k++Y.take m) (Y.drop m++S) 0 (by
   rw [ar1,e]
   conv=>lhs;rw [← tdX,← tdY]
   simp only [List.append_assoc]) pm.length_eq.symm (by rw [List.length_append,List.length_take];omega)
  have hfn:(failedOf st1).isNone=true:=by rw [f1];rfl
  refine (show ∀ b:Bool,b=true->wpS [11] A E s (pure b) Q _ from fun b hb=>wpS_pure ?_) _ hfn
  rw [hb]
  refine h (X.take k++r.toList++Y.drop m) _ ?_ (zfr (b0:=z) (z:=z) (by rw [tdX];exact sX) (by rw [tdY];exact sY) sr pm (fun x hx y hy=>kl x hx y (by rw [tdY] at hy;exact hy)) fun x hx y hy=>mh x (Qk hx) y hy) ?_ pe1 k1 f1
  ·have:(X.take k++r.toList++Y.drop m).Perm (X.take k++(X.drop k++Y.take m)++Y.drop m):=List.Perm.append_right _ (QA _ pm)
   rw [← JC,tdX,JC X,tdY] at this
   exact this
  ·refine wb.trans ?_
   simp only [List.append_assoc]
 clear_value jp
 split
 ·exact wpS_bind (zbU hA k1 la lb sa sb a1 b1 (fun x y hx hy=>by
   rw [hb0 x hx]
   exact kh y (by
    rw [← exa]
    obtain ⟨_,e2⟩:=JG.mp hy
    rw [← e2];simp)) hl hjp)
 ·exact wpS_bind (zbV hA k1 la lb sa sb a1 b1 (fun x hx y hy=>by
   rw [hb0 y hy]
   exact kh x (exa ▸ hx)) hl hjp)
end
section
variable {prog:Program} {w:World} {A:Around} {E:Value->Shared->Prop} {s:Shared} {O:KeyOrd} {key:Keyed->O.α} {L:List Keyed} {κ:SortKind} {st st' st'':SortSt} {xs ys zs:Array Keyed} {lo n m:Nat}
noncomputable def Kx(key:Keyed->O.α)(xs:Array Keyed)(i:Nat):O.α:=key (xs.getD i [74])
theorem zdg{i j:Nat}(h:xs[i]?=ys[j]?):Kx key xs i=Kx key ys j:=by
 unfold Kx
 rw [KJ,KJ,h]
structure Ch (lo:Nat) (xs ys:Array Keyed):Prop where
 pm:ys.Perm xs
 fx:∀ i,i<lo->ys[i]?=xs[i]?
theorem Ch.refl(lo:Nat)(xs:Array Keyed):Ch lo xs xs:=⟨.refl _,fun _ _=>rfl⟩
theorem Ch.trans(h:Ch lo xs ys)(k:Ch lo ys zs):Ch lo xs zs:=⟨k.pm.trans h.pm,fun i hi=>(k.fx i hi).trans (h.fx i hi)⟩
theorem Ch.size(h:Ch lo xs ys):ys.size=xs.size:=h.pm.size_eq
theorem Ch.mirror{i j:Nat}(hi:lo≤i)(hj:j≤xs.size):Ch lo xs (mirror xs i j ((j - i) / 2)):=⟨mirror_perm _ _ _ _,fun k hk=>by
 rw [getElem?_mirror_all hj,if_neg [8]]⟩
theorem Ch.bubble{i d:Nat}(hi:lo≤i - d)(hd:d≤i)(hj:i<xs.size):Ch lo xs (bubble xs i d):=⟨bubble_perm _ _ _,fun k hk=>by
 rw [getElem?_bubble hj d hd k,if_neg [8],if_neg [8]]⟩
structure Cs (κ:SortKind) (L:List Keyed) (lo:Nat) (st st':SortSt):Prop where
 k:kindOf st'=κ
 f:failedOf st'=none
 p:pendingOf st'=pendingOf st
 c:Ch lo [47] [60]
 l:∀ x ∈ [60].toList,x ∈ L
theorem Cs.arr(h:Cs κ L lo st st')(c:Ch lo [60] xs):Cs κ L lo st (setArr st' xs):=⟨h.k,h.f,h.p,h.c.trans c,fun x hx=>h.l x (by
 have:=c.pm.mem_iff (a:=x)
 rw [← Array.mem_def] at hx ⊢
 exact this.mp hx)⟩
theorem Cs.size(h:Cs κ L lo st st'):[60].size=[47].size:=h.c.size
theorem k5{i j:Nat}{Q:Option Bool->SortSt->Prop}(hA:Asks prog w A s κ L key)(h:Cs κ L lo st st')(hi:i<[47].size)(hj:j<[47].size)(hq:Q (some (O.blt (Kx key [60] i) (Kx key [60] j))) st'):wpS [11] A E s (ltAt' i j) Q st':=by
 have g:∀ i,i<[47].size->[60][i]?=some ([60].getD i [74])/\[60].getD i [74] ∈ L:=fun i hi=>by
  have hi':i<[60].size:=by rw [h.size];exact hi
  have e:[60].getD i [74]=[60][i]:=by simp [Array.getD,hi']
  rw [e]
  exact ⟨by simp [hi'],h.l _ [12]⟩
 rw [ltAt'_eq]
 exact wpS_bind (wpS_get (wpS_bind (zi (g i hi).1 (wpS_bind (zi (g j hj).1 (ky hA h.k (g i hi).2 (g j hj).2 hq))))))
theorem vN{i j:Nat}{Q:Unit->SortSt->Prop}(h:Cs κ L lo st st')(hi:lo≤i)(hj:j≤[47].size)(hq:∀ st2,Cs κ L lo st st2->arrOf st2=mirror [60] i j ((j - i) / 2)->Q () st2):wpS [11] A E s (reverseSlice' i j) Q st':=by
 rw [reverseSlice'_eq]
 exact wpS_modify (hq _ (h.arr (.mirror hi (by rw [h.size];exact hj))) rfl)
noncomputable def Up(key:Keyed->O.α)(xs:Array Keyed)(lo n:Nat):Prop:=∀ i j,i≤j->j<n->O.kle (Kx key xs (lo+i)) (Kx key xs (lo+j))
noncomputable def Dn(key:Keyed->O.α)(xs:Array Keyed)(lo n:Nat):Prop:=∀ i j,i≤j->j<n->O.kle (Kx key xs (lo+j)) (Kx key xs (lo+i))
theorem Up.one:Up key xs lo 1:=fun i j h1 h2=>by
 obtain rfl:i=j:=by omega
 exact Kl _
theorem Up.more(h:Up key xs lo n)(h0:1≤n)(hl:O.kle (Kx key xs (lo+n - 1)) (Kx key xs (lo+n))):Up key xs lo (n+1):=fun i j h1 h2=>by
 rcases Nat.lt_or_ge j n with c | c
 ·exact h i j h1 c
 ·obtain rfl:j=n:=by omega
  rcases Nat.lt_or_ge i j with d | d
  ·have:=h i (j - 1) [8] [8]
   rw [show lo+(j - 1)=lo+j - 1 by omega] at this
   exact JP this hl
  ·obtain rfl:i=j:=by omega
   exact Kl _
theorem Dn.more(h:Dn key xs lo n)(h0:1≤n)(hl:O.kle (Kx key xs (lo+n)) (Kx key xs (lo+n - 1))):Dn key xs lo (n+1):=fun i j h1 h2=>by
 rcases Nat.lt_or_ge j n with c | c
 ·exact h i j h1 c
 ·obtain rfl:j=n:=by omega
  rcases Nat.lt_or_ge i j with d | d
  ·have:=h i (j - 1) [8] [8]
   rw [show lo+(j - 1)=lo+j - 1 by omega] at this
   exact JP hl this
  ·obtain rfl:i=j:=by omega
   exact Kl _
theorem zeo{i j:Nat}(hj:j≤xs.size)(k:Nat):Kx key (mirror xs i j ((j - i) / 2)) k=if i≤k/\k<j then Kx key xs (i+j - 1 - k) else Kx key xs k:=by
 have e:=getElem?_mirror_all (xs:=xs) (i:=i) hj k
 by_cases h:i≤k/\k<j
 ·rw [if_pos h] at e ⊢;exact zdg e
 ·rw [if_neg h] at e ⊢;exact zdg e
theorem vK{i j:Nat}(hj:j≤xs.size)(he:∀ k,i≤k->k<j->Kx key xs k=Kx key xs (j - 1))(k:Nat):Kx key (mirror xs i j ((j - i) / 2)) k=Kx key xs k:=by
 rw [zeo hj]
 by_cases h:i≤k/\k<j
 ·rw [if_pos h,he (i+j - 1 - k) [8] [8],he k h.1 h.2]
 ·rw [if_neg h]
theorem zdf{a nrem:Nat}{Q:Option (Option Nat) × Nat->SortSt->Prop}(hA:Asks prog w A s κ L key)(h:Cs κ L lo st st')(hn:lo+nrem≤[47].size)(h1:1≤a)(h2:a≤nrem)(u:Up key [60] lo a)
  (hq:∀ n,a≤n->n≤nrem->Up key [60] lo n->(n=nrem∨O.klt (Kx key [60] (lo+n)) (Kx key [60] (lo+n - 1)))->Q (none,n) st'):
  wpS [11] A E s (forIn [a:nrem] ((none,a):Option (Option Nat) × Nat) fun _ c=>do
   let x ← ltAt' (lo+c.2) (lo+c.2 - 1)
   match x with
   | some m=>if m=true then pure (.done (none,c.2)) else pure (.yield (none,c.2+1))
   | _=>pure (.done (some none,c.2))) Q st':=by
 refine wpS_forRange (I:=fun x c st2=>st2=st'/\c=(none,x)/\Up key [60] lo x) ?_ ?_ ⟨rfl,rfl,u⟩
 ·rintro x c st2 a1 a2 ⟨rfl,rfl,u⟩
  dsimp only
  refine wpS_bind (k5 hA h [8] [8] ?_)
  cases c:O.blt (Kx key [56] (lo+x)) (Kx key [56] (lo+x - 1)) with
  | true=>exact wpS_pure (hq x a1 [8] u (.inr c))
  | false=>exact wpS_pure ⟨rfl,rfl,u.more [8] c⟩
 ·rintro c st2 ⟨rfl,rfl,u⟩
  rw [show max a nrem=nrem by omega] at u ⊢
  exact hq nrem h2 (Jn _) u [76]
structure Fall (κ:SortKind) (L:List Keyed) (key:Keyed->O.α) (st:SortSt) (lo nrem m q:Nat) (st':SortSt):Prop where
 cs:Cs κ L lo st st'
 hm:m≤nrem
 dn:Dn key [60] lo m
 hq:q+1≤m
 eq:∀ i,lo+m - (q+1)≤i->i<lo+m->Kx key [60] i=Kx key [60] (lo+m - 1)
theorem Fall.zero{nrem:Nat}(h:Cs κ L lo st st')(hm:m≤nrem)(h1:1≤m)(d:Dn key [60] lo m):Fall κ L key st lo nrem m 0 st':=
 ⟨h,hm,d,h1,fun i a b=>by rw [show i=lo+m - 1 by omega]⟩
theorem zfg{nrem:Nat}{Q:Option Nat->SortSt->Prop}(hA:Asks prog w A s κ L key)(h:Cs κ L lo st st)(hn:lo+nrem≤[47].size)(h1:1≤nrem)(hq:∀ n st',Cs κ L lo st st'->1≤n->n≤nrem->Up key [60] lo n->Q (some n) st'):wpS [11] A E s (countRun' lo nrem) Q st:=by
 refine wpS_bind (zdf hA h hn (Jn 1) h1 .one fun n n1 n2 u o=>?_)
 extract_lets -underBinder r0 m0
 show wpS _ _ _ _ (if (n == nrem)=true then _ else _) _ _
 by_cases hz:n=nrem
 ·rw [if_pos [70]]
  exact wpS_pure (hq n st h n1 n2 u)
 rw [if_neg [37]]
 have lt:O.klt (Kx key [47] (lo+n)) (Kx key [47] (lo+n - 1)):=o.resolve_left hz
 extract_lets -underBinder jp
 have hjp:∀ u st1,Cs κ L lo st st1->Dn key (arrOf st1) lo (n+1)->wpS [11] A E s (jp u) Q st1:=by
  intro u st1 c1 d1
  refine wpS_bind (wpS_lift (wpAny_rule ⟨rfl,?_⟩))
  extract_lets -underBinder n2 q0
  refine wpS_bind (wpS_mono (wpS_forRange (I:=fun x c st2=>∃ q,c=(none,x,q)/\Fall κ L key st lo nrem x q st2) (Q:=fun c st2=>∃ m q,c=(none,m,q)/\Fall κ L key st lo nrem m q st2) ?_ ?_ ⟨0,rfl,.zero c1 (show n+1≤nrem by omega) (show 1≤n+1 by omega) d1⟩) ?_)
  ·rintro x c st2 a1 a2 ⟨q,rfl,F⟩
   dsimp only
   have fq:=F.hq
   have hs2:lo+x≤[56].size:=by rw [F.cs.size];omega
   refine wpS_bind (k5 hA F.cs [8] [8] ?_)
   cases c:O.blt (Kx key [56] (lo+x)) (Kx key [56] (lo+x - 1)) with
   | true=>
    have d2:=F.dn.more [8] (Kc c)
    dsimp only
    rw [if_pos rfl]
    by_cases hz:q > 0
    ·rw [if_pos hz]
     refine wpS_bind (vN F.cs [8] [8] fun st3 c3 e3=>wpS_pure ⟨0,rfl,.zero c3 a2 [8] fun i j a b=>?_⟩)
     rw [e3,vK hs2 F.eq,vK hs2 F.eq]
     exact d2 i j a b
    ·rw [if_neg hz]
     exact wpS_pure ⟨0,rfl,.zero F.cs a2 [8] d2⟩
   | false=>
    dsimp only
    rw [if_neg Je]
    refine wpS_bind (k5 hA F.cs [8] [8] ?_)
    cases c2:O.blt (Kx key [56] (lo+x - 1)) (Kx key [56] (lo+x)) with
    | true=>exact wpS_pure ⟨x,q,rfl,F⟩
    | false=>
     have ex:Kx key [56] (lo+x)=Kx key [56] (lo+x - 1):=KeyOrd.kle_antisymm c2 c
     refine wpS_pure ⟨q+1,rfl,⟨F.cs,a2,F.dn.more [8] (by rw [ex];exact Kl _),by omega,fun i b1 b2=>?_⟩⟩
     rw [show lo+(x+1) - 1=lo+x by omega]
     rcases Nat.lt_or_ge i (lo+x) with d | d
     ·rw [ex];exact F.eq i [8] d
     ·rw [show i=lo+x by omega]
  ·rintro c st2 ⟨q,rfl,F⟩
   exact ⟨_,q,rfl,F⟩
  rintro c st2 ⟨m,q,rfl,F⟩
  have fq:=F.hq
  have fm:=F.hm
  have hs2:lo+m≤[56].size:=by rw [F.cs.size];omega
  extract_lets -underBinder r3 s3 m3 q3
  have er3:r3=none:=rfl
  rw [er3]
  dsimp (config:={zeta:=false,zetaHave:=false}) only
  extract_lets -underBinder jp3
  have hj3:∀ u st3,Cs κ L lo st st3->Dn key (arrOf st3) lo m->wpS [11] A E s (jp3 u) Q st3:=by
   intro u st3 c3 d3
   have hs3:lo+m≤(arrOf st3).size:=by rw [c3.size];omega
   refine wpS_bind (vN c3 (Jn _) (show lo+m≤_ by omega) fun st4 c4 e4=>?_)
   refine wpS_bind (zdf hA c4 hn (show 1≤m by omega) fm (fun i j a b=>?_) fun k k1 k2 u4 _=>wpS_pure (hq k st4 c4 (by have:m≤k:=k1;omega) k2 u4))
   have e4:arrOf st4=mirror (arrOf st3) lo (lo+m) ((lo+m - lo) / 2):=e4
   have b:j<m:=b
   rw [e4,zeo hs3,zeo hs3,if_pos [8],if_pos [8]]
   have:=d3 (m - 1 - j) (m - 1 - i) [8] [8]
   rw [show lo+(m - 1 - j)=lo+(lo+m) - 1 - (lo+j) by omega,show lo+(m - 1 - i)=lo+(lo+m) - 1 - (lo+i) by omega] at this
   exact this
  clear_value jp3
  show wpS _ _ _ _ (if q > 0 then _ else _) _ _
  by_cases hz:q > 0
  ·rw [if_pos hz]
   refine wpS_bind (vN F.cs (show lo≤lo+m - (q+1) by omega) (show lo+m≤_ by omega) fun st3 c3 e3=>hj3 _ st3 c3 fun i j a b=>?_)
   have e3:arrOf st3=mirror [56] (lo+m - (q+1)) (lo+m) ((lo+m - (lo+m - (q+1))) / 2):=e3
   rw [e3,vK hs2 F.eq,vK hs2 F.eq]
   exact F.dn i j a b
  ·rw [if_neg hz]
   exact hj3 _ st2 F.cs F.dn
 clear_value jp
 show wpS _ _ _ _ (if n > 1 then _ else _) _ _
 have hs:lo+n≤[47].size:=by omega
 by_cases hg:n > 1
 ·rw [if_pos hg]
  refine wpS_bind (k5 hA h (show lo<_ by omega) (show lo+n - 1<_ by omega) ?_)
  show wpS _ _ _ _ (if O.blt (Kx key [47] lo) (Kx key [47] (lo+n - 1))=true then _ else _) _ _
  cases c:O.blt (Kx key [47] lo) (Kx key [47] (lo+n - 1)) with
  | true=>
   rw [if_pos rfl]
   exact wpS_pure (hq n st h n1 n2 u)
  | false=>
   rw [if_neg Je]
   have al:∀ i,lo≤i->i<lo+n->Kx key [47] i=Kx key [47] (lo+n - 1):=fun i i1 i2=>by
    have a1:=u 0 (i - lo) [8] [8]
    have a2:=u (i - lo) (n - 1) [8] [8]
    rw [show lo+(i - lo)=i by omega,show lo+0=lo by omega] at a1
    rw [show lo+(i - lo)=i by omega,show lo+(n - 1)=lo+n - 1 by omega] at a2
    exact KeyOrd.kle_antisymm a2 (JP (show O.kle (Kx key [47] (lo+n - 1)) (Kx key [47] lo) from c) a1)
   refine wpS_bind (vN h (Jn _) (show lo+n≤_ by omega) fun st2 c2 e2=>hjp _ st2 c2 ?_)
   have e2:arrOf st2=mirror [47] lo (lo+n) ((lo+n - lo) / 2):=e2
   have d0:Dn key [47] lo n:=fun i j a b=>by rw [al (lo+i) [8] [8],al (lo+j) [8] [8]];exact Kl _
   have d1:=d0.more [8] (Kc lt)
   exact fun i j a b=>by rw [e2,vK hs al,vK hs al];exact d1 i j a b
 ·rw [if_neg hg]
  obtain rfl:n=1:=by omega
  have d0:Dn key [47] lo 1:=fun i j a b=>by
   obtain rfl:i=j:=by omega
   exact Kl _
  exact hjp _ st h (d0.more (Jn _) (Kc lt))
end
section
variable {prog:Program} {w:World} {A:Around} {E:Value->Shared->Prop} {s:Shared} {O:KeyOrd} {key:Keyed->O.α} {L T V:List Keyed} {κ:SortKind} {st st' st'':SortSt} {xs ys zs:Array Keyed} {lo n m:Nat}
theorem zis{ok:Nat}{Q:Bool->SortSt->Prop}(hA:Asks prog w A s κ L key)(h:Cs κ L lo st st')(hn:lo+n≤[47].size)(h1:1≤ok)(h2:ok≤n)(u:Up key [60] lo ok)(hq:∀ st2,Cs κ L lo st st2->Up key [56] lo n->Q true st2):wpS [11] A E s (binarySort' lo n ok) Q st':=by
 have e1:max ok 1=ok:=by omega
 refine wpS_bind (wpS_mono (wpS_forRange (I:=fun x c st2=>c=(none,())/\Cs κ L lo st st2/\Up key [56] lo x) (Q:=fun c st2=>c=(none,())/\Cs κ L lo st st2/\Up key [56] lo n) ?_ ?_ ⟨rfl,h,by rw [e1];exact u⟩) ?_)
 ·rintro k c st2 k1 k2 ⟨rfl,c2,u2⟩
  dsimp only
  refine wpS_bind (wpS_mono (wpS_forRange (I:=fun x c st3=>st3=st2/\∃ l r,c=(none,l,r)/\l≤r/\r≤k/\r - l≤k - x/\(∀ i,i<l->O.kle (Kx key [56] (lo+i)) (Kx key [56] (lo+k)))/\∀ i,r≤i->i<k->O.klt (Kx key [56] (lo+k)) (Kx key [56] (lo+i)))
   (Q:=fun c st3=>st3=st2/\∃ l,c=(none,l,l)/\l≤k/\(∀ i,i<l->O.kle (Kx key [56] (lo+i)) (Kx key [56] (lo+k)))/\∀ i,l≤i->i<k->O.klt (Kx key [56] (lo+k)) (Kx key [56] (lo+i))) ?_ ?_ ⟨rfl,0,k,rfl,by omega,by omega,by omega,fun i hi=>absurd hi [8],fun i a b=>absurd a [8]⟩) ?_)
  ·rintro x c st3 _ hx ⟨rfl,l,r,rfl,a1,a2,a3,a4,a5⟩
   dsimp only
   by_cases hg:l ≥ r
   ·rw [if_pos hg]
    obtain rfl:l=r:=by omega
    exact wpS_pure ⟨rfl,l,rfl,a2,a4,a5⟩
   ·rw [if_neg hg]
    refine wpS_bind (k5 hA c2 [8] [8] ?_)
    cases c:O.blt (Kx key (arrOf st3) (lo+k)) (Kx key (arrOf st3) (lo+(l+r) / 2)) with
    | true=>exact wpS_pure ⟨rfl,l,(l+r) / 2,rfl,by omega,by omega,by omega,a4,fun i b1 b2=>KeyOrd.klt_of_klt_of_kle c (u2 _ i b1 b2)⟩
    | false=>exact wpS_pure ⟨rfl,(l+r) / 2+1,r,rfl,by omega,a2,by omega,fun i b1=>JP (u2 i ((l+r) / 2) [8] [8]) c,a5⟩
  ·rintro c st3 ⟨rfl,l,r,rfl,a1,a2,a3,a4,a5⟩
   obtain rfl:l=r:=by omega
   exact ⟨rfl,l,rfl,a2,a4,a5⟩
  rintro c st3 ⟨rfl,l,rfl,a2,a4,a5⟩
  dsimp only
  have hsz:lo+k<(arrOf st3).size:=by rw [c2.size];omega
  refine wpS_bind (wpS_modify (wpS_pure ⟨rfl,c2.arr (.bubble [8] [8] hsz),?_⟩))
  have kb:∀ i,Kx key (bubble (arrOf st3) (lo+k) (lo+k - (lo+l))) i=if i=lo+l then Kx key (arrOf st3) (lo+k) else if lo+l<i/\i≤lo+k then Kx key (arrOf st3) (i - 1) else Kx key (arrOf st3) i:=fun i=>by
   have e:=getElem?_bubble hsz (lo+k - (lo+l)) [8] i
   rw [show lo+k - (lo+k - (lo+l))=lo+l by omega] at e
   by_cases b1:i=lo+l
   ·rw [if_pos b1] at e ⊢;exact zdg e
   ·rw [if_neg b1] at e ⊢
    by_cases b2:lo+l<i/\i≤lo+k
    ·rw [if_pos b2] at e ⊢;exact zdg e
    ·rw [if_neg b2] at e ⊢;exact zdg e
  intro i j i1 i2
  show O.kle (Kx key (bubble (arrOf st3) (lo+k) (lo+k - (lo+l))) (lo+i)) (Kx key (bubble (arrOf st3) (lo+k) (lo+k - (lo+l))) (lo+j))
  rw [kb,kb]
  by_cases b1:i=l
  ·rw [if_pos [8]]
   by_cases b2:j=l
   ·rw [if_pos [8]];exact Kl _
   ·rw [if_neg [8],if_pos [8],show lo+j - 1=lo+(j - 1) by omega]
    exact Kc (a5 _ [8] [8])
  ·rw [if_neg [8]]
   by_cases b3:l<i
   ·rw [if_pos [8],if_neg [8],if_pos [8],show lo+i - 1=lo+(i - 1) by omega,show lo+j - 1=lo+(j - 1) by omega]
    exact u2 _ _ [8] [8]
   ·rw [if_neg [8]]
    by_cases b2:j=l
    ·rw [if_pos [8]];exact a4 i [8]
    ·rw [if_neg [8]]
     by_cases b4:l<j
     ·rw [if_pos [8],show lo+j - 1=lo+(j - 1) by omega];exact u2 _ _ [8] [8]
     ·rw [if_neg [8]];exact u2 _ _ i1 [8]
 ·rintro c st2 ⟨rfl,c2,u2⟩
  rw [show max (max ok 1) n=n by omega] at u2
  exact ⟨rfl,c2,u2⟩
 ·rintro c st2 ⟨rfl,c2,u2⟩
  exact wpS_pure (hq st2 c2 u2)
noncomputable def Runs(key:Keyed->O.α):List (Nat × Nat × Nat)->Nat->List Keyed->Prop
 | [],_,U=>U=[]
 | t::r,off,U=>t.1=off/\1≤t.2.1/\∃ X V,U=X++V/\X.length=t.2.1/\Srt key X/\Runs key r (off+t.2.1) V
theorem Runs.split:∀ {p q:List (Nat × Nat × Nat)} {off:Nat} {U:List Keyed},Runs key (p++q) off U->∃ U1 U2,U=U1++U2/\Runs key p off U1/\Runs key q (off+U1.length) U2
 | [],q,off,U,h=>⟨[],U,rfl,rfl,h⟩
 | t::p,q,off,U,h=>by
  obtain ⟨h1,h0,X,V,rfl,h3,h4,h5⟩:=h
  obtain ⟨U1,U2,rfl,g1,g2⟩:=Runs.split h5
  refine ⟨X++U1,U2,by simp,⟨h1,h0,X,U1,rfl,h3,h4,g1⟩,?_⟩
  rw [Jo,h3,← Nat.add_assoc];exact g2
theorem Runs.join:∀ {p q:List (Nat × Nat × Nat)} {off:Nat} {U1 U2:List Keyed},Runs key p off U1->Runs key q (off+U1.length) U2->Runs key (p++q) off (U1++U2)
 | [],q,off,U1,U2,h,k=>by
  have:U1=[]:=h
  subst this;exact k
 | t::p,q,off,U1,U2,h,k=>by
  obtain ⟨h1,h0,X,V,rfl,h3,h4,h5⟩:=h
  refine ⟨h1,h0,X,V++U2,by simp,h3,h4,Runs.join h5 ?_⟩
  rw [Jo,h3,← Nat.add_assoc] at k;exact k
theorem Runs.len:∀ {p:List (Nat × Nat × Nat)} {off:Nat} {U:List Keyed},Runs key p off U->p.length≤U.length
 | [],off,U,h=>Km _
 | t::p,off,U,h=>by
  obtain ⟨h1,h0,X,V,rfl,h3,h4,h5⟩:=h
  have:=Runs.len h5
  rw [Jo,JD];omega
structure RI (κ:SortKind) (L:List Keyed) (key:Keyed->O.α) (T V:List Keyed) (st:SortSt):Prop where
 k:kindOf st=κ
 f:failedOf st=none
 l:∀ x ∈ [47].toList,x ∈ L
 pm:[47].toList.Perm T
 r:∃ U,[47].toList=U++V/\Runs key (pendingOf st).toList 0 U
theorem qa{i:Nat}{Q:Bool->SortSt->Prop}(hA:Asks prog w A s κ L key)(R:RI κ L key T V st)(hi:i+1<(pendingOf st).size)(hq:∀ st',RI κ L key T V st'->(pendingOf st').size+1=(pendingOf st).size->Q true st'):wpS [11] A E s (mergeAt' i) Q st:=by
 obtain ⟨U,e,hr⟩:=R.r
 generalize hp:(pendingOf st).toList=p at hr
 have hl:p.length=(pendingOf st).size:=by rw [← hp,Jk]
 have d1:p=p.take i++p[i]'(by omega)::p[i+1]'(by omega)::p.drop (i+2):=by
  conv=>lhs;rw [← Ko i p,Qj (show i<p.length by omega),Qj (show i+1<p.length by omega)]
 have li:i=(p.take i).length:=by rw [Ku];omega
 generalize p.take i=p1 at *
 generalize p.drop (i+2)=p2 at *
 generalize p[i]'(by omega)=ta at *
 generalize p[i+1]'(by omega)=tb at *
 subst d1
 obtain ⟨U1,W,rfl,r1,a1,a0,X,W1,rfl,a3,a4,b1,b0,Y,W2,rfl,b3,b4,r2⟩:=Runs.split hr
 rw [Qc] at a1 b1 r2
 obtain ⟨ta1,ta2,pw⟩:=ta
 obtain ⟨tb1,tb2,pw2⟩:=tb
 dsimp only at a1 a0 a3 b1 b0 b3 r2
 subst a1 a3 b1 b3
 refine zbW (P:=U1) (X:=X) (Y:=Y) (S:=W2++V) hA R.k R.l (by rw [e];simp) (fun z=>by rw [z] at a0;cases a0) (fun z=>by rw [z] at b0;cases b0) a4 b4 hp li R.f fun Z st' z1 z2 z3 z4 z5 z6=>?_
 have zl:Z.length=X.length+Y.length:=by rw [z1.length_eq,Jo]
 have pmz:[60].toList.Perm [47].toList:=by
  rw [z3,e]
  have:(U1++Z++(W2++V)).Perm (U1++(X++Y)++(W2++V)):=List.Perm.append_right _ (QA _ z1)
  simpa using this
 refine hq st' ⟨z5,z6,fun x hx=>R.l x (pmz.mem_iff.mp hx),pmz.trans R.pm,U1++Z++W2,by rw [z3];simp,?_⟩ ?_
 ·rw [z4,JC]
  refine Runs.join r1 ⟨by show U1.length=_;omega,by show 1≤X.length+Y.length;omega,Z,W2,rfl,zl,z2,?_⟩
  show Runs key p2 (0+U1.length+(X.length+Y.length)) W2
  rw [show 0+U1.length+(X.length+Y.length)=U1.length+X.length+Y.length by omega];exact r2
 ·have l1:(pendingOf st').size=(pendingOf st').toList.length:=Array.length_toList.symm
  have l2:(pendingOf st).size=(pendingOf st).toList.length:=Array.length_toList.symm
  rw [l1,l2,z4,hp]
  simp only [List.length_append,List.length_cons];omega
theorem zkF{U R V:List Keyed}(e:xs.toList=U++R++V)(u:Up key xs U.length R.length):Srt key R:=by
 rw [Srt,Jy]
 intro i j hi hj hij
 have g:∀ i (hi:i<R.length),Kx key xs (U.length+i)=key R[i]:=fun i hi=>by
  unfold Kx
  rw [KJ,kd e hi];rfl
 have:=u i j [8] hj
 rwa [g i hi,g j hj] at this
theorem Runs.like:∀ {p q:List (Nat × Nat × Nat)} {off:Nat} {U:List Keyed},q.map (fun t=>(t.1,t.2.1))=p.map (fun t=>(t.1,t.2.1))->Runs key p off U->Runs key q off U
 | [],[],off,U,e,h=>h
 | [],_::_,off,U,e,h=>by cases e
 | _::_,[],off,U,e,h=>by cases e
 | t::p,t'::q,off,U,e,h=>by
  rw [Jr,Jr,KW,Prod.mk.injEq] at e
  obtain ⟨⟨e1,e2⟩,e3⟩:=e
  obtain ⟨h1,h0,X,V,h2,h3,h4,h5⟩:=h
  exact ⟨by rw [e1];exact h1,by rw [e2];exact h0,X,V,h2,by rw [e2];exact h3,h4,Runs.like e3 (by rw [e2];exact h5)⟩
theorem zcJ{f:Nat × Nat × Nat->Nat × Nat × Nat}(hf:∀ t,((f t).1,(f t).2.1)=(t.1,t.2.1)):∀ (p:List (Nat × Nat × Nat)) (i:Nat),(p.modify i f).map (fun t=>(t.1,t.2.1))=p.map (fun t=>(t.1,t.2.1))
 | [],i=>by cases i<;>rfl
 | t::p,0=>by
  exact congrArg (·::p.map fun t=>(t.1,t.2.1)) (hf t)
 | t::p,i+1=>by
  show _::(p.modify i f).map _=_::_
  rw [zcJ hf p i]
theorem RI.len(R:RI κ L key T V st):∀ {U:List Keyed},[47].toList=U++V->U.length+V.length=T.length:=fun {U} e=>by
 rw [← R.pm.length_eq,e,Jo]
noncomputable def RQ(κ:SortKind)(L:List Keyed)(key:Keyed->O.α)(T:List Keyed)(x:Nat)(r:ForInStep (Option Unit × Nat))(st:SortSt):Prop:=match r with
 | .done c=>c.1=none/\RI κ L key T [] st
 | .yield c=>∃ lo V,c=(none,lo)/\RI κ L key T V st/\lo+V.length=T.length/\x+1≤lo
theorem wpS_runs{Q:Unit->SortSt->Prop}(hA:Asks prog w A s κ L key)(hk:kindOf st=κ)(hf:failedOf st=none)(hp:pendingOf st=#[])(hl:∀ x ∈ [47].toList,x ∈ L)
  (h:∀ st',[60].toList.Perm [47].toList->Srt key [60].toList->failedOf st'=none->Q () st'):wpS [11] A E s sortRuns' Q st:=by
 generalize hT:[47].toList=T at h
 have hTs:[47].size=T.length:=by rw [← hT,Jk]
 have R0:RI κ L key T T st:=⟨hk,hf,hl,by rw [hT],[],by rw [hT];rfl,by rw [hp];rfl⟩
 refine wpS_bind (wpS_get ?_)
 extract_lets -underBinder size minrun lo
 have hsize:size=T.length:=hTs
 clear_value size minrun
 subst hsize
 refine wpS_bind (wpS_mono (wpS_forRange (I:=fun x c st'=>∃ lo V,c=(none,lo)/\RI κ L key T V st'/\lo+V.length=T.length/\x≤lo) (Q:=fun c st'=>c.1=none/\RI κ L key T [] st') ?_ ?_ ⟨0,T,rfl,R0,by omega,by omega⟩) ?_)
 ·rintro x c st1 _ hx ⟨lo,V,rfl,R,hV,hxl⟩
  extract_lets -underBinder lo'
  show wpS _ _ _ _ (if lo ≥ T.length then _ else _) _ _
  by_cases hz:lo ≥ T.length
  ·rw [if_pos hz]
   have:V=[]:=KY.mp [8]
   subst this
   exact wpS_pure ⟨rfl,R⟩
  rw [if_neg hz]
  have sz1:(arrOf st1).size=T.length:=by rw [← Jk,R.pm.length_eq]
  have C0:Cs κ L lo st1 st1:=⟨R.k,R.f,rfl,.refl _ _,R.l⟩
  obtain ⟨U,e,hr⟩:=R.r
  have hU:U.length=lo:=by have:=R.len e;omega
  refine wpS_bind (zfg hA C0 (show lo+(T.length - lo)≤_ by omega) (show 1≤T.length - lo by omega) fun n st2 c2 n1 n2 u2=>?_)
  have n2:n≤T.length - lo:=n2
  dsimp (config:={zeta:=false,zetaHave:=false}) only
  extract_lets -underBinder n0 jp
  have hjp:∀ u n st2,Cs κ L lo st1 st2->1≤n->n≤T.length - lo->Up key [56] lo n->wpS [11] A E s (jp u n) (RQ κ L key T x) st2:=by
   intro u n st2 c2 n1 n2 u2
   have sz2:[56].toList.length=T.length:=by rw [Jk,c2.size,sz1]
   have eU:[56].toList.take lo=U:=by
    apply Qi
    intro i
    rw [List.getElem?_take]
    by_cases hi:i<lo
    ·rw [if_pos hi,Jx,c2.c.fx i hi,← Jx,e,JR [8]]
    ·rw [if_neg hi,Qf [8]]
   have e2:[56].toList=U++(([56].toList.drop lo).take n++[56].toList.drop (lo+n)):=by
    conv=>lhs;rw [← Ko lo [56].toList,eU,← Ko n ([56].toList.drop lo),List.drop_drop]
   generalize hX:([56].toList.drop lo).take n=X at e2
   generalize (arrOf st2).toList.drop (lo+n)=W at e2
   have lX:X.length=n:=by rw [← hX,Ku,KP];omega
   have sX:Srt key X:=zkF (U:=U) (V:=W) (by rw [e2];simp) (by rw [hU,lX];exact u2)
   have R2:RI κ L key T (X++W) st2:=⟨c2.k,c2.f,c2.l,(Array.perm_iff_toList_perm.mp c2.c.pm).trans R.pm,U,e2,by rw [c2.p];exact hr⟩
   refine wpS_bind (wpS_get ?_)
   extract_lets -underBinder jp2
   have hj2:∀ u st3,RI κ L key T (X++W) st3->wpS [11] A E s (jp2 u) (RQ κ L key T x) st3:=by
    intro u st3 R3
    obtain ⟨U3,e3,r3⟩:=R3.r
    have l3:U3.length=lo:=by
     have:=R3.len e3
     have:=R2.len e2
     omega
    have lW:=R3.len e3
    rw [Jo] at lW
    refine wpS_bind (wpS_modify (wpS_pure ⟨lo+n,W,rfl,⟨R3.k,R3.f,R3.l,R3.pm,U3++X,by show (arrOf st3).toList=_;rw [e3];simp,?_⟩,by omega,by omega⟩))
    show Runs key ((pendingOf st3).push (lo,n,0)).toList 0 (U3++X)
    rw [KI]
    exact Runs.join r3 ⟨by show lo=_;omega,n1,X,[],by simp,lX,sX,rfl⟩
   clear_value jp2
   split
   ·rename_i s1 n1' pz hb
    extract_lets -underBinder pw
    refine wpS_bind (wpS_mono (wpS_forRange (I:=fun _ c st3=>c=(none,())/\RI κ L key T (X++W) st3) (Q:=fun c st3=>c=(none,())/\RI κ L key T (X++W) st3) ?_ (fun c st3 hc=>hc) ⟨rfl,R2⟩) ?_)
    ·rintro x3 c st3 _ _ ⟨rfl,R3⟩
     refine wpS_bind (wpS_get ?_)
     extract_lets -underBinder p
     split
     ·rename_i older hb3
      split
      ·exact wpS_pure ⟨rfl,R3⟩
      ·have hps:p.size > 1:=by
        by_cases hg:p.size > 1
        ·exact hg
        ·rw [if_neg hg] at hb3;cases hb3
       refine wpS_bind (qa hA R3 (show p.size - 2+1<p.size by omega) fun st4 R4 _=>?_)
       exact wpS_pure ⟨rfl,R4⟩
     ·exact wpS_pure ⟨rfl,R3⟩
    ·rintro c st3 ⟨rfl,R3⟩
     refine wpS_bind (wpS_modify (hj2 _ _ ⟨R3.k,R3.f,R3.l,R3.pm,?_⟩))
     obtain ⟨U3,e3,r3⟩:=R3.r
     refine ⟨U3,e3,Runs.like ?_ r3⟩
     show ((pendingOf st3).modify _ _).toList.map _=_
     rw [Array.toList_modify]
     exact zcJ (f:=fun x=>(x.1,x.2.1,pw)) (fun t=>rfl) _ _
   ·exact hj2 _ _ R2
  clear_value jp
  split
  ·rename_i hlt
   refine wpS_bind (wpS_lift (wpAny_rule ⟨rfl,?_⟩))
   extract_lets -underBinder force
   have hforce:force=min (T.length - lo) minrun:=rfl
   have hlt:n<minrun:=hlt
   refine wpS_bind (zis hA c2 (show lo+force≤_ by omega) n1 (by show n≤force;omega) u2 fun st3 c3 u3=>?_)
   exact wpS_mono (hjp _ _ _ c3 [8] [8] u3) fun r st' h=>by cases r<;>exact h
  ·exact wpS_mono (hjp _ _ _ c2 n1 n2 u2) fun r st' h=>by cases r<;>exact h
 ·rintro c st1 ⟨lo,V,rfl,R,hV,hxl⟩
  have:V=[]:=KY.mp [8]
  subst this
  exact ⟨rfl,R⟩
 rintro c st1 ⟨hc,R⟩
 extract_lets -underBinder r1 lo1
 have er1:r1=none:=hc
 rw [er1]
 dsimp (config:={zeta:=false,zetaHave:=false}) only
 refine wpS_bind (wpS_mono (wpS_forRange (I:=fun x c st'=>c=(none,())/\RI κ L key T [] st'/\(pendingOf st').size≤max 1 (T.length - x)) (Q:=fun c st'=>c=(none,())/\RI κ L key T [] st'/\(pendingOf st').size≤1) ?_ ?_ ⟨rfl,R,?_⟩) ?_)
 ·rintro x c st2 _ hx ⟨rfl,R2,hs⟩
  extract_lets -underBinder r2
  refine wpS_bind (wpS_get ?_)
  extract_lets -underBinder p i before i2
  have ep:p.size=(pendingOf st2).size:=rfl
  show wpS _ _ _ _ (if p.size≤1 then _ else _) _ _
  by_cases hz:p.size≤1
  ·rw [if_pos hz]
   exact wpS_pure ⟨rfl,R2,hz⟩
  rw [if_neg hz]
  have hi2:i2≤p.size - 2:=by
   show (if _ then _ else _)≤_
   split
   ·show p.size - 2 - 1≤_;omega
   ·exact Jn _
  clear_value i2
  refine wpS_bind (qa hA R2 (show i2+1<(pendingOf st2).size by omega) fun st3 R3 h3=>?_)
  exact wpS_pure ⟨rfl,R3,by omega⟩
 ·rintro c st2 ⟨rfl,R2,hs⟩
  exact ⟨rfl,R2,by omega⟩
 ·obtain ⟨U,e,hr⟩:=R.r
  have h1:=Runs.len hr
  have h2:=R.len e
  rw [Jk] at h1
  simp only [List.length_nil] at h2
  omega
 ·rintro c st2 ⟨rfl,R2,hs⟩
  refine wpS_pure (h st2 R2.pm ?_ R2.f)
  obtain ⟨U,e,hr⟩:=R2.r
  rw [e,Kk]
  have hl:(pendingOf st2).toList.length≤1:=by rw [Jk];exact hs
  generalize (pendingOf st2).toList=p at hr hl
  match p,hr,hl with
  | [],hr,_=>
   have:U=[]:=hr
   subst this;exact .nil
  | [t],hr,_=>
   obtain ⟨h1,h0,X,V,rfl,h3,h4,h5⟩:=hr
   have:V=[]:=h5
   subst this
   rw [Kk];exact h4
end
end TS
namespace F
open PySem PySem.Spec PySem.W PyProof.Rows L2
noncomputable def ke:Key->List Int
 | .inl n=>[n]
 | .inr x=>x.cps.toList.map Int.ofNat++[-1]
noncomputable def enc:List Key->List Int
 | []=>[]
 | k::r=>ke k++enc r
noncomputable def shp(k:List Key):List Bool:=k.map Sum.isLeft
noncomputable def zmF:KeyOrd where
 α:=List Int
 blt a b:=decide (a<b)
 irrefl a:=decide_eq_false (List.lt_irrefl a)
 trans a b c h k:=decide_eq_true (List.lt_trans (of_decide_eq_true h) (of_decide_eq_true k))
 negTrans a b c h:=by
  by_cases z:a<b
  ·exact .inl (decide_eq_true z)
  ·exact .inr (decide_eq_true (List.lt_of_le_of_lt (Qx.mp z) (of_decide_eq_true h)))
 total a b h k:=List.le_antisymm (Qx.mp (of_decide_eq_false k)) (Qx.mp (of_decide_eq_false h))
theorem zgW:∀ (l a b:List Int),(l++a<l++b) ↔ a<b
 | [],a,b=>Iff.rfl
 | x::l,a,b=>by
  rw [List.cons_append,List.cons_append,KR,← zgW l a b]
  exact ⟨fun h=>h.elim (fun z=>absurd z (Int.lt_irrefl x)) (·.2),fun h=>.inr ⟨rfl,h⟩⟩
theorem zbe:∀ (x y:List Nat) (a b:List Int),x≠y->((x.map Int.ofNat++[-1])++a<(y.map Int.ofNat++[-1])++b ↔ x<y)
 | [],[],a,b,h=>absurd rfl h
 | [],y::ys,a,b,_=>by
  refine ⟨fun _=>List.nil_lt_cons _ _,fun _=>?_⟩
  show (-1:Int)::a<Int.ofNat y::_
  rw [KR]
  exact .inl (by have:=Int.natCast_nonneg y;show (-1:Int)<(y:Int);omega)
 | x::xs,[],a,b,_=>by
  refine ⟨fun h=>?_,fun h=>absurd h (List.not_lt_nil _)⟩
  have h:Int.ofNat x::(xs.map Int.ofNat++[-1]++a)<(-1:Int)::b:=h
  rw [KR] at h
  exfalso
  have e:Int.ofNat x=(x:Int):=rfl
  rw [e] at h
  omega
 | x::xs,y::ys,a,b,h=>by
  show Int.ofNat x::(xs.map Int.ofNat++[-1]++a)<Int.ofNat y::(ys.map Int.ofNat++[-1]++b) ↔ _
  rw [KR,KR]
  have e1:Int.ofNat x<Int.ofNat y ↔ x<y:=Int.ofNat_lt
  have e2:Int.ofNat x=Int.ofNat y ↔ x=y:=⟨fun z=>Int.ofNat.inj z,fun z=>by rw [z]⟩
  rw [e1,e2]
  by_cases z:x=y
  ·subst z
   rw [zbe xs ys a b fun q=>h (by rw [q])]
  ·simp [z]
theorem zig{x y:Str}(h:x≠y):x.cps.toList≠y.cps.toList:=fun z=>h (by
 obtain ⟨⟨xl⟩⟩:=x
 obtain ⟨⟨yl⟩⟩:=y
 simp only at z
 rw [z])
theorem zbH:∀ {k k':List Key},shp k=shp k'->enc k=enc k'->k=k'
 | [],[],_,_=>rfl
 | [],_::_,h,_=>by cases h
 | _::_,[],h,_=>by cases h
 | .inl a::k,.inl b::k',h,e=>by
  have e:a::enc k=b::enc k':=e
  have h:true::shp k=true::shp k':=h
  rw [KW] at e h
  rw [e.1,zbH h.2 e.2]
 | .inl a::k,.inr b::k',h,e=>by cases h
 | .inr a::k,.inl b::k',h,e=>by cases h
 | .inr x::k,.inr y::k',h,e=>by
  have h2:false::shp k=false::shp k':=h
  rw [KW] at h2
  have e:(x.cps.toList.map Int.ofNat++[-1])++enc k=(y.cps.toList.map Int.ofNat++[-1])++enc k':=e
  by_cases z:x=y
  ·subst z
   rw [zbH h2.2 (List.append_cancel_left e)]
  ·exfalso
   have n:=zig z
   have l1:=zbe _ _ (enc k) (enc k') n
   have l2:=zbe _ _ (enc k') (enc k) n.symm
   rw [e] at l1
   rw [← e] at l2
   have a1:¬ x.cps.toList<y.cps.toList:=fun q=>List.lt_irrefl _ (l1.mpr q)
   have a2:¬ y.cps.toList<x.cps.toList:=fun q=>List.lt_irrefl _ (l2.mpr q)
   exact n (List.le_antisymm (Qx.mp a2) (Qx.mp a1))
section
variable {prog:Program} {w:World} {A:Around} {E:Value->Shared->Prop} {s:Shared} {Q:Bool->Shared->Prop}
theorem zeJ{fin:Bool}(hf:fin=false):∀ {k k':List Key} {us vs:List Value} {i:Nat},PySem.ItemsAre [39] k us->PySem.ItemsAre [39] k' vs->shp k=shp k'->Q (decide (enc k<enc k')) s->KatLex prog w A true fin Q (us.zip vs) i s
 | _,_,_,_,i,.nil,.nil,_,h=>kat_nil (by rw [hf];exact h)
 | _,_,_,_,i,.nil,.cons _ _,e,_=>by cases e
 | _,_,_,_,i,.cons _ _,.nil,e,_=>by cases e
 | _,_,_,_,i,.cons (k:=a) (v:=u) (ks:=k) h1 r1,.cons (k:=b) (v:=v) (ks:=k') h2 r2,e,h=>by
  have e':a.isLeft=b.isLeft/\shp k=shp k':=by
   have e:a.isLeft::shp k=b.isLeft::shp k':=e
   rwa [KW] at e
  refine kat_cons ([39].eqBool h1 h2 (kat_go (fun z=>kat_yes (zeJ hf r1 r2 e'.2 ?_)) (fun z=>kat_no ?_)))
  ·have:=of_decide_eq_true z
   subst this
   have q:decide (enc (a::k)<enc (a::k'))=decide (enc k<enc k'):=by
    rw [decide_eq_decide];exact zgW _ _ _
   rw [← q];exact h
  ·have ne:=of_decide_eq_false z
   rcases zU h1 with ⟨n,t,rfl,rfl⟩ | ⟨x,t,rfl,rfl⟩
   ·rcases zU h2 with ⟨m,t',rfl,rfl⟩ | ⟨y,t',rfl,rfl⟩
    ·have q:decide (enc (.inl n::k)<enc (.inl m::k'))=decide (n<m):=by
      rw [decide_eq_decide]
      show n::enc k<m::enc k' ↔ _
      rw [KR]
      exact ⟨fun z=>z.elim id fun z=>absurd (by rw [z.1]) ne,.inl⟩
     rw [q] at h
     cases i with
     | zero=>exact oneLt_int h
     | succ i=>exact kat_one _ _ (lt_int h)
    ·cases e'.1
   ·rcases zU h2 with ⟨m,t',rfl,rfl⟩ | ⟨y,t',rfl,rfl⟩
    ·cases e'.1
    ·have q:decide (enc (.inr x::k)<enc (.inr y::k'))=decide (x.cps.toList<y.cps.toList):=by
      rw [decide_eq_decide]
      exact zbe _ _ _ _ (zig fun z=>ne (by rw [z]))
     rw [q] at h
     cases i with
     | zero=>exact oneLt_str h
     | succ i=>exact kat_one _ _ (lt_str h)
theorem ItemsM.len{k:List Key}{vs:List Value}(h:PySem.ItemsAre [39] k vs):vs.length=k.length:=by
 induction h with
 | nil=>rfl
 | cons _ _ ih=>rw [JD,JD,ih]
theorem zjH{l b:Addr}{k k':List Key}(h1:IsTupleKey [39] s.heap k l)(h2:IsTupleKey [39] s.heap k' b)(e:shp k=shp k')(h:Q (decide (enc k<enc k')) s):wpAny [11] A (keyLt' (tuples' true) (.ref l) (.ref b)) Q E s:=by
 obtain ⟨o,its,n,g1,_,g3,g4⟩:=h1
 obtain ⟨o',its',n',g1',_,g3',g4'⟩:=h2
 refine kat_lt g1 g3 g1' g3' (zeJ ?_ g4 g4' e h)
 have l1:=ItemsM.len g4
 have l2:=ItemsM.len g4'
 have l3:k.length=k'.length:=by have:=congrArg List.length e;simpa [shp] using this
 rw [Jk] at l1 l2
 exact decide_eq_false [8]
open Classical in
noncomputable def rdK(prog:Program)(w:World)(h:Heap)(v:Value):List Key:=if H:∃ k l,v=.ref l/\IsTupleKey [39] h k l then H.choose else []
theorem zbi{h:Heap}{k:List Key}{l:Addr}(hk:IsTupleKey [39] h k l):rdK prog w h (.ref l)=k:=by
 have H:∃ k l',Value.ref l=.ref l'/\IsTupleKey [39] h k l':=⟨k,l,rfl,hk⟩
 unfold rdK
 rw [dif_pos H]
 obtain ⟨l',e,hk'⟩:=H.choose_spec
 cases e
 obtain ⟨o,its,n,g1,_,g3,g4⟩:=hk
 obtain ⟨o',its',n',g1',_,g3',g4'⟩:=hk'
 rw [g1] at g1';cases g1'
 rw [g3] at g3';cases g3'
 exact PySem.ItemsAre.inj g4' g4
structure TupsX (prog:Program) (w:World) (h:Heap) (a:Addr) (vs:List Value) (ks:List (List Key)):Prop where
 len:vs.length=ks.length
 at':∀ i,i<vs.length->∃ l,vs.getD i Value.none=.ref l/\l≠a/\IsTupleKey [39] h (ks.getD i []) l
 alike:∀ i j,i<ks.length->j<ks.length->shp (ks.getD i [])=shp (ks.getD j [])
 ne:∀ i,i<ks.length->ks.getD i []≠[]
theorem TupsX.other{h h':Heap}{a:Addr}{vs:List Value}{ks:List (List Key)}(x:TupsX prog w h a vs ks)(k:∀ l o,l≠a->h.get? l=some o->h'.get? l=some o):TupsX prog w h' a vs ks:=
 ⟨x.len,fun i hi=>let ⟨l,e1,e2,e3⟩:=x.at' i hi;⟨l,e1,e2,uR e3 fun o ho=>k l o e2 ho⟩,x.alike,x.ne⟩
theorem kH{h:Heap}:∀ {vs:List Value} {ks:List (List Key)},vs.length=ks.length->(∀ i,i<vs.length->∃ l,vs.getD i Value.none=.ref l/\IsTupleKey [39] h (ks.getD i []) l)->(∀ k ∈ ks,k≠[])->∃ fs,KatTups h vs fs/\fs.length=vs.length/\∀ v ∈ fs,∃ k r,k::r ∈ ks/\ui k v=true
 | [],ks,_,_,_=>⟨[],.nil,rfl,fun v hv=>nomatch hv⟩
 | v::vs,[],e,_,_=>nomatch e
 | v::vs,k::ks,e,hh,hn=>by
  obtain ⟨fs,g1,g2,g3⟩:=kH (vs:=vs) (ks:=ks) (Nat.succ.inj e) (fun i hi=>hh (i+1) (Nat.succ_lt_succ hi)) fun k hk=>hn k (Jf _ hk)
  obtain ⟨l,e1,o,its,n,a1,a2,a3,a4⟩:=hh 0 (KM _)
  have e1':v=.ref l:=e1
  subst e1'
  have a4':PySem.ItemsAre [39] k its.toList:=a4
  cases hk:k with
  | nil=>exact absurd hk (hn k Jg)
  | cons x r=>
   rw [hk] at a4'
   generalize hi:its.toList=L at a4'
   cases a4' with
   | cons h1 h2=>
    rename_i u us
    refine ⟨u::fs,.cons a1 a2 a3 (by rw [← Jx,hi];rfl) g1,by rw [JD,JD,g2],fun v hv=>?_⟩
    rcases List.mem_cons.mp hv with rfl | hv
    ·exact ⟨x,r,Jg,h1⟩
    ·obtain ⟨y,r',y1,y2⟩:=g3 v hv
     exact ⟨y,r',Jf _ y1,y2⟩
theorem zhc{α β:Type}(f:α->β):∀ {l' l:List β},l'.Perm l->∀ q:List α,l=q.map f->∃ p:List α,p.Perm q/\l'=p.map f:=by
 intro l' l h
 induction h with
 | nil=>intro q e;exact ⟨[],by rw [List.map_eq_nil_iff.mp e.symm],rfl⟩
 | cons x _ ih=>
  intro q e
  cases q with
  | nil=>cases e
  | cons y q=>
   rw [Jr,KW] at e
   obtain ⟨p,p1,p2⟩:=ih q e.2
   exact ⟨y::p,p1.cons y,by rw [Jr,e.1,p2]⟩
 | swap x y l=>
  intro q e
  cases q with
  | nil=>cases e
  | cons a q=>
   cases q with
   | nil=>cases e
   | cons b q=>
    rw [Jr,Jr,KW,KW] at e
    exact ⟨b::a::q,.swap _ _ _,by rw [Jr,Jr,e.1,e.2.1,e.2.2]⟩
 | trans _ _ ih1 ih2=>
  intro q e
  obtain ⟨p,p1,p2⟩:=ih2 q e
  obtain ⟨p',p3,p4⟩:=ih1 p p2
  exact ⟨p',p3.trans p1,p4⟩
end
section
variable {prog:Program} {w:World} {A:Around} {E:Value->Shared->Prop} {s:Shared}
theorem sort_tups{a:Addr}{vs:List Value}{ks:List (List Key)}{n:Nat}{P:PySem.Fin->Shared->Prop}(ho:s.heap.get? a=some (seqObj "list" vs.toArray n))(hH:TupsX prog w s.heap a vs ks)(h64:vs.length≤1000)
  (h:∀ p:List Nat,p.Perm (List.range vs.length)->(p.map (ks.getD · [])).Pairwise (fun x y=>¬ enc y<enc x)->P (.done (.ret .none)) { s with heap:=sortedHeap s.heap a vs (p.map fun i=>vs.getD i Value.none).toArray }):
  wpAny [11] A (Builtin.«list.sort» ⟨[.ref a],[]⟩) P E s:=by
 have hz:vs.toArray.size≤sizeLine:=by rw [Ju,sizeLine_eq];omega
 obtain ⟨e1,ho1⟩:∃ e1,(s.heap.update a (Obj.mapSeq fun _=>(#[]:Array Value))).get? a=some (seqObj "list" #[] e1):=⟨_,get?_update_seq ho fun _=>#[]⟩
 rw [list_sort_plain]
 refine wpAny_bind (listItems_at ho rfl (wpAny_bind (listUpdate_at ho rfl ?_ hz (Km _))))
 refine wpAny_bind (seqEpoch_at ho1 rfl (wpAny_bind (wpAny_newTuple ?_ (by show vs.length≤_;rw [sizeLine_eq];omega))))
 refine wpAny_bind (wpAny_newList (wpAny_holding ?_) (Km _))
 generalize hh3:((s.heap.update a (Obj.mapSeq fun _=>(#[]:Array Value))).push (seqObj "tuple" vs.toArray 0)).push (seqObj "list" #[] 0)=h3
 have hsh:∀ out,sortedHeap s.heap a vs out=h3.update a (Obj.mapSeq fun _=>out):=fun out=>by rw [← hh3];rfl
 have ho3:h3.get? a=some (seqObj "list" #[] e1):=by rw [← hh3];exact Jb _ (Jb _ ho1)
 have hH3:TupsX prog w h3 a vs ks:=hH.other fun l o hl e=>by
  rw [← hh3]
  exact Jb _ (Jb _ ((Heap.get?_update_ne _ _ _ _ hl).trans e))
 show wpAny [11] A _ P E { s with heap:=h3 }
 dsimp only
 let f:Nat->Keyed:=fun i=>(vs.getD i Value.none,vs.getD i Value.none)
 have eT:(vs.toArray.zip vs.toArray).toList=(List.range vs.length).map f:=by
  rw [Array.toList_zip]
  apply List.ext_getElem
  ·simp
  ·intro i h1 h2
   have hi:i<vs.length:=by simpa using h1
   simp [f,hi]
 have fin:∀ (st:SortSt) (p:List Nat),p.Perm (List.range vs.length)->(p.map (ks.getD · [])).Pairwise (fun x y=>¬ enc y<enc x)->[47].toList=p.map f->failedOf st=none->
   wpAny [11] A (do
    let sorted:=[47].map (·.2)
    let touched:=(← seqEpoch a) != e1
    Builtin.List.listUpdate [67] fun _=>sorted
    if let some e:=failedOf st then rule "list.sort.comparison-raised";throw e
    if touched then rule "list.sort.modified";raiseError "ValueError" "list modified during sort"
    ret .none) P E { s with heap:=h3 }:=by
  intro st p hp hs' hout hf
  have hout:[47].map (·.2)=(p.map fun i=>vs.getD i Value.none).toArray:=by
   apply Array.toList_inj.mp
   rw [Array.toList_map,hout,KA];rfl
  dsimp only
  rw [hout]
  refine wpAny_bind (seqEpoch_at ho3 rfl (wpAny_bind (listUpdate_at ho3 rfl ?_ (Km _) ?_)))
  ·rw [hf]
   simp only [bne_self_eq_false,Bool.false_eq_true,if_false]
   refine wpAny_pure ?_
   have:=h p hp hs'
   rw [hsh] at this
   exact this
  ·rw [Ju,Jj,hp.length_eq,JL,sizeLine_eq];omega
 by_cases h2:vs.toArray.size<2
 ·rw [if_pos h2,if_pos h2]
  refine wpAny_bind (wpAny_pure (wpAny_bind [19]))
  rw [Ju] at h2
  refine fin _ (List.range vs.length) (List.Perm.refl _) ?_ eT rfl
  match hv:vs.length,h2 with
  | 0,_=>exact .nil
  | 1,_=>exact .cons [12] .nil
 ·rw [if_neg h2,if_neg h2]
  have h2':2≤vs.length:=by rw [Ju] at h2;omega
  have hkl:=hH3.len
  obtain ⟨fs,k1,k2,k3⟩:=kH (prog:=prog) (w:=w) (h:=h3) hkl (fun i hi=>let ⟨l,a1,_,a3⟩:=hH3.at' i hi;⟨l,a1,a3⟩) (fun k hk=>by
   obtain ⟨i,hi,rfl⟩:=JZ hk
   have:=hH3.ne i hi
   simpa [List.getD,hi] using this)
  have sh:∀ k ∈ ks,shp k=shp (ks.getD 0 []):=fun k hk=>by
   obtain ⟨i,hi,rfl⟩:=JZ hk
   have:=hH3.alike i 0 hi [8]
   simpa [List.getD,hi] using this
  obtain ⟨T,hT1,hT2,hT3⟩:∃ T:Value,(∀ v ∈ fs,Looks [11] h3 (typeOf v) T)/\(T == T)=true/\(T != Value.type "tuple")=true:=by
   cases hk0:(shp (ks.getD 0 [])) with
   | nil=>exact absurd (List.map_eq_nil_iff.mp hk0) (hH3.ne 0 [8])
   | cons b r=>
    have key:∀ v ∈ fs,∃ k,ui k v=true/\k.isLeft=b:=fun v hv=>by
     obtain ⟨k,r',m1,m2⟩:=k3 v hv
     have:=sh _ m1
     rw [hk0] at this
     have:k.isLeft::shp r'=b::r:=this
     rw [KW] at this
     exact ⟨k,m2,this.1⟩
    cases b with
    | true=>
     refine ⟨.type "int",fun v hv=>?_,rfl,rfl⟩
     obtain ⟨k,m1,m2⟩:=key v hv
     rcases zU m1 with ⟨i,t,rfl,rfl⟩ | ⟨x,t,rfl,rfl⟩
     ·exact .now
     ·cases m2
    | false=>
     refine ⟨.type "str",fun v hv=>?_,rfl,rfl⟩
     obtain ⟨k,m1,m2⟩:=key v hv
     rcases zU m1 with ⟨i,t,rfl,rfl⟩ | ⟨x,t,rfl,rfl⟩
     ·cases m2
     ·exact .now
  refine wpAny_bind (kat_kind k1 [8] hT1 hT2 ?_)
  rw [hT3]
  have hA:TS.Asks (O:=zmF) prog w A { s with heap:=h3 } (tuples' true) ((List.range vs.length).map f) (fun x=>enc (rdK prog w h3 x.1)):=fun x y Q hx hy hq=>by
   obtain ⟨i,hi,rfl⟩:=Jv.mp hx
   obtain ⟨j,hj,rfl⟩:=Jv.mp hy
   obtain ⟨l,a1,_,a3⟩:=hH3.at' i (Jt.mp hi)
   obtain ⟨l',b1,_,b3⟩:=hH3.at' j (Jt.mp hj)
   have hq:Q (decide (enc (rdK prog w h3 (vs.getD i Value.none))<enc (rdK prog w h3 (vs.getD j Value.none)))) { s with heap:=h3 }:=hq
   show wpAny _ _ (keyLt' _ (vs.getD i Value.none) (vs.getD j Value.none)) _ _ _
   rw [a1,b1] at hq ⊢
   rw [zbi a3,zbi b3] at hq
   exact zjH a3 b3 (hH3.alike i j (by rw [← hkl];exact Jt.mp hi) (by rw [← hkl];exact Jt.mp hj)) hq
  have run:=TS.wpS_runs (prog:=prog) (w:=w) (A:=A) (E:=E) (s:={ s with heap:=h3 }) (st:=SortSt.mk' (tuples' true) (vs.toArray.zip vs.toArray) #[] 7 none) (Q:=fun _ st'=>[60].toList.Perm ((List.range vs.length).map f)/\TS.Srt (O:=zmF) (fun x=>enc (rdK prog w h3 x.1)) [60].toList/\failedOf st'=none) hA rfl rfl rfl (fun x hx=>by rw [← eT];exact hx) (fun st' q1 q2 q3=>⟨by rw [← eT];exact q1,q2,q3⟩)
  unfold wpS at run
  refine wpAny_bind (wpAny_mono run ?_ fun _ _ e=>e)
  rintro ⟨⟨⟩,st⟩ s' ⟨rfl,c1,c2,c3⟩
  obtain ⟨p,p1,p2⟩:=zhc f c1 _ rfl
  refine fin st p p1 ?_ p2 c3
  rw [p2] at c2
  have c2:=Kw.mp c2
  rw [Kw]
  refine c2.imp_of_mem fun {i j} hi hj z=>?_
  obtain ⟨l,a1,_,a3⟩:=hH3.at' i (Jt.mp (p1.mem_iff.mp hi))
  obtain ⟨l',b1,_,b3⟩:=hH3.at' j (Jt.mp (p1.mem_iff.mp hj))
  have z:decide (enc (rdK prog w h3 (vs.getD j Value.none))<enc (rdK prog w h3 (vs.getD i Value.none)))=false:=z
  rw [a1,b1,zbi a3,zbi b3] at z
  exact of_decide_eq_false z
end
end F
namespace L2
open PySem PySem.Spec PySem.W PyProof.Rows F
section
variable {X:Cx}
noncomputable def TuL(K:PySem.W.Frag)(H:Hp)(xs:List V)(ks:List (List Key)):Prop:=xs.length=ks.length/\∀ i,i<xs.length->∃ a,xs.getD i .non=.ref a/\SqT K H a ((ks.getD i []).map kV)
theorem zkh{pins:List [17]}{σ:St}{H:Hp}{s:Shared}(I:Inv X pins σ H s){xs:List V}{its:List Value}{ks:List (List Key)}(v1:Vals xs its)(h:TuL X.K H xs ks):∀ i,i<ks.length->∃ l,its.getD i Value.none=.ref l/\xs.getD i .non=.ref l/\PySem.IsTupleKey (zK X.prog X.w) s.heap (ks.getD i []) l:=fun i hi=>by
 obtain ⟨hlk,hpr⟩:=h
 obtain ⟨a,e1,e2⟩:=hpr i [8]
 have r:=zeu v1 i [8]
 rw [e1] at r
 have r':its.getD i Value.none=Value.ref a:=r
 obtain ⟨is,ri,⟨o,ho,hc,n,hd⟩,_⟩:=I.tuple e2
 exact ⟨a,r',e1,o,_,n,ho,hc,hd,jz ri⟩
noncomputable def okM(ks:List (List Key)):Bool:=ks.all fun k=>!k.isEmpty && (shp k == shp (ks.headD []))
theorem jw{ks:List (List Key)}(h:okM ks=true){i:Nat}(hi:i<ks.length):ks.getD i []≠[]/\shp (ks.getD i [])=shp (ks.headD []):=by
 have:=QG.mp h ks[i] (Kf hi)
 rw [JO] at this
 have e:ks.getD i []=ks[i]:=by simp [List.getD,hi]
 rw [e]
 exact ⟨fun z=>by rw [z] at this;simp at this,beq_iff_eq.mp this.2⟩
theorem zee:CallR X (.builtin "sorted") (fun xs H Q=>∃ p,∃ (qs:List V) (ks:List (List Key)),xs=[.ref p]/\SqL X.K H p qs/\TuL X.K H qs ks/\okM ks=true/\qs.length≤1000/\
  ∀ (o:List Nat) l,o.Perm (List.range qs.length)->(o.map (ks.getD · [])).Pairwise (fun x y=>¬ enc y<enc x)->H l=none->Q (.ref l) (upd H l (.lst (o.map fun i=>qs.getD i V.non)))):=by
 intro pins s σ H vs us Q I r q
 obtain ⟨p,qs,ks,e,hq,hx,hok,hlen,q⟩:=q
 subst e
 cases r with
 | cons r rr=>
  cases rr
  cases r
  obtain ⟨its,rv,hl,_⟩:=I.list hq
  have hlen':its.length≤1000:=by rw [← rv.length];exact hlen
  have hil:its.length=ks.length:=by rw [← rv.length];exact hx.1
  have hat:=zkh I rv hx
  refine Calls.call_function_entry kind_sorted plain_sorted entry_sorted (args_sorted1 _) ?_
  unfold Builtin.«sorted»
  refine wpAny_bind (m:=checkCount "sorted" 1 1 _) [19]
  refine wpAny_bind (collect_list hl.isList ?_ (by rw [sizeLine_eq];omega))
  refine wpAny_bind (wpAny_newList ?_ (by rw [sizeLine_eq];omega))
  have hsz:[42].objs.size=s.heap.objs.size+1:=by
   rw [Heap.size_update,size_push']
  have hoL:([42].push (seqObj "list" its.toArray 0)).get? [59]=some (seqObj "list" its.toArray 0):=by
   rw [← hsz];exact Jl _ rfl
  have hH:F.TupsX X.prog X.w ([42].push (seqObj "list" its.toArray 0)) [59] its ks:=by
   refine ⟨hil,fun i hi=>?_,fun i j hi hj=>by rw [(jw hok hi).2,(jw hok hj).2],fun i hi=>(jw hok hi).1⟩
   obtain ⟨l,r',_,hk⟩:=hat i [8]
   obtain ⟨o,its',n,ho,hr⟩:=hk
   have hlt:=Ji ho
   exact ⟨l,r',Jw (KG hlt),o,its',n,Jb _ ((Heap.get?_update_ne _ _ _ _ (Jw hlt)).trans (Jb _ ho)),hr⟩
  show wpAny _ _ _ _ _ { s with heap:=[42].push (seqObj "list" its.toArray 0) }
  rw [hsz]
  refine wpAny_bind (wpAny_holding (wpAny_call_entry PyProof.Rows.slot_list_sort ⟨_,hoL,rfl⟩ PyProof.Rows.entry_list_sort (F.sort_tups hoL hH hlen' fun o a2 a3=>⟨_,rfl,?_⟩) (PyProof.Rows.args_list_sort _)))
  refine wpAny_pure ⟨_,rfl,?_⟩
  obtain ⟨e,he⟩:=sortedAll_at s.heap its (o.map fun i=>its.getD i Value.none).toArray
  have hn:=I.hok.fresh (a:=s.heap.objs.size+1) (Nat.le_succ _)
  rw [← rv.length] at a2
  exact ⟨.ref [59],_,I.laid (o:=.lst (o.map fun i=>qs.getD i V.non)) (t':=s.toks) (fun _ _=>sortedAll_old) (Nat.le_succ _) ⟨by rw [Jj,a2.length_eq,JL,sizeLine_eq];omega,(o.map fun i=>its.getD i Value.none),e,jl rv o (fun i hi=>Jt.mp (a2.mem_iff.mp hi)),he⟩,rfl,q o _ a2 a3 hn⟩
end
end L2
namespace F
open PySem PySem.Spec PyProof.Rows L2
noncomputable def zfM(a:List Key):List (List Key)->List (List Key)
 | []=>[a]
 | b::r=>if enc b<enc a then b::zfM a r else a::b::r
noncomputable def vv(ks:List (List Key)):List (List Key):=ks.foldr zfM []
theorem j5(a:List Key):∀ r:List (List Key),(zfM a r).Perm (a::r)
 | []=>.refl _
 | b::r=>by
  unfold zfM
  split
  ·exact ((j5 a r).cons b).trans (.swap a b r)
  ·exact .refl _
theorem wM:∀ ks:List (List Key),(vv ks).Perm ks
 | []=>.refl _
 | k::ks=>(j5 k (vv ks)).trans ((wM ks).cons k)
theorem kN(a:List Key):∀ r:List (List Key),r.Pairwise (fun x y=>¬ enc y<enc x)->(zfM a r).Pairwise fun x y=>¬ enc y<enc x
 | [],_=>List.pairwise_singleton _ _
 | b::r,h=>by
  unfold zfM
  split
  ·rename_i hb
   refine KB.mpr ⟨fun y hy=>?_,kN a r (KB.mp h).2⟩
   rcases List.mem_cons.mp ((j5 a r).mem_iff.mp hy) with rfl | hy
   ·exact fun z=>List.lt_irrefl _ (List.lt_trans hb z)
   ·exact (KB.mp h).1 y hy
  ·rename_i hb
   refine KB.mpr ⟨fun y hy=>?_,h⟩
   rcases List.mem_cons.mp hy with rfl | hy
   ·exact hb
   ·exact fun z=>hb (List.lt_of_le_of_lt (Qx.mp ((KB.mp h).1 y hy)) z)
theorem vQ:∀ ks:List (List Key),(vv ks).Pairwise fun x y=>¬ enc y<enc x
 | []=>.nil
 | k::ks=>kN k _ (vQ ks)
theorem zcj{xs ks:List (List Key)}{b:List Bool}(hs:∀ k ∈ ks,shp k=b)(p:xs.Perm ks)(h:xs.Pairwise fun x y=>¬ enc y<enc x):vv ks=xs:=
 List.Perm.eq_of_pairwise (le:=fun x y=>¬ enc y<enc x) (fun x y hx hy h1 h2=>zbH ((hs x ((wM ks).mem_iff.mp hx)).trans (hs y (p.mem_iff.mp hy)).symm) (List.le_antisymm (Qx.mp h1) (Qx.mp h2))) (vQ ks) h ((wM ks).trans p.symm)
noncomputable def zeI:Key->PV
 | .inl i=>.int i
 | .inr x=>.str x
noncomputable def tPV(k:List Key):PV:=.tup (k.map zeI)
noncomputable def tkI:List PV->Option (List Key)
 | []=>some []
 | p::ps=>(xx p).bind fun k=>(tkI ps).map (k::·)
noncomputable def zdq:List PV->Option (List (List Key))
 | []=>some []
 | p::ps=>match p with
  | .tup qs=>(tkI qs).bind fun k=>(zdq ps).map (k::·)
  | _=>none
theorem zgx:∀ {ps:List PV} {k:List Key},tkI ps=some k->ps=k.map zeI
 | [],k,e=>by cases e;rfl
 | p::ps,k,e=>by
  unfold tkI at e
  replace e:=Ja.mp e;obtain ⟨x,hx,e⟩:=e
  obtain ⟨r,hr,rfl⟩:=JM.mp e
  rw [Jr,← zgx hr]
  cases p<;>cases hx<;>rfl
theorem zbd:∀ {qs:List PV} {ks:List (List Key)},zdq qs=some ks->qs=ks.map tPV
 | [],ks,e=>by cases e;rfl
 | q::qs,ks,e=>by
  unfold zdq at e
  split at e
  case h_2=>cases e
  replace e:=Ja.mp e;obtain ⟨x,hx,e⟩:=e
  obtain ⟨r,hr,rfl⟩:=JM.mp e
  rw [Jr,← zbd hr,tPV,← zgx hx]
theorem zev:∀ k:List Key,tkI (k.map zeI)=some k
 | []=>rfl
 | k::r=>by
  rw [Jr]
  unfold tkI
  rw [zev r]
  cases k<;>rfl
theorem qC:∀ ks:List (List Key),zdq (ks.map tPV)=some ks
 | []=>rfl
 | k::r=>by
  rw [Jr]
  unfold zdq
  rw [qC r]
  dsimp only [tPV]
  rw [zev];rfl
theorem zhB{K:PySem.W.Frag}{H:Hp}:∀ {k:List Key} {xs:List V} {B:List Addr},Rps K H (k.map zeI) xs B->B=[]/\xs=k.map kV
 | [],xs,B,r=>by
  obtain ⟨rfl,rfl⟩:=r.inv0
  exact ⟨rfl,rfl⟩
 | k::ks,xs,B,r=>by
  obtain ⟨v,xs',A1,A2,rfl,rfl,r1,r2⟩:=r.inv
  obtain ⟨rfl,rfl⟩:=zhB r2
  cases k with
  | inl i=>obtain ⟨rfl,rfl⟩:=r1.I;exact ⟨rfl,rfl⟩
  | inr x=>obtain ⟨rfl,rfl⟩:=r1.S;exact ⟨rfl,rfl⟩
theorem zbc{K:PySem.W.Frag}{H:Hp}:∀ {ks:List (List Key)} {xs:List V} {B:List Addr},Rps K H (ks.map tPV) xs B->B=[]/\TuL K H xs ks
 | [],xs,B,r=>by
  obtain ⟨rfl,rfl⟩:=r.inv0
  exact ⟨rfl,rfl,fun i hi=>absurd hi (Qg _)⟩
 | k::ks,xs,B,r=>by
  obtain ⟨v,xs',A1,A2,rfl,rfl,r1,r2⟩:=r.inv
  obtain ⟨ad,ys,rfl,hT,r3⟩:=Rp.T r1
  obtain ⟨rfl,rfl⟩:=zhB r3
  obtain ⟨rfl,g1,g2⟩:=zbc r2
  refine ⟨rfl,by rw [JD,JD,g1],fun i hi=>?_⟩
  cases i with
  | zero=>exact ⟨ad,rfl,hT⟩
  | succ i=>exact g2 i (Qw hi)
noncomputable def zbE(f:FA):FE:=fun env=>(f env).bind fun ps=>match ps with | [.lst qs]=>(zdq qs).bind fun ks=>if okM ks=true/\ks.length≤1000 then some (.lst ((vv ks).map tPV)) else none | _=>none
section
variable {X:Cx} {κ:Nat->Option Nat} {G:Hp} {c:Cat} {e:Expr} {fs:FA} {pos p1:Pos}
theorem zjr{ks:List (List Key)}(h:okM ks=true):∀ k ∈ ks,shp k=shp (ks.headD []):=fun k hk=>by
 have:=QG.mp h k hk
 rw [JO] at this
 exact beq_iff_eq.mp this.2
theorem kJ{ks:List (List Key)}{o:List Nat}(h:okM ks=true)(q1:o.Perm (List.range ks.length))(q2:(o.map (ks.getD · [])).Pairwise fun x y=>¬ enc y<enc x):(o.map fun i=>(ks.map tPV).getD i PV.non)=(vv ks).map tPV:=by
 have e2:vv ks=o.map (ks.getD · []):=by
  refine zcj (zjr h) ?_ q2
  have:=q1.map (ks.getD · [])
  rw [jL] at this
  exact this
 rw [e2,KA]
 refine KZ fun i hi=>?_
 have hi':i<ks.length:=Jt.mp (q1.mem_iff.mp hi)
 simp [List.getD,hi']
theorem zgo(hg:Gl X "sorted")(hm:X.mg "sorted"=none)(ha:VA X κ G c [e] fs)
  (he:starEach [e] X.env=[[41]]:=by rfl):VE X κ G [33] (.Call (.Name "sorted" p1) [e] [] pos) (zbE fs):=(zcu zee hg hm boot_sorted ha.1 (he:=he)).imp fun σ H Q hq=>by
 refine hq.elim fun own env z I hf k=>?_
 unfold zbE at hf
 replace hf:=Ja.mp hf;obtain ⟨ps,hp,hf⟩:=hf
 split at hf
 case h_2=>cases hf
 rename_i qs
 replace hf:=Ja.mp hf;obtain ⟨ks,hk,hf⟩:=hf
 split at hf
 case isFalse=>cases hf
 rename_i hh
 cases hf
 have:=zbd hk
 subst this
 refine (.in I hp fun vs H1 A s1 r1 _=>?_)
 obtain ⟨v,rfl,rv⟩:=yX r1
 obtain ⟨a,xs,B,rfl,g2,_,g4⟩:=rv.L
 obtain ⟨rfl,hQ⟩:=zbc g4
 have hl:=hQ.1
 refine ⟨a,xs,ks,rfl,SqL.of g2,hQ,hh.1,by rw [hl];exact hh.2,fun o l q1 q2 hn=>?_⟩
 rw [hl] at q1
 have hlt:∀ i ∈ o,i<ks.length:=fun i hi=>Jt.mp (q1.mem_iff.mp hi)
 obtain ⟨C,rC,hC⟩:=qH g4 o fun i hi=>by rw [Jj];exact hlt i hi
 have hC0:C=[]:=List.eq_nil_iff_forall_not_mem.mpr fun x hx=>nomatch hC x hx
 subst hC0
 rw [kJ hh.1 q1 q2] at rC
 have hl0:H l=none:=by
  cases hq:H l with
  | none=>rfl
  | some o=>rw [s1 _ _ hq] at hn;cases hn
 have s2:Same H1 (upd H1 l (.lst (o.map fun i=>xs.getD i V.non))):=yF [30] hn
 exact k _ _ [l] [79] (.mkL zV (Rps.same s2 _ rC)) ⟨by simp,by simpa using hl0⟩
end
end F
namespace L2
open PySem PySem.Spec PySem.W PyProof.Rows F
noncomputable def zfm(K:PySem.W.Frag)(ta:TA):TE:=fun σ H Q=>ta σ H fun vs H1=>∃ p,∃ (xs:List V) (ks:List (List Key)),vs=[.ref p]/\SqL K H1 p xs/\TuL K H1 xs ks/\okM ks=true/\ks.Nodup/\2≤ks.length/\ks.length<63/\
 ∀ (o:List Nat) l,o.Perm (List.range ks.length)->(o.map (ks.getD · [])).Pairwise (fun x y=>¬ enc y<enc x)->H1 l=none->Q (.ref l) (upd H1 l (.lst (o.map fun i=>xs.getD i V.non)))
theorem zcs{X:Cx}{e:Expr}{ta:TA}{p1 p2 pos pos2:Pos}(hc:X.calm=true)(hu:X.A.units+64<cLine)(hg:Gl X "sorted")(hm:X.mg "sorted"=none)(hg2:Gl X "set")(hm2:X.mg "set"=none)(ha:PA X [e] ta)
  (he:starEach [.Call (.Name "set" p2) [e] [] pos2] X.env=[(false,eval (.Call (.Name "set" p2) [e] [] pos2) X.env)]:=by rfl)(he2:starEach [e] X.env=[[41]]:=by rfl):
  PE X (.Call (.Name "sorted" p1) [.Call (.Name "set" p2) [e] [] pos2] [] pos) (zfm X.K ta):=by
 intro pins s σ H Q I h
 refine wpAny_Call_Name_kw (vd I hg hm boot_sorted ?_)
 refine PyProof.Rows.callWith_builtin1 ?_ he rfl
 rw [he]
 show wpAny _ _ (spliced ((false,eval (.Call (.Name "set" p2) [e] [] pos2) X.env)::[])) _ _ s
 refine Qa ?_
 refine wpAny_Call_Name_kw (vd I hg2 hm2 zik ?_)
 refine Kr (thn (ha pos2 pins s σ H _ I h) fun us s1 ⟨vs,H1,I1,r1,p,xs,ks,ev,hx,hTu,hok,nd,h2k,hl,q⟩=>?_) he2 rfl
 subst ev
 cases r1 with
 | cons r rr=>
  cases rr
  cases r
  obtain ⟨its,v1,c1,_⟩:=I1.list hx
  have hlk:=hTu.1
  have hlen:its.length=ks.length:=by rw [← v1.length,hlk]
  have hat0:=zkh I1 v1 hTu
  have hat:∀ i,i<ks.length->its.getD i Value.none=.ref (adV xs i)/\PySem.IsTupleKey (zK X.prog X.w) s1.heap (ks.getD i []) (adV xs i):=fun i hi=>by
   obtain ⟨l,a1,a2,a3⟩:=hat0 i hi
   have ea:adV xs i=l:=by unfold adV;rw [a2]
   rw [ea];exact ⟨a1,a3⟩
  have esz:its.toArray.size=ks.length:=by rw [Ju,hlen]
  have T:TupsM X.prog X.w s1.heap its.toArray.size (adV xs) (fun i=>ks.getD i []) []:=⟨fun i hi=>(hat i [8]).2,fun i hi z=>(nomatch z),fun i j hij hj e=>by
   rw [esz] at hj
   have e1:ks.getD i []=ks[i]'(by omega):=by simp [List.getD,show i<ks.length by omega]
   have e2:ks.getD j []=ks[j]:=by simp [List.getD,hj]
   have e:ks.getD i []=ks.getD j []:=e
   rw [e1,e2] at e
   exact Jy.mp (Ka.mp nd) i j [8] hj hij e⟩
  have hits:its=(List.range ks.length).map fun j=>Value.ref (adV xs j):=by
   have:=jL Value.none its
   rw [hlen] at this
   rw [← this]
   exact KZ fun j hj=>(hat j (Jt.mp hj)).1
  refine zgd (I1.ok.hd hc) [8] c1.isList (fun i v hv=>?_) T (by rw [esz];exact hl) fun h' tk hS kk=>?_
  ·have hi:i<its.length:=by
    obtain ⟨z,_⟩:=JG.mp hv
    simpa using z
   have:=(hat i [8]).1
   rw [← this,Kh,← List.getElem?_toArray,hv];rfl
  rw [esz] at hS
  refine Calls.spliced_nil ?_
  obtain ⟨o,es,ep,tb,ho,hex,hd,B⟩:=hS
  have I2:Inv X pins σ H1 { s1 with heap:=h',toks:=tk }:=I1.kept (t':=tk) fun b u q=>kk b u (Heap.lt_size q) q
  have hsz:es.size<63:=by rw [B.size,tlM,Jj,JL];exact hl
  refine Calls.call_function_entry kind_sorted plain_sorted entry_sorted (args_sorted1 _) ?_
  unfold Builtin.«sorted»
  refine wpAny_bind (m:=checkCount "sorted" 1 1 _) [19]
  have h2e:2≤es.size:=by rw [B.size,tlM,Jj,JL];exact h2k
  refine wpAny_bind (zga (A:=X.A.in1) (s:={ s1 with heap:=h',toks:=tk }) (I.ok.hd hc) rfl ⟨o,ho,hex,hd⟩ B.good h2e [8] fun h2 tk2 d2 acc hk hpa=>?_)
  have hpm:acc.toList.Perm ((List.range ks.length).map fun j=>Value.ref (adV xs j)):=hpa.trans B.perm
  obtain ⟨c,hcp,hce⟩:=zhc (fun j=>Value.ref (adV xs j)) hpm _ rfl
  have hcl:c.length=ks.length:=by rw [hcp.length_eq,JL]
  have hal:acc.toList.length=ks.length:=by rw [hce,Jj,hcl]
  have hcj:∀ i,i<ks.length->c.getD i 0<ks.length:=fun i hi=>by
   have:c.getD i 0 ∈ c:=by rw [Kh,Jd [8]];exact Kf _
   exact Jt.mp (hcp.mem_iff.mp this)
  have hgk:∀ i,i<ks.length->(c.map (ks.getD · [])).getD i []=ks.getD (c.getD i 0) []:=fun i hi=>by simp [List.getD,show i<c.length by omega]
  have hga:∀ i,i<ks.length->acc.toList.getD i Value.none=.ref (adV xs (c.getD i 0)):=fun i hi=>by rw [hce];simp [List.getD,show i<c.length by omega]
  refine wpAny_bind (wpAny_newList ?_ (by rw [sizeLine_eq];omega))
  have hoL:(h2.push (seqObj "list" acc.toList.toArray 0)).get? h2.objs.size=some (seqObj "list" acc.toList.toArray 0):=Jl _ rfl
  have hP:TupsX X.prog X.w (h2.push (seqObj "list" acc.toList.toArray 0)) h2.objs.size acc.toList (c.map (ks.getD · [])):=by
   refine ⟨by rw [Jj,hal,hcl],fun i hi=>?_,fun i j hi hj=>?_,fun i hi=>?_⟩
   ·rw [hal] at hi
    have hK:=(hat _ (hcj i hi)).2
    obtain ⟨o,items,m,ho,hr⟩:=hK
    have hlt:=Ji ho
    have h2o:h2.get? (adV xs (c.getD i 0))=some o:=hk _ _ (kk _ _ hlt ho)
    exact ⟨_,hga i hi,Jw (Ji h2o),by rw [hgk i hi];exact ⟨o,items,m,Jb _ h2o,hr⟩⟩
   ·rw [Jj,hcl] at hi hj
    rw [hgk i hi,hgk j hj,(jw hok (hcj i hi)).2,(jw hok (hcj j hj)).2]
   ·rw [Jj,hcl] at hi
    rw [hgk i hi];exact (jw hok (hcj i hi)).1
  refine wpAny_bind (wpAny_holding (wpAny_call_entry PyProof.Rows.slot_list_sort (s:={ s1 with heap:=h2.push (seqObj "list" acc.toList.toArray 0),toks:=tk2,drawn:=d2 }) ⟨_,hoL,rfl⟩ PyProof.Rows.entry_list_sort (sort_tups hoL hP [8] fun p hp hs=>⟨_,rfl,?_⟩) (PyProof.Rows.args_list_sort _)))
  refine wpAny_pure ⟨_,rfl,?_⟩
  rw [hal] at hp
  have hpl:∀ i ∈ p,i<ks.length:=fun i hi=>Jt.mp (hp.mem_iff.mp hi)
  have hqp:(p.map (c.getD · 0)).Perm (List.range ks.length):=by
   refine (hp.map _).trans ?_
   have h:=jL 0 c
   rw [hcl] at h
   rw [h];exact hcp
  have hqs:((p.map (c.getD · 0)).map (ks.getD · [])).Pairwise (fun x y=>¬ enc y<enc x):=by
   rw [KA]
   have:p.map ((ks.getD · []) ∘ (c.getD · 0))=p.map ((c.map (ks.getD · [])).getD · []):=KZ fun i hi=>(hgk i (hpl i hi)).symm
   rw [this];exact hs
  generalize hqq:p.map (c.getD · 0)=o2 at hqp hqs
  have hout:(p.map fun i=>acc.toList.getD i Value.none)=o2.map fun j=>its.getD j Value.none:=by
   rw [← hqq,KA]
   exact KZ fun i hi=>by rw [hga i (hpl i hi)];exact ((hat _ (hcj i (hpl i hi))).1).symm
  rw [hout]
  have ho2:∀ i ∈ o2,i<xs.length:=fun i hi=>by rw [hlk];exact Jt.mp (hqp.mem_iff.mp hi)
  obtain ⟨e',he'⟩:∃ e',(sortedHeap (h2.push (seqObj "list" acc.toList.toArray 0)) h2.objs.size acc.toList (o2.map fun j=>its.getD j Value.none).toArray).get? h2.objs.size=some (seqObj "list" (o2.map fun j=>its.getD j Value.none).toArray e'):=sortedHeap_at hoL
  have I3:Inv X pins σ H1 { s1 with heap:=h2,toks:=tk2,drawn:=d2 }:=(I2.kept (t':=tk2) hk).drew
  have hn:=I3.hok.fresh (a:=h2.objs.size) (Jn _)
  refine ⟨.ref h2.objs.size,_,I3.laid (h':=sortedHeap (h2.push (seqObj "list" acc.toList.toArray 0)) h2.objs.size acc.toList (o2.map fun j=>its.getD j Value.none).toArray) (o:=.lst (o2.map fun i=>xs.getD i V.non)) (t':=tk2) (fun b u hb=>?_) (Nat.le_refl _) ⟨by rw [List.length_map,hqp.length_eq,List.length_range,sizeLine_eq];omega,_,e',jl v1 o2 ho2,by simpa [seqObj] using he'⟩,rfl,q o2 _ hqp hqs hn⟩
  have hlt:=Ji hb
  rw [sortedHeap_old (Jw hlt) (by rw [size_push'];exact KG hlt)]
  exact Jb _ hb
end L2
namespace F
open PySem PySem.Spec PyProof.Rows L2
noncomputable def wH(f:FA):FE:=fun env=>(f env).bind fun ps=>match ps with | [.lst qs]=>(zdq qs).bind fun ks=>if okM ks=true/\ks.Nodup/\2≤ks.length/\ks.length<63 then some (.lst ((vv ks).map tPV)) else none | _=>none
theorem zca{X:Cx}{κ:Nat->Option Nat}{G:Hp}{c:Cat}{e:Expr}{fs:FA}{p1 p2 pos pos2:Pos}(hc:X.calm=true)(hu:X.A.units+64<cLine)(hg:Gl X "sorted")(hm:X.mg "sorted"=none)(hg2:Gl X "set")(hm2:X.mg "set"=none)(ha:VA X κ G c [e] fs)
  (he:starEach [.Call (.Name "set" p2) [e] [] pos2] X.env=[(false,eval (.Call (.Name "set" p2) [e] [] pos2) X.env)]:=by rfl)(he2:starEach [e] X.env=[[41]]:=by rfl):
  VE X κ G [33] (.Call (.Name "sorted" p1) [.Call (.Name "set" p2) [e] [] pos2] [] pos) (wH fs):=(zcs hc hu hg hm hg2 hm2 ha.1 he he2).imp fun σ H Q hq=>by
 refine hq.elim fun own env z I hf k=>?_
 unfold wH at hf
 replace hf:=Ja.mp hf;obtain ⟨ps,hp,hf⟩:=hf
 split at hf
 case h_2=>cases hf
 rename_i qs
 replace hf:=Ja.mp hf;obtain ⟨ks,hk,hf⟩:=hf
 split at hf
 case isFalse=>cases hf
 rename_i hh
 cases hf
 have:=zbd hk
 subst this
 refine (.in I hp fun vs H1 A s1 r1 _=>?_)
 obtain ⟨v,rfl,rv⟩:=yX r1
 obtain ⟨a,xs,B,rfl,g2,_,g4⟩:=rv.L
 obtain ⟨rfl,hQ⟩:=zbc g4
 refine ⟨a,xs,ks,rfl,SqL.of g2,hQ,hh.1,hh.2.1,hh.2.2.1,hh.2.2.2,fun o l q1 q2 hn=>?_⟩
 have hlt:∀ i ∈ o,i<ks.length:=fun i hi=>Jt.mp (q1.mem_iff.mp hi)
 obtain ⟨C,rC,hC⟩:=qH g4 o fun i hi=>by rw [Jj];exact hlt i hi
 have hC0:C=[]:=List.eq_nil_iff_forall_not_mem.mpr fun x hx=>nomatch hC x hx
 subst hC0
 rw [kJ hh.1 q1 q2] at rC
 have hl0:H l=none:=by
  cases hq:H l with
  | none=>rfl
  | some o=>rw [s1 _ _ hq] at hn;cases hn
 have s2:Same H1 (upd H1 l (.lst (o.map fun i=>xs.getD i V.non))):=yF [30] hn
 exact k _ _ [l] [79] (.mkL zV (Rps.same s2 _ rC)) ⟨by simp,by simpa using hl0⟩
end F
namespace F
open PySem L2
section
variable {env:En} {f fa fb fc:FE} {t u:FT} {fs:FA} {g h:FS} {p q:PV}
@[simp] theorem zaf(i:Nat):zA i env=(env[i]?).join:=rfl
@[simp] theorem zoA(p:PV):fC p env=some p:=rfl
@[simp] theorem yc(k:PV->PV->Option PV):fOp k fa fb env=(fa env).bind fun x=>(fb env).bind fun y=>k x y:=rfl
@[simp] theorem zow(k:PV->Option PV):fUn k fa env=(fa env).bind k:=rfl
@[simp] theorem zbS:z7 f env=(f env).bind fun p=>if zj p=true then some p else none:=rfl
@[simp] theorem jg:fT f env=(f env).bind yC:=rfl
@[simp] theorem zoh:zhW t u env=(t env).bind fun b=>if b=true then u env else some false:=rfl
@[simp] theorem zah:fOr t u env=(t env).bind fun b=>if b=true then some true else u env:=rfl
@[simp] theorem zej:j9 t env=(t env).map fun b=>!b:=rfl
@[simp] theorem zng:fIf t fa fb env=(t env).bind fun c=>if c=true then fa env else fb env:=rfl
@[simp] theorem zbR:zJ env=some []:=rfl
@[simp] theorem zg:zC f fs env=(f env).bind fun p=>(fs env).map fun ps=>p::ps:=rfl
@[simp] theorem zbQ:vH fs env=(fs env).map .tup:=rfl
@[simp] theorem zof:xU fs env=(fs env).map .lst:=rfl
@[simp] theorem zfa(Φ:List PV->Option PV):zI Φ fs env=(fs env).bind Φ:=rfl
@[simp] theorem znh(k k':PV->PV->Option PV):kC k k' fa fb fc env=(fa env).bind fun x=>(fb env).bind fun y=>(k x y).bind fun z=>(yC z).bind fun b=>if b=true then (fc env).bind fun w=>k' y w else some (.bl false):=rfl
@[simp] theorem znx:zmT fa fb env=(fa env).bind fun x=>(yC x).bind fun k=>if k=true then fb env else some (.bl false):=rfl
@[simp] theorem zoe:znY fa fb env=(fa env).bind fun x=>(yC x).bind fun k=>if k=true then some (.bl true) else fb env:=rfl
@[simp] theorem znv:zmR fa env=(fa env).bind fun x=>(yC x).map fun k=>.bl (!k):=rfl
@[simp] theorem znf:fNx env=some (.nx env):=rfl
@[simp] theorem zoy:fBk env=some (.bk env):=rfl
@[simp] theorem zox:fCt env=some (.ct env):=rfl
@[simp] theorem vq:yQ f env=(f env).map fun p=>.rt p env:=rfl
@[simp] theorem znu:zmQ env=some (.rt .non env):=rfl
@[simp] theorem yP:xM t g h env=(t env).bind fun b=>if b=true then g env else h env:=rfl
@[simp] theorem zei(i:Nat):yA i f env=(f env).map fun p=>.nx (env.set i (some p)):=rfl
@[simp] theorem zog(b:PV->En->Option En):zjU b f env=(f env).bind fun p=>(b p env).map .nx:=rfl
@[simp] theorem wF(b:PV->En->Option En):xy fs b g env=(fs env).bind fun ps=>ub b g ps env:=rfl
@[simp] theorem zag:zq f env=(f env).bind xk:=rfl
@[simp] theorem znt:zmP f env=(f env).bind fun p=>(xk p).bind fun ps=>if isDatas ps=true then some ps else none:=rfl
@[simp] theorem zir(i:Nat):zN i p env=some (env.set i (some p)):=rfl
@[simp] theorem zod:v6 env=some true:=rfl
@[simp] theorem ziq:kA env=some (.dct [] []):=rfl
@[simp] theorem zlV:jZ env=some none:=rfl
@[simp] theorem zio(n:Nat)(js:List Nat)(b:PV->En->Option En):fLC fs n js b t f env=(fs env).bind fun ps=>if ps.length≤100000 then (yI b t f ps (cE n js env)).map .lst else none:=rfl
theorem zL{e:En}(hg:g env=some (.nx e)):ze g h env=h e:=by unfold ze;rw [hg];rfl
theorem zbF{e:En}(hg:g env=some (.rt p e)):ze g h env=some (.rt p e):=by unfold ze;rw [hg];rfl
@[simp] theorem zjS:ze g h env=(g env).bind fun o=>match o with | .nx e=>h e | o=>some o:=rfl
end
section
variable {i j:Int} {xs ys:List Int} {ps qs:List PV}
@[simp] theorem zdb:zj [87]=true:=rfl
@[simp] theorem zjZ{b:Bool}:zj (.bl b)=true:=rfl
@[simp] theorem zmX{x:Str}:zj (.str x)=true:=rfl
@[simp] theorem zmY:zj .non=true:=rfl
@[simp] theorem zda:zj (.tup ps)=isDatas ps:=by simp [zj]
@[simp] theorem zlT:isDatas []=true:=rfl
@[simp] theorem zlL{p:PV}:isDatas (p::ps)=(zj p && isDatas ps):=by simp [isDatas]
@[simp] theorem u9:isDatas [64]=true:=zbz xs
@[simp] theorem zlU:isDatas (ps++qs)=(isDatas ps && isDatas qs):=xC ps qs
@[simp] theorem zov{b:Bool}:yC (.bl b)=some b:=rfl
@[simp] theorem zoi:xR [87] (.int j)=some (.int (i+j)):=rfl
@[simp] theorem znJ:kS [87] (.int j)=some (.int (i - j)):=rfl
@[simp] theorem zon:vLt [87] (.int j)=some (.bl (decide (i<j))):=rfl
@[simp] theorem zoo:vLe [87] (.int j)=some (.bl (decide (i≤j))):=rfl
@[simp] theorem zoq:vGt [87] (.int j)=some (.bl (decide (j<i))):=rfl
@[simp] theorem zor:vGe [87] (.int j)=some (.bl (decide (j≤i))):=rfl
@[simp] theorem zom:zgs [87]=some (.int (-i)):=rfl
theorem qY(h:IntMulOk i j):xG [87] (.int j)=some (.int (i * j)):=by simp [xG,h]
theorem zjy(h : -(2 ^ 64)<i/\i<2 ^ 64):IntMulOk i j:=.of_left (intBits_le_64 h.1 h.2)
theorem zjx(h : -(2 ^ 64)<j/\j<2 ^ 64):IntMulOk i j:=.of_right (intBits_le_64 h.1 h.2)
theorem vw(h : -(2 ^ 64)<i/\i<2 ^ 64):xG [87] (.int j)=some (.int (i * j)):=qY (zjy h)
theorem zmC(h : -(2 ^ 64)<j/\j<2 ^ 64):xG [87] (.int j)=some (.int (i * j)):=qY (zjx h)
theorem uU(h:0<j/\j<1073741824):xA [87] (.int j)=some (.int (i / j)):=by simp [xA,h]
theorem yY(h:0<j):xL [87] (.int j)=some (.int (i % j)):=by simp [xL,h]
@[simp] theorem znn:xk (.lst ps)=some ps:=rfl
@[simp] theorem zno:xk (.fls ps)=some ps:=rfl
@[simp] theorem znm:xk (.tup ps)=some ps:=rfl
@[simp] theorem zgH:zex (.lst ps)=some ps:=rfl
@[simp] theorem zmd:zex (.tup ps)=some ps:=rfl
@[simp] theorem zjD:xr [.lst ps]=some (.int ps.length):=rfl
@[simp] theorem znp:xr [.fls ps]=some (.int ps.length):=rfl
@[simp] theorem zjB:xr [.tup ps]=some (.int ps.length):=rfl
@[simp] theorem znq{ks:List Key}:xr [.dct ks ps]=some (.int ks.length):=rfl
@[simp] theorem zlS:jm [.lst ps]=if isDatas ps=true then some (.tup ps) else none:=rfl
@[simp] theorem zmE:zcd [.tup ps]=if isDatas ps=true then some (.lst ps) else none:=rfl
@[simp] theorem zhw:zcd [.lst ps]=if isDatas ps=true then some (.lst ps) else none:=rfl
@[simp] theorem znQ{b:Bool}:zny [.bl b]=some (.int (if b then 1 else 0)):=rfl
@[simp] theorem znO:vIx (.lst ps) [87]=atI ps i:=rfl
@[simp] theorem znP:vIx (.fls ps) [87]=atI ps i:=rfl
@[simp] theorem ix_tup:vIx (.tup ps) [87]=atI ps i:=rfl
theorem zbO{α β:Type}(f:α->β)(l:List α)(i:Int):atI (l.map f) i=(atI l i).map f:=by
 unfold atI
 rw [Jj]
 cases ixN l.length i with
 | none=>rfl
 | some j=>simp
theorem xq{α:Type}{l:List α}{i:Int}(h0:0≤i)(h1:i<l.length):atI l i=l[i.toNat]?:=by
 unfold atI ixN
 rw [if_pos h0,if_pos h1];rfl
@[simp] theorem zky{α:Type}{a:α}{l:List α}:atI (a::l) 0=some a:=by
 rw [xq [9] (by simp only [List.length_cons];omega)];rfl
@[simp] theorem zkx{α:Type}{a b:α}{l:List α}:atI (a::b::l) 1=some b:=by
 rw [xq [9] (by simp only [List.length_cons];omega)];rfl
@[simp] theorem zkw{α:Type}{a b c:α}{l:List α}:atI (a::b::c::l) 2=some c:=by
 rw [xq [9] (by simp only [List.length_cons];omega)];rfl
@[simp] theorem znd{α:Type}{a b c d:α}{l:List α}:atI (a::b::c::d::l) 3=some d:=by
 rw [xq [9] (by simp only [List.length_cons];omega)];rfl
theorem jW(n:Int):∀ xs:List Int,inP (.int n) [64]=decide (n ∈ xs)
 | []=>rfl
 | m::r=>by
  have ih:=jW n r
  unfold inP at ih ⊢
  rw [Jr,KC,ih]
  by_cases e:m=n
  ·subst e;simp [eqS]
  ·have e':¬ n=m:=fun z=>e z.symm
   simp [eqS,e,e']
theorem j8(xs:List Int):[64].all wU=true:=by
 rw [List.all_map];exact QG.mpr fun _ _=>rfl
@[simp] theorem zhK:vIn [87] (.lst (xs.map .int))=some (decide (i ∈ xs)):=by simp only [vIn,j8,jW];rfl
@[simp] theorem znR:vIn [87] (.fls (xs.map .int))=some (decide (i ∈ xs)):=by simp only [vIn,j8,jW];rfl
@[simp] theorem zhJ:vIn [87] (.tup (xs.map .int))=some (decide (i ∈ xs)):=by simp only [vIn,j8,jW];rfl
@[simp] theorem znr:vIn [87] (.tup [.int j,.int k])=some (decide (i=j∨i=k)):=by
 have:=zhJ (i:=i) (xs:=[j,k])
 simpa using this
@[simp] theorem inE{p q:PV}:x9 p q=(vIn p q).map .bl:=rfl
@[simp] theorem zlo{p q:PV}:yx p q=(vIn p q).map fun b=>.bl (!b):=rfl
@[simp] theorem znZ:eqP [87] (.int j)=decide (i=j):=by
 unfold eqP xH PyData.eqv
 simp [Bool.beq_eq_decide_eq]
@[simp] theorem zoa:u7 [87]=true:=by simp [u7,v5,xH,PyData.canLay0,PyData.depth]
@[simp] theorem zhY:vEq [87] (.int j)=some (.bl (decide (i=j))):=by simp [vEq]
@[simp] theorem zkr:vNe [87] (.int j)=some (.bl (!decide (i=j))):=by simp [vNe]
end
section
variable {b:PV->En->Option En} {g:FS} {t:FT} {f:FE}
theorem zjQ{ps:List PV}{env:En}(P:List PV->En->Prop)(h0:P [] env)
  (step:∀ pre p post e,ps=pre++p::post->P pre e->∃ e1 e2,b p e=some e1/\(g e1=some (.nx e2)∨g e1=some (.ct e2))/\P (pre++[p]) e2):∃ e,ub b g ps env=some (.nx e)/\P ps e:=by
 have go:∀ (post pre:List PV) (e:En),ps=pre++post->P pre e->∃ e',ub b g post e=some (.nx e')/\P ps e':=by
  intro post
  induction post with
  | nil=>intro pre e hp h;exact ⟨e,rfl,by rw [hp,Kk];exact h⟩
  | cons p post ih=>
   intro pre e hp h
   obtain ⟨e1,e2,h1,h2,h3⟩:=step pre p post e hp h
   obtain ⟨e',h4,h5⟩:=ih (pre++[p]) e2 (by rw [hp,JC];rfl) h3
   refine ⟨e',?_,h5⟩
   unfold ub
   rw [h1,Jc]
   rcases h2 with h2 | h2<;>(rw [h2,Option.bind_some];exact h4)
 exact go ps [] env rfl h0
theorem zdj(P:En->Prop)(μ:En->Nat)(step:∀ e,P e->t e=some false∨(t e=some true/\∃ e',(g e=some (.nx e')∨g e=some (.ct e'))/\P e'/\μ e'<μ e)):
  ∀ (n:Nat) (env:En),P env->μ env<n->∃ e,fWh t g n env=some (.nx e)/\P e/\t e=some false
 | 0,_,_,h=>absurd h (Qg _)
 | n+1,env,hp,hm=>by
  unfold fWh
  rcases step env hp with h | ⟨h,e',h2,h3,h4⟩
  ·refine ⟨env,?_,hp,h⟩
   rw [h];rfl
  ·obtain ⟨e,h5,h6,h7⟩:=zdj P μ step n e' h3 [8]
   refine ⟨e,?_,h6,h7⟩
   rw [h,Jc,if_pos rfl]
   rcases h2 with h2 | h2<;>(rw [h2,Option.bind_some];exact h5)
theorem zeU{env:En}(T:PV->Bool)(W:PV->PV):∀ (ps:List PV),(∀ p ∈ ps,∃ e,b p env=some e/\t e=some (T p)/\(T p=true->f e=some (W p)))->yI b t f ps env=some ((ps.filter T).map W)
 | [],_=>rfl
 | p::ps,h=>by
  obtain ⟨e,h1,h2,h3⟩:=h p Jg
  have ih:=zeU T W ps fun q hq=>h q (Jf _ hq)
  unfold yI
  rw [h1,Jc,h2,Jc,ih]
  cases hT:T p with
  | true=>rw [if_pos rfl,h3 hT,Jc,Qo,if_pos hT];rfl
  | false=>rw [if_neg Je,Qo,if_neg (by rw [hT];exact Je)]
theorem xV{env:En}(T:Int->Bool)(W:Int->PV)(xs:List Int)(h:∀ n ∈ xs,∃ e,b (.int n) env=some e/\t e=some (T n)/\(T n=true->f e=some (W n))):yI b t f [64] env=some ((xs.filter T).map W):=by
 have:=zeU (env:=env) (b:=b) (t:=t) (f:=f) (fun p=>match p with | .int n=>T n | _=>false) (fun p=>match p with | .int n=>W n | p=>p) [64] (by
  intro p hp
  obtain ⟨n,hn,rfl⟩:=Jv.mp hp
  exact h n hn)
 rw [this,List.filter_map,KA]
 rfl
theorem zgI(lo:Int)(n:Nat):uZ lo n=((List.range n).map fun (i:Nat)=>lo+(i:Int)).map PV.int:=by
 unfold uZ;rw [List.map_map];rfl
theorem zgJ(n:Nat):uZ 0 n=((List.range n).map fun (i:Nat)=>(i:Int)).map PV.int:=by
 rw [zgI];simp
end
theorem wT{t:FT}(i v:Nat)(mk:List Int->Option PV->En)(T:Int->Bool)
  (h1:∀ acc x y,(mk acc x).set v (some y)=mk acc (some y))(h2:∀ acc acc' x,(mk acc x).set i (some (.lst (acc'.map PV.int)))=mk acc' x)
  (h3:∀ acc x,(mk acc x)[i]?=some (some (.lst (acc.map PV.int))))(h4:∀ acc x,(mk acc x)[v]?=some x):
  ∀ (xs acc:List Int) (x:Option PV),(∀ n ∈ xs,∀ acc,t (mk acc (some (.int n)))=some (T n))->acc.length+xs.length≤1000->
   ∃ x',ub (zN v) (xM t (zw i (z7 (zA v))) fNx) [64] (mk acc x)=some (.nx (mk (acc++xs.filter T) x'))
 | [],acc,x,_,_=>⟨x,by simp [ub]⟩
 | n::xs,acc,x,ht,hl=>by
  simp only [List.length_cons] at hl
  have hn:=ht n Jg acc
  have hL:acc.length<100000:=by omega
  rw [Jr]
  unfold ub
  rw [zir,Jc,h1,yP,hn,Jc]
  cases hT:T n with
  | true=>
   obtain ⟨x',e⟩:=wT i v mk T h1 h2 h3 h4 xs (acc++[n]) (some (.int n)) (fun m hm=>ht m (List.mem_cons_of_mem _ hm)) (by simp only [List.length_append,List.length_singleton];omega)
   refine ⟨x',?_⟩
   have ha:zw i (z7 (zA v)) (mk acc (some (.int n)))=some (.nx (mk (acc++[n]) (some (.int n)))):=by
    have:(acc.map PV.int++[PV.int n])=(acc++[n]).map PV.int:=by simp
    have hd:z7 (zA v) (mk acc (some (.int n)))=some (.int n):=by simp [h4]
    have hv:zA i (mk acc (some (.int n)))=some (.lst (acc.map PV.int)):=by simp [h3]
    unfold zw
    rw [hv,Jc,hd,Jc]
    dsimp only
    rw [if_pos (by rw [Jj];exact hL),this,h2]
   rw [if_pos rfl,ha,Jc]
   dsimp only
   rw [e,Qo,if_pos hT,JC]
   rfl
  | false=>
   obtain ⟨x',e⟩:=wT i v mk T h1 h2 h3 h4 xs acc (some (.int n)) (fun m hm=>ht m (Jf _ hm)) [8]
   refine ⟨x',?_⟩
   rw [if_neg Je,znf,Jc]
   dsimp only
   rw [e,Qo,if_neg (by rw [hT];exact Je)]
noncomputable abbrev kT(L:List Int):PV:=.dct (L.map Sum.inl) (L.map fun _=>.bl true)
theorem vG(L:List Int)(p:Int):jX (L.map Sum.inl) (.inl p)=decide (p ∈ L):=by
 rw [Bool.eq_iff_iff,zhN,decide_eq_true_eq]
 constructor
 ·intro h;obtain ⟨q,hq,e⟩:=List.mem_map.mp h;cases e;exact hq
 ·intro h;exact Jv.mpr ⟨p,h,rfl⟩
@[simp] theorem zlA{L:List Int}{p:Int}:vIn (.int p) (kT L)=some (decide (p ∈ L)):=by simp only [vIn,vG]
theorem zfT(L:List Int):isDatas (L.map fun _=>PV.bl true)=true:=xB _ (fun _=>rfl) L
theorem ziV{L:List Int}{p:Int}(h:p ∉ L)(hl:L.length<100000):qA (kT L) (.int p) (.bl true)=some (kT (L++[p])):=by
 simp only [qA,zfT,zjZ,List.length_map,hl,decide_true,Bool.and_self,if_true]
 unfold xo
 rw [vG,decide_eq_false h,if_neg Je]
 simp [kT]
theorem wL:∀ xs:List Int,toPys [64]=xs.map PyData.int
 | []=>rfl
 | x::r=>by rw [Jr,toPys,wL r];rfl
theorem ux:∀ xs:List Int,okPys [64]=true
 | []=>rfl
 | x::r=>by rw [Jr,okPys,ux r];rfl
theorem uL:∀ xs ys:List Int,PyData.eqvAll (xs.map PyData.int) (ys.map PyData.int)=decide (xs=ys)
 | [],[]=>rfl
 | [],_::_=>rfl
 | _::_,[]=>rfl
 | x::r,y::t=>by
  simp only [List.map_cons,PyData.eqvAll,PyData.eqv,uL r t]
  by_cases h:x=y<;>by_cases h':r=t<;>simp [h,h']
theorem qf:∀ xs:List Int,PyData.canLayAll0 (xs.map PyData.int)=true
 | []=>rfl
 | x::r=>by rw [Jr,PyData.canLayAll0,qf r];rfl
theorem u8:∀ xs:List Int,PyData.depthAll (xs.map PyData.int)≤1
 | []=>by simp [PyData.depthAll]
 | x::r=>by
  have:=u8 r
  rw [Jr,PyData.depthAll,PyData.depth]
  omega
@[simp] theorem zia{xs:List Int}:u7 (.lst [64])=true:=by
 have h1:=u8 xs
 have h2:PyData.depth (.list (xs.map PyData.int))≤64:=by rw [PyData.depth];omega
 simp only [u7,v5,ux,xH,wL,PyData.canLay0,qf,h2,decide_true,Bool.and_self]
@[simp] theorem zmV{xs:List Int}:u7 (.tup [64])=true:=by
 have h1:=u8 xs
 have h2:PyData.depth (.tuple (xs.map PyData.int))≤64:=by rw [PyData.depth];omega
 simp only [u7,v5,ux,xH,wL,PyData.canLay0,qf,h2,decide_true,Bool.and_self]
@[simp] theorem zjX{xs ys:List Int}:eqP (.lst [64]) (.lst (ys.map PV.int))=decide (xs=ys):=by
 simp only [eqP,xH,wL,PyData.eqv,uL]
@[simp] theorem zns{xs ys:List Int}:eqP (.tup [64]) (.tup (ys.map PV.int))=decide (xs=ys):=by
 simp only [eqP,xH,wL,PyData.eqv,uL]
theorem zlH{xs ys:List Int}:vEq (.lst [64]) (.lst (ys.map PV.int))=some (.bl (decide (xs=ys))):=by simp only [vEq,zia,zjX];rfl
theorem zlG{xs:List Int}:vEq (.lst [64]) (.lst [])=some (.bl (decide (xs=[]))):=zlH (ys:=[])
theorem zna(xs:List Int):zbJ [64] none (some 1)=(xs.take 1).map PV.int:=by
 unfold zbJ HT.sIx
 cases xs with
 | nil=>rfl
 | cons x r=>simp
theorem zmi(n:Nat):(List.replicate n [PV.int 1]).flatten=(List.replicate n 1).map PV.int:=by
 induction n with
 | zero=>rfl
 | succ n ih=>rw [Kn,KF,ih];rfl
end F
namespace F
open PySem PySem.Spec PyProof.Rows L2
theorem zay{K:PySem.W.Frag}{H:Hp}:∀ ns:List Int,Rps K H (ns.map PV.int) (ns.map V.int) []
 | []=>.nil
 | n::ns=>by
  have:=Rps.cons (K:=K) (H:=H) (Rp.mkI n) (zay ns)
  exact this
theorem zlr{K:PySem.W.Frag}{Φ:List PV->Option PV}{H:Hp}{a:Addr}{ns:List Int}(ho:zkd H)(hs:SqL K H a (ns.map V.int))(h:Φ [.fls (ns.map PV.int)]=some (.bl true)):spV K 1 Φ [.ref a] H (fun v _=>v=.bl true) (fun _ _ _=>False):=by
 have fz:Fz K H a (ns.map V.int):=by
  rcases hs with (hs | hs) | hs
  ·rcases ho a with z | ⟨o,xs,z⟩
   ·rw [hs] at z;cases z
   ·rw [hs] at z;cases z
  ·exact .inl hs
  ·exact .inr hs
 refine ⟨[.fls (ns.map PV.int)],[],.bl true,Rps.one (by unfold Rp;exact ⟨a,_,rfl,fz,zay ns⟩),rfl,h,fun v H' C _ r _ _=>r.B.1⟩
end F
namespace F
open PySem L2
section
variable {env:En} {f fk:FE} {fs:FA}
@[simp] theorem znw:zmS fs env=(fs env).bind fun ps=>if ps.length≤100000 then some (.lst ps) else none:=rfl
@[simp] theorem zlO:zjR fs env=(fs env).bind fun ps=>match ps with | [p,q]=>(xk p).bind fun xs=>(xk q).bind fun ys=>some ((List.zip xs ys).map fun z=>PV.tup [z.1,z.2]) | _=>none:=rfl
end
noncomputable def dF(L:List Int)(G:Int->PV):PV:=.dct (L.map Sum.inl) (L.map G)
section
variable {L:List Int} {G:Int->PV} {p:Int} {q x:PV}
@[simp] theorem zop:vIn (.int p) (dF L G)=some (decide (p ∈ L)):=by simp only [dF,vIn,vG]
@[simp] theorem znS:vIn .non (dF L G)=some false:=rfl
@[simp] theorem znN:xr [dF L G]=some (.int L.length):=by simp [dF]
theorem zbI(h:p ∈ L):vp (L.map Sum.inl) (L.map G) (.inl p)=some (G p):=by
 unfold vp
 induction L with
 | nil=>cases h
 | cons a r ih=>
  rw [Jr,Jr,Ks,Qe]
  by_cases e:a=p
  ·subst e;simp
  ·have:decide ((((Sum.inl a:Key),G a):Key × PV).1=Sum.inl p)=false:=decide_eq_false fun z=>e (Sum.inl.inj z)
   rw [this]
   exact ih ((List.mem_cons.mp h).resolve_left fun z=>e z.symm)
theorem zaP(h:p ∉ L):vp (L.map Sum.inl) (L.map G) (.inl p)=none:=by
 unfold vp
 induction L with
 | nil=>rfl
 | cons a r ih=>
  rw [Jr,Jr,Ks,Qe]
  have e:¬ a=p:=fun z=>h (z ▸ Jg)
  have:decide ((((Sum.inl a:Key),G a):Key × PV).1=Sum.inl p)=false:=decide_eq_false fun z=>e (Sum.inl.inj z)
  rw [this]
  exact ih fun z=>h (Jf _ z)
theorem zcS(h:p ∈ L):vIx (dF L G) (.int p)=some (G p):=zbI h
noncomputable def zai(L:List Int)(G:Int->PV):Prop:=∀ p ∈ L,zj (G p)=true
theorem zcZ(h:zai L G):isDatas (L.map G)=true:=by
 rw [wf]
 intro y hy
 obtain ⟨a,ha,rfl⟩:=Jv.mp hy
 exact h a ha
theorem zlD(hd:zai L G)(hx:zj x=true):ziE (dF L G) (.int p) x=some (if p ∈ L then G p else x):=by
 simp only [dF,ziE,zcZ hd,hx,Bool.and_self,if_true,xx,Option.map_some]
 by_cases h:p ∈ L
 ·rw [if_pos h,zbI h];rfl
 ·rw [if_neg h,zaP h];rfl
noncomputable def upF(G:Int->PV)(p:Int)(q:PV):Int->PV:=fun y=>if y=p then q else G y
@[simp] theorem wK:upF G p q p=q:=if_pos rfl
theorem uA{y:Int}(h:y≠p):upF G p q y=G y:=if_neg h
theorem zdB(hd:zai L G)(hq:zj q=true)(hl:L.length<100000):qA (dF L G) (.int p) q=some (dF (if p ∈ L then L else L++[p]) (upF G p q)):=by
 simp only [dF,qA,zcZ hd,hq,List.length_map,hl,decide_true,Bool.and_self,if_true]
 unfold xo
 rw [vG]
 by_cases h:p ∈ L
 ·rw [decide_eq_true h,if_pos rfl,if_pos h]
  congr 2
  clear h hl hd
  induction L with
  | nil=>rfl
  | cons a r ih=>
   simp only [List.map_cons,List.zipWith_cons_cons,ih]
   congr 1
   unfold upF
   by_cases e:a=p
   ·simp [e]
   ·simp [e]
 ·rw [decide_eq_false h,if_neg Je,if_neg h]
  simp only [List.map_append,List.map_cons,List.map_nil,wK]
  congr 3
  exact KZ fun a ha=>(uA (show a≠p from fun z=>h (by rw [← z];exact ha))).symm
end
@[simp] theorem zoc(G:Int->PV):PV.dct [] []=dF [] G:=rfl
noncomputable def okB(d:Nat)(p:PV):Prop:=v5 p=true/\(xH p).canLay0=true/\(xH p).depth≤d
theorem okB.ok{d:Nat}{p:PV}(h:okB d p)(hd:d≤64):u7 p=true:=by
 have h3:(xH p).depth≤64:=JI h.2.2 hd
 simp [u7,h.1,h.2.1,h3]
theorem zbu(i:Int):okB 0 [87]:=⟨rfl,rfl,by simp [xH,PyData.depth]⟩
theorem zbt{x:Str}(h:PyData.canLay0 (.str x)=true):okB 0 (.str x):=⟨rfl,h,by simp [xH,PyData.depth]⟩
theorem zlm{d:Nat}:∀ {ps:List PV},(∀ p ∈ ps,okB d p)->okPys ps=true/\PyData.canLayAll0 (toPys ps)=true/\PyData.depthAll (toPys ps)≤d
 | [],_=>⟨rfl,rfl,by simp [toPys,PyData.depthAll]⟩
 | p::ps,h=>by
  obtain ⟨h1,h2,h3⟩:=h p Jg
  obtain ⟨g1,g2,g3⟩:=zlm fun q hq=>h q (Jf _ hq)
  refine ⟨by rw [okPys,h1,g1];rfl,by rw [toPys,PyData.canLayAll0,h2,g2];rfl,by rw [toPys,PyData.depthAll];omega⟩
theorem zeC{d:Nat}{ps:List PV}(h:∀ p ∈ ps,okB d p):okB (d+1) (.lst ps):=by
 obtain ⟨h1,h2,h3⟩:=zlm h
 exact ⟨by rw [v5];exact h1,by rw [xH,PyData.canLay0];exact h2,by rw [xH,PyData.depth];omega⟩
theorem zjs{d:Nat}{ps:List PV}(h:∀ p ∈ ps,okB d p):okB (d+1) (.tup ps):=by
 obtain ⟨h1,h2,h3⟩:=zlm h
 exact ⟨by rw [v5];exact h1,by rw [xH,PyData.canLay0];exact h2,by rw [xH,PyData.depth];omega⟩
theorem zhm(xs:List Int):∀ p ∈ xs.map PV.int,okB 0 p:=fun p hp=>by
 obtain ⟨i,_,rfl⟩:=Jv.mp hp;exact zbu i
theorem zcW{d:Nat}{p:PV}(h:okB d p):eqP p p=true:=PySem.SeqAt.eqv_refl _ h.2.1
theorem zjW{d:Nat}{p:PV}(h:okB d p)(hd:d≤64):vEq p p=some (.bl true):=by simp [vEq,h.ok hd,zcW h]
theorem zbw{d:Nat}{p:PV}(h:okB d p)(hd:d≤64):vNe p p=some (.bl false):=by simp [vNe,h.ok hd,zcW h]
section
variable {b:PV->En->Option En} {g:FS} {t:FT} {f:FE}
theorem wC{α:Type}{xs:List α}{hh:α->PV}{env:En}(P:List α->En->Prop)(h0:P [] env)
  (step:∀ pre a post e,xs=pre++a::post->P pre e->∃ e1 e2,b (hh a) e=some e1/\(g e1=some (.nx e2)∨g e1=some (.ct e2))/\P (pre++[a]) e2):∃ e,ub b g (xs.map hh) env=some (.nx e)/\P xs e:=by
 have go:∀ (post pre:List α) (e:En),xs=pre++post->P pre e->∃ e',ub b g (post.map hh) e=some (.nx e')/\P xs e':=by
  intro post
  induction post with
  | nil=>intro pre e hp h;exact ⟨e,rfl,by rw [hp,Kk];exact h⟩
  | cons p post ih=>
   intro pre e hp h
   obtain ⟨e1,e2,h1,h2,h3⟩:=step pre p post e hp h
   obtain ⟨e',h4,h5⟩:=ih (pre++[p]) e2 (by rw [hp,JC];rfl) h3
   refine ⟨e',?_,h5⟩
   rw [Jr]
   unfold ub
   rw [h1,Jc]
   rcases h2 with h2 | h2<;>(rw [h2,Option.bind_some];exact h4)
 exact go xs [] env rfl h0
theorem xp{α:Type}{env:En}{hh:α->PV}(W:α->PV):∀ (xs:List α),(∀ a ∈ xs,∃ e,b (hh a) env=some e/\t e=some true/\f e=some (W a))->yI b t f (xs.map hh) env=some (xs.map W)
 | [],_=>rfl
 | a::xs,h=>by
  obtain ⟨e,h1,h2,h3⟩:=h a Jg
  have ih:=xp W xs fun q hq=>h q (Jf _ hq)
  rw [Jr]
  unfold yI
  rw [h1,Jc,h2,Jc,ih,if_pos rfl,h3,Jc];rfl
theorem zaQ{α:Type}{env:En}{hh:α->PV}(T:α->Bool)(W:α->PV):∀ (xs:List α),(∀ a ∈ xs,∃ e,b (hh a) env=some e/\t e=some (T a)/\(T a=true->f e=some (W a)))->yI b t f (xs.map hh) env=some ((xs.filter T).map W)
 | [],_=>rfl
 | a::xs,h=>by
  obtain ⟨e,h1,h2,h3⟩:=h a Jg
  have ih:=zaQ T W xs fun q hq=>h q (Jf _ hq)
  rw [Jr]
  unfold yI
  rw [h1,Jc,h2,Jc,ih]
  cases hT:T a with
  | true=>rw [if_pos rfl,h3 hT,Jc,Qo,if_pos hT];rfl
  | false=>rw [if_neg Je,Qo,if_neg (by rw [hT];exact Je)]
end
theorem ya{fs:FA}{env:En}{i:Nat}{as:List PV}{p:PV}{Φ:List PV->Option PV}(h:fs env=some as)(h2:Φ as=some p):yA i (zI Φ fs) env=some (.nx (env.set i (some p))):=by
 rw [zei,zfa,h,Jc,h2];rfl
theorem yB{fs:FA}{env:En}{as:List PV}{p:PV}{Φ:List PV->Option PV}(h:fs env=some as)(h2:Φ as=some p):zI Φ fs env=some p:=by
 rw [zfa,h,Jc,h2]
theorem xI{m:Nat}{g:FS}{ps:List PV}{p:PV}{e:En}(env:En)(he:ps.map some++List.replicate (m - ps.length) none=env)(h:g env=some (.rt p e)):fnV m g ps=some p:=by
 unfold fnV;rw [he,h];rfl
theorem zeA{fs:FA}{env:En}{j:Int}(h:fs env=some [.int j])(h1 : -1000000≤j)(h2:j≤1000000):xP fs env=some (uZ 0 j.toNat):=by
 have hj:j<4611686018427387904/\-4611686018427387904≤j:=by omega
 unfold xP
 rw [h,Jc]
 simp [hj]
theorem zjJ{n k:Nat}(h:k<n):ixN n (k:Int)=some k:=by
 unfold ixN
 rw [if_pos [8],if_pos [8]];rfl
theorem atI_nat{α:Type}{l:List α}{k:Nat}(h:k<l.length):atI l (k:Int)=some l[k]:=by
 rw [xq [8] [8]]
 simp [h]
end F
namespace CB
variable {F:List Int} {d:Int} {stop:Int->Bool} {pre:List Int} {ps:List [88]} {f:Int}
theorem Runs.next(r:Runs0 F d stop pre ps)(nf:f ∉ pre){a:Nat}{x:Int × Nat}(ha:ps[a]?=some x)(hc:f - d ∈ zr d x.1 x.2):f=x.1+x.2 * d:=by
 obtain ⟨i,hi,e⟩:=mem_chain.mp hc
 by_cases h:i+1<x.2
 ·have:=(r.inn _ (JN ha) (i+1) h).1
  rw [zck] at this
  exact absurd (by rwa [show f=x.1+(i * d+d) by omega]) nf
 ·have:x.2=i+1:=by omega
  rw [this,zck];omega
theorem Runs.len(r:Runs0 F d stop pre ps):ps.length≤pre.length:=by
 have:=congrArg List.length r.heads
 rw [Jj] at this
 rw [this]
 exact Kg _ _
theorem Runs.len0(r:Runs0 F d stop pre ps)(hd:0<d){a:Nat}{x:Int × Nat}(ha:ps[a]?=some x):x.2≤pre.length:=by
 have:=zS (zr d x.1 x.2) pre (uN hd _ _) fun y hy=>by
  obtain ⟨i,hi,rfl⟩:=mem_chain.mp hy
  exact (r.inn x (JN ha) i hi).1
 rwa [zaT] at this
end CB
namespace Cb
open PySem L2 F CB PyProof.Rows
noncomputable def jd:FS:=(xM (fT (fOp x9 (zA 5) (zA 3))) (ze (uk 3 (zA 4) (fOp vIx (zA 3) (zA 5)))
 (zhV 2 (fOp vIx (zA 3) (zA 4)) (kf (z7 (zA 4))))) (ze (uk 3 (zA 4) (zI xr (zC (zA 2) zJ)))
 (zw 2 (xU (zC (z7 (zA 4)) zJ)))))
noncomputable def zdU:FS:=(ze (yA 2 (xU zJ))
 (ze (yA 3 kA)
 (ze (xy (zjR (zC (zA 0) (zC (zA 1) zJ))) (v7 2 (z8 (zN 4) (z8 (zN 5) v8))) jd)
 (yQ (fLC (zq (zA 2)) 1 [] (zN 0) v6 (zI jm [62]))))))
noncomputable def vL:List PV->Option PV:=fnV 6 zdU
noncomputable def wB:FS:=(yQ (fIf (fT (fOp vEq (fOp xL (zA 1) (fOp vIx (zA 0) [21])) [21])) (fC .non) (fOp kS (zA 1) [26])))
noncomputable def yd:List PV->Option PV:=fnV 2 wB
noncomputable def u0:FS:=(yQ (zI vL (zC (fOp vIx (zA 0) [23]) (zC (fLC (zq (fOp vIx (zA 0) [23])) 1 [0] (zN 0) v6 (zI yd (zC (zA 1) [62]))) zJ))))
noncomputable def xg:List PV->Option PV:=fnV 1 u0
noncomputable def wv:FS:=(yQ (fOp kS (zA 1) (fOp vIx (zA 0) [21])))
noncomputable def yj:List PV->Option PV:=fnV 2 wv
noncomputable def ww:FS:=(yQ (zI vL (zC (fOp vIx (zA 0) [23]) (zC (fLC (zq (fOp vIx (zA 0) [23])) 1 [0] (zN 0) v6 (zI yj (zC (zA 1) [62]))) zJ))))
noncomputable def yk:List PV->Option PV:=fnV 1 ww
noncomputable def qm:FS:=(ze (yA 1 (fLC (zq (zI xg [62])) 1 [] (zN 0) v6 (vH (zC (fC (.str "row")) (zC (z7 (zA 0)) zJ)))))
 (ze (yA 2 (fLC (zq (zI yk [62])) 1 [] (zN 0) v6 (vH (zC (fC (.str "column")) (zC (z7 (zA 0)) zJ)))))
 (yQ (fOp xR (zA 1) (zA 2)))))
noncomputable def zd:List PV->Option PV:=fnV 3 qm
noncomputable def w9:FS:=(uk 1 (zA 4) (fOp xR (zjT (zA 1) (zA 4) (vH zJ)) (vH (zC (zA 2) zJ))))
noncomputable def wz:FS:=(xy (zq (fOp vIx (zA 3) [26])) (zN 4) w9)
noncomputable def uJ:FS:=(ze (yA 1 kA)
 (ze (xy (vk (zC (zI zd [62]) zJ)) (v7 2 (z8 (zN 2) (z8 (zN 3) v8))) wz)
 (yQ (zA 1))))
noncomputable def z9:List PV->Option PV:=fnV 5 uJ
noncomputable def u5:FS:=(yQ (fOp vIx (zI z9 [62]) (zA 1)))
noncomputable def xh:List PV->Option PV:=fnV 2 u5
noncomputable def yL(d:Int)(stop:Int->Bool)(f:Int):PV:=if stop f=true then .non else .int (f - d)
noncomputable def ju(d:Int)(x:Int × Nat):PV:=.lst ((zr d x.1 x.2).map PV.int)
noncomputable def zbh(d:Int)(x:Int × Nat):PV:=.tup ((zr d x.1 x.2).map PV.int)
theorem zez{F:List Int}{d:Int}{stop:Int->Bool}(hd:0<d)(rise:F.Pairwise (·<·))(hl:F.length≤1000):
  ∃ ps,vL [.tup (F.map PV.int),.lst (F.map (yL d stop))]=some (.lst (ps.map (zbh d)))/\Runs F d stop F ps:=by
 let mk:List (Int × Nat)->List Int->(Int->PV)->Option PV->Option PV->En:=fun ps pre G x y=>[some (.tup (F.map PV.int)),some (.lst (F.map (yL d stop))),some (.lst (ps.map (ju d))),some (dF pre G),x,y]
 obtain ⟨e,h1,ps,G,x,y,rfl,hr,hG⟩:=wC (b:=v7 2 (z8 (zN 4) (z8 (zN 5) v8))) (g:=jd) (xs:=F) (hh:=fun f=>PV.tup [.int f,yL d stop f]) (env:=mk [] [] (fun _=>.non) none none)
  (fun pre e=>∃ ps G x y,e=mk ps pre G x y/\Runs F d stop pre ps/\∀ f ∈ pre,∃ (k:Nat) (z:Int × Nat),G f=.int k/\ps[k]?=some z/\f ∈ zr d z.1 z.2)
  ⟨[],_,none,none,rfl,.nil,by simp⟩ (by
   rintro pre f post e hF ⟨ps,G,x,y,rfl,r,hG⟩
   have sub:∀ p ∈ pre,p ∈ F:=fun p hp=>by rw [hF];exact Jm _ hp
   have lt:∀ p ∈ pre,p<f:=fun p hp=>by
    rw [hF,JE] at rise
    exact rise.2.2 p hp f Jg
   have gt:∀ p ∈ F,p<f->p ∈ pre:=fun p hp h=>by
    rw [hF,JE] at rise
    rw [hF] at hp
    rcases List.mem_append.mp hp with hp | hp
    ·exact hp
    ·rcases List.mem_cons.mp hp with rfl | hp
     ·omega
     ·have:=(KB.mp rise.2.1).1 p hp;omega
   have nf:f ∉ pre:=fun h=>by have:=lt f h;omega
   have nd:pre.Nodup:=by
    rw [hF,JE] at rise
    exact y6 rise.1
   have hD:zai pre G:=fun p hp=>by obtain ⟨k,z,e,_⟩:=hG p hp;rw [e];rfl
   have hpl:pre.length<1000:=by rw [hF,Jo,JD] at hl;omega
   have hpsl:=Runs.len r.toRuns0
   refine ⟨mk ps pre G [58] (some (yL d stop f)),?_⟩
   by_cases hin:stop f=false/\f - d ∈ pre
   ·-- it goes on
    obtain ⟨hs,hp⟩:=hin
    obtain ⟨k,z,e1,e2,e3⟩:=hG _ hp
    have hz:=Runs.next r.toRuns0 nf e2 e3
    have hst:yu F d stop f=false:=by simp [yu,hs,sub _ hp]
    obtain ⟨kl,kz⟩:=Jp.mp e2
    refine ⟨mk (ps.set k (z.1,z.2+1)) (pre++[f]) (upF G f (.int k)) [58] (some (yL d stop f)),by simp [v7,z8,v8,mk],.inl ?_,_,_,_,_,rfl,r.ext hd sub nd lt hst e2 hz,?_⟩
    ·have ha:yL d stop f=.int (f - d):=by simp [yL,hs]
     have hput:=zdB (p:=f) (q:=.int k) hD rfl (show pre.length<100000 by omega)
     rw [if_neg nf] at hput
     have hzl:z.2≤1000:=by
      have h1:=Runs.len0 r.toRuns0 hd e2
      omega
     have hset:(ps.set k (z.1,z.2+1)).map (ju d)=(ps.map (ju d)).set k (.lst ((zr d z.1 z.2).map PV.int++[.int f])):=by
      rw [List.map_set]
      congr 1
      simp [ju,jB,← hz]
     have ht:fT (fOp x9 (zA 5) (zA 3)) (mk ps pre G [58] (some (yL d stop f)))=some true:=by simp [mk,ha,hp]
     unfold jd
     rw [yP,ht,Jc,if_pos rfl]
     rw [zL (e:=mk ps (pre++[f]) (upF G f (.int k)) [58] (some (yL d stop f))) (by simp [mk,uk,ha,zcS hp,e1,hput])]
     have hk:ixN (ps.map (ju d)).length (k:Int)=some k:=zjJ (by simpa using kl)
     have hg:(ps.map (ju d))[k]?=some (.lst ((zr d z.1 z.2).map PV.int)):=by simp [kl,kz,ju]
     have hi:fOp vIx (zA 3) (zA 4) (mk ps (pre++[f]) (upF G f (.int k)) [58] (some (yL d stop f)))=some (.int k):=by simp [mk,zcS (L:=pre++[f]) (p:=f)]
     unfold zhV
     rw [hi]
     have hv:zA 2 (mk ps (pre++[f]) (upF G f (.int k)) [58] (some (yL d stop f)))=some (.lst (ps.map (ju d))):=rfl
     rw [hv,Jc,Jc]
     simp only [kg,Option.bind_some,hk,hg]
     simp only [kf,mk,zbS,zaf,List.getElem?_cons_succ,List.getElem?_cons_zero,Option.join_some,Option.bind_some,zdb,if_true,List.length_map,zaT,show z.2<100000 by omega,Option.map_some,hset]
     rfl
    ·intro p hp'
     rcases List.mem_append.mp hp' with hp' | hp'
     ·obtain ⟨k',z',f1,f2,f3⟩:=hG p hp'
      refine ⟨k',if k'=k then (z.1,z.2+1) else z',by rw [uA (show p≠f from fun h=>nf (by rw [← h];exact hp'))];exact f1,?_,?_⟩
      ·rw [KH]
       by_cases hk:k=k'
       ·subst hk;simp [kl]
       ·rw [if_neg hk,if_neg (fun h=>hk h.symm)];exact f2
      ·split
       ·rename_i hk
        subst hk
        rw [e2] at f2;cases f2
        simp only [jB]
        exact Jm _ f3
       ·exact f3
     ·rw [Jh.mp hp']
      refine ⟨k,(z.1,z.2+1),wK,by rw [KH,if_pos rfl,if_pos kl],?_⟩
      simp only [jB,← hz];simp
   ·have hst:yu F d stop f=true:=by
     by_cases hs:stop f=false
     ·have:f - d ∉ F:=fun h=>hin ⟨hs,gt _ h [8]⟩
      simp [yu,this]
     ·simp [yu,hs]
    refine ⟨mk (ps++[(f,1)]) (pre++[f]) (upF G f (.int ps.length)) [58] (some (yL d stop f)),by simp [v7,z8,v8,mk],.inl ?_,_,_,_,_,rfl,r.new hd sub lt hst,?_⟩
    ·have hput:=zdB (p:=f) (q:=.int ps.length) hD rfl (show pre.length<100000 by omega)
     rw [if_neg nf] at hput
     have hno:vIn (yL d stop f) (dF pre G)=some false:=by
      unfold yL
      by_cases hs:stop f=true
      ·rw [if_pos hs];rfl
      ·rw [if_neg hs]
       have:f - d ∉ pre:=fun h=>hin ⟨by simpa using hs,h⟩
       simp [this]
     have hap:(ps.map (ju d))++[.lst [.int f]]=(ps++[(f,1)]).map (ju d):=by simp [ju,zeX]
     unfold jd
     simp [mk,hno,uk,hput,zw,show ps.length<100000 by omega,hap]
    ·intro p hp'
     rcases List.mem_append.mp hp' with hp' | hp'
     ·obtain ⟨k',z',f1,f2,f3⟩:=hG p hp'
      exact ⟨k',z',by rw [uA (show p≠f from fun h=>nf (by rw [← h];exact hp'))];exact f1,by rw [JR (Jp.mp f2).1];exact f2,f3⟩
     ·rw [Jh.mp hp']
      exact ⟨ps.length,(f,1),wK,by simp,by simp [zeX]⟩)
 refine ⟨ps,?_,hr⟩
 have hz:(List.zip (F.map PV.int) (F.map (yL d stop))).map (fun z=>PV.tup [z.1,z.2])=F.map fun f=>PV.tup [.int f,yL d stop f]:=by
  rw [List.zip_map',KA];rfl
 have hpl:=Runs.len hr.toRuns0
 have hc:yI (zN 0) v6 (zI jm [62]) (ps.map (ju d)) [none]=some (ps.map (zbh d)):=xp _ _ fun a _=>⟨_,rfl,rfl,by simp [ju,zbh]⟩
 unfold vL fnV zdU
 rw [zL (e:=[some (.tup (F.map PV.int)),some (.lst (F.map (yL d stop))),some (.lst []),none,none,none]) [12]]
 rw [zL (e:=mk [] [] (fun _=>.non) none none) (by simp [mk];rfl)]
 rw [zL (e:=mk ps F G x y) (by rw [wF,zlO];simp only [mk,zg,zaf,zbR];simp [hz];exact h1)]
 simp [mk,show ps.length≤100000 by omega,cE,hc]
noncomputable abbrev flV(w h:Int)(F:List Int):PV:=.tup [.int w,.int h,.tup (F.map PV.int)]
noncomputable def vX(w:Int)(f:Int):Bool:=decide (f % w=0)
noncomputable def jc(_:Int):Bool:=false
theorem wG{w h:Int}{F:List Int}(fl:IsFloor w h F):F.length≤36:=by
 have h1:=fl.h1
 have wh:w * h≤6 * 6:=Int.mul_le_mul fl.w6 fl.h6 [8] [8]
 have:=zS F (zZ w h) (y6 fl.rise) fun p hp=>mem_places.mpr (fl.inn p hp)
 simp [zZ] at this
 omega
theorem zcn{w h:Int}{F:List Int}(fl:IsFloor w h F):∃ ps,xg [flV w h F]=some (.lst (ps.map (zbh 1)))/\Runs F 1 (vX w) F ps:=by
 have hl:=wG fl
 obtain ⟨ps,h1,h2⟩:=zez (d:=1) (stop:=vX w) [9] fl.rise [8]
 refine ⟨ps,?_,h2⟩
 have hw:0<w:=by have:=fl.w1;omega
 have hc:yI (zN 0) v6 (zI yd (zC (zA 1) [62])) (F.map PV.int) [none,some [57]]=some (F.map (yL 1 (vX w))):=xp _ _ fun a _=>⟨_,rfl,rfl,by
  by_cases hz:a % w=0
  ·simp [yd,fnV,wB,yY hw,hz,yL,vX]
  ·simp [yd,fnV,wB,yY hw,hz,yL,vX]⟩
 simp [xg,fnV,u0,show F.length≤100000 by omega,cE,hc,h1]
theorem qz{w h:Int}{F:List Int}(fl:IsFloor w h F):∃ ps,yk [flV w h F]=some (.lst (ps.map (zbh w)))/\Runs F w jc F ps:=by
 have hl:=wG fl
 have hw:0<w:=by have:=fl.w1;omega
 obtain ⟨ps,h1,h2⟩:=zez (d:=w) (stop:=jc) hw fl.rise [8]
 refine ⟨ps,?_,h2⟩
 have hc:yI (zN 0) v6 (zI yj (zC (zA 1) [62])) (F.map PV.int) [none,some [57]]=some (F.map (yL w jc)):=xp _ _ fun a _=>⟨_,rfl,rfl,by
  simp [yj,fnV,wv,yL,jc]⟩
 simp [yk,fnV,ww,show F.length≤100000 by omega,cE,hc,h1]
theorem qu(d:Int)(x:Int × Nat):zj (zbh d x)=true:=by simp [zbh]
noncomputable def zo(w:Int)(rs cs:List [88]):List (List Int):=rs.map (fun x=>zr 1 x.1 x.2)++cs.map (fun x=>zr w x.1 x.2)
noncomputable def zh(z:Str × List Int):PV:=.tup [.str z.1,.tup (z.2.map PV.int)]
noncomputable def v4(w:Int)(rs cs:List [88]):List (Str × List Int):=rs.map (fun x=>(Str.ofString "row",zr 1 x.1 x.2))++cs.map (fun x=>(Str.ofString "column",zr w x.1 x.2))
theorem zdt(w:Int)(rs cs:List [88]):(v4 w rs cs).map (·.2)=zo w rs cs:=by simp [v4,zo,List.map_map,Function.comp_def]
structure Strips (w h:Int) (F:List Int) (rs cs:List [88]):Prop where
 fl:IsFloor w h F
 rows:Runs F 1 (vX w) F rs
 cols:Runs F w jc F cs
theorem zfp{w h:Int}{F:List Int}(fl:IsFloor w h F):∃ rs cs,zd [flV w h F]=some [73]/\Strips w h F rs cs:=by
 obtain ⟨rs,h1,r1⟩:=zcn fl
 obtain ⟨cs,h2,r2⟩:=qz fl
 refine ⟨rs,cs,?_,fl,r1,r2⟩
 have hl:=wG fl
 have l1:=Runs.len r1.toRuns0
 have l2:=Runs.len r2.toRuns0
 have c1:yI (zN 0) v6 (vH (zC (fC (.str "row")) (zC (z7 (zA 0)) zJ))) (rs.map (zbh 1)) [none]=some (rs.map fun x=>zh ("row",zr 1 x.1 x.2)):=xp _ _ fun a _=>⟨_,rfl,rfl,by simp [qu,zh];rfl⟩
 have c2:yI (zN 0) v6 (vH (zC (fC (.str "column")) (zC (z7 (zA 0)) zJ))) (cs.map (zbh w)) [none]=some (cs.map fun x=>zh ("column",zr w x.1 x.2)):=xp _ _ fun a _=>⟨_,rfl,rfl,by simp [qu,zh];rfl⟩
 unfold zd fnV qm
 rw [zL (e:=[some [57],some (.lst (rs.map fun x=>zh ("row",zr 1 x.1 x.2))),none]) (by simp [h1,show rs.length≤100000 by omega,cE,c1])]
 rw [zL (e:=[some [57],some (.lst (rs.map fun x=>zh ("row",zr 1 x.1 x.2))),some (.lst (cs.map fun x=>zh ("column",zr w x.1 x.2)))]) (by simp [h2,show cs.length≤100000 by omega,cE,c2])]
 have e:(v4 w rs cs).map zh=(rs.map fun x=>zh ("row",zr 1 x.1 x.2))++(cs.map fun x=>zh ("column",zr w x.1 x.2)):=by simp [v4,List.map_map,Function.comp_def]
 rw [e]
 have d1:isDatas (rs.map fun x=>zh (Str.ofString "row",zr 1 x.1 x.2))=true:=xB _ (fun x=>by simp [zh]) rs
 have d2:isDatas (cs.map fun x=>zh (Str.ofString "column",zr w x.1 x.2))=true:=xB _ (fun x=>by simp [zh]) cs
 simp [xR,d1,d2,show rs.length+cs.length≤100000 by omega]
noncomputable def idx(ls:List (List Int))(f:Int):List Nat:=(List.range ls.length).filter fun k=>decide (f ∈ (ls[k]?).getD [])
theorem zhL(ls:List (List Int))(z:List Int)(f:Int):idx (ls++[z]) f=idx ls f++(if f ∈ z then [ls.length] else []):=by
 unfold idx
 rw [Jo,Qz,List.range_succ,Qb]
 congr 1
 ·refine List.filter_congr fun k hk=>?_
  have:=Jt.mp hk
  rw [JR this]
 ·by_cases h:f ∈ z<;>simp [h]
theorem qp{n k:Nat}{p:Nat->Bool}(hk:k<n)(h:∀ j,j<n->(p j=true ↔ j=k)):(List.range n).filter p=[k]:=by
 have e:(List.range n).filter p=(List.range n).filter (· == k):=List.filter_congr fun j hj=>by
  rw [Bool.eq_iff_iff,h j (List.mem_range.mp hj)];simp
 rw [e,List.filter_beq,List.nodup_range.count,if_pos (Jt.mpr hk)];rfl
theorem zeN{A B:List (List Int)}{f:Int}{r c:Nat}(hr:r<A.length)(hc:c<B.length)(h1:∀ j,j<A.length->(f ∈ (A[j]?).getD [] ↔ j=r))(h2:∀ j,j<B.length->(f ∈ (B[j]?).getD [] ↔ j=c)):idx (A++B) f=[r,A.length+c]:=by
 unfold idx
 rw [Jo,List.range_add,Qb,List.filter_map]
 have e1:(List.range A.length).filter (fun k=>decide (f ∈ ((A++B)[k]?).getD []))=[r]:=qp hr fun j hj=>by
  rw [JR hj,decide_eq_true_eq];exact h1 j hj
 have e2:(List.range B.length).filter ((fun k=>decide (f ∈ ((A++B)[k]?).getD [])) ∘ fun x=>A.length+x)=[c]:=qp hc fun j hj=>by
  simp only [Function.comp_apply,decide_eq_true_eq]
  rw [Kv (QH _ _),Qr]
  exact h2 j hj
 rw [e1,e2];rfl
theorem Strips.pair{w h:Int}{F:List Int}{rs cs:List [88]}(S:Strips w h F rs cs){f:Int}(hf:f ∈ F):∃ r c:Nat,idx [22] f=[r,c]/\r<rs.length/\rs.length≤c/\c<rs.length+cs.length:=by
 have nd:=y6 S.fl.rise
 obtain ⟨r,hr,h1⟩:=Runs.one S.rows (fun _ h=>h) nd hf
 obtain ⟨c,hc,h2⟩:=Runs.one S.cols (fun _ h=>h) nd hf
 refine ⟨r,rs.length+c,?_,hr,by omega,by omega⟩
 have:=zeN (A:=rs.map fun x=>zr 1 x.1 x.2) (B:=cs.map fun x=>zr w x.1 x.2) (f:=f) (r:=r) (c:=c) (by simpa using hr) (by simpa using hc)
  (fun j hj=>by
   have hj':j<rs.length:=by simpa using hj
   rw [Jd hj,List.getElem_map]
   exact h1 j _ (Jd hj'))
  (fun j hj=>by
   have hj':j<cs.length:=by simpa using hj
   rw [Jd hj,List.getElem_map]
   exact h2 j _ (Jd hj'))
 rw [Jj] at this
 exact this
theorem Strips.sub{w h:Int}{F:List Int}{rs cs:List [88]}(S:Strips w h F rs cs){z:List Int}(hz:z ∈ zo w rs cs):z.Nodup/\∀ f ∈ z,f ∈ F:=by
 unfold zo at hz
 rcases List.mem_append.mp hz with hz | hz
 ·obtain ⟨x,hx,rfl⟩:=Jv.mp hz
  exact ⟨uN [9] _ _,fun f hf=>by obtain ⟨i,hi,rfl⟩:=mem_chain.mp hf;exact (S.rows.inn x hx i hi).1⟩
 ·obtain ⟨x,hx,rfl⟩:=Jv.mp hz
  exact ⟨uN (by have:=S.fl.w1;omega) _ _,fun f hf=>by obtain ⟨i,hi,rfl⟩:=mem_chain.mp hf;exact (S.cols.inn x hx i hi).1⟩
noncomputable def jA(ls:List (List Int))(f:Int):PV:=.tup ((idx ls f).map fun (k:Nat)=>PV.int k)
theorem kE(l:List Nat):isDatas (l.map fun (k:Nat)=>PV.int k)=true:=xB _ (fun _=>rfl) l
theorem zbK{src:PV}{zs:List (Str × List Int)}{F:List Int}(hs:zd [src]=some (.lst (zs.map zh)))(hz:∀ z ∈ zs,z.2.Nodup/\∀ f ∈ z.2,f ∈ F)(hF:F.Nodup)(hl:F.length≤1000)(hzl:zs.length≤1000):
  ∃ L G,z9 [src]=some (dF L G)/\(∀ f,f ∈ L ↔ ∃ z ∈ zs,f ∈ z.2)/\∀ f ∈ L,G f=jA (zs.map (·.2)) f:=by
 let mk:List Int->(Int->PV)->Option PV->Option PV->Option PV->En:=fun L G x y z=>[some src,some (dF L G),x,y,z]
 obtain ⟨e,h1,L,G,x,y,z,rfl,nd,mm,hG⟩:=wC (b:=v7 2 (z8 (zN 2) (z8 (zN 3) v8))) (g:=wz) (xs:=zs.zipIdx) (hh:=fun z=>PV.tup [.int (z.2:Int),zh z.1]) (env:=mk [] (fun _=>.non) none none none)
  (fun pre e=>∃ L G x y z,e=mk L G x y z/\L.Nodup/\(∀ f,f ∈ L ↔ ∃ z ∈ pre.map (·.1),f ∈ z.2)/\∀ f ∈ L,G f=jA ((pre.map (·.1)).map (·.2)) f)
  ⟨[],_,none,none,none,rfl,.nil,by simp,by simp⟩ (by
   rintro pre ⟨a,n⟩ post e hpre ⟨L,G,x,y,z,rfl,nd,mm,hG⟩
   have hn:n=pre.length:=by
    have:=List.getElem?_zipIdx (l:=zs) (i:=0) (j:=pre.length)
    rw [hpre,Kv (Jn _),Nat.sub_self,List.getElem?_cons_zero] at this
    cases hq:zs[pre.length]? with
    | none=>rw [hq] at this;cases this
    | some q=>rw [hq] at this;simp at this;exact this.2
   have ha:a ∈ zs:=by
    have h:(a,n) ∈ zs.zipIdx:=by rw [hpre];simp
    have:=List.mem_map_of_mem (f:=Prod.fst) h
    rwa [QK] at this
   have hpz:∀ z ∈ pre.map (·.1),z ∈ zs:=fun z hzz=>by
    obtain ⟨q,hq,rfl⟩:=Jv.mp hzz
    have h:q ∈ zs.zipIdx:=by rw [hpre];exact Jm _ hq
    have:=List.mem_map_of_mem (f:=Prod.fst) h
    rwa [QK] at this
   obtain ⟨and,asub⟩:=hz a ha
   generalize hls:(pre.map (·.1)).map (·.2)=ls at hG
   have hln:ls.length=n:=by rw [← hls,hn];simp
   have mm0:∀ f,f ∈ L ↔ ∃ z ∈ ls,f ∈ z:=fun f=>by
    rw [mm f,← hls]
    exact ⟨fun ⟨z,h1,h2⟩=>⟨z.2,Jv.mpr ⟨z,h1,rfl⟩,h2⟩,fun ⟨z,h1,h2⟩=>by obtain ⟨q,hq,rfl⟩:=Jv.mp h1;exact ⟨q,hq,h2⟩⟩
   have lsub:∀ z ∈ ls,∀ f ∈ z,f ∈ F:=fun z hzz f hf=>by
    rw [← hls] at hzz
    obtain ⟨q,hq,rfl⟩:=Jv.mp hzz
    exact (hz q (hpz q hq)).2 f hf
   obtain ⟨e',g1,L',G',z',rfl,nd',mm',hG'⟩:=wC (b:=zN 4) (g:=w9) (xs:=a.2) (hh:=PV.int) (env:=mk L G (some (.int n)) (some (zh a)) z)
    (fun q e=>∃ L G z,e=mk L G (some (.int n)) (some (zh a)) z/\L.Nodup/\(∀ f,f ∈ L ↔ (∃ z ∈ ls,f ∈ z)∨f ∈ q)/\∀ f ∈ L,G f=.tup ((idx ls f++if f ∈ q then [n] else []).map fun (k:Nat)=>PV.int k))
    ⟨L,G,z,rfl,nd,by simpa using mm0,fun f hf=>by rw [hG f hf];simp [jA]⟩ (by
     rintro q f post e hq ⟨L,G,z,rfl,nd,mm,hG⟩
     have hfa:f ∈ a.2:=by rw [hq];simp
     have nfq:f ∉ q:=by
      rw [hq,Jz] at and
      exact fun h=>and.2.2 f h f Jg rfl
     have Lsub:∀ f ∈ L,f ∈ F:=fun g hg=>by
      rcases (mm g).mp hg with ⟨z,h1,h2⟩ | h
      ·exact lsub z h1 g h2
      ·exact asub g (by rw [hq];exact Jm _ h)
     have Ll:L.length≤1000:=JI (zS L F nd Lsub) hl
     have hD:zai L G:=fun p hp=>by rw [hG p hp];simp only [zda,kE]
     have hget:=zlD (p:=f) (x:=.tup []) hD rfl
     have hval:(if f ∈ L then G f else PV.tup [])=.tup ((idx ls f).map fun (k:Nat)=>PV.int k):=by
      by_cases h:f ∈ L
      ·rw [if_pos h,hG f h,if_neg nfq,Kk]
      ·rw [if_neg h]
       have:idx ls f=[]:=by
        unfold idx
        rw [List.filter_eq_nil_iff]
        intro k hk hc
        have hk':=Jt.mp hk
        rw [decide_eq_true_eq,Jd hk'] at hc
        exact h ((mm f).mpr (.inl ⟨_,Kf hk',hc⟩))
       rw [this];rfl
     rw [hval] at hget
     have hput:=zdB (p:=f) (q:=.tup ((idx ls f++[n]).map fun (k:Nat)=>PV.int k)) hD (by simp only [zda,kE]) (show L.length<100000 by omega)
     refine ⟨mk L G (some (.int n)) (some (zh a)) [58],mk (if f ∈ L then L else L++[f]) (upF G f (.tup ((idx ls f++[n]).map fun (k:Nat)=>PV.int k))) (some (.int n)) (some (zh a)) [58],rfl,.inl ?_,_,_,_,rfl,?_,?_,?_⟩
     ·have hil:(idx ls f).length≤ls.length:=by unfold idx;exact Nat.le_trans (List.length_filter_le _ _) [12]
      have hadd:xR (.tup ((idx ls f).map fun (k:Nat)=>PV.int k)) (.tup [.int n])=some (.tup ((idx ls f++[n]).map fun (k:Nat)=>PV.int k)):=by
       have nl:n≤1000:=by
        have:=congrArg List.length hpre
        rw [List.length_zipIdx,Jo,JD] at this
        omega
       simp [xR,kE,show (idx ls f).length+1≤100000 by omega]
      unfold w9 uk
      simp only [yc,zjT,mk,zaf,zbQ,zg,zbR,List.getElem?_cons_succ,List.getElem?_cons_zero,Option.join_some,Option.bind_some,Option.map_some,hget,hadd,hput]
      rfl
     ·split
      ·exact nd
      ·rename_i h
       exact List.nodup_append.mpr ⟨nd,by simp,fun a ha b hb=>by rw [List.mem_singleton.mp hb];exact fun e=>h (e ▸ ha)⟩
     ·intro g
      rw [JQ,Jh,← or_assoc,← mm g]
      split
      ·rename_i h
       exact ⟨.inl,fun z=>z.elim id fun e=>e ▸ h⟩
      ·rw [JQ,Jh]
     ·intro g hg
      by_cases e:g=f
      ·subst e
       rw [wK,if_pos [12]]
      ·rw [uA e,hG g (by
        split at hg
        ·exact hg
        ·exact (JQ.mp hg).resolve_right fun z=>e (Jh.mp z))]
       have:(g ∈ q++[f]) ↔ g ∈ q:=by simp [e]
       simp only [this])
   refine ⟨mk L G (some (.int n)) (some (zh a)) z,mk L' G' (some (.int n)) (some (zh a)) z',by simp [v7,z8,v8,mk],.inl ?_,_,_,_,_,_,rfl,nd',?_,?_⟩
   ·unfold wz
    rw [wF]
    have:zq (fOp vIx (zA 3) [26]) (mk L G (some (.int n)) (some (zh a)) z)=some (a.2.map PV.int):=by simp [mk,zh]
    rw [this,Jc]
    exact g1
   ·intro f
    rw [mm' f,← hls]
    simp only [List.map_append,List.map_cons,List.map_nil,List.mem_append,List.mem_singleton,List.mem_map]
    constructor
    ·rintro (⟨z,⟨q,hq,rfl⟩,hf⟩ | hf)
     ·exact ⟨q,.inl hq,hf⟩
     ·exact ⟨a,.inr rfl,hf⟩
    ·rintro ⟨z,hz | rfl,hf⟩
     ·exact .inl ⟨z.2,⟨z,hz,rfl⟩,hf⟩
     ·exact .inr hf
   ·intro f hf
    rw [hG' f hf]
    simp only [List.map_append,List.map_cons,List.map_nil,jA]
    rw [hls,zhL,hln,Kd])
 refine ⟨L,G,?_,fun f=>?_,fun f hf=>?_⟩
 ·unfold z9 fnV uJ
  rw [zL (e:=mk [] (fun _=>.non) none none none) (by simp [mk];rfl)]
  rw [zL (e:=mk L G x y z) (by
   rw [wF]
   have:vk (zC (zI zd [62]) zJ) (mk [] (fun _=>.non) none none none)=some (zs.zipIdx.map fun z=>PV.tup [.int (z.2:Int),zh z.1]):=by
    simp [vk,mk,hs,vy,List.zipIdx_map,List.map_map,Function.comp_def]
   rw [this,Jc]
   exact h1)]
  simp [mk]
 ·rw [mm f,QK]
 ·rw [hG f hf,QK]
theorem Strips.lens{w h:Int}{F:List Int}{rs cs:List [88]}(S:Strips w h F rs cs):rs.length≤36/\cs.length≤36:=by
 have:=wG S.fl
 have l1:=Runs.len S.rows.toRuns0
 have l2:=Runs.len S.cols.toRuns0
 omega
theorem zif{w h:Int}{F:List Int}(fl:IsFloor w h F):∃ rs cs,Strips w h F rs cs/\zd [flV w h F]=some [73]/\
  ∃ L G,z9 [flV w h F]=some (dF L G)/\(∀ f,f ∈ L ↔ f ∈ F)/\∀ f ∈ F,G f=jA [22] f:=by
 obtain ⟨rs,cs,h1,S⟩:=zfp fl
 refine ⟨rs,cs,S,h1,?_⟩
 have hz:∀ z ∈ v4 w rs cs,z.2.Nodup/\∀ f ∈ z.2,f ∈ F:=fun z hz=>S.sub (by rw [← zdt];exact Jv.mpr ⟨z,hz,rfl⟩)
 obtain ⟨L,G,e,m,g⟩:=zbK h1 hz (y6 fl.rise) (by have:=wG fl;omega) (by have:=S.lens;simp [v4];omega)
 have mm:∀ f,f ∈ L ↔ f ∈ F:=fun f=>by
  rw [m f]
  refine ⟨fun ⟨z,h1,h2⟩=>(hz z h1).2 f h2,fun hf=>?_⟩
  obtain ⟨x,hx,i,hi,e⟩:=S.rows.cov f hf
  exact ⟨(Str.ofString "row",zr 1 x.1 x.2),Jm _ (Jv.mpr ⟨x,hx,rfl⟩),mem_chain.mpr ⟨i,hi,e⟩⟩
 refine ⟨L,G,e,mm,fun f hf=>?_⟩
 rw [g f ((mm f).mpr hf),zdt]
structure Cross (w h:Int) (F:List Int) (ls:List (List Int)) (L:List Int) (G:Int->PV):Prop where
 val:z9 [flV w h F]=some (dF L G)
 mem:∀ f,f ∈ L ↔ f ∈ F
 at':∀ f ∈ F,G f=jA ls f
theorem Cross.ix{w h:Int}{F:List Int}{ls:List (List Int)}{L:List Int}{G:Int->PV}(C:Cross w h F ls L G){f:Int}(hf:f ∈ F){r c:Nat}(hi:idx ls f=[r,c]):vIx (dF L G) (.int f)=some (.tup [.int r,.int c]):=by
 rw [zcS ((C.mem f).mpr hf),C.at' f hf]
 simp [jA,hi]
noncomputable def rc(ls:List (List Int))(f:Int):Nat × Nat:=match idx ls f with | [r,c]=>(r,c) | _=>(0,0)
theorem zfX{w h:Int}{F:List Int}(fl:IsFloor w h F):∃ rs cs L G,Strips w h F rs cs/\zd [flV w h F]=some [73]/\Cross w h F [22] L G:=by
 obtain ⟨rs,cs,S,h1,L,G,h2,h3,h4⟩:=zif fl
 exact ⟨rs,cs,L,G,S,h1,h2,h3,h4⟩
theorem Strips.pairX{w h:Int}{F:List Int}{rs cs:List [88]}(S:Strips w h F rs cs){f:Int}(hf:f ∈ F):∃ r c:Nat,idx [22] f=[r,rs.length+c]/\r<rs.length/\c<cs.length/\(∀ j x,rs[j]?=some x->(f ∈ zr 1 x.1 x.2 ↔ j=r))/\∀ j x,cs[j]?=some x->(f ∈ zr w x.1 x.2 ↔ j=c):=by
 have nd:=y6 S.fl.rise
 obtain ⟨r,hr,h1⟩:=Runs.one S.rows (fun _ h=>h) nd hf
 obtain ⟨c,hc,h2⟩:=Runs.one S.cols (fun _ h=>h) nd hf
 refine ⟨r,c,?_,hr,hc,h1,h2⟩
 have:=zeN (A:=rs.map fun x=>zr 1 x.1 x.2) (B:=cs.map fun x=>zr w x.1 x.2) (f:=f) (r:=r) (c:=c) (by simpa using hr) (by simpa using hc)
  (fun j hj=>by
   have hj':j<rs.length:=by simpa using hj
   rw [Jd hj,List.getElem_map]
   exact h1 j _ (Jd hj'))
  (fun j hj=>by
   have hj':j<cs.length:=by simpa using hj
   rw [Jd hj,List.getElem_map]
   exact h2 j _ (Jd hj'))
 rw [Jj] at this
 exact this
theorem Strips.rc_of{w h:Int}{F:List Int}{rs cs:List [88]}(S:Strips w h F rs cs){f:Int}(hf:f ∈ F):idx [22] f=[(rc [22] f).1,(rc [22] f).2]/\(rc [22] f).1<rs.length/\rs.length≤(rc [22] f).2/\(rc [22] f).2<rs.length+cs.length:=by
 obtain ⟨r,c,h1,h2,h3,h4⟩:=S.pair hf
 simp only [rc,h1]
 exact ⟨trivial,h2,h3,h4⟩
theorem zeZ{T:List Int}{k:Nat}(h:k<T.length):atI (T.map PV.int) (k:Int)=some (.int (T.getD k 0)):=by
 rw [_root_.F.atI_nat (by simpa using h)]
 simp [List.getD,h]
end Cb
namespace F
open PySem L2
theorem zlx{L:List Int}{p:Int}(h:p ∈ L):∃ j,kIx (L.map Sum.inl) (.inl p)=some j/\j<L.length/\L[j]?=some p:=by
 cases hj:kIx (L.map Sum.inl) (.inl p) with
 | none=>
  have:=zcR hj
  rw [vG,decide_eq_false_iff_not] at this
  exact absurd h this
 | some j=>
  have h1:=zeK hj
  have h2:=zhC hj
  rw [Jj] at h2
  rw [JK,Jd h2] at h1
  refine ⟨j,rfl,h2,?_⟩
  rw [Jd h2]
  have:Sum.inl L[j]=(Sum.inl p:Key):=Jq h1
  rw [Sum.inl.inj this]
theorem zjI{L:List Int}{p:Int}(h:p ∉ L):kIx (L.map Sum.inl) (.inl p)=none:=by
 cases hj:kIx (L.map Sum.inl) (.inl p) with
 | none=>rfl
 | some j=>
  have h1:=zeK hj
  rw [JK] at h1
  obtain ⟨q,h2,h3⟩:=JM.mp h1
  cases h3
  exact absurd (JN h2) h
theorem zkO{L:List Int}{G:Int->PV}{p:Int}{q:PV}{j:Nat}(nd:L.Nodup)(hj:L[j]?=some p):(L.map G).set j q=L.map (upF G p q):=by
 apply Qi
 intro t
 rw [KH,JK,JK]
 obtain ⟨h1,h2⟩:=Jp.mp hj
 by_cases e:j=t
 ·subst e
  rw [if_pos rfl,List.length_map,if_pos h1,List.getElem?_eq_getElem h1,h2];simp
 ·rw [if_neg e]
  cases ht:L[t]? with
  | none=>rfl
  | some y=>
   have hy:y≠p:=fun z=>by
    subst z
    obtain ⟨t1,t2⟩:=Jp.mp ht
    rcases Nat.lt_trichotomy j t with w | w | w
    ·exact Jy.mp nd j t h1 t1 w (by rw [h2,t2])
    ·exact e w
    ·exact Jy.mp nd t j t1 h1 w (by rw [h2,t2])
   simp [uA hy]
theorem zel{L:List Int}{G:Int->PV}{p:Int}{q:PV}(h:p ∉ L):PV.dct (L.map Sum.inl++[.inl p]) (L.map G++[q])=dF (L++[p]) (upF G p q):=by
 unfold dF
 rw [Kd,Kd]
 congr 1
 simp only [List.map_cons,List.map_nil,wK]
 congr 1
 exact KZ fun a ha=>(uA (show a≠p from fun z=>h (by rw [← z];exact ha))).symm
theorem zdv{env:En}{i:Nat}{fk f:FE}{L:List Int}{G:Int->PV}{p:Int}{qs:List PV}{q:PV}(hl:zA i env=some (dF L G))(hk:fk env=some (.int p))(nd:L.Nodup)(hp:p ∈ L)(hG:G p=.lst qs)(hq:f env=some q)(hL:L.length<100000)(hz:qs.length<100000):
  vj i fk f env=some (.nx (env.set i (some (dF L (upF G p (.lst (qs++[q]))))))):=by
 obtain ⟨j,h1,h2,h3⟩:=zlx hp
 unfold vj
 rw [hl,hk,Jc,Jc]
 have hg:(L.map G)[j]?=some (.lst qs):=by rw [List.getElem?_map,h3];simp [hG]
 simp only [dF,List.length_map,hL,if_true,xx,Option.bind_some,h1,hg,hq,hz,zkO nd h3]
theorem zdw{env:En}{i:Nat}{fk f:FE}{L:List Int}{G:Int->PV}{p:Int}{q:PV}(hl:zA i env=some (dF L G))(hk:fk env=some (.int p))(hp:p ∉ L)(hq:f (env.set i (some (dF (L++[p]) (upF G p (.lst [])))))=some q)(hL:L.length<100000):
  vj i fk f env=some (.nx (env.set i (some (dF (L++[p]) (upF G p (.lst [q])))))):=by
 unfold vj
 rw [hl,hk,Jc,Jc]
 have e0:=zel (G:=G) (q:=.lst []) hp
 have e1:(L.map G++[PV.lst []]).set (L.map G).length (.lst [q])=L.map G++[.lst [q]]:=by simp
 have e2:=zel (G:=G) (q:=.lst [q]) hp
 simp only [dF,List.length_map,hL,if_true,xx,Option.bind_some,zjI hp]
 rw [e0,hq,Jc]
 rw [Jj] at e1
 rw [e1,e2]
 rw [List.set_set]
 rfl
theorem ziW{env:En}{i:Nat}{fk f:FE}{L:List Int}{G:Int->PV}{p:Int}{q:PV}(hl:zA i env=some (dF L G))(hk:fk env=some (.int p))(hp:p ∉ L)(hq:f env=some q)(hL:L.length<100000):
  zcV i fk f env=some (.nx (env.set i (some (dF (L++[p]) (upF G p q))))):=by
 unfold zcV
 rw [hq,hl,hk,Jc,Jc,Jc]
 have hn:jX (L.map Sum.inl) (.inl p)=false:=by rw [vG];exact decide_eq_false hp
 simp only [dF,xx,Option.bind_some,hn,List.length_map,hL,decide_true,Bool.not_false,Bool.and_self,if_true,zel hp]
theorem zjO{L:List Int}{G:Int->PV}{p:Int}{x:PV}:zce (dF L G) (.int p) x=some (if p ∈ L then G p else x):=by
 simp only [dF,zce,xx,Option.map_some]
 by_cases h:p ∈ L
 ·rw [if_pos h,zbI h];rfl
 ·rw [if_neg h,zaP h];rfl
end F
namespace Cb
open PySem L2 F CB PyProof.Rows
noncomputable def vz:FS:=(vj 1 (fOp vIx (zA 2) [21]) (z7 (zA 2)))
noncomputable def wu:FS:=(ze (yA 1 kA)
 (ze (xy (zq (zA 0)) (zN 2) vz)
 (yQ (zA 1))))
noncomputable def xE:List PV->Option PV:=fnV 3 wu
noncomputable def xK:FS:=(xM (fT (fOp yx (fOp vIx (zA 6) [26]) (zA 2))) (ze (zcV 2 (fOp vIx (zA 6) [26]) (fOp xR (fOp vIx (zA 2) (zA 5)) (xU (zC (fOp vIx (zA 6) [23]) zJ))))
 (zw 4 (z7 (fOp vIx (zA 6) [26])))) fNx)
noncomputable def yo:FT:=(fT (fOp vGt (zI xr (zC (zA 4) zJ)) [21]))
noncomputable def wW:FS:=(ze (zeR 5 4)
 (xy (zq (zeS (zA 3) (zA 5) (xU zJ))) (zN 6) xK))
noncomputable def ve:FS:=(ze (yA 2 (zbG (zA 1) (xU zJ)))
 (ze (yA 3 (zI xE [62]))
 (ze (yA 4 (xU (zC (z7 (zA 1)) zJ)))
 (ze (fWh yo wW 1000000)
 (yQ (zA 2))))))
noncomputable def xX:List PV->Option PV:=fnV 7 ve
noncomputable abbrev Stp:=Int × Int × PV
noncomputable def zk(s:Stp):PV:=.tup [.int s.1,.int s.2.1,s.2.2]
inductive Path (ss:List Stp) (a:Int):List PV->Int->Prop where
 | nil:Path ss a [] a
 | snoc {ms:List PV} {b:Int} {s:Stp}:Path ss a ms b->s ∈ ss->s.1=b->Path ss a (ms++[s.2.2]) s.2.1
inductive SPath (ss:List Stp) (a:Int):List PV->List Int->Int->Prop where
 | nil:SPath ss a [] [a] a
 | snoc {ms:List PV} {vs:List Int} {b:Int} {s:Stp}:SPath ss a ms vs b->s ∈ ss->s.1=b->s.2.1 ∉ vs->SPath ss a (ms++[s.2.2]) (vs++[s.2.1]) s.2.1
theorem zfD{ss:List Stp}(hd:∀ s ∈ ss,zj s.2.2=true)(hl:ss.length≤10000):∃ L G,xE [.lst (ss.map zk)]=some (dF L G)/\∀ p,(if p ∈ L then G p else .lst [])=.lst ((ss.filter fun s=>decide (s.1=p)).map zk):=by
 let mk:List Int->(Int->PV)->Option PV->En:=fun L G x=>[some (.lst (ss.map zk)),some (dF L G),x]
 obtain ⟨e,h1,L,G,x,rfl,nd,h2,h3,h4⟩:=wC (b:=zN 2) (g:=vz) (xs:=ss) (hh:=zk) (env:=mk [] (fun _=>.non) none)
  (fun pre e=>∃ L G x,e=mk L G x/\L.Nodup/\(∀ p,p ∈ L ↔ ∃ s ∈ pre,s.1=p)/\(∀ p ∈ L,G p=.lst ((pre.filter fun s=>decide (s.1=p)).map zk))/\L.length≤pre.length)
  ⟨[],_,none,rfl,.nil,by simp,by simp,by simp⟩ (by
   rintro pre s post e hp ⟨L,G,x,rfl,nd,h2,h3,h4⟩
   have hs:s ∈ ss:=by rw [hp];simp
   have hds:zj (zk s)=true:=by simp [zk,hd s hs]
   have hpl:pre.length<10000:=by have:=congrArg List.length hp;rw [Jo,JD] at this;omega
   have hk:∀ L G,fOp vIx (zA 2) [21] (mk L G (some (zk s)))=some (.int s.1):=fun L G=>by simp [mk,zk]
   have hf:∀ L G,z7 (zA 2) (mk L G (some (zk s)))=some (zk s):=fun L G=>by simp only [mk,zbS,zaf,List.getElem?_cons_succ,List.getElem?_cons_zero,Option.join_some,Option.bind_some,hds,if_true]
   refine ⟨mk L G (some (zk s)),?_⟩
   by_cases hL:s.1 ∈ L
   ·have hz:((pre.filter fun t=>decide (t.1=s.1)).map zk).length<100000:=by
     rw [Jj]
     have:=Kg (fun t:Stp=>decide (t.1=s.1)) pre
     omega
    refine ⟨_,rfl,.inl (zdv (i:=1) rfl (hk L G) nd hL (h3 _ hL) (hf L G) [8] hz),L,_,_,rfl,nd,fun p=>?_,fun p hp'=>?_,by simp;omega⟩
    ·rw [h2 p]
     constructor
     ·rintro ⟨t,ht,e⟩;exact ⟨t,Jm _ ht,e⟩
     ·rintro ⟨t,ht,e⟩
      rcases List.mem_append.mp ht with ht | ht
      ·exact ⟨t,ht,e⟩
      ·rw [Jh.mp ht] at e
       rw [← h2 p,← e];exact hL
    ·rw [Qb,Kd]
     by_cases e:p=s.1
     ·subst e;rw [wK];simp
     ·have e':¬ s.1=p:=fun z=>e z.symm
      rw [uA e,h3 p hp'];simp [e']
   ·refine ⟨_,rfl,.inl (zdw (i:=1) rfl (hk L G) hL (hf _ _) [8]),L++[s.1],_,_,rfl,?_,fun p=>?_,fun p hp'=>?_,by simp;omega⟩
    ·exact List.nodup_append.mpr ⟨nd,by simp,fun a ha b hb=>by rw [List.mem_singleton.mp hb];exact fun e=>hL (e ▸ ha)⟩
    ·rw [JQ,Jh,h2 p]
     constructor
     ·rintro (⟨t,ht,e⟩ | e)
      ·exact ⟨t,Jm _ ht,e⟩
      ·exact ⟨s,by simp,e.symm⟩
     ·rintro ⟨t,ht,e⟩
      rcases List.mem_append.mp ht with ht | ht
      ·exact .inl ⟨t,ht,e⟩
      ·rw [Jh.mp ht] at e;exact .inr e.symm
    ·rw [Qb,Kd]
     by_cases e:p=s.1
     ·subst e
      rw [wK]
      have:(pre.filter fun t=>decide (t.1=s.1))=[]:=by
       rw [List.filter_eq_nil_iff]
       intro t ht hc
       exact hL ((h2 _).mpr ⟨t,ht,of_decide_eq_true hc⟩)
      simp [this]
     ·have e':¬ s.1=p:=fun z=>e z.symm
      rw [uA e,h3 p ((List.mem_append.mp hp').resolve_right fun z=>e (List.mem_singleton.mp z))];simp [e'])
 refine ⟨L,G,?_,fun p=>?_⟩
 ·refine xI (e:=mk L G x) [some (.lst (ss.map zk)),none,none] rfl ?_
  unfold wu
  rw [zL (e:=mk [] (fun _=>.non) none) (by simp [mk];rfl)]
  rw [zL (e:=mk L G x) (by rw [wF];exact h1)]
  rfl
 ·by_cases h:p ∈ L
  ·rw [if_pos h,h3 p h]
  ·rw [if_neg h]
   have:(ss.filter fun s=>decide (s.1=p))=[]:=by
    rw [List.filter_eq_nil_iff]
    intro t ht hc
    exact h ((h2 _).mpr ⟨t,ht,of_decide_eq_true hc⟩)
   rw [this];rfl
structure Wk (ss:List Stp) (start:Int) (U:List Int) (L:List Int) (ws:Int->List PV) (Q ex:List Int):Prop where
 nd:L.Nodup
 sub:∀ s ∈ L,s ∈ U
 st:start ∈ L
 path:∀ s ∈ L,Path ss start (ws s) s/\(ws s).length+1≤L.length
 w0:ws start=[]
 dat:∀ s ∈ L,isDatas (ws s)=true
 once:∀ s ∈ L,∃ vs,SPath ss start (ws s) vs s/\∀ v ∈ vs,v ∈ L
 qs:∀ q ∈ Q,q ∈ L
 cl:∀ s ∈ L,s ∉ Q->s ∉ ex->∀ t ∈ ss,t.1=s->t.2.1 ∈ L
noncomputable def upW(ws:Int->List PV)(p:Int)(q:List PV):Int->List PV:=fun y=>if y=p then q else ws y
theorem Wk.grow{ss:List Stp}{start:Int}{U L:List Int}{ws:Int->List PV}{Q ex:List Int}(w:Wk ss start U L ws Q ex){h:Int}(hh:h ∈ L){s:Stp}(hs:s ∈ ss)(e:s.1=h)(hn:s.2.1 ∉ L)(hU:s.2.1 ∈ U)(hd:zj s.2.2=true):
  Wk ss start U (L++[s.2.1]) (upW ws s.2.1 (ws h++[s.2.2])) (Q++[s.2.1]) ex:=by
 have ne:∀ {p},p ∈ L->p≠s.2.1:=fun hp z=>hn (z ▸ hp)
 refine ⟨?_,?_,Jm _ w.st,?_,?_,?_,?_,?_,?_⟩
 ·exact List.nodup_append.mpr ⟨w.nd,by simp,fun a ha b hb=>by rw [List.mem_singleton.mp hb];exact ne ha⟩
 ·intro p hp
  rcases List.mem_append.mp hp with hp | hp
  ·exact w.sub p hp
  ·rw [Jh.mp hp];exact hU
 ·intro p hp
  rcases List.mem_append.mp hp with hp | hp
  ·have:=w.path p hp
   unfold upW
   rw [if_neg (ne hp),Jo]
   exact ⟨this.1,by omega⟩
  ·rw [Jh.mp hp]
   have:=w.path h hh
   unfold upW
   rw [if_pos rfl,Jo,Jo]
   exact ⟨.snoc this.1 hs e,by simp;omega⟩
 ·unfold upW;rw [if_neg (ne w.st)];exact w.w0
 ·intro p hp
  rcases List.mem_append.mp hp with hp | hp
  ·unfold upW;rw [if_neg (ne hp)];exact w.dat p hp
  ·rw [List.mem_singleton.mp hp];unfold upW;rw [if_pos rfl,xC,w.dat h hh];simp [hd]
 ·intro p hp
  rcases List.mem_append.mp hp with hp | hp
  ·obtain ⟨vs,v1,v2⟩:=w.once p hp
   unfold upW
   rw [if_neg (ne hp)]
   exact ⟨vs,v1,fun v hv=>Jm _ (v2 v hv)⟩
  ·rw [Jh.mp hp]
   obtain ⟨vs,v1,v2⟩:=w.once h hh
   unfold upW
   rw [if_pos rfl]
   refine ⟨vs++[s.2.1],.snoc v1 hs e fun z=>hn (v2 _ z),fun v hv=>?_⟩
   rcases List.mem_append.mp hv with hv | hv
   ·exact Jm _ (v2 v hv)
   ·exact Js _ hv
 ·intro q hq
  rcases List.mem_append.mp hq with hq | hq
  ·exact Jm _ (w.qs q hq)
  ·exact Js _ hq
 ·intro p hp hq hx t ht e'
  rw [JQ,not_or] at hq
  rcases List.mem_append.mp hp with hp | hp
  ·exact Jm _ (w.cl p hp hq.1 hx t ht e')
  ·exact absurd hp hq.2
theorem zgk{ss:List Stp}{start:Int}{U:List Int}(hd:∀ s ∈ ss,zj s.2.2=true)(hl:ss.length≤10000)(hU:∀ s ∈ ss,s.2.1 ∈ U)(hs:start ∈ U)(hUl:U.length≤1000):
  ∃ L ws,xX [.lst (ss.map zk),.int start]=some (dF L fun s=>.lst (ws s))/\Wk ss start U L ws [] []:=by
 obtain ⟨LO,GO,ho,hO⟩:=zfD hd hl
 let mk:List Int->(Int->List PV)->List Int->Option PV->Option PV->En:=fun L ws Q x y=>[some (.lst (ss.map zk)),some (.int start),some (dF L fun s=>.lst (ws s)),some (dF LO GO),some (.lst (Q.map PV.int)),x,y]
 have upE:∀ (L:List Int) (ws:Int->List PV) (p:Int) (q:List PV),dF L (upF (fun s=>.lst (ws s)) p (.lst q))=dF L fun s=>.lst (upW ws p q s):=fun L ws p q=>by
  congr 1
  funext y
  unfold upF upW
  split<;>rfl
 have loop:=zdj (t:=yo) (g:=wW) (fun e=>∃ L ws Q x y,e=mk L ws Q x y/\Wk ss start U L ws Q []/\Q.length≤L.length)
  (fun e=>match e with | [_,_,some (.dct ks _),_,some (.lst q),_,_]=>2 * (U.length - ks.length)+q.length | _=>0) ?_ 1000000 (mk [start] (fun _=>[]) [start] none none)
  ⟨[start],_,[start],none,none,rfl,⟨by simp,fun s h=>by rw [List.mem_singleton.mp h];exact hs,by simp,fun s h=>by rw [List.mem_singleton.mp h];exact ⟨.nil,by simp⟩,rfl,fun _ _=>rfl,fun s h=>⟨[start],by rw [List.mem_singleton.mp h];exact .nil,fun v hv=>hv⟩,fun q h=>h,fun s h h'=>absurd h h'⟩,by simp⟩ (by simp [mk,dF];omega)
 ·obtain ⟨e,h1,⟨L,ws,Q,x,y,rfl,w,_⟩,h2⟩:=loop
  have hQ:Q=[]:=by
   cases Q with
   | nil=>rfl
   | cons a r=>simp [yo,mk] at h2
  subst hQ
  refine ⟨L,ws,?_,w⟩
  refine xI (e:=mk L ws [] x y) [some (.lst (ss.map zk)),some (.int start),none,none,none,none,none] rfl ?_
  unfold ve
  rw [zL (e:=[some (.lst (ss.map zk)),some (.int start),some (dF [start] fun s=>.lst []),none,none,none,none]) (by simp [zbG,xx,dF])]
  rw [zL (ya (as:=[.lst (ss.map zk)]) rfl ho)]
  rw [zL (e:=mk [start] (fun _=>[]) [start] none none) (by simp [mk])]
  rw [zL h1]
  rfl
 ·rintro e ⟨L,ws,Q,x,y,rfl,w,hQl⟩
  have hLl:L.length≤U.length:=zS L U w.nd w.sub
  cases Q with
  | nil=>exact .inl (by simp [yo,mk])
  | cons h Q=>
   refine .inr ⟨by simp [yo,mk],?_⟩
   have hh:h ∈ L:=w.qs h Jg
   have w1:Wk ss start U L ws Q [h]:=⟨w.nd,w.sub,w.st,w.path,w.w0,w.dat,w.once,fun q hq=>w.qs q (List.mem_cons_of_mem _ hq),fun s hs hq hx t ht e=>w.cl s hs (fun z=>(List.mem_cons.mp z).elim (fun z=>hx (z ▸ List.mem_singleton.mpr rfl)) hq) [12] t ht e⟩
   obtain ⟨e',g1,L',ws',Q',y',rfl,w',hcl,hsub,hle⟩:=wC (b:=zN 6) (g:=xK) (xs:=ss.filter fun s=>decide (s.1=h)) (hh:=zk) (env:=mk L ws Q (some (.int h)) y)
    (fun pre e=>∃ L' ws' Q' y',e=mk L' ws' Q' (some (.int h)) y'/\Wk ss start U L' ws' Q' [h]/\(∀ s ∈ pre,s.2.1 ∈ L')/\h ∈ L'/\Q'.length+L.length=Q.length+L'.length/\L.length≤L'.length)
    ⟨L,ws,Q,y,rfl,w1,by simp,hh,rfl,Nat.le_refl _⟩ (by
     rintro pre s post e hp ⟨L',ws',Q',y',rfl,w',hcl,hh',hsz,hle⟩
     have hsm:s ∈ ss.filter fun s=>decide (s.1=h):=by rw [hp];simp
     obtain ⟨hss,hs1⟩:=Ki.mp hsm
     have hs1:=of_decide_eq_true hs1
     have hL'l:L'.length≤U.length:=zS L' U w'.nd w'.sub
     refine ⟨mk L' ws' Q' (some (.int h)) (some (zk s)),?_⟩
     have hi1:fOp vIx (zA 6) [26] (mk L' ws' Q' (some (.int h)) (some (zk s)))=some (.int s.2.1):=by simp [mk,zk]
     by_cases hin:s.2.1 ∈ L'
     ·refine ⟨mk L' ws' Q' (some (.int h)) (some (zk s)),rfl,.inl ?_,L',ws',Q',_,rfl,w',?_,hh',hsz,hle⟩
      ·have ht:fT (fOp yx (fOp vIx (zA 6) [26]) (zA 2)) (mk L' ws' Q' (some (.int h)) (some (zk s)))=some false:=by
        rw [jg,yc,hi1]
        simp [mk,hin]
       unfold xK
       rw [yP,ht,Jc,if_neg Je];rfl
      ·intro t ht
       rcases List.mem_append.mp ht with ht | ht
       ·exact hcl t ht
       ·rw [Jh.mp ht];exact hin
     ·have w2:=w'.grow hh' hss hs1 hin (hU s hss) (hd s hss)
      have hpl:=(w'.path h hh').2
      refine ⟨mk (L'++[s.2.1]) (upW ws' s.2.1 (ws' h++[s.2.2])) (Q'++[s.2.1]) (some (.int h)) (some (zk s)),rfl,.inl ?_,_,_,_,_,rfl,w2,?_,List.mem_append_left _ hh',by simp;omega,by simp;omega⟩
      ·have ht:fT (fOp yx (fOp vIx (zA 6) [26]) (zA 2)) (mk L' ws' Q' (some (.int h)) (some (zk s)))=some true:=by
        rw [jg,yc,hi1]
        simp [mk,hin]
       have hadd:fOp xR (fOp vIx (zA 2) (zA 5)) (xU (zC (fOp vIx (zA 6) [23]) zJ)) (mk L' ws' Q' (some (.int h)) (some (zk s)))=some (.lst (ws' h++[s.2.2])):=by
        have:vIx (dF L' fun s=>.lst (ws' s)) (.int h)=some (.lst (ws' h)):=zcS hh'
        simp [mk,this,zk,xR,w'.dat h hh',hd s hss,show (ws' h).length+1≤100000 by omega]
       have hput:=ziW (i:=2) (env:=mk L' ws' Q' (some (.int h)) (some (zk s))) rfl hi1 hin hadd [8]
       unfold xK
       rw [yP,ht,Jc,if_pos rfl,zL hput,upE]
       have hQz:Q'.length<100000:=by simp only [List.length_cons] at hQl;omega
       show zw 4 (z7 (fOp vIx (zA 6) [26])) (mk (L'++[s.2.1]) (upW ws' s.2.1 (ws' h++[s.2.2])) Q' (some (.int h)) (some (zk s)))=_
       simp [zw,mk,zk,hQz]
      ·intro t ht
       rcases List.mem_append.mp ht with ht | ht
       ·exact Jm _ (hcl t ht)
       ·rw [List.mem_singleton.mp ht];simp)
   have hL'l:L'.length≤U.length:=zS L' U w'.nd w'.sub
   obtain ⟨hh',hsz,hle⟩:=(⟨hsub,hle.1,hle.2⟩:h ∈ L'/\Q'.length+L.length=Q.length+L'.length/\L.length≤L'.length)
   simp only [List.length_cons] at hQl
   refine ⟨mk L' ws' Q' (some (.int h)) y',.inl ?_,⟨L',ws',Q',_,_,rfl,⟨w'.nd,w'.sub,w'.st,w'.path,w'.w0,w'.dat,w'.once,w'.qs,fun s hs hq _ t ht e=>?_⟩,by omega⟩,by simp [mk,dF];omega⟩
   ·unfold wW
    rw [zL (e:=mk L ws Q (some (.int h)) y) (by simp [zeR,mk])]
    rw [wF]
    have hg:zq (zeS (zA 3) (zA 5) (xU zJ)) (mk L ws Q (some (.int h)) y)=some ((ss.filter fun s=>decide (s.1=h)).map zk):=by
     rw [zag]
     show ((zce (dF LO GO) (.int h) (.lst [])).bind xk)=_
     rw [zjO,hO h];rfl
    rw [hg,Jc]
    exact g1
   ·by_cases hx:s=h
    ·subst hx
     exact hcl t (Ki.mpr ⟨ht,decide_eq_true e⟩)
    ·exact w'.cl s hs hq (by simpa using hx) t ht e
noncomputable def xT:FS:=(yQ (xU (zC (vH (zC (z7 (zA 0)) (zC (z7 (zA 1)) (zC (z7 (zA 2)) zJ)))) (zC (vH (zC (z7 (zA 1)) (zC (z7 (zA 0)) (zC (z7 (zA 2)) zJ)))) zJ))))
noncomputable def zp:List PV->Option PV:=fnV 3 xT
noncomputable def xw:FS:=(vI 3 (zI zp [69]))
noncomputable def wx:FS:=(ze (yA 2 (zI z9 [62]))
 (ze (yA 3 (xU zJ))
 (ze (xy (zq (zA 1)) (zN 4) xw)
 (yQ (zA 3)))))
noncomputable def ym:List PV->Option PV:=fnV 5 wx
noncomputable def uI:FS:=(yQ (zI xX (zC (zI ym (zC (zA 0) (zC (zA 1) zJ))) (zC (zA 2) zJ))))
noncomputable def xD:List PV->Option PV:=fnV 3 uI
noncomputable def j7:FS:=(yQ (fLC (xP (zC (zI xr (zC (zI zd [62]) zJ)) zJ)) 1 [1] (zN 0) v6 (fIf (fT (fOp x9 (zA 0) (zA 1))) [26] [21])))
noncomputable def wI:List PV->Option PV:=fnV 2 j7
noncomputable def xb(ls:List (List Int))(f:Int):List Stp:=[(((rc ls f).1:Int),((rc ls f).2:Int),.int f),(((rc ls f).2:Int),((rc ls f).1:Int),.int f)]
noncomputable def yH(ls:List (List Int))(B:List Int):List Stp:=B.flatMap (xb ls)
theorem mem_bSteps{ls:List (List Int)}{B:List Int}{s:Stp}:s ∈ yH ls B ↔ ∃ f ∈ B,s=(((rc ls f).1:Int),((rc ls f).2:Int),PV.int f)∨s=(((rc ls f).2:Int),((rc ls f).1:Int),PV.int f):=by
 unfold yH xb
 rw [List.mem_flatMap]
 simp only [List.mem_cons,List.not_mem_nil,or_false]
theorem zae(ls:List (List Int))(B:List Int):(yH ls B).length=2 * B.length:=by
 unfold yH xb
 induction B with
 | nil=>rfl
 | cons a r ih=>rw [List.flatMap_cons,List.length_append,ih];simp;omega
theorem zac{w h:Int}{F:List Int}{rs cs:List [88]}{L:List Int}{G:Int->PV}(S:Strips w h F rs cs)(C:Cross w h F [22] L G){B:List Int}(hB:∀ f ∈ B,f ∈ F)(hl:B.length≤1000):
  ym [flV w h F,.lst [24]]=some (.lst ((yH [22] B).map zk)):=by
 let mk:List Stp->Option PV->En:=fun ss x=>[some [57],some (.lst [24]),some (dF L G),some (.lst (ss.map zk)),x]
 obtain ⟨e,h1,x,rfl⟩:=wC (b:=zN 4) (g:=xw) (xs:=B) (hh:=PV.int) (env:=mk [] none)
  (fun pre e=>∃ x,e=mk (yH [22] pre) x) ⟨none,rfl⟩ (by
   rintro pre f post e hp ⟨x,rfl⟩
   have hf:=hB f (by rw [hp];simp)
   obtain ⟨hi,_⟩:=S.rc_of hf
   have hpl:pre.length<1000:=by have:=congrArg List.length hp;rw [Jo,JD] at this;omega
   have hbl:=zae [22] pre
   have hix:=C.ix hf hi
   have happ:yH [22] (pre++[f])=yH [22] pre++xb [22] f:=by simp [yH]
   have htb:zp [.int ((rc [22] f).1:Int),.int ((rc [22] f).2:Int),.int f]=some (.lst ((xb [22] f).map zk)):=by
    simp [zp,fnV,xT,xb,zk]
   generalize rc [22] f=p at hix htb
   have hc:zI zp [69] (mk (yH [22] pre) [58])=some (.lst ((xb [22] f).map zk)):=yB (as:=[.int (p.1:Int),.int (p.2:Int),.int f]) (by simp [mk,hix]) htb
   refine ⟨_,mk (yH [22] (pre++[f])) [58],rfl,.inl ?_,_,rfl⟩
   unfold xw vI
   have hv:zA 3 (mk (yH [22] pre) [58])=some (.lst ((yH [22] pre).map zk)):=rfl
   show ((zA 3 (mk (yH [22] pre) [58])).bind fun l=>(zI zp [69] (mk (yH [22] pre) [58])).bind fun q=>_)=_
   rw [hv,hc]
   have hdd:isDatas ((xb [22] f).map zk)=true:=by simp [xb,zk]
   simp only [Option.bind_some,zgH,hdd,true_and,List.length_map,hbl,show (xb [22] f).length=2 from rfl,show 2 * pre.length+2≤100000 by omega,if_true]
   rw [← Kd,← happ]
   rfl)
 refine xI (e:=mk (yH [22] B) x) [some [57],some (.lst [24]),none,none,none] rfl ?_
 unfold wx
 rw [zL (ya (as:=[flV w h F]) rfl C.val)]
 rw [zL (e:=mk [] none) (by simp [mk])]
 rw [zL (e:=mk (yH [22] B) x) (by rw [wF];exact h1)]
 rfl
noncomputable def zdm(n:Nat):List Int:=(List.range n).map fun (i:Nat)=>(i:Int)
theorem zcG{n:Nat}{k:Int}:k ∈ zdm n ↔ 0≤k/\k<n:=by
 unfold zdm
 rw [Jv]
 constructor
 ·rintro ⟨i,hi,rfl⟩
  have:=Jt.mp hi
  omega
 ·intro h
  exact ⟨k.toNat,Jt.mpr [8],by omega⟩
theorem qB(n:Nat):(zdm n).length=n:=by simp [zdm]
theorem ziu{w h:Int}{F:List Int}{rs cs:List [88]}{L:List Int}{G:Int->PV}(S:Strips w h F rs cs)(C:Cross w h F [22] L G){B:List Int}(hB:∀ f ∈ B,f ∈ F)(hl:B.length≤1000){k:Nat}(hk:k<rs.length+cs.length):
  ∃ L ws,xD [flV w h F,.lst [24],.int k]=some (dF L fun s=>.lst (ws s))/\Wk (yH [22] B) k (zdm (rs.length+cs.length)) L ws [] []:=by
 have hlen:=S.lens
 obtain ⟨L',ws,h1,h2⟩:=zgk (ss:=yH [22] B) (start:=k) (U:=zdm (rs.length+cs.length)) (fun s hs=>by
   obtain ⟨f,_,e | e⟩:=mem_bSteps.mp hs<;>(rw [e];rfl)) (by rw [zae];omega) (fun s hs=>by
   obtain ⟨f,hf,e⟩:=mem_bSteps.mp hs
   obtain ⟨_,q1,q2,q3⟩:=S.rc_of (hB f hf)
   rw [zcG]
   rcases e with e | e<;>(rw [e];constructor<;>(simp only;omega))) (by rw [zcG];omega) (by rw [qB];omega)
 refine ⟨L',ws,?_,h2⟩
 refine xI (e:=[some [57],some (.lst [24]),some (.int k)]) [some [57],some (.lst [24]),some (.int k)] rfl ?_
 unfold uI
 rw [vq]
 have hb:=zac S C hB hl
 have hc:zI ym (zC (zA 0) (zC (zA 1) zJ)) [some [57],some (.lst [24]),some (.int k)]=some (.lst ((yH [22] B).map zk)):=yB (as:=[flV w h F,.lst [24]]) rfl hb
 rw [yB (as:=[.lst ((yH [22] B).map zk),.int k]) (by rw [zg,hc];rfl) h1]
 rfl
noncomputable def zcM(n:Nat)(L:List Int):List Int:=(List.range n).map fun (i:Nat)=>if (i:Int) ∈ L then 1 else 0
theorem zds{w h:Int}{F:List Int}{rs cs:List [88]}(hs:zd [flV w h F]=some [73])(env:En)(he:env[0]?=some (some [57])):zI xr (zC (zI zd [62]) zJ) env=some (.int ((rs.length+cs.length:Nat):Int)):=by
 have h1:zI zd [62] env=some [73]:=yB (as:=[flV w h F]) (by simp [he]) hs
 refine yB (as:=[.lst ((v4 w rs cs).map zh)]) (by rw [zg,h1];rfl) ?_
 rw [zjD]
 simp [v4]
theorem zdO{w h:Int}{F:List Int}{rs cs:List [88]}(S:Strips w h F rs cs)(hs:zd [flV w h F]=some [73])(L:List Int)(G:Int->PV):wI [flV w h F,dF L G]=some (.lst ((zcM (rs.length+cs.length) L).map PV.int)):=by
 have hlen:=S.lens
 refine xI (e:=[some [57],some (dF L G)]) [some [57],some (dF L G)] rfl ?_
 unfold j7
 have hr:xP (zC (zI xr (zC (zI zd [62]) zJ)) zJ) [some [57],some (dF L G)]=some (uZ 0 (rs.length+cs.length)):=by
  refine zeA (j:=((rs.length+cs.length:Nat):Int)) ?_ [8] [8]
  rw [zg,zds hs _ rfl];rfl
 rw [vq,zio,hr,Jc,jM,if_pos [8]]
 have hce:cE 1 [1] [some [57],some (dF L G)]=[none,some (dF L G)]:=rfl
 rw [hce]
 have hc:yI (zN 0) v6 (fIf (fT (fOp x9 (zA 0) (zA 1))) [26] [21]) (uZ 0 (rs.length+cs.length)) [none,some (dF L G)]=some ((List.range (rs.length+cs.length)).map fun (i:Nat)=>PV.int (if (i:Int) ∈ L then 1 else 0)):=by
  unfold uZ
  refine xp (hh:=fun (i:Nat)=>PV.int (0+(i:Int))) (fun (i:Nat)=>PV.int (if (i:Int) ∈ L then 1 else 0)) _ fun i _=>⟨_,rfl,rfl,?_⟩
  by_cases hi:(i:Int) ∈ L<;>simp [hi]
 rw [hc]
 simp [zcM,List.map_map,Function.comp_def]
inductive Way (ls:List (List Int)) (B:List Int) (a:Nat):List Int->Nat->Prop where
 | nil:Way ls B a [] a
 | snoc {fs:List Int} {b e:Nat} {f:Int}:Way ls B a fs b->f ∈ B->((rc ls f)=(b,e)∨(rc ls f)=(e,b))->Way ls B a (fs++[f]) e
inductive SWay (ls:List (List Int)) (B:List Int) (a:Nat):List Int->List Nat->Nat->Prop where
 | nil:SWay ls B a [] [a] a
 | snoc {fs:List Int} {vs:List Nat} {b e:Nat} {f:Int}:SWay ls B a fs vs b->f ∈ B->(rc ls f=(b,e)∨rc ls f=(e,b))->e ∉ vs->SWay ls B a (fs++[f]) (vs++[e]) e
theorem SPath.way{ls:List (List Int)}{B:List Int}{a:Nat}{ms:List PV}{us:List Int}{e:Int}(p:SPath (yH ls B) a ms us e):∃ (fs:List Int) (vs:List Nat) (k:Nat),ms=fs.map PV.int/\us=vs.map (fun (v:Nat)=>(v:Int))/\e=k/\SWay ls B a fs vs k:=by
 induction p with
 | nil=>exact ⟨[],[a],a,rfl,rfl,rfl,.nil⟩
 | @snoc ms us b s _ hs hb hn ih=>
  obtain ⟨fs,vs,k,rfl,rfl,rfl,w⟩:=ih
  have nv:∀ {e:Nat},((e:Nat):Int) ∉ vs.map (fun (v:Nat)=>(v:Int))->e ∉ vs:=fun h z=>h (Jv.mpr ⟨_,z,rfl⟩)
  obtain ⟨f,hf,e | e⟩:=mem_bSteps.mp hs
  ·subst e
   have hb':(rc ls f).1=k:=by simp only at hb;omega
   exact ⟨fs++[f],vs++[(rc ls f).2],(rc ls f).2,by simp,by simp,rfl,.snoc w hf (.inl (by rw [← hb'])) (nv hn)⟩
  ·subst e
   have hb':(rc ls f).2=k:=by simp only at hb;omega
   exact ⟨fs++[f],vs++[(rc ls f).1],(rc ls f).1,by simp,by simp,rfl,.snoc w hf (.inr (by rw [← hb'])) (nv hn)⟩
section
variable {ls:List (List Int)} {B:List Int} {a e R:Nat} {fs:List Int} {vs:List Nat}
theorem SWay.len(w:SWay ls B a fs vs e):vs.length=fs.length+1:=by
 induction w with
 | nil=>rfl
 | snoc _ _ _ _ ih=>rw [Jo,Jo,ih];rfl
theorem SWay.nd(w:SWay ls B a fs vs e):vs.Nodup:=by
 induction w with
 | nil=>simp
 | snoc _ _ _ hn ih=>exact List.nodup_append.mpr ⟨ih,by simp,fun x hx y hy h=>hn (by rw [List.mem_singleton.mp hy] at h;exact h ▸ hx)⟩
theorem SWay.head(w:SWay ls B a fs vs e):vs[0]?=some a:=by
 induction w with
 | nil=>rfl
 | snoc w _ _ _ ih=>rw [JR (by rw [w.len];omega)];exact ih
theorem SWay.last(w:SWay ls B a fs vs e):vs[fs.length]?=some e:=by
 cases w with
 | nil=>rfl
 | snoc w _ _ _=>rw [List.length_append,List.getElem?_append_right (by rw [w.len];simp)];simp [w.len]
theorem SWay.inB(w:SWay ls B a fs vs e):∀ f ∈ fs,f ∈ B:=by
 induction w with
 | nil=>simp
 | snoc _ hf _ _ ih=>
  intro g hg
  rcases List.mem_append.mp hg with hg | hg
  ·exact ih g hg
  ·rw [Jh.mp hg];exact hf
theorem SWay.at(w:SWay ls B a fs vs e):∀ i f,fs[i]?=some f->∃ x y,vs[i]?=some x/\vs[i+1]?=some y/\(rc ls f=(x,y)∨rc ls f=(y,x)):=by
 induction w with
 | nil=>intro i f h;simp at h
 | @snoc fs vs b e f w hf hrc hn ih=>
  intro i g hg
  have wl:=w.len
  by_cases hi:i<fs.length
  ·rw [JR hi] at hg
   obtain ⟨x,y,h1,h2,h3⟩:=ih i g hg
   exact ⟨x,y,by rw [JR [8]];exact h1,by rw [JR [8]];exact h2,h3⟩
  ·have hi':i=fs.length:=by
    have:=(Jp.mp hg).1
    simp at this;omega
   subst hi'
   rw [Kv (Jn _),Nat.sub_self] at hg
   cases hg
   exact ⟨b,e,by rw [List.getElem?_append_left [8]];exact w.last,by rw [List.getElem?_append_right [8]];simp [wl],hrc⟩
theorem qM(i:Nat):((i+1) % 2=0 ↔ i % 2=1)/\((i+1) % 2=1 ↔ i % 2=0):=by
 rw [Nat.add_mod]
 rcases Nat.mod_two_eq_zero_or_one i with h | h<;>rw [h]<;>decide
theorem zhh{x v R i:Nat}(h:x<R ↔ i % 2=0)(hb:x<R/\R≤v∨v<R/\R≤x):v<R ↔ (i+1) % 2=0:=by
 rw [(qM i).1]
 rcases hb with ⟨a,b⟩ | ⟨a,b⟩
 ·exact ⟨fun z=>absurd z (Nat.not_lt_of_le b),fun z=>by rw [h.mp a] at z;cases z⟩
 ·exact ⟨fun _=>(Nat.mod_two_eq_zero_or_one i).resolve_left fun z=>absurd (h.mpr z) (Nat.not_lt_of_le b),fun _=>a⟩
theorem SWay.par(hR:∀ f ∈ B,(rc ls f).1<R/\R≤(rc ls f).2)(w:SWay ls B a fs vs e)(ha:a<R):∀ i v,vs[i]?=some v->(v<R ↔ i % 2=0):=by
 intro i
 induction i with
 | zero=>
  intro v hv
  rw [w.head] at hv
  cases hv
  simp [ha]
 | succ i ih=>
  intro v hv
  have hlt:=(Jp.mp hv).1
  have wl:=w.len
  have hil:i<fs.length:=by omega
  have hf:fs[i]?=some fs[i]:=Jd hil
  obtain ⟨x,y,h1,h2,h3⟩:=w.at i _ hf
  rw [hv] at h2
  cases h2
  have:=ih x h1
  have hb:=hR _ (w.inB _ (Kf hil))
  refine zhh this ?_
  rcases h3 with h3 | h3<;>rw [h3] at hb
  ·exact .inl hb
  ·exact .inr hb
theorem SWay.ndf(hR:∀ f ∈ B,(rc ls f).1<R/\R≤(rc ls f).2)(w:SWay ls B a fs vs e):fs.Nodup:=by
 have inj:∀ {i j x:Nat},vs[i]?=some x->vs[j]?=some x->i=j:=fun {i j x} h1 h2=>by
  obtain ⟨l1,e1⟩:=Jp.mp h1
  obtain ⟨l2,e2⟩:=Jp.mp h2
  rcases Nat.lt_trichotomy i j with z | z | z
  ·exact absurd (by rw [e1,e2]) (Jy.mp w.nd i j l1 l2 z)
  ·exact z
  ·exact absurd (by rw [e1,e2]) (Jy.mp w.nd j i l2 l1 z)
 rw [Ka,Jy]
 intro i j hi hj hij he
 obtain ⟨x,y,h1,h2,h3⟩:=w.at i _ (Jd hi)
 obtain ⟨x',y',g1,g2,g3⟩:=w.at j _ (Jd hj)
 rw [he] at h3
 have hx:x=x'∨x=y':=by
  rcases h3 with h3 | h3<;>rcases g3 with g3 | g3<;>(rw [h3] at g3;simp only [Prod.mk.injEq] at g3;omega)
 rcases hx with rfl | rfl
 ·have:=inj h1 g1;omega
 ·have:=inj h1 g2;omega
end
theorem Runs.same_row{w h:Int}{F:List Int}{rs cs:List [88]}(S:Strips w h F rs cs){x:Int × Nat}(hx:x ∈ rs):∀ i:Nat,i<x.2->(x.1+i * 1) / w=x.1 / w
 | 0,_=>by simp
 | i+1,hi=>by
  have ih:=Runs.same_row S hx i [8]
  have hs:=(S.rows.inn x hx (i+1) hi).2 [8]
  unfold vX at hs
  have hs':=of_decide_eq_false hs
  rw [← ih]
  have e:x.1+((i+1:Nat):Int) * 1=x.1+(i:Int) * 1+1:=by omega
  rw [e] at hs' ⊢
  generalize x.1+(i:Int) * 1=p at hs' ⊢
  exact zgE S.fl.w1 hs'
theorem Strips.inj{w h:Int}{F:List Int}{rs cs:List [88]}(S:Strips w h F rs cs){f g:Int}(hf:f ∈ F)(hg:g ∈ F)(e:rc [22] f=rc [22] g):f=g:=by
 obtain ⟨r,c,h1,h2,h3,h4,h5⟩:=S.pairX hf
 obtain ⟨r',c',g1,g2,g3,g4,g5⟩:=S.pairX hg
 simp only [rc,h1,g1,Prod.mk.injEq] at e
 have er:r'=r:=e.1.symm
 have ec:c'=c:=by omega
 subst er ec
 have hx:rs[r']?=some rs[r']:=Jd h2
 have hy:cs[c']?=some cs[c']:=Jd h3
 obtain ⟨i,hi,ei⟩:=mem_chain.mp ((h4 r' _ hx).mpr rfl)
 obtain ⟨j,hj,ej⟩:=mem_chain.mp ((g4 r' _ hx).mpr rfl)
 obtain ⟨k,hk,ek⟩:=mem_chain.mp ((h5 c' _ hy).mpr rfl)
 obtain ⟨m,hm,em⟩:=mem_chain.mp ((g5 c' _ hy).mpr rfl)
 have d1:=Runs.same_row S (Kf h2) i hi
 have d2:=Runs.same_row S (Kf h2) j hj
 rw [← ei] at d1
 rw [← ej] at d2
 have hw:=S.fl.w1
 have m1:f % w=cs[c'].1 % w:=by rw [ek,Int.add_mul_emod_self_right]
 have m2:g % w=cs[c'].1 % w:=by rw [em,Int.add_mul_emod_self_right]
 have a1:=Kz f w
 have a2:=Kz g w
 rw [d1,m1] at a1
 rw [d2,m2] at a2
 exact a1.symm.trans a2
noncomputable def j6:FS:=(yQ (fLC (zq (zA 0)) 1 [1] (zN 0) (fT (fOp vNe (zA 0) (zA 1))) (z7 (zA 0))))
noncomputable def y8:List PV->Option PV:=fnV 2 j6
noncomputable def uT:FS:=(ze (yA 3 (zI xh (zC (zA 0) (zC (zA 2) zJ))))
 (ze (yA 4 (zI xD (zC (zA 0) (zC (zI y8 (zC (zA 1) (zC (zA 2) zJ))) (zC (fOp vIx (zA 3) [21]) zJ)))))
 (ze (xM (fT (fOp x9 (fOp vIx (zA 3) [26]) (zA 4))) (yQ (vH (zC (fC (.str "spare")) (zC (fOp xR (xU (zC (zA 2) zJ)) (fOp vIx (zA 4) (fOp vIx (zA 3) [26]))) zJ)))) fNx)
 (yQ (vH (zC (fC [65]) (zC (zI wI (zC (zA 0) (zC (zA 4) zJ))) zJ)))))))
noncomputable def zx:List PV->Option PV:=fnV 5 uT
theorem zdi(B:List Int)(f:Int)(hl:B.length≤1000):y8 [.lst [24],.int f]=some (.lst ((B.filter fun g=>!decide (g=f)).map PV.int)):=by
 have hc:yI (zN 0) (fT (fOp vNe (zA 0) (zA 1))) (z7 (zA 0)) [24] [none,some (.int f)]=some ((B.filter fun g=>!decide (g=f)).map PV.int):=
  xV (fun g=>!decide (g=f)) PV.int B fun n _=>⟨_,rfl,by simp,fun _=>by simp⟩
 simp [y8,fnV,j6,show B.length≤100000 by omega,cE,hc]
noncomputable def rest(B:List Int)(f:Int):List Int:=B.filter fun g=>!decide (g=f)
theorem mem_rest{B:List Int}{f g:Int}:g ∈ rest B f ↔ g ∈ B/\g≠f:=by
 unfold rest
 rw [Ki]
 simp
theorem zdk{w h:Int}{F:List Int}{rs cs:List [88]}{L0:List Int}{G:Int->PV}(S:Strips w h F rs cs)(C:Cross w h F [22] L0 G)(hs:zd [flV w h F]=some [73]){B:List Int}(hB:∀ f ∈ B,f ∈ F)(hl:B.length≤100){f:Int}(hf:f ∈ F):
  ∃ L ws,Wk (yH [22] (rest B f)) ((rc [22] f).1:Nat) (zdm (rs.length+cs.length)) L ws [] []/\
   ((((rc [22] f).2:Int) ∈ L/\zx [flV w h F,.lst [24],.int f]=some (.tup [.str (Str.ofString "spare"),.lst (.int f::ws ((rc [22] f).2:Nat))]))∨
   (((rc [22] f).2:Int) ∉ L/\zx [flV w h F,.lst [24],.int f]=some (.tup [.str (Str.ofString "needed"),.lst ((zcM (rs.length+cs.length) L).map PV.int)]))):=by
 obtain ⟨q0,q1,q2,q3⟩:=S.rc_of hf
 have hlen:=S.lens
 have hrl:(rest B f).length≤B.length:=Kg _ _
 obtain ⟨L,ws,h1,wk⟩:=ziu S C (B:=rest B f) (fun g hg=>hB g (mem_rest.mp hg).1) [8] (k:=(rc [22] f).1) [8]
 refine ⟨L,ws,wk,?_⟩
 have hcr:xh [flV w h F,.int f]=some (.tup [.int ((rc [22] f).1:Nat),.int ((rc [22] f).2:Nat)]):=by
  refine xI (e:=[some [57],some (.int f)]) [some [57],some (.int f)] rfl ?_
  unfold u5
  rw [vq,yc,yB (as:=[flV w h F]) rfl C.val]
  simp [C.ix hf q0]
 have hwo:=zdi B f [8]
 have hLl:L.length≤100:=by
  have:=zS L _ wk.nd wk.sub
  rw [qB] at this;omega
 generalize (rc [22] f).1=r at *
 generalize (rc [22] f).2=c at *
 let e3:En:=[some [57],some (.lst [24]),some (.int f),some (.tup [.int r,.int c]),none]
 let e4:En:=[some [57],some (.lst [24]),some (.int f),some (.tup [.int r,.int c]),some (dF L fun s=>.lst (ws s))]
 have s0:yA 3 (zI xh (zC (zA 0) (zC (zA 2) zJ))) [some [57],some (.lst [24]),some (.int f),none,none]=some (.nx e3):=ya (as:=[flV w h F,.int f]) rfl hcr
 have hw2:zI y8 (zC (zA 1) (zC (zA 2) zJ)) e3=some (.lst ((rest B f).map PV.int)):=yB (as:=[.lst [24],.int f]) rfl hwo
 have s1:yA 4 (zI xD (zC (zA 0) (zC (zI y8 (zC (zA 1) (zC (zA 2) zJ))) (zC (fOp vIx (zA 3) [21]) zJ)))) e3=some (.nx e4):=ya (as:=[flV w h F,.lst ((rest B f).map PV.int),.int r]) (by rw [zg,zg,hw2];simp [e3]) h1
 have ht:fT (fOp x9 (fOp vIx (zA 3) [26]) (zA 4)) e4=some (decide ((c:Int) ∈ L)):=by simp [e4]
 by_cases hc:(c:Int) ∈ L
 ·refine .inl ⟨hc,xI (e:=e4) [some [57],some (.lst [24]),some (.int f),none,none] rfl ?_⟩
  unfold uT
  rw [zL s0,zL s1]
  have hix:vIx (dF L fun s=>.lst (ws s)) (.int (c:Int))=some (.lst (ws c)):=zcS hc
  have hd:=wk.dat _ hc
  have hz:=(wk.path _ hc).2
  rw [decide_eq_true hc] at ht
  have hv:fOp xR (xU (zC (zA 2) zJ)) (fOp vIx (zA 4) (fOp vIx (zA 3) [26])) e4=some (.lst (.int f::ws c)):=by
   simp [e4,hix,xR,hd,show (ws c).length+1≤100000 by omega,Nat.add_comm]
  rw [zbF (p:=.tup [.str (Str.ofString "spare"),.lst (.int f::ws c)]) (e:=e4) (by
   rw [yP,ht,Jc,if_pos rfl,vq,zbQ,zg,zg,hv];rfl)]
 ·refine .inr ⟨hc,xI (e:=e4) [some [57],some (.lst [24]),some (.int f),none,none] rfl ?_⟩
  unfold uT
  rw [zL s0,zL s1]
  rw [decide_eq_false hc] at ht
  rw [zL (e:=e4) (by rw [yP,ht,Jc,if_neg Je];rfl)]
  have hlu:zI wI (zC (zA 0) (zC (zA 4) zJ)) e4=some (.lst ((zcM (rs.length+cs.length) L).map PV.int)):=yB (as:=[flV w h F,dF L fun s=>.lst (ws s)]) rfl (zdO S hs L _)
  rw [vq,zbQ,zg,zg,hlu];rfl
noncomputable def zdC(m k:Nat):Nat:=if k=0 then m - 1 else k - 1
structure Ring (ls:List (List Int)) (R:Nat) (B:List Int) (f:Int) (ring:List Int) (sh:Nat->Nat):Prop where
 many:4≤ring.length/\ring.length % 2=0/\ring.length≤1000
 first:ring[0]?=some f
 nd:ring.Nodup
 inB:∀ x ∈ ring,x ∈ B
 two:∀ k g,k<ring.length->ring[k]?=some g∨ring[zdC ring.length k]?=some g->sh k=(rc ls g).1∨sh k=(rc ls g).2
 shnd:((List.range ring.length).map sh).Nodup
 alt:∀ k,k<ring.length->(sh k<R ↔ k % 2=1)
theorem zjz{ls:List (List Int)}{f:Int}{k:Nat}(hk:k<ls.length):f ∈ (ls[k]?).getD [] ↔ k ∈ idx ls f:=by
 unfold idx
 rw [Ki,Jt,decide_eq_true_eq]
 exact ⟨fun h=>⟨hk,h⟩,fun h=>h.2⟩
theorem zfu{n:Nat}(a:n % 2=1)(b:n≠1)(c:n≤900):4≤n+1/\(n+1) % 2=0/\n+1≤1000:=by
 refine ⟨?_,(qM n).1.mpr a,JI (Nat.succ_le_succ c) [9]⟩
 rcases n with _ | _ | _ | n
 ·cases a
 ·exact absurd rfl b
 ·cases a
 ·exact Nat.succ_le_succ (Nat.le_add_left 3 n)
theorem zcB{n:Nat}(h:n % 2=1):n - 1+1=n:=by omega
theorem zfv{n:Nat}(h:n % 2=1):zdC (n+1) 0=n - 1+1:=by
 unfold zdC
 rw [if_pos rfl,zcB h];rfl
theorem zfw(n i:Nat):zdC n (i+1)=i:=by
 unfold zdC
 rw [if_neg (Nat.succ_ne_zero i)];rfl
theorem zjv{n j:Nat}(h:n=j - 1)(hj:j<n+1)(h0:0<j):False:=by omega
theorem zju{i j:Nat}(h:i - 1=j - 1)(i0:¬ i=0)(hij:i<j):False:=by
 obtain ⟨m,rfl⟩:=JH i0
 obtain ⟨n,rfl⟩:=JH (Kj (Qs (Km _) hij))
 rw [Nat.succ_sub_one,Nat.succ_sub_one] at h
 exact absurd (h ▸ hij) (KO _)
theorem zhi{x R k:Nat}(h:x<R ↔ (k - 1) % 2=0)(k0:¬ k=0):x<R ↔ k % 2=1:=by
 obtain ⟨j,rfl⟩:=JH k0
 exact h.trans (qM j).2.symm
theorem ziS{ls:List (List Int)}{R:Nat}{B:List Int}{f:Int}{fs:List Int}{vs:List Nat}(hB:∀ g ∈ B,(rc ls g).1<R/\R≤(rc ls g).2)(inj:∀ g ∈ B,∀ h ∈ B,rc ls g=rc ls h->g=h)(hf:f ∈ B)(w:SWay ls (rest B f) (rc ls f).1 fs vs (rc ls f).2)(hl:fs.length≤900):
  Ring ls R B f (f::fs) (fun k=>if k=0 then (rc ls f).2 else vs.getD (k - 1) 0):=by
 have hR:∀ g ∈ rest B f,(rc ls g).1<R/\R≤(rc ls g).2:=fun g hg=>hB g (mem_rest.mp hg).1
 have hfR:=hB f hf
 have wl:=w.len
 have par:=w.par hR hfR.1
 have hlast:=w.last
 have gd:∀ {i x},vs[i]?=some x->vs.getD i 0=x:=fun {i x} h=>by simp [List.getD,h]
 have ex:∀ i,i≤fs.length->∃ x,vs[i]?=some x:=fun i hi=>⟨vs[i],Jd [8]⟩
 have inj':∀ {i j x:Nat},vs[i]?=some x->vs[j]?=some x->i=j:=fun {i j x} h1 h2=>by
  obtain ⟨l1,e1⟩:=Jp.mp h1
  obtain ⟨l2,e2⟩:=Jp.mp h2
  rcases Nat.lt_trichotomy i j with z | z | z
  ·exact absurd (by rw [e1,e2]) (Jy.mp w.nd i j l1 l2 z)
  ·exact z
  ·exact absurd (by rw [e1,e2]) (Jy.mp w.nd j i l2 l1 z)
 have modd:fs.length % 2=1:=(Nat.mod_two_eq_zero_or_one _).resolve_left fun z=>Nat.not_lt_of_le hfR.2 ((par _ _ hlast).mpr z)
 have m1:fs.length≠1:=fun h1=>by
  obtain ⟨g,hg⟩:∃ g,fs=[g]:=List.length_eq_one_iff.mp h1
  subst hg
  obtain ⟨x,y,a1,a2,a3⟩:=w.at 0 g rfl
  rw [w.head] at a1
  cases a1
  have hl':vs[1]?=some (rc ls f).2:=hlast
  rw [hl'] at a2
  cases a2
  have hgr:=w.inB g [12]
  have hgB:=mem_rest.mp hgr
  have hb:=hB g hgB.1
  refine hgB.2 (inj g hgB.1 f hf ?_)
  rcases a3 with a3 | a3
  ·rw [a3]
  ·rw [a3] at hb;exact absurd hb.1 (Nat.not_lt_of_le hfR.2)
 refine ⟨zfu modd m1 hl,rfl,JF.mpr ⟨fun z=>(mem_rest.mp (w.inB f z)).2 rfl,w.ndf hR⟩,fun x hx=>?_,fun k g hk hg=>?_,?_,fun k hk=>?_⟩
 ·rcases List.mem_cons.mp hx with rfl | hx
  ·exact hf
  ·exact (mem_rest.mp (w.inB x hx)).1
 ·simp only [List.length_cons] at hk hg
  -- the strip between
  have side:∀ i g,fs[i]?=some g->(vs.getD i 0=(rc ls g).1∨vs.getD i 0=(rc ls g).2)/\(vs.getD (i+1) 0=(rc ls g).1∨vs.getD (i+1) 0=(rc ls g).2):=fun i g h=>by
   obtain ⟨x,y,a1,a2,a3⟩:=w.at i g h
   rw [gd a1,gd a2]
   rcases a3 with a3 | a3<;>(rw [a3];simp)
  by_cases k0:k=0
  ·subst k0
   rw [if_pos rfl]
   rcases hg with hg | hg
   ·cases hg;exact .inr rfl
   ·rw [zfv modd,List.getElem?_cons_succ] at hg
    have:=(side _ _ hg).2
    rw [zcB modd,gd hlast] at this
    exact this
  ·rw [if_neg k0]
   obtain ⟨i,rfl⟩:=JH k0
   rw [Qq] at hg
   rw [Qq,Nat.add_sub_cancel]
   rcases hg with hg | hg
   ·rw [List.getElem?_cons_succ] at hg
    exact (side i g hg).1
   ·rw [zfw] at hg
    by_cases i0:i=0
    ·subst i0
     cases hg
     exact .inl (gd w.head)
    ·obtain ⟨j,rfl⟩:=JH i0
     rw [Qq,List.getElem?_cons_succ] at hg
     exact (side j g hg).2
 ·rw [Ka,Kw]
  refine List.Pairwise.imp_of_mem (R:=fun a b=>a<b) (fun {i j} hi hj hij=>?_) List.pairwise_lt_range
  have hj':=Jt.mp hj
  simp only [List.length_cons] at hj'
  have j0:=Qs (Km i) hij
  rw [if_neg (Kj j0)]
  obtain ⟨y,hy⟩:=ex (j - 1) (JI (Nat.sub_le j 1) (Kb hj'))
  rw [gd hy]
  by_cases i0:i=0
  ·rw [if_pos i0]
   intro z
   rw [z] at hlast
   exact zjv (inj' hlast hy) hj' j0
  ·rw [if_neg i0]
   obtain ⟨x,hx⟩:=ex (i - 1) (JI (Nat.sub_le i 1) (Kb (Nat.lt_trans hij hj')))
   rw [gd hx]
   intro z
   rw [z] at hx
   exact zju (inj' hx hy) i0 hij
 ·simp only [List.length_cons] at hk
  by_cases k0:k=0
  ·subst k0
   rw [if_pos rfl]
   exact ⟨fun z=>absurd z (Nat.not_lt_of_le hfR.2),fun z=>absurd z [9]⟩
  ·rw [if_neg k0]
   obtain ⟨x,hx⟩:=ex (k - 1) (JI (Nat.sub_le k 1) (Kb hk))
   rw [gd hx]
   exact zhi (par _ _ hx) k0
noncomputable def uK:FS:=(ze (xM (fT (fOp vLt (zA 1) (zI xr [62]))) (yQ (z7 (fOp vIx (zA 0) (zA 1)))) fNx)
 (ze (yA 2 (fOp xR (fOp xR (fOp xG (fOp xG (zA 1) (zA 1)) (fC (.int 7919))) (fOp xG (fC (.int 104729)) (zA 1))) (fC (.int 11))))
 (ze (xM (fT (fOp vGt (zI xr [62]) [21])) (yA 2 (fOp xR (zA 2) (fOp xG (fOp vIx (zA 0) (fOp xL (zA 1) (zI xr [62]))) (fOp xR (zA 1) (fC (.int 3)))))) fNx)
 (yQ (fOp xL (fOp xG (zA 2) (zA 2)) (fC (.int 2147483629)))))))
noncomputable def zT:List PV->Option PV:=fnV 3 uK
noncomputable def wE:FS:=(xM (fT (fOp vEq (fOp xL [40] [23]) [21])) (ze (zw 5 (fOp xL (zA 4) (zA 3)))
 (yA 4 (fOp xA (zA 4) (zA 3)))) (ze (yA 7 (fOp xL (fOp xR (fOp xR (fOp xG (fOp xL (zA 4) (fC (.int 2147483647))) (fOp xR (fOp xG [23] (zA 6)) (fC (.int 69621)))) (fOp xG (fOp xG (zA 6) (zA 6)) (fC (.int 48271)))) (fC (.int 7))) (fC (.int 2147483629))))
 (ze (yA 8 (fOp xL (fOp xG (fOp xL (fOp xG (zA 7) (zA 7)) (fC (.int 2147483587))) (fC (.int 16807))) (fC (.int 2147483647))))
 (zw 5 (fOp xL (fOp xA (zA 8) (fC (.int 7))) (zA 3))))))
noncomputable def u6:FS:=(ze (yA 4 (zI zT (zC (zA 0) (zC (zA 1) zJ))))
 (ze (yA 5 (xU zJ))
 (ze (xy (xP (zC (zA 2) zJ)) (zN 6) wE)
 (yQ (zA 5)))))
noncomputable def yM:List PV->Option PV:=fnV 9 u6
noncomputable def v3:FS:=(xM (zhW (fT (fOp vGe (zA 4) [21])) (fT (fOp vEq (fOp xA (zA 4) (zA 0)) (fOp xA (zA 2) (zA 0))))) (zw 3 (z7 (zA 4))) fNx)
noncomputable def v0:FS:=(xM (fT (kC vLe vLt [21] (zA 4) (fOp xG (zA 0) (zA 1)))) (zw 3 (z7 (zA 4))) fNx)
noncomputable def wy:FS:=(ze (yA 3 (xU zJ))
 (ze (xy (zq (xU (zC (fOp kS (zA 2) [26]) (zC (fOp xR (zA 2) [26]) zJ)))) (zN 4) v3)
 (ze (xy (zq (xU (zC (fOp kS (zA 2) (zA 0)) (zC (fOp xR (zA 2) (zA 0)) zJ)))) (zN 4) v0)
 (yQ (zA 3)))))
noncomputable def yn:List PV->Option PV:=fnV 5 wy
noncomputable def yU:FT:=(fT (fOp vGt (zI xr (zC (zA 5) zJ)) [21]))
noncomputable def yr:FS:=(ze (zhT 6 5)
 (xM (fT (fOp yx (zA 6) (zA 4))) (ze (uk 4 (zA 6) (fC (.bl true)))
 (vI 5 (fLC (zq (zI yn (zC (zA 0) (zC (zA 1) (zC (zA 6) zJ))))) 1 [3] (zN 0) (fT (fOp x9 (zA 0) (zA 1))) (z7 (zA 0))))) fNx))
noncomputable def vi:FS:=(ze (yA 4 kA)
 (ze (yA 5 (fLC (zq (zA 2)) 1 [3] (zN 0) (fT (fOp x9 (zA 0) (zA 1))) (z7 (zA 0))))
 (ze (fWh yU yr 1000000)
 (yQ (zA 4)))))
noncomputable def yO:List PV->Option PV:=fnV 7 vi
noncomputable def vJ:FS:=(xM (fOr (fT (fOp x9 (fOp xL (zA 5) (zA 0)) (vH (zC [21] (zC (fOp kS (zA 0) [26]) zJ))))) (fT (fOp x9 (fOp xA (zA 5) (zA 0)) (vH (zC [21] (zC (fOp kS (zA 1) [26]) zJ)))))) (zw 4 (z7 (zA 5))) fNx)
noncomputable def wS:FS:=(ze (yA 3 (fLC (xP (zC (fOp xG (zA 0) (zA 1)) zJ)) 1 [2] (zN 0) (fT (fOp yx (zA 0) (zA 1))) (z7 (zA 0))))
 (ze (yA 4 (xU zJ))
 (ze (xy (zq (zA 3)) (zN 5) vJ)
 (yQ (zI yO (zC (zA 0) (zC (zA 1) (zC (zA 4) (zC (zA 3) zJ)))))))))
noncomputable def yZ:List PV->Option PV:=fnV 6 wS
noncomputable def vh:FS:=(ze (zjU (v7 2 (z8 (zN 2) (z8 (zN 3) v8))) (fLC (zq (zI yM (zC (zA 0) (zC (zA 1) (zC [23] (zC (fC (.int 6)) zJ)))))) 1 [] (zN 0) v6 (fOp xR [26] (zA 0))))
 (ze (yA 4 (zI yM (zC (zA 0) (zC (fOp xR (zA 1) [26]) (zC (fOp xG (zA 2) (zA 3)) (zC (fOp xR [23] (fOp xG [23] (fOp xL [40] [23]))) zJ))))))
 (ze (xM (fT (fOp vEq (fOp xL [40] (fC (.int 8))) (fC (.int 3)))) (yA 4 (fOp xG (xU (zC [26] zJ)) (fOp xG (zA 2) (zA 3)))) fNx)
 (ze (yA 5 (fLC (xP (zC (fOp xG (zA 2) (zA 3)) zJ)) 1 [4] (zN 0) (fT (fOp vGt (fOp vIx (zA 1) (zA 0)) [21])) (z7 (zA 0))))
 (ze (xM (fT (fOp vEq (zA 5) (xU zJ))) (yA 5 (xU (zC (fOp kS (fOp xG (zA 2) (zA 3)) [26]) zJ))) fNx)
 (ze (yA 6 (zI yO (zC (zA 2) (zC (zA 3) (zC (fSl (zA 5) jZ (zaM [26])) (zC (zA 5) zJ))))))
 (ze (yA 7 (zI yZ (zC (zA 2) (zC (zA 3) (zC (zA 6) zJ)))))
 (yQ (vH (zC (z7 (zA 2)) (zC (z7 (zA 3)) (zC (zI jm (zC (fLC (xP (zC (fOp xG (zA 2) (zA 3)) zJ)) 1 [7] (zN 0) (fT (fOp yx (zA 0) (zA 1))) (z7 (zA 0))) zJ)) zJ))))))))))))
noncomputable def y4:List PV->Option PV:=fnV 8 vh
structure Scr (ns:List Int):Prop where
 len:ns.length≤63
 bits:∀ m ∈ ns,Builtin.Int.intBits m≤1048576
noncomputable abbrev scr(ns:List Int):PV:=.fls (ns.map PV.int)
theorem kn{ns:List Int}(S:Scr ns){k:Int}(k0:0≤k)(k1:k≤1000):∃ n,zT [scr ns,.int k]=some (.int n):=by
 have kk:0≤k * k/\k * k≤1000000:=⟨Int.mul_nonneg k0 k0,by have:=Int.mul_le_mul k1 k1 k0 (by omega:(0:Int)≤1000);omega⟩
 have b0:Builtin.Int.intBits (k * k * 7919+104729 * k+11)≤64:=intBits_le_64 [8] [8]
 unfold zT fnV uK scr
 by_cases h1:k<(ns.length:Int)
 ·simp [h1,zbO,xq k0 h1]
  have hj:k.toNat<ns.length:=by omega
  simp [List.getElem?_eq_getElem hj]
 ·simp [h1,vw (i:=k) (j:=k) ⟨by omega,by omega⟩,vw (i:=k * k) (j:=7919) ⟨by omega,by omega⟩,zmC (i:=104729) (j:=k) ⟨by omega,by omega⟩]
  by_cases h2:(0:Int)<(ns.length:Int)
  ·have hm:0≤k % (ns.length:Int)/\k % (ns.length:Int)<ns.length:=⟨JY _ [8],JW _ h2⟩
   have hj:(k % (ns.length:Int)).toNat<ns.length:=by omega
   have bn:=S.bits _ (Kf hj)
   have bk:Builtin.Int.intBits (k+3)≤64:=intBits_le_64 [8] [8]
   have bm:=PySem.intBits_mul_le bn bk
   have bs:=PySem.intBits_add_le b0 bm
   have h2':0<ns.length:=by omega
   simp [h2',yY h2,zbO,xq hm.1 hm.2,List.getElem?_eq_getElem hj,qY (IntMulOk.of_right bk),qY (PySem.IntMulOk.of_le bs bs [8]),yY (show (0:Int)<2147483629 by decide)]
  ·have h2':¬ 0<ns.length:=by omega
   simp [h2',qY (IntMulOk.of_left b0),yY (show (0:Int)<2147483629 by decide)]
theorem zdz{ns:List Int}(S:Scr ns){k n b:Int}(k0:0≤k)(k1:k≤1000)(n0:0≤n)(n1:n≤1000)(b1:1≤b)(b2:b≤1000):
  ∃ ds:List Int,yM [scr ns,.int k,.int n,.int b]=some [53]/\ds.length=n.toNat/\∀ d ∈ ds,0≤d/\d<b:=by
 obtain ⟨c,hc⟩:=kn S k0 k1
 obtain ⟨c0,hc0⟩:=kn S (show (0:Int)≤0 by decide) [9]
 unfold yM fnV u6
 have loop:=zjQ (b:=zN 6) (g:=wE)
  (ps:=uZ 0 n.toNat) (env:=[some (scr ns),some (.int k),some (.int n),some (.int b),some (.int c),some (.lst []),none,none,none])
  (fun pre e=>∃ (c:Int) (ds:List Int) (x6 x7 x8:Option PV),e=[some (scr ns),some (.int k),some (.int n),some (.int b),some (.int c),some [53],x6,x7,x8]/\ds.length=pre.length/\∀ d ∈ ds,0≤d/\d<b)
  ⟨c,[],none,none,none,rfl,rfl,by simp⟩ ?_
 ·obtain ⟨e,h1,c',ds,x6,x7,x8,rfl,h2,h3⟩:=loop
  refine ⟨ds,?_,?_,h3⟩
  ·have hn:n<4611686018427387904/\-4611686018427387904≤n:=by omega
   simp [hc,xP,hn,h1]
  ·rw [h2,jM]
 ·rintro pre p post e hp ⟨c,ds,x6,x7,x8,rfl,h2,h3⟩
  have hl:(uZ 0 n.toNat).length=pre.length+(post.length+1):=by rw [hp];simp
  rw [jM] at hl
  have hj:∃ j:Int,p=.int j/\0≤j/\j≤1000:=by
   have:p ∈ uZ 0 n.toNat:=by rw [hp];simp
   rw [zgJ] at this
   obtain ⟨j,hj,rfl⟩:=Jv.mp this
   obtain ⟨i,hi,rfl⟩:=Jv.mp hj
   exact ⟨i,rfl,by omega,by have:=Jt.mp hi;omega⟩
  obtain ⟨j,rfl,j0,j1⟩:=hj
  have hlen:ds.length<100000:=by omega
  have jj:0≤j * j/\j * j≤1000000:=⟨Int.mul_nonneg j0 j0,by have:=Int.mul_le_mul j1 j1 j0 (by omega:(0:Int)≤1000);omega⟩
  refine ⟨_,?_,rfl,?_⟩
  ·exact if c0 % 2=0 then [some (scr ns),some (.int k),some (.int n),some (.int b),some (.int (c / b)),some (.lst ((ds++[c % b]).map PV.int)),some (.int j),x7,x8] else
    let o:=(c % 2147483647 * (2 * j+69621)+j * j * 48271+7) % 2147483629
    let w:=o * o % 2147483587 * 16807 % 2147483647
    [some (scr ns),some (.int k),some (.int n),some (.int b),some (.int c),some (.lst ((ds++[w / 7 % b]).map PV.int)),some (.int j),some (.int o),some (.int w)]
  ·by_cases h0:c0 % 2=0
   ·refine ⟨.inl ?_,c / b,ds++[c % b],some (.int j),x7,x8,by simp [h0],by simp [h2],fun d hd=>?_⟩
    ·simp [wE,hc0,yY (show (0:Int)<2 by decide),h0,yY (show 0<b by omega),zw,uU (show 0<b/\b<1073741824 by omega),hlen]
    ·rcases List.mem_append.mp hd with hd | hd
     ·exact h3 d hd
     ·rw [Jh.mp hd];exact ⟨JY _ [8],JW _ [8]⟩
   ·have c1:0≤c % 2147483647/\c % 2147483647<2147483647:=⟨JY _ [9],JW _ [9]⟩
    refine ⟨.inl ?_,c,ds++[_],some (.int j),_,_,by simp only [h0,if_false];rfl,by simp [h2],fun d hd=>?_⟩
    ·have o1:∀ z:Int,0≤z % 2147483629/\z % 2147483629<2147483629:=fun z=>⟨JY _ [9],JW _ [9]⟩
     have o2:∀ z:Int,0≤z % 2147483587/\z % 2147483587<2147483587:=fun z=>⟨JY _ [9],JW _ [9]⟩
     have q1:=o1 (c % 2147483647 * (2 * j+69621)+j * j * 48271+7)
     generalize hz:(c % 2147483647 * (2 * j+69621)+j * j * 48271+7) % 2147483629=z at q1 ⊢
     have q2:=o2 (z * z)
     generalize hy:z * z % 2147483587=y at q2 ⊢
     simp [wE,hc0,yY (show (0:Int)<2 by decide),h0,zw,hlen,yY (show (0:Int)<2147483647 by decide),yY (show (0:Int)<2147483629 by decide),yY (show (0:Int)<2147483587 by decide),
      vw (i:=c % 2147483647) (j:=2 * j+69621) ⟨by omega,by omega⟩,vw (i:=2) (j:=j) ⟨by omega,by omega⟩,vw (i:=j) (j:=j) ⟨by omega,by omega⟩,vw (i:=j * j) (j:=48271) ⟨by omega,by omega⟩,hz,
      vw (i:=z) (j:=z) ⟨by omega,by omega⟩,hy,vw (i:=y) (j:=16807) ⟨by omega,by omega⟩,uU (show (0:Int)<7/\(7:Int)<1073741824 by decide),yY (show 0<b by omega)]
    ·rcases List.mem_append.mp hd with hd | hd
     ·exact h3 d hd
     ·rw [Jh.mp hd];exact ⟨JY _ [8],JW _ [8]⟩
noncomputable def zbM(w h p:Int)(xs ys:List Int):List Int:=(xs.filter fun o=>decide (0≤o) && decide (o / w=p / w))++ys.filter fun o=>decide (0≤o) && decide (o<w * h)
theorem zeg{w h p:Int}(w1:1≤w)(w6:w≤6)(hp:Place w h p):zbM w h p [p - 1,p+1] [p - w,p+w]=xJ w h p:=by
 unfold zbM xJ
 have a1:(decide (0≤p - 1) && decide ((p - 1) / w=p / w))=decide (0<p % w):=by
  rw [← Bool.decide_and];apply decide_eq_decide.mpr;unfold CB.Place at hp;rcases six w1 w6 with rfl | rfl | rfl | rfl | rfl | rfl<;>omega
 have a2:(decide (0≤p+1) && decide ((p+1) / w=p / w))=decide (p % w<w - 1):=by
  rw [← Bool.decide_and];apply decide_eq_decide.mpr;unfold CB.Place at hp;rcases six w1 w6 with rfl | rfl | rfl | rfl | rfl | rfl<;>omega
 have a3:(decide (0≤p - w) && decide (p - w<w * h))=decide (0<p / w):=by
  rw [← Bool.decide_and];apply decide_eq_decide.mpr;unfold CB.Place at hp;rcases six w1 w6 with rfl | rfl | rfl | rfl | rfl | rfl<;>omega
 have a4:(decide (0≤p+w) && decide (p+w<w * h))=decide (p / w<h - 1):=by
  rw [← Bool.decide_and];apply decide_eq_decide.mpr;unfold CB.Place at hp;rcases six w1 w6 with rfl | rfl | rfl | rfl | rfl | rfl<;>omega
 simp only [List.filter_cons,List.filter_nil,a1,a2,a3,a4,decide_eq_true_eq]
 split<;>split<;>split<;>split<;>rfl
theorem zdQ{w h p:Int}(w1:1≤w)(w6:w≤6)(hp:CB.Place w h p):yn [.int w,.int h,.int p]=some (.lst ((xJ w h p).map PV.int)):=by
 rw [← zeg w1 w6 hp]
 have hm:=vw (i:=w) (j:=h) ⟨by omega,by omega⟩
 have hd:=fun x=>uU (i:=x) (show 0<w/\w<1073741824 by omega)
 obtain ⟨x1,l1⟩:=wT (t:=zhW (fT (fOp vGe (zA 4) [21])) (fT (fOp vEq (fOp xA (zA 4) (zA 0)) (fOp xA (zA 2) (zA 0))))) 3 4
  (fun acc x=>[some (.int w),some (.int h),some (.int p),some (.lst (acc.map PV.int)),x]) (fun o=>decide (0≤o) && decide (o / w=p / w)) (fun _ _ _=>rfl) (fun _ _ _=>rfl) [20] [20] [p - 1,p+1] [] none
  (fun n _ acc=>by by_cases c:0≤n<;>simp [hd,c]) [12]
 obtain ⟨x2,l2⟩:=wT (t:=fT (kC vLe vLt [21] (zA 4) (fOp xG (zA 0) (zA 1)))) 3 4
  (fun acc x=>[some (.int w),some (.int h),some (.int p),some (.lst (acc.map PV.int)),x]) (fun o=>decide (0≤o) && decide (o<w * h)) (fun _ _ _=>rfl) (fun _ _ _=>rfl) [20] [20] [p - w,p+w] ([]++[p - 1,p+1].filter fun o=>decide (0≤o) && decide (o / w=p / w)) x1
  (fun n _ acc=>by by_cases c:0≤n<;>simp [hm,c]) (by have:=List.length_filter_le (fun o=>decide (0≤o) && decide (o / w=p / w)) [p - 1,p+1];simp only [List.nil_append,List.length_cons,List.length_nil] at this ⊢;omega)
 simp only [List.map_cons,List.map_nil,List.nil_append] at l1 l2
 simp [yn,fnV,wy,v3,v0,l1,l2,zbM]
theorem zcU{w h:Int}{S Pl:List Int}(w1:1≤w)(w6:w≤6)(pl:∀ p ∈ Pl,CB.Place w h p)(sz:S.length≤100)(pz:Pl.length≤100):
  ∃ L:List Int,yO [.int w,.int h,.lst (S.map PV.int),.lst (Pl.map PV.int)]=some (kT L)/\L.Nodup/\∀ p,p ∈ L ↔ Reach (Adj w) (· ∈ Pl) (· ∈ S) p:=by
 have hinit:yI (zN 0) (fT (fOp x9 (zA 0) (zA 1))) (z7 (zA 0)) (S.map PV.int) [none,some (.lst (Pl.map PV.int))]=some ((S.filter fun n=>decide (n ∈ Pl)).map PV.int):=
  xV (fun n=>decide (n ∈ Pl)) PV.int S fun n _=>⟨_,rfl,by simp,fun _=>by simp⟩
 have fz:(S.filter fun n=>decide (n ∈ Pl)).length≤100:=JI (Kg _ _) sz
 let mk:List Int->List Int->Option PV->En:=fun L ws x=>[some (.int w),some (.int h),some (.lst (S.map PV.int)),some (.lst (Pl.map PV.int)),some (kT L),some (.lst (ws.map PV.int)),x]
 have loop:=zdj (t:=yU) (g:=yr) (fun e=>∃ L ws x,e=mk L ws x/\Dfs (Adj w) (· ∈ Pl) (· ∈ S) L ws/\ws.length≤100+4 * L.length)
  (fun e=>match e with | [_,_,_,_,some (.dct ks _),some (.lst ws),_]=>5 * (Pl.length - ks.length)+ws.length | _=>0) ?_ 1000000 (mk [] (S.filter fun n=>decide (n ∈ Pl)) none)
  ⟨[],_,none,rfl,Dfs.init fun q=>by simp [List.mem_filter],by simpa using fz⟩ (by simp [mk];omega)
 ·obtain ⟨e,h1,⟨L,ws,x,rfl,df,lz⟩,h2⟩:=loop
  have hw:ws=[]:=by
   cases ws with
   | nil=>rfl
   | cons a r=>simp [yU,mk] at h2
  subst hw
  refine ⟨L,?_,df.nd,df.done⟩
  have h1':fWh yU yr 1000000 [some (.int w),some (.int h),some (.lst (S.map PV.int)),some (.lst (Pl.map PV.int)),some (.dct [] []),some (.lst ((S.filter fun n=>decide (n ∈ Pl)).map PV.int)),none]=some (.nx (mk L [] x)):=h1
  have hS:S.length≤100000:=by omega
  simp only [yO,fnV,vi,zjS,zei,ziq,zio,zag,zaf,vq,List.length_cons,List.length_nil,List.map_cons,List.map_nil]
  simp [cE,hS,hinit,h1',mk]
 ·rintro e ⟨L,ws,x,rfl,df,lz⟩
  have Lz:L.length≤Pl.length:=zS _ _ df.nd fun p hp=>(df.sound p hp).inS
  by_cases hw:ws=[]
  ·subst hw;exact .inl (by simp [yU,mk])
  ·obtain ⟨ws',p,rfl⟩:∃ ws' p,ws=ws'++[p]:=⟨ws.dropLast,ws.getLast hw,(List.dropLast_concat_getLast _).symm⟩
   have hp:p ∈ Pl:=(df.soundW p [12]).inS
   refine .inr ⟨by simp [yU,mk],?_⟩
   simp only [List.length_append,List.length_singleton] at lz
   by_cases hL:p ∈ L
   ·refine ⟨mk L ws' (some (.int p)),.inl ?_,⟨L,ws',_,rfl,df.old hL,by omega⟩,by simp [mk]⟩
    simp [yr,mk,zhT,hL]
   ·have hb:=zdQ w1 w6 (pl p hp)
    have hc:yI (zN 0) (fT (fOp x9 (zA 0) (zA 1))) (z7 (zA 0)) ((xJ w h p).map PV.int) [none,some (.lst (Pl.map PV.int))]=some (((xJ w h p).filter fun n=>decide (n ∈ Pl)).map PV.int):=
     xV (fun n=>decide (n ∈ Pl)) PV.int _ fun n _=>⟨_,rfl,by simp,fun _=>by simp⟩
    have hbl:=zaq w h p
    have hfl:=Kg (fun n=>decide (n ∈ Pl)) (xJ w h p)
    have hnew:=df.new (nbs:=(xJ w h p).filter fun n=>decide (n ∈ Pl)) hL fun q=>by
     rw [Ki,zdM w1 w6 (pl p hp),decide_eq_true_eq]
     exact ⟨fun z=>⟨z.1.2,z.2⟩,fun z=>⟨⟨pl q z.2,z.1⟩,z.2⟩⟩
    have hlL:=zS _ _ hnew.nd fun q hq=>(hnew.sound q hq).inS
    simp only [List.length_append,List.length_singleton] at hlL
    refine ⟨mk (L++[p]) (ws'++(xJ w h p).filter fun n=>decide (n ∈ Pl)) (some (.int p)),.inl ?_,⟨_,_,_,rfl,hnew,by simp only [List.length_append,List.length_singleton];omega⟩,by simp [mk];omega⟩
    have hs:=ziV hL (show L.length<100000 by omega)
    have hbl':(xJ w h p).length≤100000:=by omega
    have hx:ws'.length+((xJ w h p).filter fun n=>decide (n ∈ Pl)).length≤100000:=by omega
    simp [yr,mk,zhT,hL,uk,hs,vI,cE,hb,hbl',hc,hx]
theorem zlW{w h:Int}(w1:1≤w)(w6:w≤6)(h1:1≤h)(h6:h≤6):1≤w * h/\w * h≤36:=by
 rcases six w1 w6 with rfl | rfl | rfl | rfl | rfl | rfl<;>omega
theorem uu(w h:Int):uZ 0 (w * h).toNat=(zZ w h).map PV.int:=by rw [zgJ];rfl
theorem qK(w h:Int):(zZ w h).length=(w * h).toNat:=by simp [zZ]
theorem zdE{w h:Int}{x:PV}{m:Int->Bool}(w1:1≤w)(w6:w≤6)(h1:1≤h)(h6:h≤6)(hx:∀ p,vIn (.int p) x=some (m p)):
  ∃ L:List Int,yZ [.int w,.int h,x]=some (kT L)/\L.Nodup/\∀ p,p ∈ L ↔ Reach (Adj w) (fun q=>CB.Place w h q/\m q=false) (Rim w h) p:=by
 have wh:=zlW w1 w6 h1 h6
 have hm:=vw (i:=w) (j:=h) ⟨by omega,by omega⟩
 have hd:=fun x=>uU (i:=x) (show 0<w/\w<1073741824 by omega)
 have hmod:=fun x=>yY (i:=x) (show 0<w by omega)
 have hpl:=qK w h
 have c1:yI (zN 0) (fT (fOp yx (zA 0) (zA 1))) (z7 (zA 0)) ((zZ w h).map PV.int) [none,some x]=some (((zZ w h).filter fun n=>!m n).map PV.int):=
  xV (fun n=>!m n) PV.int _ fun n _=>⟨_,rfl,by simp [hx],fun _=>by simp⟩
 have hbl:=Kg (fun n=>!m n) (zZ w h)
 obtain ⟨x1,l1⟩:=wT (t:=fOr (fT (fOp x9 (fOp xL (zA 5) (zA 0)) (vH (zC [21] (zC (fOp kS (zA 0) [26]) zJ))))) (fT (fOp x9 (fOp xA (zA 5) (zA 0)) (vH (zC [21] (zC (fOp kS (zA 1) [26]) zJ)))))) 4 5
  (fun acc y=>[some (.int w),some (.int h),some x,some (.lst (((zZ w h).filter fun n=>!m n).map PV.int)),some (.lst (acc.map PV.int)),y]) (fun n=>decide (n % w=0∨n % w=w - 1) || decide (n / w=0∨n / w=h - 1)) (fun _ _ _=>rfl) (fun _ _ _=>rfl) [20] [20] ((zZ w h).filter fun n=>!m n) [] none
  (fun n _ acc=>by by_cases c:n % w=0∨n % w=w - 1<;>simp [hd,hmod,c]) (by simp only [List.length_nil];omega)
 have mem:∀ q,q ∈ (zZ w h).filter (fun n=>!m n) ↔ CB.Place w h q/\m q=false:=fun q=>by rw [List.mem_filter,mem_places];simp
 obtain ⟨L,f1,f2,f3⟩:=zcU (w:=w) (h:=h) (S:=((zZ w h).filter fun n=>!m n).filter fun n=>decide (n % w=0∨n % w=w - 1) || decide (n / w=0∨n / w=h - 1)) (Pl:=(zZ w h).filter fun n=>!m n) w1 w6
  (fun p hp=>((mem p).mp hp).1) (by have:=Kg (fun n=>decide (n % w=0∨n % w=w - 1) || decide (n / w=0∨n / w=h - 1)) ((zZ w h).filter fun n=>!m n);omega) [8]
 refine ⟨L,?_,f2,fun p=>?_⟩
 ·have hb:w * h<4611686018427387904/\-4611686018427387904≤w * h:=by omega
  have hpl':(zZ w h).length≤100000:=by omega
  simp only [List.map_nil,List.nil_append] at l1
  generalize (((zZ w h).filter fun n=>!m n).filter fun n=>decide (n % w=0∨n % w=w - 1) || decide (n / w=0∨n / w=h - 1))=E at l1 f1
  generalize ((zZ w h).filter fun n=>!m n)=bare at l1 f1 c1
  simp [yZ,fnV,wS,vJ,xP,hm,hb,uu,hpl',cE,c1,l1,f1]
 ·rw [f3 p]
  have rim:∀ q,q ∈ (((zZ w h).filter fun n=>!m n).filter fun n=>decide (n % w=0∨n % w=w - 1) || decide (n / w=0∨n / w=h - 1)) ↔ (CB.Place w h q/\m q=false)/\Rim w h q:=fun q=>by
   rw [Ki,mem]
   unfold Rim
   simp only [Bool.or_eq_true,decide_eq_true_eq]
   exact ⟨fun z=>⟨z.1,by omega⟩,fun z=>⟨z.1,by omega⟩⟩
  exact ⟨fun r=>r.mono (fun q a s=>.start ((rim q).mp a).2 ((mem q).mp s)) fun q r=>(mem q).mp r.inS,fun r=>r.mono (fun q a s=>.start ((rim q).mpr ⟨s,a⟩) ((mem q).mpr s)) fun q r=>(mem q).mpr r.inS⟩
theorem zhS{ns:List Int}(S:Scr ns){k:Int}(k0:0≤k)(k1:k≤900):∃ w h F,y4 [scr ns,.int k]=some [57]/\IsFloor w h F:=by
 obtain ⟨ds,r1,r2,r3⟩:=zdz S k0 (show k≤1000 by omega) (show (0:Int)≤2 by decide) [9] (show (1:Int)≤6 by decide) [9]
 obtain ⟨d1,d2,rfl⟩:∃ d1 d2,ds=[d1,d2]:=by
  match ds,r2 with
  | [a,b],_=>exact ⟨a,b,rfl⟩
 obtain ⟨a1,a2⟩:=r3 d1 [12]
 obtain ⟨b1,b2⟩:=r3 d2 [12]
 obtain ⟨c0,hc0⟩:=kn S (show (0:Int)≤0 by decide) [9]
 generalize hw:1+d1=w
 generalize hh:1+d2=h
 have w1:1≤w:=by omega
 have w6:w≤6:=by omega
 have h1:1≤h:=by omega
 have h6:h≤6:=by omega
 have wh:=zlW w1 w6 h1 h6
 have hm:=vw (i:=w) (j:=h) ⟨by omega,by omega⟩
 have hc2:0≤c0 % 2/\c0 % 2<2:=⟨JY _ [9],JW _ [9]⟩
 obtain ⟨es,e1,e2,e3⟩:=zdz S (show 0≤k+1 by omega) (show k+1≤1000 by omega) (show 0≤w * h by omega) [8] (show 1≤2+2 * (c0 % 2) by omega) [8]
 -- the digits,all 1 at times
 obtain ⟨ds,hds,dl⟩:∃ ds:List Int,(if c0 % 8=3 then List.replicate (w * h).toNat 1 else es)=ds/\ds.length=(w * h).toNat:=by
  refine ⟨_,rfl,?_⟩
  split
  ·simp
  ·exact e2
 have hpl:=qK w h
 have c1:∀ x,yI (zN 0) (fT (fOp vGt (fOp vIx (zA 1) (zA 0)) [21])) (z7 (zA 0)) ((zZ w h).map PV.int) [x,some [53]]=some (((zZ w h).filter fun n=>decide (0<ds.getD n.toNat 0)).map PV.int):=fun x=>
  xV (fun n=>decide (0<ds.getD n.toNat 0)) PV.int _ fun n hn=>by
   have hp:=mem_places.mp hn
   unfold CB.Place at hp
   have hj:n.toNat<ds.length:=by omega
   have hg:atI (ds.map PV.int) n=some (.int (ds.getD n.toNat 0)):=by
    rw [zbO,xq hp.1 [8],Jd hj]
    simp [List.getD,List.getElem?_eq_getElem hj]
   exact ⟨_,rfl,by simp [hg],fun _=>by simp⟩
 -- the drawn zZ,one at least
 obtain ⟨so,hso,sn,spl⟩:∃ so:List Int,(if ((zZ w h).filter fun n=>decide (0<ds.getD n.toNat 0))=[] then [w * h - 1] else (zZ w h).filter fun n=>decide (0<ds.getD n.toNat 0))=so/\so≠[]/\(∀ p ∈ so,CB.Place w h p)/\so.length≤36:=by
  refine ⟨_,rfl,?_⟩
  split
  ·exact ⟨by simp,fun p hp=>by rw [List.mem_singleton.mp hp];exact ⟨by omega,by omega⟩,by simp⟩
  ·rename_i hn
   exact ⟨hn,fun p hp=>mem_places.mp (Ki.mp hp).1,JI (Kg _ _) [8]⟩
 obtain ⟨x0,sr,rfl⟩:∃ x0 sr,so=x0::sr:=by
  cases so with
  | nil=>exact absurd rfl sn
  | cons a r=>exact ⟨a,r,rfl⟩
 obtain ⟨L7,f1,f2,f3⟩:=zcU (w:=w) (h:=h) (S:=[x0]) (Pl:=x0::sr) w1 w6 spl.1 [12] [8]
 have mem7:∀ p,p ∈ L7 ↔ Reach (Adj w) (· ∈ x0::sr) (·=x0) p:=fun p=>by rw [f3 p];exact ⟨fun r=>r.mono (fun q z s=>.start (Jh.mp z) s) fun q r=>r.inS,fun r=>r.mono (fun q z s=>.start (Jh.mpr z) s) fun q r=>r.inS⟩
 obtain ⟨L8,g1,g2,g3⟩:=zdE (x:=kT L7) (m:=fun p=>decide (p ∈ L7)) w1 w6 h1 h6 (fun p=>zlA)
 have c2:∀ x,yI (zN 0) (fT (fOp yx (zA 0) (zA 1))) (z7 (zA 0)) ((zZ w h).map PV.int) [x,some (kT L8)]=some (((zZ w h).filter fun n=>!decide (n ∈ L8)).map PV.int):=fun x=>
  xV (fun n=>!decide (n ∈ L8)) PV.int _ fun n _=>⟨_,rfl,by simp,fun _=>by simp⟩
 refine ⟨w,h,(zZ w h).filter fun n=>!decide (n ∈ L8),?_,?_⟩
 ·have hb:w * h<4611686018427387904/\-4611686018427387904≤w * h:=by omega
  have hpl':(zZ w h).length≤100000:=by omega
  have hr0:yI (zN 0) v6 (fOp xR [26] (zA 0)) ([d1,d2].map PV.int) [none]=some [.int w,.int h]:=by simp [yI,hw,hh]
  have hmul2:=vw (i:=2) (j:=c0 % 2) ⟨by omega,by omega⟩
  have hrep:xG (.lst [.int 1]) (.int (w * h))=some (.lst ((List.replicate (w * h).toNat (1:Int)).map PV.int)):=by
   rw [← zmi]
   simp only [xG]
   rw [if_pos ⟨rfl,by omega,by omega,by simp only [List.length_cons,List.length_nil];omega⟩]
  have hsl:vSl (.lst ((x0::sr).map PV.int)) none (some 1)=some (.lst ([x0].map PV.int)):=by
   simp only [vSl,u9,if_true,zna];rfl
  unfold y4 fnV vh
  rw [zL (e:=[some (scr ns),some (.int k),some (.int w),some (.int h),none,none,none,none]) (by
   simp only [List.map_cons,List.map_nil] at hr0 r1
   simp [r1,cE,hr0,v7,z8,v8])]
  rw [zL (e:=[some (scr ns),some (.int k),some (.int w),some (.int h),some (.lst (es.map PV.int)),none,none,none]) (by simp [hc0,yY (show (0:Int)<2 by decide),hmul2,hm,e1])]
  rw [zL (e:=[some (scr ns),some (.int k),some (.int w),some (.int h),some [53],none,none,none]) (by
   rw [← hds]
   by_cases h8:c0 % 8=3
   ·simp [hc0,yY (show (0:Int)<8 by decide),h8,hm,hrep]
   ·simp [hc0,yY (show (0:Int)<8 by decide),h8])]
  rw [zL (e:=[some (scr ns),some (.int k),some (.int w),some (.int h),some [53],some (.lst (((zZ w h).filter fun n=>decide (0<ds.getD n.toNat 0)).map PV.int)),none,none]) (by
   simp [xP,hm,hb,uu,hpl',cE,c1])]
  rw [zL (e:=[some (scr ns),some (.int k),some (.int w),some (.int h),some [53],some (.lst ((x0::sr).map PV.int)),none,none]) (by
   rw [← hso]
   by_cases h9:((zZ w h).filter fun n=>decide (0<ds.getD n.toNat 0))=[]
   ·rw [if_pos h9,h9];simp [hm,vEq,eqP,xH,toPys,PyData.eqv,PyData.eqvAll,u7,v5,okPys,PyData.canLay0,PyData.canLayAll0,PyData.depth,PyData.depthAll]
   ·rw [if_neg h9]
    generalize ((zZ w h).filter fun n=>decide (0<ds.getD n.toNat 0))=so at h9
    simp [zlG,h9])]
  rw [zL (e:=[some (scr ns),some (.int k),some (.int w),some (.int h),some [53],some (.lst ((x0::sr).map PV.int)),some (kT L7),none]) (by
   simp only [List.map_cons,List.map_nil] at f1 hsl ⊢
   simp [fSl,zaM,hsl,f1])]
  rw [zL (e:=[some (scr ns),some (.int k),some (.int w),some (.int h),some [53],some (.lst ((x0::sr).map PV.int)),some (kT L7),some (kT L8)]) (by simp [g1])]
  simp [xP,hm,hb,uu,hpl',cE,c2]
 ·refine zlF (L:=(· ∈ L7)) (O:=(· ∈ L8)) (a:=x0) w1 w6 h1 h6 (fun p hp=>spl.1 p ((mem7 p).mp hp).inS) ((mem7 x0).mpr (.start rfl Jg)) (fun p hp=>?_) (fun p=>?_)
  ·exact ((mem7 p).mp hp).mono (fun q e s=>.start e ((mem7 q).mpr (.start e s))) fun q r=>(mem7 q).mpr r
  ·rw [g3 p]
   exact ⟨fun r=>r.mono (fun q z s=>.start z ⟨s.1,by simpa using s.2⟩) fun q r=>⟨r.inS.1,by simpa using r.inS.2⟩,fun r=>r.mono (fun q z s=>.start z ⟨s.1,by simpa using s.2⟩) fun q r=>⟨r.inS.1,by simpa using r.inS.2⟩⟩
noncomputable def xc:FS:=(ze (yA 3 (fOp vIx (xU (zC [23] (zC (fC (.int 3)) (zC [23] (zC (fC (.int 4)) zJ))))) (fOp xL (fOp xA [40] [23]) (fC (.int 4)))))
 (ze (yA 4 (zI yM (zC (zA 0) (zC (zA 1) (zC (zI xr (zC (fOp vIx (zA 2) [23]) zJ)) (zC (zA 3) zJ))))))
 (ze (xM (fT (fOp vEq (fOp xL (fOp xA [40] (fC (.int 8))) [23]) [21])) (yQ (fLC (xP (zC (zI xr (zC (fOp vIx (zA 2) [23]) zJ)) zJ)) 1 [2,4] (zN 0) (fT (fOp vGt (fOp vIx (zA 2) (zA 0)) [21])) (z7 (fOp vIx (fOp vIx (zA 1) [23]) (zA 0))))) fNx)
 (yQ (fLC (xP (zC (zI xr (zC (fOp vIx (zA 2) [23]) zJ)) zJ)) 1 [2,4] (zN 0) (fT (fOp vEq (fOp vIx (zA 2) (zA 0)) [21])) (z7 (fOp vIx (fOp vIx (zA 1) [23]) (zA 0))))))))
noncomputable def xF:List PV->Option PV:=fnV 5 xc
noncomputable def vf:FS:=(ze (yA 3 (zI zx (zC (zA 0) (zC (zA 1) (zC (zA 2) zJ)))))
 (ze (xM (fT (fOp vEq (fOp vIx (zA 3) [21]) (fC [65]))) (yQ (fC .non)) fNx)
 (yQ (zbE (zC (fLC (vk (zC (fOp vIx (zA 3) [26]) zJ)) 2 [] (v7 2 (z8 (zN 0) (z8 (zN 1) v8))) v6 (vH (zC (z7 (zA 1)) (zC (fC (.str "rising")) (zC (fIf (wZ (fOp xL (zA 0) [23])) (fUn zgs [26]) [26]) zJ))))) zJ)))))
noncomputable def yi:List PV->Option PV:=fnV 4 vf
noncomputable def wY:FS:=(ze (xM (fOr (j9 (wZ (zI xZ (zC (zA 5) (zC (fC (.ty "tuple")) zJ))))) (fOr (fT (fOp vNe (zI xr (zC (zA 5) zJ)) (fC (.int 3)))) (fOr (fT (fOp yx (fOp vIx (zA 5) [21]) (zA 1))) (fT (fOp x9 (fOp vIx (zA 5) [21]) (zA 4)))))) (yQ (fC (.bl false))) fNx)
 (ze (xM (fOr (fT (fOp vNe (fOp vIx (zA 5) [26]) (fC (.str "rising")))) (fOr (j9 (wZ (zI xZ (zC (fOp vIx (zA 5) [23]) (zC (fC (.ty "int")) zJ))))) (fOr (wZ (zI xZ (zC (fOp vIx (zA 5) [23]) (zC (fC (.ty "bool")) zJ)))) (fT (fOp vEq (fOp vIx (zA 5) [23]) [21]))))) (yQ (fC (.bl false))) fNx)
 (zw 4 (z7 (fOp vIx (zA 5) [21])))))
noncomputable def wX:FS:=(xM (fT (fOp vNe (zI zfj (zC (fLC (zq (zA 3)) 3 [7] (v7 3 (z8 (zN 0) (z8 (zN 1) (z8 (zN 2) v8)))) (fT (fOp x9 (zA 0) (zA 3))) (z7 (zA 2))) zJ)) [21])) (yQ (fC (.bl false))) fNx)
noncomputable def vg:FS:=(ze (xM (fOr (j9 (wZ (zI xZ (zC (zA 3) (zC (fC (.ty "list")) zJ))))) (fT (fOp vNe (zA 3) (wH (zC (zA 3) zJ))))) (yQ (fC (.bl false))) fNx)
 (ze (yA 4 (xU zJ))
 (ze (xy (zq (zA 3)) (zN 5) wY)
 (ze (xM (fT (fOp yx (zA 2) (zA 4))) (yQ (fC (.bl false))) fNx)
 (ze (xy (zq (zI zd [62])) (v7 2 (z8 (zN 6) (z8 (zN 7) v8))) wX)
 (yQ (fC (.bl true))))))))
noncomputable def yN:List PV->Option PV:=fnV 8 vg
noncomputable def kq:FS:=(ze (yA 5 (zI yi [86]))
 (ze (xM (fT (fOp vNe (zA 2) (zA 3))) (yQ (fC (.bl false))) fNx)
 (xM (fT (fOp vEq (fOp vIx (zI zx [86]) [21]) (fC [65]))) (xM (fT (fOp zkg (zA 5) (fC .non))) (yQ (fC (.bl false))) fNx) (xM (j9 (wZ (zI yN (zC (zA 1) (zC (zA 3) (zC (zA 4) (zC (zA 5) zJ))))))) (yQ (fC (.bl false))) (ze (zdV 5)
 (xM (j9 (wZ (zI yN (zC (zA 1) (zC (zA 3) (zC (zA 4) (zC (zI yi [86]) zJ))))))) (yQ (fC (.bl false))) fNx))))))
noncomputable def zeP:FS:=(ze (yA 1 (zI y4 (zC (zA 0) (zC [26] zJ))))
 (ze (yA 2 (zI xF (zC (zA 0) (zC (fC (.int 3)) (zC (zA 1) zJ)))))
 (ze (yA 3 (zI zcd (zC (zA 2) zJ)))
 (ze (xy (zq (fSl (zA 3) jZ (zaM (fC (.int 20))))) (zN 4) kq)
 (yQ (fC (.bl true)))))))
noncomputable def kr:List PV->Option PV:=fnV 6 zeP
theorem zjA(ns:List Int):zfj [.lst (ns.map PV.int)]=some (.int ns.sum):=by
 unfold zfj
 dsimp only
 rw [qk]
theorem zhE{f:FE}{env:En}{a:PV}{l:List PV}(h:f env=some (.tup (a::l))):fOp vIx f [21] env=some a:=by
 rw [yc,h];exact zky
theorem zmH{f:FE}{env:En}{a b:PV}{l:List PV}(h:f env=some (.tup (a::b::l))):fOp vIx f [26] env=some b:=by
 rw [yc,h];exact zkx
theorem zlz{f:FE}{env:En}{a b c:PV}{l:List PV}(h:f env=some (.tup (a::b::c::l))):fOp vIx f [23] env=some c:=by
 rw [yc,h];exact zkw
theorem zdP{E E':En}{src:FA}{n:Nat}{js:List Nat}{qs R:List PV}{b:PV->En->Option En}{t:FT}{f:FE}(hX:src E=some qs)(hce:cE n js E=E')(hl:qs.length≤100000)(hc:yI b t f qs E'=some R):fLC src n js b t f E=some (.lst R):=by
 rw [zio,hX,Jc,if_pos hl,hce,hc];rfl
theorem zfQ(xs:List Int):vy [64]=(List.range xs.length).map fun (k:Nat)=>PV.tup [.int (k:Int),.int (xs.getD k 0)]:=by
 unfold vy
 apply List.ext_getElem
 ·simp
 ·intro i h1 h2
  have hi:i<xs.length:=by simpa using h1
  simp [hi]
theorem zne{i:Nat}{f:FE}{env:En}{xs:List Int}{x:Int}(hl:zA i env=some (.lst [64]))(hf:f env=some (.int x))(hz:xs.length<100000):zw i (z7 f) env=some (.nx (env.set i (some (.lst ((xs++[x]).map PV.int))))):=by
 unfold zw
 rw [zbS,hf,hl,Kd]
 simp only [Option.bind_some,List.length_map,hz,if_true,zdb]
 rfl
theorem zbA{f:FE}{env:En}{i:Nat}{x:Int}{xs:List Int}(hf:f env=some (.int x))(hi:zA i env=some (.lst [64])):fT (fOp x9 f (zA i)) env=some (decide (x ∈ xs))/\fT (fOp yx f (zA i)) env=some (!decide (x ∈ xs)):=by
 constructor<;>rw [jg,yc,hf,hi,Jc,Jc]
 ·rw [inE,zhK];rfl
 ·rw [zlo,zhK];rfl
theorem zhb{a b:List Int}(h:a.Perm b):a.sum=b.sum:=by
 induction h with
 | nil=>rfl
 | cons x _ ih=>rw [QJ,QJ,ih]
 | swap x y l=>rw [QJ,QJ,QJ,QJ];omega
 | trans _ _ h1 h2=>exact h1.trans h2
noncomputable def sg(k:Nat):Int:=if k % 2=1 then -1 else 1
theorem ziO(k:Nat):sg (k+1) = -sg k:=by
 unfold sg
 by_cases h:k % 2=1
 ·rw [if_pos h,if_neg [8]];rfl
 ·rw [if_neg h,if_pos [8]]
theorem zlY{r:Nat->Int}{c:Int->Bool}{b:Nat->Int}:∀ n:Nat,(∀ k,k<n->(if c (r k)=true then 1 else 0:Int)=b k+b (k+1))->((((List.range n).map fun k=>(r k,sg k)).filter fun p=>c p.1).map (·.2)).sum=b 0 - sg n * b n
 | 0,_=>by show (0:Int)=b 0 - 1 * b 0;omega
 | n+1,h=>by
  have ih:=zlY (r:=r) (c:=c) (b:=b) n fun k hk=>h k [8]
  have hn:=h n [8]
  rw [List.range_succ,Kd,Qb,Kd,List.sum_append,ih,ziO]
  have e:((([n].map fun k=>(r k,sg k)).filter fun p=>c p.1).map (·.2)).sum=sg n * (b n+b (n+1)):=by
   rw [← hn]
   by_cases z:c (r n)=true
   ·rw [if_pos z]
    simp [z]
   ·rw [if_neg z]
    simp [z]
  rw [e,Int.mul_add,Int.neg_mul]
  omega
noncomputable def psR(ring:List Int):List (Int × Int):=(List.range ring.length).map fun k=>(ring.getD k 0,sg k)
theorem zjc{m k:Nat}(hk:k<m):zdC m ((k+1) % m)=k/\(k+1) % m<m/\(m % 2=0->((k+1) % m) % 2=(k+1) % 2):=by
 unfold zdC
 rcases Nat.lt_or_ge (k+1) m with c | c
 ·rw [Nat.mod_eq_of_lt c,if_neg [8]]
  exact ⟨by omega,c,fun _=>rfl⟩
 ·have:k+1=m:=by omega
  rw [this,Nat.mod_self,if_pos rfl]
  exact ⟨by omega,by omega,fun h=>by omega⟩
theorem zgK{ls:List (List Int)}{R:Nat}{B:List Int}{f:Int}{ring:List Int}{sh:Nat->Nat}(hr:Ring ls R B f ring sh)(hB:∀ g ∈ B,idx ls g=[(rc ls g).1,(rc ls g).2]/\(rc ls g).1<R/\R≤(rc ls g).2){s:Nat}(hs:s<ls.length):
  (((psR ring).filter fun p=>decide (p.1 ∈ (ls[s]?).getD [])).map (·.2)).sum=0:=by
 have m4:=hr.many
 let b:Nat->Int:=fun k=>if s=sh (k % ring.length) then 1 else 0
 have h:=zlY (r:=fun k=>ring.getD k 0) (c:=fun x=>decide (x ∈ (ls[s]?).getD [])) (b:=b) ring.length (fun k hk=>by
  obtain ⟨n1,n2,n3⟩:=zjc hk
  have n3:=n3 m4.2.1
  have hg:ring[k]?=some (ring.getD k 0):=by simp [List.getD,hk]
  generalize ring.getD k 0=g at hg
  have hgB:g ∈ B:=hr.inB g (JN hg)
  obtain ⟨i1,i2,i3⟩:=hB g hgB
  have t1:=hr.two k g hk (.inl hg)
  have t2:=hr.two ((k+1) % ring.length) g n2 (.inr (by rw [n1];exact hg))
  have a1:=hr.alt k hk
  have a2:=hr.alt _ n2
  show (if decide (g ∈ (ls[s]?).getD [])=true then 1 else 0:Int)=(if s=sh (k % ring.length) then 1 else 0)+(if s=sh ((k+1) % ring.length) then 1 else 0)
  have mem:g ∈ (ls[s]?).getD [] ↔ s=(rc ls g).1∨s=(rc ls g).2:=by
   rw [zjz hs,i1];simp
  rw [Nat.mod_eq_of_lt hk]
  generalize (rc ls g).1=x at *
  generalize (rc ls g).2=y at *
  generalize sh ((k+1) % ring.length)=v at *
  generalize sh k=u at *
  have e:(u=x/\v=y)∨(u=y/\v=x):=by omega
  by_cases z:g ∈ (ls[s]?).getD []
  ·rw [if_pos (decide_eq_true z)]
   rcases mem.mp z with q | q<;>rcases e with ⟨e1,e2⟩ | ⟨e1,e2⟩
   ·rw [if_pos [8],if_neg [8]];rfl
   ·rw [if_neg [8],if_pos [8]];rfl
   ·rw [if_neg [8],if_pos [8]];rfl
   ·rw [if_pos [8],if_neg [8]];rfl
  ·rw [if_neg (by rw [decide_eq_false z];exact Je)]
   have q1:¬ s=x:=fun q=>z (mem.mpr (.inl q))
   have q2:¬ s=y:=fun q=>z (mem.mpr (.inr q))
   rw [if_neg [8],if_neg [8]];rfl)
 show ((((List.range ring.length).map fun k=>(ring.getD k 0,sg k)).filter fun p=>decide (p.1 ∈ (ls[s]?).getD [])).map (·.2)).sum=0
 rw [h]
 have e1:sg ring.length=1:=by unfold sg;rw [if_neg [8]]
 have e2:b ring.length=b 0:=by
  show (if s=sh (ring.length % ring.length) then 1 else 0:Int)=if s=sh (0 % ring.length) then 1 else 0
  rw [Nat.mod_self,Nat.zero_mod]
 rw [e1,e2];omega
noncomputable def kP(p:Int × Int):List Key:=[.inl p.1,.inr "rising",.inl p.2]
noncomputable def vP(p:Int × Int):PV:=.tup [.int p.1,.str "rising",.int p.2]
theorem zgr(ps:List (Int × Int)):ps.map vP=(ps.map kP).map tPV:=by rw [KA];rfl
noncomputable def ziJ(ps:List (Int × Int)):List (List Key):=vv (ps.map kP)
theorem zkN(ps:List (Int × Int)):∀ k ∈ ps.map kP,shp k=[true,false,true]:=fun k hk=>by
 obtain ⟨r,_,rfl⟩:=Jv.mp hk
 rfl
theorem zhl(ps:List (Int × Int)):okM (ps.map kP)=true:=by
 cases ps with
 | nil=>rfl
 | cons r rs=>
  refine QG.mpr fun k hk=>?_
  obtain ⟨r',_,rfl⟩:=Jv.mp hk
  rfl
theorem zaz:okB 0 (.str "rising"):=zbt [25]
theorem needed_ok:okB 0 [65]:=zbt [25]
theorem zln(p:Int × Int):okB 1 (vP p):=zjs fun q hq=>by
 rcases List.mem_cons.mp hq with rfl | hq
 ·exact zbu _
 ·rcases List.mem_cons.mp hq with rfl | hq
  ·exact zaz
  ·rw [Jh.mp hq];exact zbu _
theorem zkv:vEq [65] [65]=some (.bl true):=zjW needed_ok [9]
theorem zku:vEq (.str "spare") [65]=some (.bl false):=by
 have h3:eqP (.str "spare") [65]=false:=by decide +kernel
 have h1:okB 0 (.str "spare"):=zbt [25]
 unfold vEq
 rw [h3,h1.ok [9],needed_ok.ok [9]];rfl
theorem sgV(k:Nat)(x:PV):fIf (wZ (fOp xL (zA 0) [23])) (fUn zgs [26]) [26] [some (.int (k:Int)),some x]=some (.int (sg k)):=by
 have e:fOp xL (zA 0) [23] [some (.int (k:Int)),some x]=some (.int ((k:Int) % 2)):=yY (i:=(k:Int)) (j:=2) [9]
 rw [zng]
 unfold wZ
 rw [e,Jc]
 unfold sg
 by_cases h:k % 2=1
 ·have:(k:Int) % 2=1:=by omega
  rw [this,if_pos h];rfl
 ·have:(k:Int) % 2=0:=by omega
  rw [this,if_neg h];rfl
theorem zgR{w h:Int}{F:List Int}{rs cs:List [88]}{L0:List Int}{G:Int->PV}(S:Strips w h F rs cs)(C:Cross w h F [22] L0 G)(hs:zd [flV w h F]=some [73]){B:List Int}(hB:∀ f ∈ B,f ∈ F)(hl:B.length≤100){f:Int}(hf:f ∈ B):
  (∃ q,zx [flV w h F,.lst [24],.int f]=some (.tup [.str "needed",q])/\yi [flV w h F,.lst [24],.int f]=some .non)∨
  ∃ (q:PV) (ring:List Int) (sh:Nat->Nat),zx [flV w h F,.lst [24],.int f]=some (.tup [.str "spare",q])/\Ring [22] rs.length B f ring sh/\yi [flV w h F,.lst [24],.int f]=some (.lst ((ziJ (psR ring)).map tPV)):=by
 have hlen:=S.lens
 obtain ⟨L,ws,wk,hcase⟩:=zdk S C hs hB hl (hB f hf)
 have hLl:L.length≤72:=by
  have:=zS L _ wk.nd wk.sub
  rw [qB] at this;omega
 let mk:Option PV->En:=fun x=>[some [57],some (.lst [24]),some (.int f),x]
 rcases hcase with ⟨hc,e⟩ | ⟨hc,e⟩
 ·right
  obtain ⟨us,p1,p2⟩:=wk.once _ hc
  obtain ⟨fs,vs,k,m1,m2,m3,sw⟩:=SPath.way p1
  have hz:=(wk.path _ hc).2
  rw [m1] at e hz
  rw [Jj] at hz
  have ek:k=(rc [22] f).2:=by omega
  subst ek
  have hr:=ziS (R:=rs.length) (fun g hg=>⟨(S.rc_of (hB g hg)).2.1,(S.rc_of (hB g hg)).2.2.1⟩) (fun g hg h hh e=>S.inj (hB g hg) (hB h hh) e) hf sw [8]
  have e:zx [flV w h F,.lst [24],.int f]=some (.tup [.str "spare",.lst ((f::fs).map PV.int)]):=e
  generalize f::fs=ring at e hr
  refine ⟨_,ring,_,e,hr,?_⟩
  have m4:=hr.many
  let E:=mk (some (.tup [.str "spare",.lst (ring.map PV.int)]))
  refine xI (e:=E) (mk none) rfl ?_
  unfold vf
  rw [zL (e:=E) (ya (as:=[flV w h F,.lst [24],.int f]) rfl e)]
  have i0:fOp vIx (zA 3) [21] E=some (.str "spare"):=zhE rfl
  have i1:fOp vIx (zA 3) [26] E=some (.lst (ring.map PV.int)):=zmH rfl
  rw [zL (e:=E) (by
   have t:fT (fOp vEq (fOp vIx (zA 3) [21]) (fC [65])) E=some false:=by
    rw [jg,yc,i0]
    show (vEq (.str "spare") [65]).bind yC=_
    rw [zku];rfl
   rw [yP,t];rfl)]
  have hsq:vk (zC (fOp vIx (zA 3) [26]) zJ) E=some ((List.range ring.length).map fun (k:Nat)=>PV.tup [.int (k:Int),.int (ring.getD k 0)]):=by
   unfold vk
   rw [zg,i1]
   show some (vy (ring.map PV.int))=_
   rw [zfQ]
  have hlc:fLC (vk (zC (fOp vIx (zA 3) [26]) zJ)) 2 [] (v7 2 (z8 (zN 0) (z8 (zN 1) v8))) v6 (vH (zC (z7 (zA 1)) (zC (fC (.str "rising")) (zC (fIf (wZ (fOp xL (zA 0) [23])) (fUn zgs [26]) [26]) zJ)))) E=some (.lst ((psR ring).map vP)):=by
   unfold psR
   rw [KA]
   refine zdP hsq rfl (by rw [Jj,JL];omega) (xp _ (List.range ring.length) fun k hk=>⟨[some (.int (k:Int)),some (.int (ring.getD k 0))],rfl,rfl,?_⟩)
   rw [zbQ,zg,zg,zg,sgV];rfl
  rw [vq]
  unfold zbE
  rw [zg,hlc,zgr]
  dsimp only [Option.bind_some,Option.map_some,zbR]
  rw [qC,Jc,if_pos ⟨zhl _,by rw [Jj,psR,Jj,JL];omega⟩];rfl
 ·left
  let E:=mk (some (.tup [.str "needed",.lst ((zcM (rs.length+cs.length) L).map PV.int)]))
  refine ⟨_,e,xI (e:=E) (mk none) rfl ?_⟩
  unfold vf
  rw [zL (e:=E) (ya (as:=[flV w h F,.lst [24],.int f]) rfl e)]
  have i0:fOp vIx (zA 3) [21] E=some [65]:=zhE rfl
  have t:fT (fOp vEq (fOp vIx (zA 3) [21]) (fC [65])) E=some true:=by
   rw [jg,yc,i0]
   show (vEq [65] [65]).bind yC=_
   rw [zkv];rfl
  rw [zbF (p:=.non) (e:=E) (by rw [yP,t];rfl)]
theorem zjb(ring:List Int):(psR ring).map (·.1)=ring:=by
 unfold psR
 rw [KA]
 apply List.ext_getElem
 ·simp
 ·intro i h1 h2
  simp [h2]
theorem zgL{w h:Int}{F:List Int}{rs cs:List [88]}(S:Strips w h F rs cs)(hs:zd [flV w h F]=some [73]){B:List Int}(hB:∀ f ∈ B,f ∈ F)(hFl:F.length≤36){f:Int}{ring:List Int}{sh:Nat->Nat}(hr:Ring [22] rs.length B f ring sh):
  yN [flV w h F,.lst [24],.int f,.lst ((ziJ (psR ring)).map tPV)]=some (.bl true):=by
 have m4:=hr.many
 have rl:ring.length≤36:=JI (zS ring F hr.nd fun x hx=>hB x (hr.inB x hx)) hFl
 obtain ⟨ts,tp,te⟩:=zhc kP (wM ((psR ring).map kP)) (psR ring) rfl
 have te:ziJ (psR ring)=ts.map kP:=te
 have tl:ts.length=ring.length:=by rw [tp.length_eq,psR,Jj,JL]
 have t1:(ts.map (·.1)).Perm ring:=by
  have:=tp.map (·.1)
  rwa [zjb] at this
 have tnd:(ts.map (·.1)).Nodup:=t1.nodup_iff.mpr hr.nd
 have tin:∀ t ∈ ts,t.1 ∈ B/\¬ t.2=0:=fun t ht=>by
  refine ⟨hr.inB _ (t1.mem_iff.mp (Jv.mpr ⟨t,ht,rfl⟩)),?_⟩
  have:=tp.mem_iff.mp ht
  unfold psR at this
  obtain ⟨k,_,rfl⟩:=Jv.mp this
  show ¬ sg k=0
  unfold sg
  split<;>decide
 have knd:(ts.map kP).Nodup:=by
  rw [Ka,Kw]
  rw [Ka,Kw] at tnd
  exact tnd.imp fun {a b} h e=>h (by
   have:([Sum.inl a.1,Sum.inr (Str.ofString "rising"),Sum.inl a.2]:List Key)=[Sum.inl b.1,Sum.inr (Str.ofString "rising"),Sum.inl b.2]:=e
   simpa using (List.cons.inj this).1)
 have same:vv (ts.map kP)=ts.map kP:=by
  have:vv ((psR ring).map kP)=vv (ts.map kP):=zcj (zkN _) ((wM _).trans (tp.map kP)) (vQ _)
  rw [← this];exact te
 rw [te,← zgr]
 have okb:okB 2 (.lst (ts.map vP)):=zeC fun p hp=>by
  obtain ⟨t,_,rfl⟩:=Jv.mp hp
  exact zln t
 let mk:Option PV->Option PV->Option PV->Option PV->En:=fun x4 x5 x6 x7=>[some [57],some (.lst [24]),some (.int f),some (.lst (ts.map vP)),x4,x5,x6,x7]
 let sv:List (Int × Int)->Option PV:=fun pre=>some (.lst ((pre.map (·.1)).map PV.int))
 obtain ⟨e1,f1,x5,rfl⟩:=wC (b:=zN 5) (g:=wY) (xs:=ts) (hh:=vP) (env:=mk (sv []) none none none) (fun pre e=>∃ x5,e=mk (sv pre) x5 none none) ⟨none,rfl⟩ (by
  rintro pre t post e hp ⟨x5,rfl⟩
  have htm:t ∈ ts:=by rw [hp];simp
  obtain ⟨b1,b2⟩:=tin t htm
  have pl:pre.length<1000:=by
   have:=congrArg List.length hp
   rw [Jo] at this;omega
  have tno:t.1 ∉ pre.map (·.1):=fun z=>by
   rw [hp,Kd,Jr] at tnd
   exact (Jz.mp tnd).2.2 _ z _ Jg rfl
  let E:=mk (sv pre) (some (vP t)) none none
  refine ⟨E,mk (sv (pre++[t])) (some (vP t)) none none,rfl,.inl ?_,_,rfl⟩
  have i0:fOp vIx (zA 5) [21] E=some (.int t.1):=zhE rfl
  have i1:fOp vIx (zA 5) [26] E=some (.str "rising"):=zmH rfl
  have i2:fOp vIx (zA 5) [23] E=some (.int t.2):=zlz rfl
  unfold wY
  rw [zL (e:=E) (by
   have q1:j9 (wZ (zI xZ (zC (zA 5) (zC (fC (.ty "tuple")) zJ)))) E=some false:=rfl
   have q2:fT (fOp vNe (zI xr (zC (zA 5) zJ)) (fC (.int 3))) E=some false:=by
    show (vNe (.int 3) (.int 3)).bind yC=_
    rw [zkr];rfl
   have q3:fT (fOp yx (fOp vIx (zA 5) [21]) (zA 1)) E=some false:=by
    rw [(zbA (xs:=B) i0 rfl).2,decide_eq_true b1];rfl
   have q4:fT (fOp x9 (fOp vIx (zA 5) [21]) (zA 4)) E=some false:=by
    rw [(zbA (xs:=pre.map (·.1)) i0 rfl).1,decide_eq_false tno]
   rw [yP,zah,q1,Jc,if_neg Je,zah,q2,Jc,if_neg Je,zah,q3,Jc,if_neg Je,q4];rfl)]
  rw [zL (e:=E) (by
   have q1:fT (fOp vNe (fOp vIx (zA 5) [26]) (fC (.str "rising"))) E=some false:=by
    rw [jg,yc,i1]
    show (vNe (.str "rising") (.str "rising")).bind yC=_
    rw [zbw zaz [9]];rfl
   have q2:j9 (wZ (zI xZ (zC (fOp vIx (zA 5) [23]) (zC (fC (.ty "int")) zJ)))) E=some false:=by
    rw [zej];unfold wZ
    rw [yB (as:=[.int t.2,.ty "int"]) (by rw [zg,i2];rfl) (p:=.bl true) rfl];rfl
   have q3:wZ (zI xZ (zC (fOp vIx (zA 5) [23]) (zC (fC (.ty "bool")) zJ))) E=some false:=by
    unfold wZ
    rw [yB (as:=[.int t.2,.ty "bool"]) (by rw [zg,i2];rfl) (p:=.bl false) rfl];rfl
   have q4:fT (fOp vEq (fOp vIx (zA 5) [23]) [21]) E=some false:=by
    rw [jg,yc,i2]
    show (vEq (.int t.2) (.int 0)).bind yC=_
    rw [zhY,decide_eq_false b2];rfl
   rw [yP,zah,q1,Jc,if_neg Je,zah,q2,Jc,if_neg Je,zah,q3,Jc,if_neg Je,q4];rfl)]
  refine (zne (xs:=pre.map (·.1)) rfl i0 (by rw [Jj];omega)).trans ?_
  show _=some (Out.nx (mk (some (.lst (((pre++[t]).map (·.1)).map PV.int))) (some (vP t)) none none))
  rw [Kd (l₁:=pre)];rfl)
 obtain ⟨e2,f2,x6,x7,rfl⟩:=wC (b:=v7 2 (z8 (zN 6) (z8 (zN 7) v8))) (g:=wX) (xs:=v4 w rs cs) (hh:=zh) (env:=mk (sv ts) x5 none none) (fun _ e=>∃ x6 x7,e=mk (sv ts) x5 x6 x7) ⟨none,none,rfl⟩ (by
  rintro pre z post e hp ⟨x6,x7,rfl⟩
  have hz:z.2 ∈ zo w rs cs:=by
   rw [← zdt,hp]
   exact List.mem_map.mpr ⟨z,by simp,rfl⟩
  let E:=mk (sv ts) x5 (some (.str z.1)) (some (.tup (z.2.map PV.int)))
  refine ⟨E,E,rfl,.inl ?_,_,_,rfl⟩
  have hlc:fLC (zq (zA 3)) 3 [7] (v7 3 (z8 (zN 0) (z8 (zN 1) (z8 (zN 2) v8)))) (fT (fOp x9 (zA 0) (zA 3))) (z7 (zA 2)) E=some (.lst (((ts.filter fun p=>decide (p.1 ∈ z.2)).map (·.2)).map PV.int)):=by
   rw [KA]
   refine zdP (qs:=ts.map vP) rfl rfl (by rw [Jj];omega) (zaQ (fun p=>decide (p.1 ∈ z.2)) _ ts fun p _=>⟨[some (.int p.1),some (.str "rising"),some (.int p.2),some (.tup (z.2.map PV.int))],rfl,?_,fun _=>rfl⟩)
   show (x9 (.int p.1) (.tup (z.2.map PV.int))).bind yC=_
   rw [inE,zhJ];rfl
  have hsum:((ts.filter fun p=>decide (p.1 ∈ z.2)).map (·.2)).sum=0:=by
   obtain ⟨s,hs1,hs2⟩:=JZ hz
   have r:=zgK hr (fun g hg=>⟨(S.rc_of (hB g hg)).1,(S.rc_of (hB g hg)).2.1,(S.rc_of (hB g hg)).2.2.1⟩) hs1
   rw [Jd hs1,hs2] at r
   have pp:=((tp.filter fun p=>decide (p.1 ∈ z.2)).map (·.2))
   rw [zhb pp];exact r
  unfold wX
  have t:fT (fOp vNe (zI zfj (zC (fLC (zq (zA 3)) 3 [7] (v7 3 (z8 (zN 0) (z8 (zN 1) (z8 (zN 2) v8)))) (fT (fOp x9 (zA 0) (zA 3))) (z7 (zA 2))) zJ)) [21]) E=some false:=by
   rw [jg,yc,yB (as:=[.lst (((ts.filter fun p=>decide (p.1 ∈ z.2)).map (·.2)).map PV.int)]) (by rw [zg,hlc];rfl) (zjA _),hsum]
   show (vNe (.int 0) (.int 0)).bind yC=_
   rw [zkr];rfl
  rw [yP,t];rfl)
 refine xI (e:=mk (sv ts) x5 x6 x7) (mk none none none none) rfl ?_
 unfold vg
 rw [zL (e:=mk none none none none) (by
  have q1:j9 (wZ (zI xZ (zC (zA 3) (zC (fC (.ty "list")) zJ)))) (mk none none none none)=some false:=rfl
  have q2:fT (fOp vNe (zA 3) (wH (zC (zA 3) zJ))) (mk none none none none)=some false:=by
   have hv:zA 3 (mk none none none none)=some (.lst (ts.map vP)):=rfl
   have hss:wH (zC (zA 3) zJ) (mk none none none none)=some (.lst (ts.map vP)):=by
    unfold wH
    rw [zg,hv,zgr]
    dsimp only [Option.bind_some,Option.map_some,zbR]
    rw [qC,Jc,if_pos ⟨zhl _,knd,by rw [Jj];omega,by rw [Jj];omega⟩,same]
   rw [jg,yc,hss,hv,Jc,Jc,zbw okb [9]];rfl
  rw [yP,zah,q1,Jc,if_neg Je,q2];rfl)]
 rw [zL (e:=mk (sv []) none none none) rfl]
 have hs3:zq (zA 3) (mk (sv []) none none none)=some (ts.map vP):=rfl
 rw [zL (by rw [wF,hs3,Jc];exact f1)]
 rw [zL (e:=mk (sv ts) x5 none none) (by
  have hin:f ∈ ts.map (·.1):=t1.mem_iff.mpr (JN hr.first)
  have q:fT (fOp yx (zA 2) (zA 4)) (mk (sv ts) x5 none none)=some false:=by
   rw [(zbA (xs:=ts.map (·.1)) (f:=zA 2) rfl rfl).2,decide_eq_true hin];rfl
  rw [yP,q];rfl)]
 rw [zL (by rw [wF,zag,yB (as:=[flV w h F]) rfl hs];exact f2)]
 rfl
theorem zge{ns:List Int}(SC:Scr ns){w h:Int}{F:List Int}(hl:F.length≤36):∃ B:List Int,xF [scr ns,.int 3,flV w h F]=some (.lst [24])/\(∀ f ∈ B,f ∈ F)/\B.length≤36:=by
 obtain ⟨c0,hc0⟩:=kn SC (k:=0) [9] [9]
 obtain ⟨b,hb,b1,b2⟩:∃ b:Int,atI [PV.int 2,.int 3,.int 2,.int 4] (c0 / 2 % 4)=some (.int b)/\1≤b/\b≤1000:=by
  have h0:0≤c0 / 2 % 4:=JY _ [9]
  have h1:c0 / 2 % 4<4:=JW _ [9]
  have:c0 / 2 % 4=0∨c0 / 2 % 4=1∨c0 / 2 % 4=2∨c0 / 2 % 4=3:=by omega
  rcases this with e | e | e | e<;>rw [e]
  ·exact ⟨2,zky,by decide,by decide⟩
  ·exact ⟨3,zkx,by decide,by decide⟩
  ·exact ⟨2,zkw,by decide,by decide⟩
  ·exact ⟨4,znd,by decide,by decide⟩
 obtain ⟨ds,hd,dl,_⟩:=zdz SC (k:=3) (n:=(F.length:Int)) (b:=b) [9] [9] [8] [8] b1 b2
 let mk:Option PV->Option PV->En:=fun x3 x4=>[some (scr ns),some (.int 3),some [57],x3,x4]
 let E:=mk (some (.int b)) (some [53])
 have v2:∀ x3 x4,fOp vIx (zA 2) [23] (mk x3 x4)=some (.tup (F.map PV.int)):=fun _ _=>zlz rfl
 have hcl:∀ x3 x4,zI zT (zC (zA 0) (zC [21] zJ)) (mk x3 x4)=some (.int c0):=fun _ _=>yB (as:=[scr ns,.int 0]) rfl hc0
 have hlen:∀ x3 x4,zI xr (zC (fOp vIx (zA 2) [23]) zJ) (mk x3 x4)=some (.int (F.length:Int)):=fun x3 x4=>yB (as:=[.tup (F.map PV.int)]) (by rw [zg,v2];rfl) (by rw [zjB,Jj])
 have hrng:xP (zC (zI xr (zC (fOp vIx (zA 2) [23]) zJ)) zJ) E=some (((List.range F.length).map fun (i:Nat)=>(i:Int)).map PV.int):=by
  rw [zeA (j:=(F.length:Int)) (by rw [zg,hlen];rfl) [8] [8],Int.toNat_natCast,zgJ]
 let cc:(Int->Bool)->List Int:=fun T=>(((List.range F.length).map fun (i:Nat)=>(i:Int)).filter T).map fun i=>F.getD i.toNat 0
 have hcc:∀ T,(∀ f ∈ cc T,f ∈ F)/\(cc T).length≤36:=fun T=>by
  refine ⟨fun f hf=>?_,?_⟩
  ·obtain ⟨i,hi,rfl⟩:=Jv.mp hf
   obtain ⟨j,hj,rfl⟩:=Jv.mp (Ki.mp hi).1
   have hj:=Jt.mp hj
   have e:F.getD ((j:Int)).toNat 0=F[j]:=by simp [List.getD,hj]
   rw [e];exact Kf hj
  ·show (List.map _ _).length≤36
   rw [Jj]
   refine JI (Kg _ _) ?_
   rw [Jj,JL];exact hl
 have hcomp:∀ (tt:FT) (T:Int->Bool),(∀ j:Nat,j<F.length->tt [some (.int (j:Int)),some [57],some [53]]=some (T j))->fLC (xP (zC (zI xr (zC (fOp vIx (zA 2) [23]) zJ)) zJ)) 1 [2,4] (zN 0) tt (z7 (fOp vIx (fOp vIx (zA 1) [23]) (zA 0))) E=some (.lst ((cc T).map PV.int)):=fun tt T hT=>by
  show _=some (PV.lst (((((List.range F.length).map fun (i:Nat)=>(i:Int)).filter T).map fun i=>F.getD i.toNat 0).map PV.int))
  rw [KA]
  refine zdP hrng rfl (by rw [Jj,Jj,JL];omega) (xV T _ _ fun n hn=>?_)
  obtain ⟨j,hj,rfl⟩:=Jv.mp hn
  have hj:=Jt.mp hj
  refine ⟨[some (.int (j:Int)),some [57],some [53]],rfl,hT j hj,fun _=>?_⟩
  have i2:fOp vIx (zA 1) [23] [some (.int (j:Int)),some [57],some [53]]=some (.tup (F.map PV.int)):=zlz rfl
  have ia:fOp vIx (fOp vIx (zA 1) [23]) (zA 0) [some (.int (j:Int)),some [57],some [53]]=some (.int (F.getD j 0)):=by
   rw [yc,i2];exact zeZ hj
  rw [zbS,ia];rfl
 have hdat:∀ j:Nat,j<F.length->fOp vIx (zA 2) (zA 0) [some (.int (j:Int)),some [57],some [53]]=some (.int (ds.getD j 0)):=fun j hj=>zeZ (by rw [dl,Int.toNat_natCast];exact hj)
 have s1:yA 3 (fOp vIx (xU (zC [23] (zC (fC (.int 3)) (zC [23] (zC (fC (.int 4)) zJ))))) (fOp xL (fOp xA [40] [23]) (fC (.int 4)))) (mk none none)=some (.nx (mk (some (.int b)) none)):=by
  have e1:fOp xA [40] [23] (mk none none)=some (.int (c0 / 2)):=by
   rw [yc,hcl];exact uU (i:=c0) (j:=2) ⟨by decide,by decide⟩
  have e2:fOp xL (fOp xA [40] [23]) (fC (.int 4)) (mk none none)=some (.int (c0 / 2 % 4)):=by
   rw [yc,e1];exact yY (i:=c0 / 2) (j:=4) [9]
  rw [zei,yc,e2]
  show (atI [PV.int 2,.int 3,.int 2,.int 4] (c0 / 2 % 4)).map _=_
  rw [hb];rfl
 have s2:yA 4 (zI yM (zC (zA 0) (zC (zA 1) (zC (zI xr (zC (fOp vIx (zA 2) [23]) zJ)) (zC (zA 3) zJ))))) (mk (some (.int b)) none)=some (.nx E):=ya (as:=[scr ns,.int 3,.int (F.length:Int),.int b]) (by rw [zg,zg,zg,hlen];rfl) hd
 have ht:fT (fOp vEq (fOp xL (fOp xA [40] (fC (.int 8))) [23]) [21]) E=some (decide (c0 / 8 % 2=0)):=by
  have e1:fOp xA [40] (fC (.int 8)) E=some (.int (c0 / 8)):=by
   rw [yc,hcl];exact uU (i:=c0) (j:=8) ⟨by decide,by decide⟩
  have e2:fOp xL (fOp xA [40] (fC (.int 8))) [23] E=some (.int (c0 / 8 % 2)):=by
   rw [yc,e1];exact yY (i:=c0 / 8) (j:=2) [9]
  rw [jg,yc,e2]
  show (vEq (.int (c0 / 8 % 2)) (.int 0)).bind yC=_
  rw [zhY];rfl
 by_cases hz:c0 / 8 % 2=0
 ·refine ⟨cc fun i=>decide (0<ds.getD i.toNat 0),xI (e:=E) (mk none none) rfl ?_,hcc _⟩
  have hlc:=hcomp (fT (fOp vGt (fOp vIx (zA 2) (zA 0)) [21])) (fun i=>decide (0<ds.getD i.toNat 0)) fun j hj=>by
   rw [jg,yc,hdat j hj];rfl
  unfold xc
  rw [zL s1,zL s2,zbF (p:=.lst ((cc fun i=>decide (0<ds.getD i.toNat 0)).map PV.int)) (e:=E) (by
   rw [yP,ht,decide_eq_true hz,Jc,if_pos rfl,vq,hlc];rfl)]
 ·refine ⟨cc fun i=>decide (ds.getD i.toNat 0=0),xI (e:=E) (mk none none) rfl ?_,hcc _⟩
  have hlc:=hcomp (fT (fOp vEq (fOp vIx (zA 2) (zA 0)) [21])) (fun i=>decide (ds.getD i.toNat 0=0)) fun j hj=>by
   rw [jg,yc,hdat j hj]
   show (vEq (.int (ds.getD j 0)) (.int 0)).bind yC=_
   rw [zhY];rfl
  unfold xc
  rw [zL s1,zL s2,zL (e:=E) (by rw [yP,ht,decide_eq_false hz,Jc,if_neg Je];rfl),vq,hlc];rfl
noncomputable def zie(X:List Int)(lo hi:Option Int):List Int:=(X.drop (HT.sIx X.length 0 lo)).take (HT.sIx X.length X.length hi - HT.sIx X.length 0 lo)
theorem ziN(X:List Int)(lo hi:Option Int):vSl (.lst (X.map PV.int)) lo hi=some (.lst ((zie X lo hi).map PV.int)):=by
 unfold vSl
 dsimp only
 rw [if_pos u9]
 unfold zbJ zie
 rw [Jj,List.map_take,List.map_drop]
theorem zhu{X:List Int}{lo hi:Option Int}{x:Int}(h:x ∈ zie X lo hi):x ∈ X:=Qk (QF h)
theorem zhy(ns:List Int)(hl:ns.length≤63)(hb:∀ m ∈ ns,Builtin.Int.intBits m≤1048576):kr [.fls (ns.map PV.int)]=some (.bl true):=by
 have SC:Scr ns:=⟨hl,hb⟩
 obtain ⟨w,h,F,h1,fl⟩:=zhS SC (k:=1) [9] [9]
 have hFl:=wG fl
 obtain ⟨rs,cs,L0,G,S,hst,C⟩:=zfX fl
 obtain ⟨B,h3,hBF,hBl⟩:=zge SC (w:=w) (h:=h) (F:=F) hFl
 have pl:∀ f ∈ B,_:=fun f hf=>zgR S C hst hBF [8] hf
 have ro:∀ {f:Int} {ring:List Int} {sh:Nat->Nat},Ring [22] rs.length B f ring sh->_:=fun {f ring sh} hr=>zgL S hst hBF hFl hr
 have okb:okB 1 (.lst [24]):=zeC (zhm B)
 let Bv:=some (PV.lst [24])
 let mk:Option PV->Option PV->En:=fun x4 x5=>[some (scr ns),some [57],Bv,Bv,x4,x5]
 obtain ⟨e,f1,x4,x5,rfl⟩:=wC (b:=zN 4) (g:=kq) (xs:=zie B none (some 20)) (hh:=PV.int) (env:=mk none none) (fun _ e=>∃ x4 x5,e=mk x4 x5) ⟨_,_,rfl⟩ (by
  rintro pre f post e hp ⟨x4,x5,rfl⟩
  have hf:f ∈ B:=zhu (by rw [hp];simp)
  have q1:∀ x5,fT (fOp vNe (zA 2) (zA 3)) (mk [58] x5)=some false:=fun x5=>by
   show (vNe (.lst [24]) (.lst [24])).bind yC=_
   rw [zbw okb [9]];rfl
  rcases pl f hf with ⟨q,w1,w2⟩ | ⟨q,ring,sh,w1,hr,w2⟩
  ·let E:=mk [58] (some .non)
   refine ⟨mk [58] x5,E,rfl,.inl ?_,_,_,rfl⟩
   unfold kq
   rw [zL (e:=E) (ya (as:=[flV w h F,.lst [24],.int f]) rfl w2)]
   rw [zL (e:=E) (by rw [yP,q1];rfl)]
   have t:fT (fOp vEq (fOp vIx (zI zx [86]) [21]) (fC [65])) E=some true:=by
    rw [jg,yc,zhE (yB (as:=[flV w h F,.lst [24],.int f]) rfl w1)]
    show (vEq [65] [65]).bind yC=_
    rw [zkv];rfl
   rw [yP,t];rfl
  ·generalize hP:(ziJ (psR ring)).map tPV=P at w2
   have rr:=ro hr
   rw [hP] at rr
   let E:=mk [58] (some (.lst P))
   let E':=mk [58] (some (.lst []))
   refine ⟨mk [58] x5,E',rfl,.inl ?_,_,_,rfl⟩
   unfold kq
   rw [zL (e:=E) (ya (as:=[flV w h F,.lst [24],.int f]) rfl w2)]
   rw [zL (e:=E) (by rw [yP,q1];rfl)]
   have t:fT (fOp vEq (fOp vIx (zI zx [86]) [21]) (fC [65])) E=some false:=by
    rw [jg,yc,zhE (yB (as:=[flV w h F,.lst [24],.int f]) rfl w1)]
    show (vEq (.str "spare") [65]).bind yC=_
    rw [zku];rfl
   have t2:j9 (wZ (zI yN (zC (zA 1) (zC (zA 3) (zC (zA 4) (zC (zA 5) zJ)))))) E=some false:=by
    rw [zej];unfold wZ
    rw [yB (as:=[flV w h F,.lst [24],.int f,.lst P]) rfl rr];rfl
   have t3:j9 (wZ (zI yN (zC (zA 1) (zC (zA 3) (zC (zA 4) (zC (zI yi [86]) zJ)))))) E'=some false:=by
    rw [zej];unfold wZ
    rw [yB (as:=[flV w h F,.lst [24],.int f,.lst P]) (by rw [zg,zg,zg,zg,yB (as:=[flV w h F,.lst [24],.int f]) rfl w2];rfl) rr];rfl
   rw [yP,t,Jc,if_neg Je,yP,t2,Jc,if_neg Je,zL (e:=E') rfl,yP,t3];rfl)
 suffices hh:∃ e,zeP [some (scr ns),none,none,none,none,none]=some (.rt (.bl true) e) by
  obtain ⟨e,hh⟩:=hh
  exact xI _ rfl hh
 refine ⟨mk x4 x5,?_⟩
 unfold zeP
 rw [zL (ya (as:=[scr ns,.int 1]) rfl h1)]
 rw [zL (ya (as:=[scr ns,.int 3,flV w h F]) rfl h3)]
 rw [zL (e:=mk none none) (ya (as:=[.lst [24]]) rfl (by rw [zhw,if_pos u9]))]
 have hsl:zq (fSl (zA 3) jZ (zaM (fC (.int 20)))) (mk none none)=some ((zie B none (some 20)).map PV.int):=by
  show (vSl (.lst [24]) none (some 20)).bind xk=_
  rw [ziN];rfl
 rw [zL (by rw [wF,hsl,Jc];exact f1)]
 rfl
end Cb
namespace Cb
open PySem L2 F PyProof.Rows
noncomputable def top(i:Nat):Stmt:=PySem.Challenge.pw_crossbrace_k32_pulls_at_a_brace.main.body.getD i (.Pass ⟨0,0,0,0⟩)
structure Blt (mg:Str->Option Value):Prop where
 bool_:mg "bool"=none
 enumerate_:mg "enumerate"=none
 int_:mg "int"=none
 isinstance_:mg "isinstance"=none
 len_:mg "len"=none
 list_:mg "list"=none
 range_:mg "range"=none
 set_:mg "set"=none
 sorted_:mg "sorted"=none
 sum_:mg "sum"=none
 tuple_:mg "tuple"=none
 zip_:mg "zip"=none
variable {P:Program} {w:World} {K:PySem.W.Frag} {mg:Str->Option Value} {base:Heap} {f:Addr} {fd:FuncData}
noncomputable abbrev uD:Stmt:=top 24
theorem sc__law_cell:FnScope ["_law_script","_law_k","_law_number"] ["_law_script","_law_k"] (zM uD):=⟨rfl,rfl,rfl,by decide +kernel,rfl,by decide +kernel,by decide +kernel⟩
theorem zbs(F:Fun K "_law_cell" "_law_cell" uD f fd)(B:Blt mg):FnOk P w K mg base CX0 1 f fd ["_law_script","_law_k"] (spV K 2 zT):=
 xm (g:=uK) (n:=2) (m:=3) [] rfl rfl [9] F sc__law_cell fun cdv A outer s H E hr=>by
  have nd:=sc__law_cell.nd
  have hu:=yW hr
  have hu64:=hr.units
  exact (zF (yh (zY zkq zkp [15] (zt xu xv (by rfl) B.len_ Kq (zE [10] [13])) (zy _)) (zH (zc (VE.data (zf hu [10] [15] [20]) [33]))) zu)
   (zF (zW (i:=2) rfl (za (i:=2) nd rfl [6] (VE.sh (zR yq yp (zR yq yp (zR yK yJ (zR yK yJ [15] [15]) zG) (zR yK yJ zG [15])) zG))))
   (zF (yh (zY zaC zaB (zt xu xv (by rfl) B.len_ Kq (zE [10] [13])) zG (zy _)) (zH (zW (i:=2) rfl (za (i:=2) nd rfl [6] (VE.sh (zR yq yp [18] (zR yK yJ (zf hu [10] (zR yz yy [15] (zt xu xv (by rfl) B.len_ Kq (zE [10] [13]))) [20]) (zR yq yp [15] zG))))))) zu)
   (zH (zc (zR yz yy (zR yK yJ [18] [18]) zG))))))
noncomputable abbrev ut:Stmt:=top 25
theorem sc__law_row:FnScope ["_law_script","_law_k","_law_count","_law_base","_law_cell_here","_law_found","_law_j","_law_one","_law_two"] ["_law_script","_law_k","_law_count","_law_base"] (zM ut):=⟨rfl,rfl,rfl,by decide +kernel,rfl,by decide +kernel,by decide +kernel⟩
theorem zcz(F:Fun K "_law_row" "_law_row" ut f fd)(B:Blt mg)
  (c__law_cell:Fn P w K mg base "_law_cell" 1 ["_law_script","_law_k"] (spV K 2 zT)):FnOk P w K mg base CX0 2 f fd ["_law_script","_law_k","_law_count","_law_base"] (spV K 4 yM):=
 xm (g:=u6) (n:=4) (m:=9) [5] rfl rfl [9] F sc__law_row fun cdv A outer s H E hr=>by
  have nd:=sc__law_row.nd
  have hu:=yW hr
  have hu64:=hr.units
  exact (zF (zW (i:=4) rfl (za (i:=4) nd rfl [6] (VE.sh (zQ c__law_cell [31] rfl (zE [10] (zE [15] [13]))))))
   (zF (zv (i:=5) [9] (za (i:=5) nd rfl [6] (yT [44])))
   (zF (xQ JV rfl (xz true (by rfl) B.range_ (zE [18] [13])) (zP 6 rfl (zO (i:=6) nd rfl [6])) (zH (yh (zY (wt hu64) uf (zR yz yy [83] zG) zG (zy _)) (zF (y9 5 [9] (yt (vD JA JS JT yV (pv 5) (yR (zR yz yy [29] [27]) pa_nil))))
   (zH (zW (i:=4) rfl (za (i:=4) nd rfl [6] (VE.sh (zR vZ vY [29] [27])))))) (zF (zW (i:=7) rfl (za (i:=7) nd rfl [6] (VE.sh (zR yz yy (zR yq yp (zR yq yp (zR yK yJ (zR yz yy [29] zG) (zR yq yp (zR yK yJ zG (zB 6 rfl (pv 6))) zG)) (zR yK yJ (zR yK yJ (zB 6 rfl (pv 6)) (zB 6 rfl (pv 6))) zG)) zG) zG))))
   (zF (zW (i:=8) rfl (za (i:=8) nd rfl [6] (VE.sh (zR yz yy (zR yK yJ (zR yz yy (zR yK yJ (zB 7 rfl (pv 7)) (zB 7 rfl (pv 7))) zG) zG) zG))))
   (zH (y9 5 [9] (yt (vD JA JS JT yV (pv 5) (yR (zR yz yy (zR vZ vY (zB 8 rfl (pv 8)) zG) [27]) pa_nil))))))))))
   (zH (zc (k8 5 rfl (pv 5)))))))
noncomputable abbrev wq:Stmt:=top 26
theorem sc__law_beside:FnScope ["_law_wide","_law_high","_law_place","_law_found","_law_other"] ["_law_wide","_law_high","_law_place"] (zM wq):=⟨rfl,rfl,rfl,by decide +kernel,rfl,by decide +kernel,by decide +kernel⟩
theorem qU(F:Fun K "_law_beside" "_law_beside" wq f fd)(B:Blt mg):FnOk P w K mg base CX0 1 f fd ["_law_wide","_law_high","_law_place"] (spV K 3 yn):=
 xm (g:=wy) (n:=3) (m:=5) [3] rfl rfl [9] F sc__law_beside fun cdv A outer s H E hr=>by
  have nd:=sc__law_beside.nd
  have hu:=yW hr
  have hu64:=hr.units
  exact (zF (zv (i:=3) [9] (za (i:=3) nd rfl [6] (yT [44])))
   (zF (xQ JV rfl (yE true (yT (jI (VE.sh (zR uw uv [18] zG)) (jI (VE.sh (zR yq yp [18] zG)) (zD (c:=.sh)))))) (zP 4 rfl (zO (i:=4) nd rfl [6])) (zH (yh (VW.vt (zkA (zY zmz zmx [29] zG (zy _)) (ziz (zY (wt hu64) uf (zR vZ vY [29] [10]) (zR vZ vY [18] [10]) (zy _))))) (zH (y9 3 [9] (yt (vD JA JS JT yV (pv 3) (yR (VE.data [29] [33]) pa_nil))))) zu)))
   (zF (xQ JV rfl (yE true (yT (jI (VE.sh (zR uw uv [18] [10])) (jI (VE.sh (zR yq yp [18] [10])) (zD (c:=.sh)))))) (zP 4 rfl (zO (i:=4) nd rfl [6])) (zH (yh (zgm zmy zkq zmw zkp zG [29] (zR yK yJ [10] [15])) (zH (y9 3 [9] (yt (vD JA JS JT yV (pv 3) (yR (VE.data [29] [33]) pa_nil))))) zu)))
   (zH (zc (k8 3 rfl (pv 3)))))))
noncomputable abbrev vW:Stmt:=top 27
theorem sc__law_flood:FnScope ["_law_wide","_law_high","_law_starts","_law_some","_law_seen","_law_row_here","_law_place"] ["_law_wide","_law_high","_law_starts","_law_some"] (zM vW):=⟨rfl,rfl,rfl,by decide +kernel,rfl,by decide +kernel,by decide +kernel⟩
theorem zap(F:Fun K "_law_flood" "_law_flood" vW f fd)(B:Blt mg)
  (c__law_beside:Fn P w K mg base "_law_beside" 1 ["_law_wide","_law_high","_law_place"] (spV K 3 yn)):FnOk P w K mg base CX0 2 f fd ["_law_wide","_law_high","_law_starts","_law_some"] (spV K 4 yO):=
 xm (g:=vi) (n:=4) (m:=7) [4,5] rfl rfl [9] F sc__law_flood fun cdv A outer s H E hr=>by
  have nd:=sc__law_flood.nd
  have hu:=yW hr
  have hu64:=hr.units
  exact (zF (zv (i:=4) [9] (za (i:=4) nd rfl [6] (jF jQ)))
   (zF (zv (i:=5) [9] (by first | exact (zcq (i:=5) (ow:=["_law_place"]) (js:=[3]) [33] nd rfl [6] [81] [9] rfl (yE false [18]) [36] (fun _ _ _ _=>(y7 (zY (ug hu) ue [10] [15] [28]))) [51]) | exact (za (i:=5) nd rfl [6] (xi (ow:=["_law_place"]) (js:=[3]) [33] [81] [9] rfl (yE false [18]) [36] (fun _ _ _ _=>(y7 (zY (ug hu) ue [10] [15] [28]))) [51]))))
   (zF (zbX 1000000 JV (zY zaC zaB (zt xu xv (by rfl) B.len_ Kq (zE (xN 5 (pv 5)) [13])) zG (zy _)) (zF (zkB 6 5 [9] [9] (za (i:=6) nd rfl [6] (zhg JA PySem.F.slot_list_pop PySem.F.type_list_pop zlp (pv 5))))
   (zH (yh (zY (wP hu) wO (zB 6 rfl (pv 6)) (xN 4 (pv 4)) [28]) (zF (kY 4 [9] (qJ vB (zbl (pv 4) (zB 6 rfl (pv 6)) jK)) (jP hu (pv 4) (zB 6 rfl (pv 6)) vB rfl))
   (zH (k7 5 [9] (yt (vD JA PySem.F.slot_list_extend PySem.F.type_list_extend qZ (pv 5) (yR (xi (ow:=["_law_other"]) (js:=[3]) [33] [81] [9] rfl (yE false (VE.sh (zQ c__law_beside [31] rfl (zE [10] (zE [15] (zE (zB 6 rfl (pv 6)) [13])))))) (fun _ _ _ _=>(zP 0 rfl (zO (i:=0) (show (["_law_other","_law_some"]:List Str).Nodup by decide +kernel) rfl [6]))) (fun _ _ _ _=>(y7 (zY (ug hu) ue [10] [15] [28]))) [51]) pa_nil)))))) zu))))
   (zH (zc (k8 4 rfl (pv 4)))))))
noncomputable abbrev wN:Stmt:=top 28
theorem sc__law_outside:FnScope ["_law_wide","_law_high","_law_some","_law_bare","_law_edge","_law_place"] ["_law_wide","_law_high","_law_some"] (zM wN):=⟨rfl,rfl,rfl,by decide +kernel,rfl,by decide +kernel,by decide +kernel⟩
theorem kU(F:Fun K "_law_outside" "_law_outside" wN f fd)(B:Blt mg)
  (c__law_flood:Fn P w K mg base "_law_flood" 2 ["_law_wide","_law_high","_law_starts","_law_some"] (spV K 4 yO)):FnOk P w K mg base CX0 3 f fd ["_law_wide","_law_high","_law_some"] (spV K 3 yZ):=
 xm (g:=wS) (n:=3) (m:=6) [4] rfl rfl [9] F sc__law_outside fun cdv A outer s H E hr=>by
  have nd:=sc__law_outside.nd
  have hu:=yW hr
  have hu64:=hr.units
  exact (zF (zW (i:=3) rfl (by first | exact zbk (zcq (i:=3) (ow:=["_law_place"]) (js:=[2]) [33] nd rfl [6] [81] [9] rfl (xz false (by rfl) B.range_ (zE (zR yK yJ [10] [15]) [13])) [36] (fun _ _ _ _=>(y7 (zY (wP hu) wO [10] [15] [28]))) [51]) | exact (za (i:=3) nd rfl [6] (VE.sh (xi (ow:=["_law_place"]) (js:=[2]) [33] [81] [9] rfl (xz false (by rfl) B.range_ (zE (zR yK yJ [10] [15]) [13])) [36] (fun _ _ _ _=>(y7 (zY (wP hu) wO [10] [15] [28]))) [51])))))
   (zF (zv (i:=4) [9] (za (i:=4) nd rfl [6] (yT [44])))
   (zF (xQ JV rfl (yE true [27]) (zP 5 rfl (zO (i:=5) nd rfl [6])) (zH (yh (VW.vt (kF (zY (ug hu) ue (zR yz yy [45] [10]) (yw (zE zG (zE (zR uw uv [10] zG) [13]))) [28]) (zba (zY (ug hu) ue (zR vZ vY [45] [10]) (yw (zE zG (zE (zR uw uv [15] zG) [13]))) [28])))) (zH (y9 4 [9] (yt (vD JA JS JT yV (pv 4) (yR (VE.data [45] [33]) pa_nil))))) zu)))
   (zH (zc (zQ c__law_flood [31] rfl (zE [10] (zE [15] (zE (xN 4 (pv 4)) (zE [27] [13]))))))))))
noncomputable abbrev vV:Stmt:=top 29
theorem sc__law_floor:FnScope ["_law_script","_law_k","_law_wide","_law_high","_law_digits","_law_some","_law_left","_law_out"] ["_law_script","_law_k"] (zM vV):=⟨rfl,rfl,rfl,by decide +kernel,rfl,by decide +kernel,by decide +kernel⟩
theorem zao(F:Fun K "_law_floor" "_law_floor" vV f fd)(B:Blt mg)
  (c__law_row:Fn P w K mg base "_law_row" 2 ["_law_script","_law_k","_law_count","_law_base"] (spV K 4 yM))
  (c__law_flood:Fn P w K mg base "_law_flood" 2 ["_law_wide","_law_high","_law_starts","_law_some"] (spV K 4 yO))
  (c__law_outside:Fn P w K mg base "_law_outside" 3 ["_law_wide","_law_high","_law_some"] (spV K 3 yZ))
  (c__law_cell:Fn P w K mg base "_law_cell" 1 ["_law_script","_law_k"] (spV K 2 zT)):FnOk P w K mg base CX0 4 f fd ["_law_script","_law_k"] (spV K 2 y4):=
 xm (g:=vh) (n:=2) (m:=8) [] rfl rfl [9] F sc__law_floor fun cdv A outer s H E hr=>by
  have nd:=sc__law_floor.nd
  have hu:=yW hr
  have hu64:=hr.units
  exact (zF (zkC (VE.sh (xi (ow:=["_law_number"]) (js:=[]) [33] [81] [9] rfl (yE false (VE.sh (zQ c__law_row [31] rfl (zE [10] (zE [15] (zE zG (zE zG [13]))))))) (fun _ _ _ _=>(zP 0 rfl (zO (i:=0) (show (["_law_number"]:List Str).Nodup by decide +kernel) rfl [6]))) (fun _ _ _ _=>xY) (fun _ _ _ _=>(zR yq yp zG [10])))) (ji 2 rfl (yS (zP 2 rfl (zO (i:=2) nd rfl [6])) (yS (zP 3 rfl (zO (i:=3) nd rfl [6])) uO))))
   (zF (zW (i:=4) rfl (za (i:=4) nd rfl [6] (VE.sh (zQ c__law_row [31] rfl (zE [10] (zE (zR yq yp [15] zG) (zE (zR yK yJ [18] [27]) (zE (zR yq yp zG (zR yK yJ zG (zR yz yy [83] zG))) [13]))))))))
   (zF (yh (zY (wt hu64) uf (zR yz yy [83] zG) zG (zy _)) (zH (zW (i:=4) rfl (za (i:=4) nd rfl [6] (VE.sh (zR yK yJ (yT (zE zG [13])) (zR yK yJ [18] [27])))))) zu)
   (zF (zW (i:=5) rfl (by first | exact zbk (zcq (i:=5) (ow:=["_law_place"]) (js:=[4]) [33] nd rfl [6] [81] [9] rfl (xz false (by rfl) B.range_ (zE (zR yK yJ [18] [27]) [13])) (fun _ _ _ _=>(zP 0 rfl (zO (i:=0) (show (["_law_place","_law_digits"]:List Str).Nodup by decide +kernel) rfl [6]))) (fun _ _ _ _=>(y7 (zY zaC zaB (zf hu [15] [10] [20]) zG (zy _)))) [51]) | exact (za (i:=5) nd rfl [6] (VE.sh (xi (ow:=["_law_place"]) (js:=[4]) [33] [81] [9] rfl (xz false (by rfl) B.range_ (zE (zR yK yJ [18] [27]) [13])) (fun _ _ _ _=>(zP 0 rfl (zO (i:=0) (show (["_law_place","_law_digits"]:List Str).Nodup by decide +kernel) rfl [6]))) (fun _ _ _ _=>(y7 (zY zaC zaB (zf hu [15] [10] [20]) zG (zy _)))) [51])))))
   (zF (yh (zY (wt hu64) uf [45] (yT [13]) (zy _)) (zH (zW (i:=5) rfl (za (i:=5) nd rfl [6] (yT (jI (VE.sh (zR uw uv (zR yK yJ [18] [27]) zG)) (zD (c:=.sh))))))) zu)
   (zF (zW (i:=6) rfl (za (i:=6) nd rfl [6] (VE.sh (zQ c__law_flood [31] rfl (zE [18] (zE [27] (zE (zcb [45] zer (zeq zG)) (zE [45] [13]))))))))
   (zF (zW (i:=7) rfl (za (i:=7) nd rfl [6] (VE.sh (zQ c__law_outside [31] rfl (zE [18] (zE [27] (zE (zB 6 rfl (pv 6)) [13])))))))
   (zH (zc (yw (yD (VE.data [18] [33]) (yD (VE.data [27] [33]) (yD (jk zdc um (by rfl) B.tuple_ boot_tuple (zE (xi (ow:=["_law_place"]) (js:=[7]) [33] [81] [9] rfl (xz false (by rfl) B.range_ (zE (zR yK yJ [18] [27]) [13])) (fun _ _ _ _=>(zP 0 rfl (zO (i:=0) (show (["_law_place","_law_out"]:List Str).Nodup by decide +kernel) rfl [6]))) (fun _ _ _ _=>(y7 (zY (wP hu) wO [10] [15] [28]))) [51]) [13])) [44])))))))))))))
noncomputable abbrev wp:Stmt:=top 30
theorem sc__law_braces:FnScope ["_law_script","_law_k","_law_floor_here","_law_base","_law_digits"] ["_law_script","_law_k","_law_floor_here"] (zM wp):=⟨rfl,rfl,rfl,by decide +kernel,rfl,by decide +kernel,by decide +kernel⟩
theorem qT(F:Fun K "_law_braces" "_law_braces" wp f fd)(B:Blt mg)
  (c__law_row:Fn P w K mg base "_law_row" 2 ["_law_script","_law_k","_law_count","_law_base"] (spV K 4 yM))
  (c__law_cell:Fn P w K mg base "_law_cell" 1 ["_law_script","_law_k"] (spV K 2 zT)):FnOk P w K mg base CX0 3 f fd ["_law_script","_law_k","_law_floor_here"] (spV K 3 xF):=
 xm (g:=xc) (n:=3) (m:=5) [] rfl rfl [9] F sc__law_braces fun cdv A outer s H E hr=>by
  have nd:=sc__law_braces.nd
  have hu:=yW hr
  have hu64:=hr.units
  exact (zF (zW (i:=3) rfl (za (i:=3) nd rfl [6] (VE.sh (zf hu (yT (yD zG (yD zG (yD zG (yD zG [44]))))) (zR yz yy (zR vZ vY [83] zG) zG) [20]))))
   (zF (zW (i:=4) rfl (za (i:=4) nd rfl [6] (VE.sh (zQ c__law_row [31] rfl (zE [10] (zE [15] (zE (zt xu xv (by rfl) B.len_ Kq (zE (zf hu [18] zG [20]) [13])) (zE [27] [13]))))))))
   (zF (yh (zY (wt hu64) uf (zR yz yy (zR vZ vY [83] zG) zG) zG (zy _)) (zH (zc (xi (ow:=["_law_j"]) (js:=[2,4]) [33] [81] [9] rfl (xz false (by rfl) B.range_ (zE (zt xu xv (by rfl) B.len_ Kq (zE (zf hu [18] zG [20]) [13])) [13])) (fun _ _ _ _=>(zP 0 rfl (zO (i:=0) (show (["_law_j","_law_floor_here","_law_digits"]:List Str).Nodup by decide +kernel) rfl [6]))) (fun _ _ _ _=>(y7 (zY zaC zaB (zf hu [18] [10] [20]) zG (zy _)))) (fun _ _ _ _=>(VE.data (zf hu (zf hu [15] zG [20]) [10] [20]) [33]))))) zu)
   (zH (zc (xi (ow:=["_law_j"]) (js:=[2,4]) [33] [81] [9] rfl (xz false (by rfl) B.range_ (zE (zt xu xv (by rfl) B.len_ Kq (zE (zf hu [18] zG [20]) [13])) [13])) (fun _ _ _ _=>(zP 0 rfl (zO (i:=0) (show (["_law_j","_law_floor_here","_law_digits"]:List Str).Nodup by decide +kernel) rfl [6]))) (fun _ _ _ _=>(y7 (zY (wt hu64) uf (zf hu [18] [10] [20]) zG (zy _)))) (fun _ _ _ _=>(VE.data (zf hu (zf hu [15] zG [20]) [10] [20]) [33]))))))))
noncomputable abbrev zdy:Stmt:=top 3
theorem sc_runs:FnScope ["fields","aheads","found","run_at","field","ahead"] ["fields","aheads"] (zM zdy):=⟨rfl,rfl,rfl,by decide +kernel,rfl,by decide +kernel,by decide +kernel⟩
theorem zjq(F:Fun K "runs" "runs" zdy f fd)(B:Blt mg):FnOk P w K mg base CX0 1 f fd ["fields","aheads"] (spV K 2 vL):=
 xm (g:=zdU) (n:=2) (m:=6) [2,3] rfl rfl [9] F sc_runs fun cdv A outer s H E hr=>by
  have nd:=sc_runs.nd
  have hu:=yW hr
  have hu64:=hr.units
  exact (zF (zv (i:=2) [9] (za (i:=2) nd rfl [6] (yT [44])))
   (zF (zv (i:=3) [9] (za (i:=3) nd rfl [6] (jF jQ)))
   (zF (xQ JV rfl (zkD true (by rfl) B.zip_ (jI [10] (jI [15] (zD (c:=.sh))))) (ji 2 rfl (yS (zP 4 rfl (zO (i:=4) nd rfl [6])) (yS (zP 5 rfl (zO (i:=5) nd rfl [6])) uO))) (zH (yh (zY (ug hu) ue [45] (xN 3 (pv 3)) [28]) (zF (kY 3 [9] (qJ (zf hu (xN 3 (pv 3)) [45] [20]) (zbl (pv 3) [29] jK)) (jP hu (pv 3) [29] (zf hu (xN 3 (pv 3)) [45] [20]) rfl))
   (zH (zbY 2 [9] (yt (vD JA JS JT yV (zko zhD (pv 2) (zf hu (xN 3 (pv 3)) [29] [20]) [20]) (yR (VE.data [29] [33]) pa_nil)))))) (zF (kY 3 [9] (qJ (zt xu xv (by rfl) B.len_ Kq (zE (xN 2 (pv 2)) [13])) (zbl (pv 3) [29] jK)) (jP hu (pv 3) [29] (zt xu xv (by rfl) B.len_ Kq (zE (xN 2 (pv 2)) [13])) rfl))
   (zH (y9 2 [9] (yt (vD JA JS JT yV (pv 2) (yR (yT (yD (VE.data [29] [33]) [44])) pa_nil)))))))))
   (zH (zc (ziD (xi (ow:=["run"]) (js:=[]) [33] [81] [9] rfl (yE false [18]) [32] (fun _ _ _ _=>xY) (fun _ _ _ _=>(jk zdc um (by rfl) B.tuple_ boot_tuple (zE [10] [13]))))))))))
noncomputable abbrev vT:Stmt:=top 1
theorem sc_field_left:FnScope ["floor","field"] ["floor","field"] (zM vT):=⟨rfl,rfl,rfl,by decide +kernel,rfl,by decide +kernel,by decide +kernel⟩
theorem zam(F:Fun K "field_left" "field_left" vT f fd)(B:Blt mg):FnOk P w K mg base CX0 1 f fd ["floor","field"] (spV K 2 yd):=
 xm (g:=wB) (n:=2) (m:=2) [] rfl rfl [9] F sc_field_left fun cdv A outer s H E hr=>by
  have nd:=sc_field_left.nd
  have hu:=yW hr
  have hu64:=hr.units
  exact (zH (zc (zgp (zY (wt hu64) uf (zR yz yy [15] (zf hu [10] zG [20])) zG (zy _)) zdl (zR uw uv [15] zG))))
noncomputable abbrev uo:Stmt:=top 4
theorem sc_row_runs:FnScope ["floor"] ["floor"] (zM uo):=⟨rfl,rfl,rfl,by decide +kernel,rfl,by decide +kernel,by decide +kernel⟩
theorem zcw(F:Fun K "row_runs" "row_runs" uo f fd)(B:Blt mg)
  (c_runs:Fn P w K mg base "runs" 1 ["fields","aheads"] (spV K 2 vL))
  (c_field_left:Fn P w K mg base "field_left" 1 ["floor","field"] (spV K 2 yd)):FnOk P w K mg base CX0 2 f fd ["floor"] (spV K 1 xg):=
 xm (g:=u0) (n:=1) (m:=1) [] rfl rfl [9] F sc_row_runs fun cdv A outer s H E hr=>by
  have nd:=sc_row_runs.nd
  have hu:=yW hr
  have hu64:=hr.units
  exact (zH (zc (zQ c_runs [31] rfl (zE (zf hu [10] zG [20]) (zE (xi (ow:=["field"]) (js:=[0]) [33] [81] [9] rfl (yE false (zf hu [10] zG [20])) (fun _ _ _ _=>(zP 0 rfl (zO (i:=0) (show (["field","floor"]:List Str).Nodup by decide +kernel) rfl [6]))) (fun _ _ _ _=>xY) (fun _ _ _ _=>(zQ c_field_left [31] rfl (zE [15] (zE [10] [13]))))) [13])))))
noncomputable abbrev wm:Stmt:=top 2
theorem sc_field_below:FnScope ["floor","field"] ["floor","field"] (zM wm):=⟨rfl,rfl,rfl,by decide +kernel,rfl,by decide +kernel,by decide +kernel⟩
theorem qP(F:Fun K "field_below" "field_below" wm f fd)(B:Blt mg):FnOk P w K mg base CX0 1 f fd ["floor","field"] (spV K 2 yj):=
 xm (g:=wv) (n:=2) (m:=2) [] rfl rfl [9] F sc_field_below fun cdv A outer s H E hr=>by
  have nd:=sc_field_below.nd
  have hu:=yW hr
  have hu64:=hr.units
  exact (zH (zc (zR uw uv [15] (zf hu [10] zG [20]))))
noncomputable abbrev wn:Stmt:=top 5
theorem sc_column_runs:FnScope ["floor"] ["floor"] (zM wn):=⟨rfl,rfl,rfl,by decide +kernel,rfl,by decide +kernel,by decide +kernel⟩
theorem qQ(F:Fun K "column_runs" "column_runs" wn f fd)(B:Blt mg)
  (c_runs:Fn P w K mg base "runs" 1 ["fields","aheads"] (spV K 2 vL))
  (c_field_below:Fn P w K mg base "field_below" 1 ["floor","field"] (spV K 2 yj)):FnOk P w K mg base CX0 2 f fd ["floor"] (spV K 1 yk):=
 xm (g:=ww) (n:=1) (m:=1) [] rfl rfl [9] F sc_column_runs fun cdv A outer s H E hr=>by
  have nd:=sc_column_runs.nd
  have hu:=yW hr
  have hu64:=hr.units
  exact (zH (zc (zQ c_runs [31] rfl (zE (zf hu [10] zG [20]) (zE (xi (ow:=["field"]) (js:=[0]) [33] [81] [9] rfl (yE false (zf hu [10] zG [20])) (fun _ _ _ _=>(zP 0 rfl (zO (i:=0) (show (["field","floor"]:List Str).Nodup by decide +kernel) rfl [6]))) (fun _ _ _ _=>xY) (fun _ _ _ _=>(zQ c_field_below [31] rfl (zE [15] (zE [10] [13]))))) [13])))))
noncomputable abbrev qF:Stmt:=top 6
theorem sc_strips:FnScope ["floor","rows","columns"] ["floor"] (zM qF):=⟨rfl,rfl,rfl,by decide +kernel,rfl,by decide +kernel,by decide +kernel⟩
theorem zfE(F:Fun K "strips" "strips" qF f fd)(B:Blt mg)
  (c_row_runs:Fn P w K mg base "row_runs" 2 ["floor"] (spV K 1 xg))
  (c_column_runs:Fn P w K mg base "column_runs" 2 ["floor"] (spV K 1 yk)):FnOk P w K mg base CX0 3 f fd ["floor"] (spV K 1 zd):=
 xm (g:=qm) (n:=1) (m:=3) [] rfl rfl [9] F sc_strips fun cdv A outer s H E hr=>by
  have nd:=sc_strips.nd
  have hu:=yW hr
  have hu64:=hr.units
  exact (zF (zW (i:=1) rfl (by first | exact zbk (zcq (i:=1) (ow:=["run"]) (js:=[]) [33] nd rfl [6] [81] [9] rfl (yE false (VE.sh (zQ c_row_runs [31] rfl (zE [10] [13])))) [32] (fun _ _ _ _=>xY) (fun _ _ _ _=>(yw (yD wg (yD (VE.data [10] [33]) [44]))))) | exact (za (i:=1) nd rfl [6] (VE.sh (xi (ow:=["run"]) (js:=[]) [33] [81] [9] rfl (yE false (VE.sh (zQ c_row_runs [31] rfl (zE [10] [13])))) [32] (fun _ _ _ _=>xY) (fun _ _ _ _=>(yw (yD wg (yD (VE.data [10] [33]) [44])))))))))
   (zF (zW (i:=2) rfl (by first | exact zbk (zcq (i:=2) (ow:=["run"]) (js:=[]) [33] nd rfl [6] [81] [9] rfl (yE false (VE.sh (zQ c_column_runs [31] rfl (zE [10] [13])))) [32] (fun _ _ _ _=>xY) (fun _ _ _ _=>(yw (yD wg (yD (VE.data [10] [33]) [44]))))) | exact (za (i:=2) nd rfl [6] (VE.sh (xi (ow:=["run"]) (js:=[]) [33] [81] [9] rfl (yE false (VE.sh (zQ c_column_runs [31] rfl (zE [10] [13])))) [32] (fun _ _ _ _=>xY) (fun _ _ _ _=>(yw (yD wg (yD (VE.data [10] [33]) [44])))))))))
   (zH (zc (zR yq yp [15] [18])))))
noncomputable abbrev uC:Stmt:=top 7
theorem sc_crossings:FnScope ["floor","found","number","strip","field"] ["floor"] (zM uC):=⟨rfl,rfl,rfl,by decide +kernel,rfl,by decide +kernel,by decide +kernel⟩
theorem zbr(F:Fun K "crossings" "crossings" uC f fd)(B:Blt mg)
  (c_strips:Fn P w K mg base "strips" 3 ["floor"] (spV K 1 zd)):FnOk P w K mg base CX0 4 f fd ["floor"] (spV K 1 z9):=
 xm (g:=uJ) (n:=1) (m:=5) [1] rfl rfl [9] F sc_crossings fun cdv A outer s H E hr=>by
  have nd:=sc_crossings.nd
  have hu:=yW hr
  have hu64:=hr.units
  exact (zF (zv (i:=1) [9] (za (i:=1) nd rfl [6] (jF jQ)))
   (zF (xQ JV rfl (zbZ true (by rfl) B.enumerate_ (jI (VE.sh (zQ c_strips [31] rfl (zE [10] [13]))) (zD (c:=.sh)))) (ji 2 rfl (yS (zP 2 rfl (zO (i:=2) nd rfl [6])) (yS (zP 3 rfl (zO (i:=3) nd rfl [6])) uO))) (zH (xQ JV rfl (yE true (zf hu [27] zG [20])) (zP 4 rfl (zO (i:=4) nd rfl [6])) (zH (kY 1 [9] (qJ (zR yq yp (zes hu (xN 1 (pv 1)) [29] (yw [13]) ⟨rfl,rfl,rfl,rfl⟩) (yw (zE [18] [13]))) (zbl (pv 1) [29] jK)) (jP hu (pv 1) [29] (zR yq yp (zes hu (xN 1 (pv 1)) [29] (yw [13]) ⟨rfl,rfl,rfl,rfl⟩) (yw (zE [18] [13]))) rfl))))))
   (zH (zc (k8 1 rfl (pv 1))))))
noncomputable abbrev ur:Stmt:=top 8
theorem sc_crossing:FnScope ["floor","field"] ["floor","field"] (zM ur):=⟨rfl,rfl,rfl,by decide +kernel,rfl,by decide +kernel,by decide +kernel⟩
theorem zcy(F:Fun K "crossing" "crossing" ur f fd)(B:Blt mg)
  (c_crossings:Fn P w K mg base "crossings" 4 ["floor"] (spV K 1 z9)):FnOk P w K mg base CX0 5 f fd ["floor","field"] (spV K 2 xh):=
 xm (g:=u5) (n:=2) (m:=2) [] rfl rfl [9] F sc_crossing fun cdv A outer s H E hr=>by
  have nd:=sc_crossing.nd
  have hu:=yW hr
  have hu64:=hr.units
  exact (zH (zc (zf hu (zQ c_crossings [31] rfl (zE [10] [13])) [15] [20])))
noncomputable abbrev wj:Stmt:=top 10
theorem sc_onward_from:FnScope ["steps","found","step"] ["steps"] (zM wj):=⟨rfl,rfl,rfl,by decide +kernel,rfl,by decide +kernel,by decide +kernel⟩
theorem qO(F:Fun K "onward_from" "onward_from" wj f fd)(B:Blt mg):FnOk P w K mg base CX0 1 f fd ["steps"] (spV K 1 xE):=
 xm (g:=wu) (n:=1) (m:=3) [1] rfl rfl [9] F sc_onward_from fun cdv A outer s H E hr=>by
  have nd:=sc_onward_from.nd
  have hu:=yW hr
  have hu64:=hr.units
  exact (zF (zv (i:=1) [9] (za (i:=1) nd rfl [6] (jF jQ)))
   (zF (xQ JV rfl (yE true [10]) (zP 2 rfl (zO (i:=2) nd rfl [6])) (zH (zfi 1 [9] (yt (vD JA JS JT yV (zji (pv 1) (zf hu [18] zG [20]) (yT [44]) ⟨rfl,rfl,rfl,rfl⟩) (yR (VE.data [18] [33]) pa_nil))))))
   (zH (zc (k8 1 rfl (pv 1))))))
noncomputable abbrev vS:Stmt:=top 11
theorem sc_walks_from:FnScope ["steps","start","found","onward","waiting","here","step"] ["steps","start"] (zM vS):=⟨rfl,rfl,rfl,by decide +kernel,rfl,by decide +kernel,by decide +kernel⟩
theorem zal(F:Fun K "walks_from" "walks_from" vS f fd)(B:Blt mg)
  (c_onward_from:Fn P w K mg base "onward_from" 1 ["steps"] (spV K 1 xE)):FnOk P w K mg base CX0 2 f fd ["steps","start"] (spV K 2 xX):=
 xm (g:=ve) (n:=2) (m:=7) [2,4] rfl rfl [9] F sc_walks_from fun cdv A outer s H E hr=>by
  have nd:=sc_walks_from.nd
  have hu:=yW hr
  have hu64:=hr.units
  exact (zF (zv (i:=2) [9] (za (i:=2) nd rfl [6] (zgq [15] (yT [44]))))
   (zF (zW (i:=3) rfl (za (i:=3) nd rfl [6] (VE.sh (zQ c_onward_from [31] rfl (zE [10] [13])))))
   (zF (zv (i:=4) [9] (za (i:=4) nd rfl [6] (yT (yD (VE.data [15] [33]) [44]))))
   (zF (zbX 1000000 JV (zY zaC zaB (zt xu xv (by rfl) B.len_ Kq (zE (xN 4 (pv 4)) [13])) zG (zy _)) (zF (ziB 5 4 [9] [9] (za (i:=5) nd rfl [6] (vD JA PySem.F.slot_list_pop PySem.F.type_list_pop zhp (pv 4) (yR zhe pa_nil))))
   (zH (xQ JV rfl (yE true (ziC hu [27] [45] (yT (zD (c:=.sh))) ⟨rfl,rfl,rfl,rfl⟩)) (zP 6 rfl (zO (i:=6) nd rfl [6])) (zH (yh (zY (wP hu) wO (zf hu (zB 6 rfl (pv 6)) zG [20]) (xN 2 (pv 2)) [28]) (zF (ziA 2 [9] (jP hu (pv 2) (zf hu (zB 6 rfl (pv 6)) zG [20]) (zR yq yp (zf hu (xN 2 (pv 2)) [45] [20]) (yT (zE (zf hu (zB 6 rfl (pv 6)) zG [20]) [13]))) rfl))
   (zH (y9 4 [9] (yt (vD JA JS JT yV (pv 4) (yR (VE.data (zf hu (zB 6 rfl (pv 6)) zG [20]) [33]) pa_nil)))))) zu))))))
   (zH (zc (k8 2 rfl (pv 2))))))))
noncomputable abbrev xS:Stmt:=top 12
theorem sc_there_and_back:FnScope ["start","end","mark"] ["start","end","mark"] (zM xS):=⟨rfl,rfl,rfl,by decide +kernel,rfl,by decide +kernel,by decide +kernel⟩
theorem jR(F:Fun K "there_and_back" "there_and_back" xS f fd)(B:Blt mg):FnOk P w K mg base CX0 1 f fd ["start","end","mark"] (spV K 3 zp):=
 xm (g:=xT) (n:=3) (m:=3) [] rfl rfl [9] F sc_there_and_back fun cdv A outer s H E hr=>by
  have nd:=sc_there_and_back.nd
  have hu:=yW hr
  have hu64:=hr.units
  exact (zH (zc (yT (yD (yw (yD (VE.data [10] [33]) (yD (VE.data [15] [33]) (yD (VE.data [18] [33]) [44])))) (yD (yw (yD (VE.data [15] [33]) (yD (VE.data [10] [33]) (yD (VE.data [18] [33]) [44])))) [44])))))
noncomputable abbrev wo:Stmt:=top 13
theorem sc_brace_steps:FnScope ["floor","braces","at","found","field"] ["floor","braces"] (zM wo):=⟨rfl,rfl,rfl,by decide +kernel,rfl,by decide +kernel,by decide +kernel⟩
theorem qR(F:Fun K "brace_steps" "brace_steps" wo f fd)(B:Blt mg)
  (c_crossings:Fn P w K mg base "crossings" 4 ["floor"] (spV K 1 z9))
  (c_there_and_back:Fn P w K mg base "there_and_back" 1 ["start","end","mark"] (spV K 3 zp)):FnOk P w K mg base CX0 5 f fd ["floor","braces"] (spV K 2 ym):=
 xm (g:=wx) (n:=2) (m:=5) [3] rfl rfl [9] F sc_brace_steps fun cdv A outer s H E hr=>by
  have nd:=sc_brace_steps.nd
  have hu:=yW hr
  have hu64:=hr.units
  exact (zF (zW (i:=2) rfl (za (i:=2) nd rfl [6] (VE.sh (zQ c_crossings [31] rfl (zE [10] [13])))))
   (zF (zv (i:=3) [9] (za (i:=3) nd rfl [6] (yT [44])))
   (zF (xQ JV rfl (yE true [15]) (zP 4 rfl (zO (i:=4) nd rfl [6])) (zH (k7 3 [9] (yt (vD JA PySem.F.slot_list_extend PySem.F.type_list_extend qZ (pv 3) (yR (zQ c_there_and_back [31] rfl (zE (zf hu (zf hu [18] [29] [20]) zG [20]) (zE (zf hu (zf hu [18] [29] [20]) zG [20]) (zE [29] [13])))) pa_nil))))))
   (zH (zc (k8 3 rfl (pv 3)))))))
noncomputable abbrev uB:Stmt:=top 17
theorem sc_ways_from:FnScope ["floor","braces","strip"] ["floor","braces","strip"] (zM uB):=⟨rfl,rfl,rfl,by decide +kernel,rfl,by decide +kernel,by decide +kernel⟩
theorem zbq(F:Fun K "ways_from" "ways_from" uB f fd)(B:Blt mg)
  (c_walks_from:Fn P w K mg base "walks_from" 2 ["steps","start"] (spV K 2 xX))
  (c_brace_steps:Fn P w K mg base "brace_steps" 5 ["floor","braces"] (spV K 2 ym)):FnOk P w K mg base CX0 6 f fd ["floor","braces","strip"] (spV K 3 xD):=
 xm (g:=uI) (n:=3) (m:=3) [] rfl rfl [9] F sc_ways_from fun cdv A outer s H E hr=>by
  have nd:=sc_ways_from.nd
  have hu:=yW hr
  have hu64:=hr.units
  exact (zH (zc (zQ c_walks_from [31] rfl (zE (zQ c_brace_steps [31] rfl (zE [10] (zE [15] [13]))) (zE [18] [13])))))
noncomputable abbrev jq:Stmt:=top 19
theorem sc_without:FnScope ["fields","field"] ["fields","field"] (zM jq):=⟨rfl,rfl,rfl,by decide +kernel,rfl,by decide +kernel,by decide +kernel⟩
theorem zdG(F:Fun K "without" "without" jq f fd)(B:Blt mg):FnOk P w K mg base CX0 1 f fd ["fields","field"] (spV K 2 y8):=
 xm (g:=j6) (n:=2) (m:=2) [] rfl rfl [9] F sc_without fun cdv A outer s H E hr=>by
  have nd:=sc_without.nd
  have hu:=yW hr
  have hu64:=hr.units
  exact (zH (zc (xi (ow:=["other"]) (js:=[1]) [33] [81] [9] rfl (yE false [10]) (fun _ _ _ _=>(zP 0 rfl (zO (i:=0) (show (["other","field"]:List Str).Nodup by decide +kernel) rfl [6]))) (fun _ _ _ _=>(y7 (zY (jv hu64) zaA [10] [15] (zy _)))) [51])))
noncomputable abbrev jt:Stmt:=top 15
theorem sc_lean_up:FnScope ["floor","up"] ["floor","up"] (zM jt):=⟨rfl,rfl,rfl,by decide +kernel,rfl,by decide +kernel,by decide +kernel⟩
theorem zdI(F:Fun K "lean_up" "lean_up" jt f fd)(B:Blt mg)
  (c_strips:Fn P w K mg base "strips" 3 ["floor"] (spV K 1 zd)):FnOk P w K mg base CX0 4 f fd ["floor","up"] (spV K 2 wI):=
 xm (g:=j7) (n:=2) (m:=2) [] rfl rfl [9] F sc_lean_up fun cdv A outer s H E hr=>by
  have nd:=sc_lean_up.nd
  have hu:=yW hr
  have hu64:=hr.units
  exact (zH (zc (xi (ow:=["number"]) (js:=[1]) [33] [81] [9] rfl (xz false (by rfl) B.range_ (zE (zt xu xv (by rfl) B.len_ Kq (zE (zQ c_strips [31] rfl (zE [10] [13])) [13])) [13])) (fun _ _ _ _=>(zP 0 rfl (zO (i:=0) (show (["number","up"]:List Str).Nodup by decide +kernel) rfl [6]))) (fun _ _ _ _=>xY) (fun _ _ _ _=>(zgp (zY (ug hu) ue [10] [15] [28]) zG zG)))))
noncomputable abbrev jr:Stmt:=top 20
theorem sc_weighed:FnScope ["floor","braces","field","at","ways"] ["floor","braces","field"] (zM jr):=⟨rfl,rfl,rfl,by decide +kernel,rfl,by decide +kernel,by decide +kernel⟩
theorem zdH(F:Fun K "weighed" "weighed" jr f fd)(B:Blt mg)
  (c_crossing:Fn P w K mg base "crossing" 5 ["floor","field"] (spV K 2 xh))
  (c_ways_from:Fn P w K mg base "ways_from" 6 ["floor","braces","strip"] (spV K 3 xD))
  (c_without:Fn P w K mg base "without" 1 ["fields","field"] (spV K 2 y8))
  (c_lean_up:Fn P w K mg base "lean_up" 4 ["floor","up"] (spV K 2 wI)):FnOk P w K mg base CX0 7 f fd ["floor","braces","field"] (spV K 3 zx):=
 xm (g:=uT) (n:=3) (m:=5) [] rfl rfl [9] F sc_weighed fun cdv A outer s H E hr=>by
  have nd:=sc_weighed.nd
  have hu:=yW hr
  have hu64:=hr.units
  exact (zF (zW (i:=3) rfl (za (i:=3) nd rfl [6] (VE.sh (zQ c_crossing [31] rfl (zE [10] (zE [18] [13]))))))
   (zF (zW (i:=4) rfl (za (i:=4) nd rfl [6] (VE.sh (zQ c_ways_from [31] rfl (zE [10] (zE (zQ c_without [31] rfl (zE [15] (zE [18] [13]))) (zE (zf hu [27] zG [20]) [13])))))))
   (zF (yh (zY (ug hu) ue (zf hu [27] zG [20]) [29] [28]) (zH (zc (yw (yD wg (yD (zR yq yp (yT (zE [18] [13])) (zf hu [29] (zf hu [27] zG [20]) [20])) [44]))))) zu)
   (zH (zc (yw (yD wg (yD (zQ c_lean_up [31] rfl (zE [10] (zE [29] [13]))) [44]))))))))
noncomputable abbrev uq:Stmt:=top 22
theorem sc_pulls_at:FnScope ["floor","braces","field","weight"] ["floor","braces","field"] (zM uq):=⟨rfl,rfl,rfl,by decide +kernel,rfl,by decide +kernel,by decide +kernel⟩
theorem zcx(F:Fun K "pulls_at" "pulls_at" uq f fd)(B:Blt mg)
  (c_weighed:Fn P w K mg base "weighed" 7 ["floor","braces","field"] (spV K 3 zx)):FnOk P w K mg base CX0 8 f fd ["floor","braces","field"] (spV K 3 yi):=
 xm (g:=vf) (n:=3) (m:=4) [] rfl rfl [9] F sc_pulls_at fun cdv A outer s H E hr=>by
  have nd:=sc_pulls_at.nd
  have hu:=yW hr
  have hu64:=hr.units
  exact (zF (zW (i:=3) rfl (za (i:=3) nd rfl [6] (VE.sh (zQ c_weighed [31] rfl (zE [10] (zE [15] (zE [18] [13])))))))
   (zF (yh (zY (wt hu64) uf (zf hu [27] zG [20]) wg (zy _)) (zH (zc zdl)) zu)
   (zH (zc (zgo (by rfl) B.sorted_ (zE (xi (ow:=["k","other"]) (js:=[]) [33] [81] [9] rfl (zbZ false (by rfl) B.enumerate_ (jI (zf hu [27] zG [20]) (zD (c:=.sh)))) (fun _ _ _ _=>(ji 2 rfl (yS (zP 0 rfl (zO (i:=0) (show (["k","other"]:List Str).Nodup by decide +kernel) rfl [6])) (yS (zP 1 rfl (zO (i:=1) (show (["k","other"]:List Str).Nodup by decide +kernel) rfl [6])) uO)))) (fun _ _ _ _=>xY) (fun _ _ _ _=>(yw (yD (VE.data [15] [33]) (yD wg (yD (zgp (wJ (zR yz yy [10] zG) (fun _=>rfl)) (zlX zkG zkE zG) zG) [44])))))) [13]))))))
noncomputable abbrev vU:Stmt:=top 31
theorem sc__law_right:FnScope ["_law_floor_here","_law_braces_here","_law_field","_law_pulls","_law_seen","_law_row_here","_law_word","_law_fields"] ["_law_floor_here","_law_braces_here","_law_field","_law_pulls"] (zM vU):=⟨rfl,rfl,rfl,by decide +kernel,rfl,by decide +kernel,by decide +kernel⟩
theorem zan(F:Fun K "_law_right" "_law_right" vU f fd)(B:Blt mg)
  (c_strips:Fn P w K mg base "strips" 3 ["floor"] (spV K 1 zd)):FnOk P w K mg base CX0 4 f fd ["_law_floor_here","_law_braces_here","_law_field","_law_pulls"] (spV K 4 yN):=
 xm (g:=vg) (n:=4) (m:=8) [4] rfl rfl [9] F sc__law_right fun cdv A outer s H E hr=>by
  have nd:=sc__law_right.nd
  have hu:=yW hr
  have hu64:=hr.units
  exact (zF (yh (VW.vt (kF (k6 (wJ (zt uW uX (by rfl) B.isinstance_ boot_isinstance (zE [27] (zE (zcc (c:=.mv []) (fun _ _=>.mkTy _) (zbm rfl B.list_ boot_list)) [13]))) (fun _=>rfl))) (zba (zY (jv hu64) zaA [27] (zca rfl hu64 (by rfl) B.sorted_ (by rfl) B.set_ (zE [27] [13])) (zy _))))) (zH (zc vB)) zu)
   (zF (zv (i:=4) [9] (za (i:=4) nd rfl [6] (yT [44])))
   (zF (xQ JV rfl (yE true [27]) (zP 5 rfl (zO (i:=5) nd rfl [6])) (zF (yh (VW.vt (kF (k6 (wJ (zt uW uX (by rfl) B.isinstance_ boot_isinstance (zE [45] (zE (zcc (c:=.mv []) (fun _ _=>.mkTy _) (zbm rfl B.tuple_ boot_tuple)) [13]))) (fun _=>rfl))) (kF (zY (jv hu64) zaA (zt xu xv (by rfl) B.len_ Kq (zE [45] [13])) zG (zy _)) (kF (zY (wP hu) wO (zf hu [45] zG [20]) [15] [28]) (zba (zY (ug hu) ue (zf hu [45] zG [20]) (xN 4 (pv 4)) [28])))))) (zH (zc vB)) zu)
   (zF (yh (VW.vt (kF (zY (jv hu64) zaA (zf hu [45] zG [20]) wg (zy _)) (kF (k6 (wJ (zt uW uX (by rfl) B.isinstance_ boot_isinstance (zE (zf hu [45] zG [20]) (zE (zcc (c:=.mv []) (fun _ _=>.mkTy _) (zbm rfl B.int_ boot_int)) [13]))) (fun _=>rfl))) (kF (wJ (zt uW uX (by rfl) B.isinstance_ boot_isinstance (zE (zf hu [45] zG [20]) (zE (zcc (c:=.mv []) (fun _ _=>.mkTy _) (zbm rfl B.bool_ boot_bool)) [13]))) (fun _=>rfl)) (zba (zY (wt hu64) uf (zf hu [45] zG [20]) zG (zy _))))))) (zH (zc vB)) zu)
   (zH (y9 4 [9] (yt (vD JA JS JT yV (pv 4) (yR (VE.data (zf hu [45] zG [20]) [33]) pa_nil))))))))
   (zF (yh (zY (wP hu) wO [18] (xN 4 (pv 4)) [28]) (zH (zc vB)) zu)
   (zF (xQ JV rfl (yE true (VE.sh (zQ c_strips [31] rfl (zE [10] [13])))) (ji 2 rfl (yS (zP 6 rfl (zO (i:=6) nd rfl [6])) (yS (zP 7 rfl (zO (i:=7) nd rfl [6])) uO))) (zH (yh (zY (jv hu64) zaA (zt zlN (zgc rfl) (by rfl) B.sum_ boot_sum (zE (xi (ow:=["_law_other","_law_bar","_law_number"]) (js:=[7]) [33] [81] [9] rfl (yE false [27]) (fun _ _ _ _=>(ji 3 rfl (yS (zP 0 rfl (zO (i:=0) [77] rfl [6])) (yS (zP 1 rfl (zO (i:=1) [77] rfl [6])) (yS (zP 2 rfl (zO (i:=2) [77] rfl [6])) uO))))) (fun _ _ _ _=>(y7 (zY (ug hu) ue [10] [27] [28]))) (fun _ _ _ _=>(VE.data [18] [33]))) [13])) zG (zy _)) (zH (zc vB)) zu)))
   (zH (zc vB)))))))
noncomputable abbrev qG:Stmt:=top 32
theorem sc_law:FnScope ["_law_script","_law_floor_here","_law_braces_here","_law_kept","_law_field","_law_pulls"] ["_law_script"] (zM qG):=⟨rfl,rfl,rfl,by decide +kernel,rfl,by decide +kernel,by decide +kernel⟩
theorem zll(F:Fun K "law" "law" qG f fd)(B:Blt mg)
  (c__law_floor:Fn P w K mg base "_law_floor" 4 ["_law_script","_law_k"] (spV K 2 y4))
  (c__law_braces:Fn P w K mg base "_law_braces" 3 ["_law_script","_law_k","_law_floor_here"] (spV K 3 xF))
  (c_pulls_at:Fn P w K mg base "pulls_at" 8 ["floor","braces","field"] (spV K 3 yi))
  (c_weighed:Fn P w K mg base "weighed" 7 ["floor","braces","field"] (spV K 3 zx))
  (c__law_right:Fn P w K mg base "_law_right" 4 ["_law_floor_here","_law_braces_here","_law_field","_law_pulls"] (spV K 4 yN)):FnOk P w K mg base CX0 9 f fd ["_law_script"] (spV K 1 kr):=
 xm (g:=zeP) (n:=1) (m:=6) [5] rfl rfl [9] F sc_law fun cdv A outer s H E hr=>by
  have nd:=sc_law.nd
  have hu:=yW hr
  have hu64:=hr.units
  exact (zF (zW (i:=1) rfl (za (i:=1) nd rfl [6] (VE.sh (zQ c__law_floor [31] rfl (zE [10] (zE zG [13]))))))
   (zF (zW (i:=2) rfl (za (i:=2) nd rfl [6] (VE.sh (zQ c__law_braces [31] rfl (zE [10] (zE zG (zE [15] [13])))))))
   (zF (zW (i:=3) rfl (za (i:=3) nd rfl [6] (VE.sh (jk zkb (zkc rfl) (by rfl) B.list_ boot_list (zE [18] [13])))))
   (zF (xQ JV rfl (yE true (VE.sh (zcb [27] zer (zeq zG)))) (zP 4 rfl (zO (i:=4) nd rfl [6])) (zF (zv (i:=5) [9] (za (i:=5) nd rfl [6] (zQ c_pulls_at [31] rfl (zE [15] (zE [18] (zE [29] [13]))))))
   (zF (yh (zY (jv hu64) zaA [18] [27] (zy _)) (zH (zc vB)) zu)
   (zH (yh (zY (wt hu64) uf (zf hu (zQ c_weighed [31] rfl (zE [15] (zE [18] (zE [29] [13])))) zG [20]) wg (zy _)) (zH (yh (zY zjo zjn (xN 5 (pv 5)) zdl (zy _)) (zH (zc vB)) zu)) (zH (yh (k6 (wJ (zQ c__law_right [31] rfl (zE [15] (zE [27] (zE [29] (zE (xN 5 (pv 5)) [13]))))) (fun _=>rfl))) (zH (zc vB)) (zF (zgn 5 [9] (yt (zhg JA PySem.F.slot_list_clear PySem.F.type_list_clear zhq (pv 5))))
   (zH (yh (k6 (wJ (zQ c__law_right [31] rfl (zE [15] (zE [27] (zE [29] (zE (zQ c_pulls_at [31] rfl (zE [15] (zE [18] (zE [29] [13])))) [13]))))) (fun _=>rfl))) (zH (zc vB)) zu))))))))))
   (zH (zc vB))))))
open PySem.W
theorem zfI{us:List Value}(h:us.length=1):∃ a,us=[a]:=List.length_eq_one_iff.mp h
theorem qe{us:List Value}(h:us.length=2):∃ a0 a1,us=[a0,a1]:=by
 cases us with
 | nil=>cases h
 | cons a0 r=>obtain ⟨a1,rfl⟩:=zfI (us:=r) (Nat.succ.inj h);exact ⟨a0,a1,rfl⟩
theorem zcK{us:List Value}(h:us.length=3):∃ a0 a1 a2,us=[a0,a1,a2]:=by
 cases us with
 | nil=>cases h
 | cons a0 r=>obtain ⟨a1,a2,rfl⟩:=qe (us:=r) (Nat.succ.inj h);exact ⟨a0,a1,a2,rfl⟩
theorem zlq{us:List Value}(h:us.length=4):∃ a0 a1 a2 a3,us=[a0,a1,a2,a3]:=by
 cases us with
 | nil=>cases h
 | cons a0 r=>obtain ⟨a1,a2,a3,rfl⟩:=zcK (us:=r) (Nat.succ.inj h);exact ⟨a0,a1,a2,a3,rfl⟩
theorem all_mk{l:PySem.W.OpenLaw}{w:World}{K:PySem.W.Frag}{h:Heap}{mg:Str->Option Value}{fa:Addr}(X:K.In h)(G:h.Ns mainGlobals mg)(hfa:mg "law"=some (.ref fa))
  (d0:Df K "_law_cell" uD)
  (d1:Df K "_law_row" ut)
  (d2:Df K "_law_beside" wq)
  (d3:Df K "_law_flood" vW)
  (d4:Df K "_law_outside" wN)
  (d5:Df K "_law_floor" vV)
  (d6:Df K "_law_braces" wp)
  (d7:Df K "runs" zdy)
  (d8:Df K "field_left" vT)
  (d9:Df K "row_runs" uo)
  (d10:Df K "field_below" wm)
  (d11:Df K "column_runs" wn)
  (d12:Df K "strips" qF)
  (d13:Df K "crossings" uC)
  (d14:Df K "crossing" ur)
  (d15:Df K "onward_from" wj)
  (d16:Df K "walks_from" vS)
  (d17:Df K "there_and_back" xS)
  (d18:Df K "brace_steps" wo)
  (d19:Df K "ways_from" uB)
  (d20:Df K "without" jq)
  (d21:Df K "lean_up" jt)
  (d22:Df K "weighed" jr)
  (d23:Df K "pulls_at" uq)
  (d24:Df K "_law_right" vU)
  (d25:Df K "law" qG)
  (z_bool:nsIn K mainGlobals "bool"=some none)
  (z_enumerate:nsIn K mainGlobals "enumerate"=some none)
  (z_int:nsIn K mainGlobals "int"=some none)
  (z_isinstance:nsIn K mainGlobals "isinstance"=some none)
  (z_len:nsIn K mainGlobals "len"=some none)
  (z_list:nsIn K mainGlobals "list"=some none)
  (z_range:nsIn K mainGlobals "range"=some none)
  (z_set:nsIn K mainGlobals "set"=some none)
  (z_sorted:nsIn K mainGlobals "sorted"=some none)
  (z_sum:nsIn K mainGlobals "sum"=some none)
  (z_tuple:nsIn K mainGlobals "tuple"=some none)
  (z_zip:nsIn K mainGlobals "zip"=some none)
  : ∃ fd:FuncData,(∀ (s:Shared) (v:Value),BindsTo s fd ⟨[v],[]⟩ [("_law_script",v)])/\∀ base:Heap,K.In base->base.Ns mainGlobals mg->FnOk l.prog w K mg base CX0 9 fa fd ["_law_script"] (spV K 1 kr):=by
 obtain @⟨f,oc,od,kV,dc,pm,an,cd,ct,sl,a,lk,c,k⟩:=d25
 cases hfa.symm.trans (mg_of X G a)
 have B:Blt mg:=⟨mg_none_of X G z_bool,mg_none_of X G z_enumerate,mg_none_of X G z_int,mg_none_of X G z_isinstance,mg_none_of X G z_len,mg_none_of X G z_list,mg_none_of X G z_range,mg_none_of X G z_set,mg_none_of X G z_sorted,mg_none_of X G z_sum,mg_none_of X G z_tuple,mg_none_of X G z_zip⟩
 refine ⟨fnOf "law" "law" (vo qG) (wD qG) (zM qG) .none kV dc pm an cd ct,fun s v=>.of_eq rfl,fun base _ _=>?_⟩
 have c__law_cell:Fn l.prog w K mg base _ _ _ _:=d0.fn X G (fun _ _ F=>zbs F B) fun _ _ _ _ _ _ us hl=>by obtain ⟨_,_,rfl⟩:=qe hl;rfl
 have c__law_row:Fn l.prog w K mg base _ _ _ _:=d1.fn X G (fun _ _ F=>zcz F B c__law_cell) fun _ _ _ _ _ _ us hl=>by obtain ⟨_,_,_,_,rfl⟩:=zlq hl;rfl
 have c__law_beside:Fn l.prog w K mg base _ _ _ _:=d2.fn X G (fun _ _ F=>qU F B) fun _ _ _ _ _ _ us hl=>by obtain ⟨_,_,_,rfl⟩:=zcK hl;rfl
 have c__law_flood:Fn l.prog w K mg base _ _ _ _:=d3.fn X G (fun _ _ F=>zap F B c__law_beside) fun _ _ _ _ _ _ us hl=>by obtain ⟨_,_,_,_,rfl⟩:=zlq hl;rfl
 have c__law_outside:Fn l.prog w K mg base _ _ _ _:=d4.fn X G (fun _ _ F=>kU F B c__law_flood) fun _ _ _ _ _ _ us hl=>by obtain ⟨_,_,_,rfl⟩:=zcK hl;rfl
 have c__law_floor:Fn l.prog w K mg base _ _ _ _:=d5.fn X G (fun _ _ F=>zao F B c__law_row c__law_flood c__law_outside c__law_cell) fun _ _ _ _ _ _ us hl=>by obtain ⟨_,_,rfl⟩:=qe hl;rfl
 have c__law_braces:Fn l.prog w K mg base _ _ _ _:=d6.fn X G (fun _ _ F=>qT F B c__law_row c__law_cell) fun _ _ _ _ _ _ us hl=>by obtain ⟨_,_,_,rfl⟩:=zcK hl;rfl
 have c_runs:Fn l.prog w K mg base _ _ _ _:=d7.fn X G (fun _ _ F=>zjq F B) fun _ _ _ _ _ _ us hl=>by obtain ⟨_,_,rfl⟩:=qe hl;rfl
 have c_field_left:Fn l.prog w K mg base _ _ _ _:=d8.fn X G (fun _ _ F=>zam F B) fun _ _ _ _ _ _ us hl=>by obtain ⟨_,_,rfl⟩:=qe hl;rfl
 have c_row_runs:Fn l.prog w K mg base _ _ _ _:=d9.fn X G (fun _ _ F=>zcw F B c_runs c_field_left) fun _ _ _ _ _ _ us hl=>by obtain ⟨_,rfl⟩:=zfI hl;rfl
 have c_field_below:Fn l.prog w K mg base _ _ _ _:=d10.fn X G (fun _ _ F=>qP F B) fun _ _ _ _ _ _ us hl=>by obtain ⟨_,_,rfl⟩:=qe hl;rfl
 have c_column_runs:Fn l.prog w K mg base _ _ _ _:=d11.fn X G (fun _ _ F=>qQ F B c_runs c_field_below) fun _ _ _ _ _ _ us hl=>by obtain ⟨_,rfl⟩:=zfI hl;rfl
 have c_strips:Fn l.prog w K mg base _ _ _ _:=d12.fn X G (fun _ _ F=>zfE F B c_row_runs c_column_runs) fun _ _ _ _ _ _ us hl=>by obtain ⟨_,rfl⟩:=zfI hl;rfl
 have c_crossings:Fn l.prog w K mg base _ _ _ _:=d13.fn X G (fun _ _ F=>zbr F B c_strips) fun _ _ _ _ _ _ us hl=>by obtain ⟨_,rfl⟩:=zfI hl;rfl
 have c_crossing:Fn l.prog w K mg base _ _ _ _:=d14.fn X G (fun _ _ F=>zcy F B c_crossings) fun _ _ _ _ _ _ us hl=>by obtain ⟨_,_,rfl⟩:=qe hl;rfl
 have c_onward_from:Fn l.prog w K mg base _ _ _ _:=d15.fn X G (fun _ _ F=>qO F B) fun _ _ _ _ _ _ us hl=>by obtain ⟨_,rfl⟩:=zfI hl;rfl
 have c_walks_from:Fn l.prog w K mg base _ _ _ _:=d16.fn X G (fun _ _ F=>zal F B c_onward_from) fun _ _ _ _ _ _ us hl=>by obtain ⟨_,_,rfl⟩:=qe hl;rfl
 have c_there_and_back:Fn l.prog w K mg base _ _ _ _:=d17.fn X G (fun _ _ F=>jR F B) fun _ _ _ _ _ _ us hl=>by obtain ⟨_,_,_,rfl⟩:=zcK hl;rfl
 have c_brace_steps:Fn l.prog w K mg base _ _ _ _:=d18.fn X G (fun _ _ F=>qR F B c_crossings c_there_and_back) fun _ _ _ _ _ _ us hl=>by obtain ⟨_,_,rfl⟩:=qe hl;rfl
 have c_ways_from:Fn l.prog w K mg base _ _ _ _:=d19.fn X G (fun _ _ F=>zbq F B c_walks_from c_brace_steps) fun _ _ _ _ _ _ us hl=>by obtain ⟨_,_,_,rfl⟩:=zcK hl;rfl
 have c_without:Fn l.prog w K mg base _ _ _ _:=d20.fn X G (fun _ _ F=>zdG F B) fun _ _ _ _ _ _ us hl=>by obtain ⟨_,_,rfl⟩:=qe hl;rfl
 have c_lean_up:Fn l.prog w K mg base _ _ _ _:=d21.fn X G (fun _ _ F=>zdI F B c_strips) fun _ _ _ _ _ _ us hl=>by obtain ⟨_,_,rfl⟩:=qe hl;rfl
 have c_weighed:Fn l.prog w K mg base _ _ _ _:=d22.fn X G (fun _ _ F=>zdH F B c_crossing c_ways_from c_without c_lean_up) fun _ _ _ _ _ _ us hl=>by obtain ⟨_,_,_,rfl⟩:=zcK hl;rfl
 have c_pulls_at:Fn l.prog w K mg base _ _ _ _:=d23.fn X G (fun _ _ F=>zcx F B c_weighed) fun _ _ _ _ _ _ us hl=>by obtain ⟨_,_,_,rfl⟩:=zcK hl;rfl
 have c__law_right:Fn l.prog w K mg base _ _ _ _:=d24.fn X G (fun _ _ F=>zan F B c_strips) fun _ _ _ _ _ _ us hl=>by obtain ⟨_,_,_,_,rfl⟩:=zlq hl;rfl
 exact zll (zhP (st:=qG) lk c k) B c__law_floor c__law_braces c_pulls_at c_weighed c__law_right
theorem walk{l:PySem.W.OpenLaw}{q:Program}{loose:List Str}{XP:(Str->Option Value)->Heap->Prop}{YP:World->Heap->Prop}{d:DefRec}{K:Params->PySem.W.Frag}(hn:l.most=some 63)(hdf:d.params.defaults=[])
  (hY:∀ (w:World) (h:Heap),YP w h->(K w.params).In h)
  (F:∀ (w:World) (mg:Str->Option Value) (fa:Addr) (h:Heap),(K w.params).In h->h.Ns mainGlobals mg->mg d.name=some (.ref fa)->
   ∃ fd:FuncData,(∀ (s:Shared) (u:Value),BindsTo s fd ⟨[u],[]⟩ [("_law_script",u)])/\∀ base:Heap,(K w.params).In base->base.Ns mainGlobals mg->FnOk l.prog w (K w.params) mg base CX0 9 fa fd ["_law_script"] (spV (K w.params) 1 kr)):
  PySem.W.WalkO q loose XP YP l.row.toRowW d [] (fun f vs=>PySem.call f vs):=
 L2.walk_ofB (n:=63) (k:=9) (x:="_law_script") (CX:=fun _=>CX0) (sp:=fun w=>spV (K w.params) 1 kr) hn [9] hdf ⟨rfl,by decide,by decide⟩ hY F (fun _ _ a ns hl hb ho hS=>zlr ho hS (zhy ns hl hb)) fun _ _ _ _ _ z=>z
end Cb
namespace PySem.W.Fast
def tw4507243752377698404:=0
def tw15836916107637166127:=0
def tw4902577939023139025:=0
def tw6250229827714673737:=0
def tw4453502826931092122:=0
def tw3855529516363907902:=0
def tw6837280538515930547:=0
def tw5363732388978920101:=0
def tw303269804927456758:=0
def tw11789658210240016235:=0
def tw5142377903173560417:=0
def tw4415270214420070787:=0
def tw13496274289881781146:=0
def tw1733620707492981612:=0
def tw12672318749698137850:=0
def tw15148426780989783095:=0
def tw17766832120324704381:=0
def tw15456321442232746741:=0
def tw12378665062047010234:=0
def tw3705193871971860481:=0
def tw13112618480170999714:=0
def tw6203630210456352295:=0
def tw91574681029821760:=0
def tw454638075106486866:=0
def tw2831638736305635160:=0
def tw15567500027342970735:=0
def tw15736611633850951759:=0
def tw3479808418086019056:=0
def tw2013828771133973499:=0
def tw17577649606394484919:=0
def tw3439296080070054136:=0
def tw12953920880685767501:=0
def tw9061175371870732584:=0
def tw8396847100840163022:=0
def tw2704794789794958588:=0
def tw4031378322204910937:=0
def tw14613010618697029708:=0
def tw15889660893797064303:=0
def tw6475389367027177543:=0
def tw17809370126191961151:=0
def tw7591865685786290709:=0
def tw1710624488875924194:=0
def tw6173966381210326783:=0
def tw11139068613765725777:=0
def tw9688877046107040811:=0
def tw4940689264675554957:=0
def tw10895836872264426929:=0
def tw8785176870139198063:=0
def tw14258776192167572031:=0
def tw15657763478402388865:=0
def tw1742427967235471562:=0
def tw7654352241579742207:=0
def tw4778596207842794295:=0
def tw3742461234233840436:=0
def tw16385484535662557867:=0
def tw12994214892314297350:=0
def tw11677530675358149671:=0
def tw990015476493514419:=0
def tw15652048810812756033:=0
def tw12838574092103325634:=0
def tw6388716007209836656:=0
def tw18374418861292755135:=0
def tw17451747888092357477:=0
def tw2932820581093794841:=0
def tw1461253322552639949:=0
def tw7429358263299526033:=0
def tw13791893388013503319:=0
def tw14763914710735758028:=0
def tw4530528504018402067:=0
def tw710234634323664744:=0
def tw1105357246660228913:=0
def tw1376334975864515185:=0
def tw4562471426144335254:=0
end PySem.W.Fast
open PySem PySem.W PyProof.Rows
set_option maxRecDepth 100000 in
set_option maxHeartbeats 0 in
theorem PySem.Challenge.cw_crossbrace_k32_pulls_at_a_brace_holds : PySem.Challenge.rw_crossbrace_k32_pulls_at_a_brace.Holds := by
 w_on;o_law;k_head;(case hw=>w_witness2)
 k_fill
 refine Cb.walk (l:=PySem.Challenge.rw_crossbrace_k32_pulls_at_a_brace) rfl rfl (fun w h Y=>PySem.W.kIn_of Y) ?F
 case F=>
  intro w mg fa h KX G hmg
  refine' Cb.all_mk KX G hmg ?_ ?_ ?_ ?_ ?_ ?_ ?_ ?_ ?_ ?_ ?_ ?_ ?_ ?_ ?_ ?_ ?_ ?_ ?_ ?_ ?_ ?_ ?_ ?_ ?_ ?_ ?_ ?_ ?_ ?_ ?_ ?_ ?_ ?_ ?_ ?_ ?_ ?_
  any_goals first | k_is | exact .mk (by k_is) (by k_is) (by k_is) (by k_is)
