import PyProof.Rows.All
import Wide.All
import OpenK.AllK
import Wide.FinOn
import Lean
import PyProof.EqAt
import PyProof.EqKinds
import PyProof.TupleCall
import KE.KDictList
import PyProof.P3Eq
import PyProof.NeData
import PyProof.P3In
import PyProof.FactsAll.NoneType
import PyProof.Draws
import PyProof.Rows.SetFrom
import PyProof.SetRoads
import PyProof.DictUpdate
import KE.KDictSum
import KE.KRevIter
import KE.KRevSl
import KE.KEqDict
import KE.KSortTup
import PySem.Challenge.RW_crossbrace_k43_whole_what_leans_is_put_d
set_option Elab.async false
set_option linter.all false
set_option maxRecDepth 100000
set_option maxHeartbeats 4000000
set_option hygiene false
local macro_rules
|`([9])=>`((by first|exact .inl rfl|exact .inr rfl))
|`([10])=>`((by decide))
|`([12])=>`((by omega))
|`([13])=>`((zB 0 rfl (pv 0)))
|`([14])=>`((zO w rs cs))
|`([15])=>`((zE (c:=.bo)))
|`([16])=>`((zB 1 rfl (pv 1)))
|`([17])=>`((fun _ _=>rfl))
|`([18])=>`((rs.length+cs.length))
|`([19])=>`((by simp))
|`([20])=>`((fC (.int 1)))
|`([21])=>`((model X.prog X.w))
|`([22])=>`((B.map PV.int))
|`([23])=>`((hr.mono [10]))
|`([24])=>`((Addr × Obj))
|`([25])=>`((fC (.int 0)))
|`([26])=>`((zB 2 rfl (pv 2)))
|`([27])=>`((zB 5 rfl (pv 5)))
|`([28])=>`((zB 4 rfl (pv 4)))
|`([29])=>`((by with_unfolding_all rfl))
|`([30])=>`((some (.int f)))
|`([31])=>`((Same.refl _))
|`([32])=>`((flV w h F))
|`([33])=>`((.mv []))
|`([34])=>`((zB 3 rfl (pv 3)))
|`([35])=>`((model prog w))
|`([36])=>`((zE (c:=.mv [])))
|`([37])=>`((fOp vNe (zJ zc (zC (fOp vIx (zA 1) (fOp wI (zA 0) [20])) (zC (fOp vIx (zA 1) (zA 0)) zI))) (fC (.int 15625))))
|`([38])=>`((zC (zA 0) zI))
|`([39])=>`((fun _ _ _ _=>(zW 0 rfl (zU (i:=0) (show (["run"]:List Str).Nodup by decide +kernel) rfl [9]))))
|`([40])=>`((by decide +kernel))
|`([41])=>`((F.map PV.int))
|`([42])=>`((List Int))
|`([43])=>`((.ListComp elt [⟨tg,iter,ifs,0⟩] scope pos))
|`([44])=>`((fun _ _ _ _=>(VE.data [13] [33])))
|`([45])=>`((fC (.int 2)))
|`([46])=>`((Int × Nat))
|`([47])=>`((wpAny_pure ?_))
|`([48])=>`((.lst ((vf w rs cs).map zn)))
|`([49])=>`((seqObj "list" acc.toList.toArray 0))
|`([50])=>`((x == ("__debug__":Str)))
|`([51])=>`((zT hu [13] zF [17]))
|`([52])=>`((xs.map PV.int))
|`([53])=>`((rc ls f))
|`([54])=>`((false,eval e X.env))
|`([55])=>`((thn (ha pos pins s σ H _ I h) fun us s1 ⟨vs,H1,I1,r1,q1⟩=>?_))
|`([56])=>`((zH [13] [15]))
|`([57])=>`((zB 6 rfl (pv 6)))
|`([58])=>`(((Rps.upd mb _ nb1 (Rps.same s1 _ r1)).append (Rps.cons (.mkL zZ (Rps.upd mb _ nbC rC)) (Rps.upd mb _ nb4 (Rps.same s1 _ r4)))))
|`([59])=>`((zC (zA 0) [313]))
|`([60])=>`((yt X own js scope C s₀ H₀ fp))
|`([61])=>`(([279].filter fun p=>!decide (O p)))
|`([62])=>`((k == NameKind.free && env.scope.kind == .function && env.kindOf n == some .cell))
|`([63])=>`((ns.map V.int))
|`([64])=>`((.ref s.heap.objs.size))
|`([65])=>`((T.map PV.int))
|`([66])=>`((mk Z2 (D++[f]) [30] [102] [129] (some (.int (k:Int)))))
|`([67])=>`((dF L fun s=>.lst (ws s)))
|`([68])=>`((some (.int p)))
|`([69])=>`((zW 5 rfl (zU (i:=5) nd rfl [9])))
|`([70])=>`((by rfl))
|`([71])=>`((wpAny_pure ⟨_,rfl,wpAny_pure h⟩))
|`([72])=>`((backTo pos (starEach es X.env)))
|`([73])=>`((fun z=>nomatch z))
|`([74])=>`((zC (fOp vIx (fOp vIx (zA 2) (zA 4)) [25]) (zC (fOp vIx (fOp vIx (zA 2) (zA 4)) [20]) (zC (zA 4) zI))))
|`([75])=>`(((items.toList.drop (sIx items.size 0 lo)).take (sIx items.size items.size hi - sIx items.size 0 lo)))
|`([76])=>`((.inl rfl))
|`([77])=>`((Or.inl rfl))
|`([78])=>`((.lst [22]))
|`([79])=>`((by dsimp only;omega))
|`([80])=>`((some (.lst ((x0::sr).map PV.int))))
|`([81])=>`((.Call (.Name x p) (e::es) [] pos))
|`([82])=>`((zC (zA 2) zI))
|`([83])=>`((zi (i:=3) [10] (zP (i:=3) nd rfl [9] (yM [36]))))
|`([84])=>`((.ref a))
|`([85])=>`((cK ow.length js κ))
|`([86])=>`((rc [14] f))
|`([87])=>`((zW 4 rfl (zU (i:=4) nd rfl [9])))
|`([88])=>`((.int i))
|`([89])=>`((s1.trans s2))
|`([90])=>`((upd H1 b (.lst ys')))
|`([91])=>`((fOp vIx (zA 0) [45]))
|`([92])=>`((zB 9 rfl (pv 9)))
|`([93])=>`((upd H l (.lst (ns'.map V.int))))
|`([94])=>`((.dK kvs))
|`([95])=>`((ha pins s σ H _ I h))
|`([96])=>`((ss++[(c1,c2,yQ z.2.2)]++[(c2,c1,yQ (-z.2.2.1,-z.2.2.2))]))
|`([97])=>`((zH [13] (zH [16] [15])))
|`([98])=>`((fun _ _ _ _=>(yA (z3 wH (z3 (VE.data [13] [33]) [36])))))
|`([99])=>`((s.heap.push { cls:=.type "range",data:=.fields #[.int lo t,.int hi u,.int 1 v] }))
|`([100])=>`((intKind prog w))
|`([101])=>`((zu (zA 0)))
|`([102])=>`((some (.int u)))
|`([103])=>`((HT.sIx xs.length xs.length hi - HT.sIx xs.length 0 lo))
|`([104])=>`((some (.int (i:Int))))
|`([105])=>`((I.ok.hd hc))
|`([106])=>`((by simp only [List.size_toArray]<;>omega))
|`([107])=>`((.lst xs))
|`([108])=>`((envOfC qual scope s.heap.objs.size f cd))
|`([109])=>`((yt X ow js scope C s₀ H₀ fp))
|`([110])=>`((env.set i (some p)))
|`([111])=>`((zC (zJ zY [38]) zI))
|`([112])=>`((fun m q w D _ _ z hD=>Rp.upd mb q (fun z'=>hD b z' hob) (Rp.same s1 q z)))
|`([113])=>`((by simp only [List.length_cons];omega))
|`([114])=>`((zJ zc (zC (fOp vIx (zA 5) [20]) (zC (fOp vIx (zA 5) (fC (.int 3))) zI))))
|`([115])=>`((PySem.W.fnOf x qual (u5 st) (vG st) (zR st) .none kV doc pm an cdv ct))
|`([116])=>`((zo xx xy [70] B.len_ JV (zH (yh 2 (pv 2)) [15])))
|`([117])=>`((fun _ _ _ _=>xb))
|`([118])=>`((VE.sh (zQ c_crossings [23] rfl [56])))
|`([119])=>`((some (.int n)))
|`([120])=>`((some (.int h)))
|`([121])=>`((fun w hw=>jQ rx fx r fs w (by simpa using hw)))
|`([122])=>`((SetTable.leap t.mask P.i P.perturb))
|`([123])=>`((thn (hi pins s σ H _ I h) fun v s1 h1=>thn h1 fun itv s2 h2=>?_))
|`([124])=>`((false,eval a X.env))
|`([125])=>`((upd H1 D (.lst [])))
|`([126])=>`((ks.zip xs))
|`([127])=>`((L.map Sum.inl))
|`([128])=>`((.tup [41]))
|`([129])=>`((some (.int v)))
|`([130])=>`((zB 7 rfl (pv 7)))
|`([131])=>`((zJ zc (zC (fOp vIx (zA 5) [25]) (zC (fOp vIx (zA 5) [45]) zI))))
|`([132])=>`((∀ x c,X.env.cells.lookup x=some c->c≠b))
|`([133])=>`((List.range n))
|`([134])=>`((Int × Value))
|`([135])=>`(((F.zip ds).filter fun z=>decide (decide (0<z.2)=decide (0<y))))
|`([136])=>`((zo xx xy [70] B.len_ JV (zH (zQ c_strips [23] rfl [56]) [15])))
|`([137])=>`((yK [18] L))
|`([138])=>`((yy X Y c0))
|`([139])=>`((.Name x pos))
|`([140])=>`((assignEach es X.env))
|`([141])=>`((by simpa using hi))
|`([142])=>`((zC (zA 1) (zC (zJ xj (zC (zA 3) zI)) zI)))
|`([143])=>`((List Key × Addr × Value))
|`([144])=>`((EP X pins σ Q))
|`([145])=>`((ns.map PV.int))
|`([146])=>`((va X.w s1.heap.objs.size es ep))
|`([147])=>`((.cons0 (.mkI _) (.cons0 (.mkI _) .nil0)))
|`([148])=>`((by rw [typeLookup_type,builtinLookup_eq_fast];kernel_rfl))
|`([149])=>`((Key × V))
|`([150])=>`((b ∈ X.ex∨X.s₀.heap.objs.size≤b))
|`([151])=>`((by simpa using e))
|`([152])=>`((hf b hb))
|`([153])=>`((by rw [Jh];omega))
|`([154])=>`((fun H2=>if lp=true then Stay own H1 H2 else Same H1 H2))
|`([155])=>`((rs.map fun x=>zn ("row",zw 1 x.1 x.2)))
|`([156])=>`((rc [14] p))
|`([157])=>`((.lst (ds.map PV.int)))
|`([158])=>`((.ref it))
|`([159])=>`((zfX CX P w K mg base N qual scope f cdv A outer s H E))
|`([160])=>`((false,eval (.Call (.Name "set" p2) [e] [] pos2) X.env))
|`([161])=>`((Option Value))
|`([162])=>`((fOp vEq (zA 10) (fC (.str "leaned"))))
|`([163])=>`((zT hu (zT hu [26] [28] [17]) zF [17]))
|`([164])=>`((yv vv (vw rfl) [70] B.list_ boot_list (zH [34] [15])))
|`([165])=>`((fOp vIx (zA 0) [25]))
|`([166])=>`((fOp vIx (zA 6) [20]))
|`([167])=>`((lst [14] B [86].1=lst [14] B [86].2))
|`([168])=>`((pre.map (kJ X Y c0)))
|`([169])=>`(([279].filter fun n=>decide (0<ds.getD n.toNat 0)))
|`([170])=>`((some (.lst (L7.map PV.int))))
|`([171])=>`((some (.str (Str.ofString "leaned"))))
|`([172])=>`((tV X.K (ko O) G [33] f))
|`([173])=>`((ss++[(c1,c2,yQ z.2.2)]))
|`([174])=>`((Cat.sub c1 (h5.trans (List.sublist_cons_self _ _))))
|`([175])=>`((.dct [306] (ps++[PV.lst []])))
|`([176])=>`((zV xU xT (zT hu [16] zF [17]) [51]))
|`([177])=>`((.lst ((wE w F).map PV.int)))
|`([178])=>`((fOp vEq (fOp vIx (zA 2) [25]) (fC (.str "leans"))))
|`([179])=>`((A1++((b::C)++A4)))
|`([180])=>`((.lst (st.map yQ)))
|`([181])=>`((s.heap.objs.size+1))
|`([182])=>`((by rw [isSubtype_type];kernel_rfl))
|`([183])=>`((some (yp d stop f)))
|`([184])=>`((S.filter fun n=>decide (n ∈ Pl)))
|`([185])=>`((n % w=0∨n % w=w - 1))
|`([186])=>`((n / w=0∨n / w=h - 1))
|`([187])=>`(((F.zip ds).map fun z=>PV.tup [.int z.1,.int z.2]))
|`([188])=>`((some (.bl st)))
|`([189])=>`((fun _ _ _ _=>(xp (za (vU hu) vR [13] [16] [29]))))
|`([190])=>`((fun _ _=>False))
|`([191])=>`((some (zv s)))
|`([192])=>`((zE (c:=.sh)))
|`([193])=>`((·.setIfInBounds 0 (rawInt (xS w t (i+1):Nat))))
|`([194])=>`((zJ yR (zC (zA 0) (zC (fOp yE (zA 1) [20]) zI))))
|`([195])=>`((ho pins s σ H _ I h))
|`([196])=>`(((I.grow s).own a l e))
|`([197])=>`((Str.ofString "leans"))
|`([198])=>`((a == sysModules))
|`([199])=>`((hs.2 b (JE (JD (Jn e) (I.ok.cab x c hfn hc)))))
|`([200])=>`((SqL X.K H p ys∨SqT X.K H p ys))
|`([201])=>`((kvs.any fun kv=>decide (kv.1=k)))
|`([202])=>`((by simpa using hl))
|`([203])=>`((show 0<w by omega))
|`([204])=>`((Builtin.SmallTypes.nextOf [158]))
|`([205])=>`((some (.lst ((x::r).map PV.int))))
|`([206])=>`((zW 6 rfl (zU (i:=6) nd rfl [9])))
|`([207])=>`((zW 2 rfl (zU (i:=2) nd rfl [9])))
|`([208])=>`((za (xv hu64) vT (zB 10 rfl (pv 10)) wH (zt _)))
|`([209])=>`((.lst (kvs.map fun kv=>kV kv.1)))
|`([210])=>`((zd (as:=[flV w h F]) rfl C.val))
|`([211])=>`((List Key × V))
|`([212])=>`((Str × Addr))
|`([213])=>`((show w≠0 by omega))
|`([214])=>`((cE ow.length js env))
|`([215])=>`((SetTable.grown es1.size))
|`([216])=>`((p+p / w+w+1))
|`([217])=>`((p+p / w+w+1+1))
|`([218])=>`((.bl false))
|`([219])=>`((if ([]:List Keyword).isEmpty then 0 else 1))
|`([220])=>`((by simpa using h))
|`([221])=>`((wpAny_bind (wpAny_onRaise ?_)))
|`([222])=>`((.lst (ss.map zv)))
|`([223])=>`(([137].map PV.int))
|`([224])=>`((some (.lst (bare.map PV.int))))
|`([225])=>`((show 2 ≤ sizeLine by decide))
|`([226])=>`((Int × Int))
|`([227])=>`((zg5 s.heap b1 b2 l1 l2))
|`([228])=>`(((idx ls f++[n]).map fun (k:Nat)=>PV.int k))
|`([229])=>`((cAt w p))
|`([230])=>`((fOp vNe (fOp zhx (zA 7) (fC .non)) (zA 4)))
|`([231])=>`((fun _ z=>nomatch z))
|`([232])=>`((dF L G))
|`([233])=>`((zo xx xy [70] B.len_ JV [56]))
|`([234])=>`((zT hu [57] zF [17]))
|`([235])=>`((firstMet (fun i=>ns.getD i 0) items.size))
|`([236])=>`((cs.map fun x=>zn ("column",zw w x.1 x.2)))
|`([237])=>`((fT (fOp vGt (fOp xc (zA 5) (zA 1)) [25])))
|`([238])=>`((.BoolOp .And (a::b::wW) pos))
|`([239])=>`((.builtin id))
|`([240])=>`((zgc scope X.env.cells))
|`([241])=>`((fOp vIx (zA 3) (zA 5)))
|`([242])=>`((fOp vIx (zA 3) (zA 4)))
|`([243])=>`((fun _=>.non))
|`([244])=>`((zu (fOp vIx (zA 5) (zA 10))))
|`([245])=>`((rc ls p))
|`([246])=>`((yh 3 (pv 3)))
|`([247])=>`((Nat.le_refl _))
|`([248])=>`((K w.params))
|`([249])=>`((Rps.mut _ h3 b hb))
|`([250])=>`((by rw [e];exact True.intro))
|`([251])=>`((.int w))
|`([252])=>`((zu (fOp vIx (zA 5) (zA 9))))
|`([253])=>`((he pins s σ H _ I h))
|`([254])=>`((f env))
|`([255])=>`((ze (uT 3 rfl (pv 3))))
|`([256])=>`((apos.endLine == cpos.line))
|`([257])=>`((Value.ref c == Value.none))
|`([258])=>`(((zw w f (m+1)).map PV.int))
|`([259])=>`((fT (fOp wT (zA 0) (zA 1))))
|`([260])=>`((fT (fOp xP (zA 0) (zA 1))))
|`([261])=>`((I1.hok.fresh (Jm _)))
|`([262])=>`((.lst ys))
|`([263])=>`((Nat.mod_lt _ (KR _)))
|`([264])=>`((List.range (mask+1)))
|`([265])=>`((.lst (L.map PV.int)))
|`([266])=>`((.BoolOp .And (b::wW) pos))
|`([267])=>`((fun b hb=>hA b (Jg _ hb)))
|`([268])=>`((SetTable.below t.place j))
|`([269])=>`((mk L' ws' Q' [120] [191]))
|`([270])=>`(((wE w F).map (kJ X Y c0)))
|`([271])=>`(((T.map trn).getD c (0,0)))
|`([272])=>`((zH [26] [15]))
|`([273])=>`((zl prog w))
|`([274])=>`((tupleKind (zl P w)))
|`([275])=>`((.Tuple es k pos))
|`([276])=>`((.Compare a [op] [b] pos))
|`([277])=>`((I.hok.fresh (Jm _)))
|`([278])=>`((show false=true from fx))
|`([279])=>`((zj w h))
|`([280])=>`((p / w+1))
|`([281])=>`((Cat.nil _ _ _))
|`([282])=>`((fun j=>ns.getD j 0))
|`([283])=>`((ps.map (xh d)))
|`([284])=>`((fOp wI (zA 5) [20]))
|`([285])=>`((some (.int c)))
|`([286])=>`((fC (.int 31250)))
|`([287])=>`((∀ b ∈ fp,H' b=none))
|`([288])=>`((.ref l))
|`([289])=>`((.in I hp fun H1 s1=>?_))
|`([290])=>`((σ.set i (some v)))
|`([291])=>`((by simpa using hu))
|`([292])=>`((κ × V))
|`([293])=>`((show False from r))
|`([294])=>`((tt C s₀ H₀ fp))
|`([295])=>`((te C s₀ H₀ fp))
|`([296])=>`((xs.map PyData.int))
|`([297])=>`((VE.data [27] [33]))
|`([298])=>`((VE.data [28] [33]))
|`([299])=>`((s.heap.push o0))
|`([300])=>`((Jr _ (Jr _ (uo hb e))))
|`([301])=>`((HT.sIx xs.length 0 lo))
|`([302])=>`((zbN xs lo hi))
|`([303])=>`((tupleKind_room_in1 hu))
|`([304])=>`((some [84]))
|`([305])=>`((tV X.K (ko O) G c2 fk))
|`([306])=>`((ks++[key]))
|`([307])=>`((va w a es ep))
|`([308])=>`((.int k))
|`([309])=>`((mk (yI [14] pre) [30]))
|`([310])=>`((fOp vIx (zA 2) (zA 0)))
|`([311])=>`((lst ls B k=k))
|`([312])=>`((fOp vIx (zA 4) (zA 6)))
|`([313])=>`((zC (zA 1) zI))
|`([314])=>`((by rw [Jz];omega))
|`([315])=>`((g C s₀ H₀ fp))
|`([316])=>`((p % w+1))
|`([317])=>`((.Tuple es k tpos))
|`([318])=>`((.ref f))
|`([319])=>`((JD (Jn e) I.ok.above))
|`([320])=>`((Str.ofString "stiff"))
|`([321])=>`((fOp yE (zA 4) (zA 3)))
|`([322])=>`((binaryOp .Add))
|`([323])=>`((zl X.prog X.w))
|`([324])=>`((.bl true))
|`([325])=>`((zA i env))
|`([326])=>`((.inl (.inr z)))
set_option hygiene true
abbrev Ja:=@Option.bind_eq_some_iff
abbrev Jb:=@Option.bind_some
abbrev Jc:=@List.mem_singleton
abbrev Jd:=@PySem.Heap.get?_push_of_some
abbrev Je:=@Bool.false_ne_true
abbrev Jf:=@List.mem_cons_self
abbrev Jg:=@List.mem_cons_of_mem
abbrev Jh:=@List.length_map
abbrev Ji:=@List.getElem?_eq_getElem
abbrev Jj:=@List.mem_append_left
abbrev Jk:=@Array.length_toList
abbrev Jl:=@List.length_append
abbrev Jm:=@Nat.le_refl
abbrev Jn:=@PySem.Heap.lt_size
abbrev Jo:=@PySem.F.plainAttrs_list
abbrev Jp:=@PySem.Heap.get?_push_size
abbrev Jq:=@Option.some.inj
abbrev Jr:=@List.mem_append_right
abbrev Js:=@PySem.F.slot_list_append
abbrev Jt:=@PySem.F.type_list_append
abbrev Ju:=@List.map_cons
abbrev Jv:=@List.getElem?_eq_some_iff
abbrev Jw:=@List.nodup_append
abbrev Jx:=@List.mem_map
abbrev Jy:=@List.nodup_cons
abbrev Jz:=@List.size_toArray
abbrev JA:=@PySem.PassesOwn.never
abbrev JB:=@List.mem_append
abbrev JC:=@Int.mul_ediv_add_emod
abbrev JD:=@Nat.lt_of_lt_of_le
abbrev JE:=@Nat.ne_of_lt
abbrev JF:=@List.length_cons
abbrev JG:=@Int.emod_lt_of_pos
abbrev JH:=@List.nodup_iff_pairwise_ne
abbrev JI:=@Int.emod_nonneg
abbrev JJ:=@List.map_append
abbrev JK:=@Classical.byContradiction
abbrev JL:=@Array.getElem?_toList
abbrev JM:=@List.getElem?_map
abbrev JN:=@Nat.le_trans
abbrev JO:=@List.append_nil
abbrev JP:=@List.getElem_mem
abbrev JQ:=@List.mem_range
abbrev JR:=@List.length_filter_le
abbrev JS:=@Bool.and_eq_true
abbrev JT:=@Option.map_eq_some_iff
abbrev JU:=@List.mem_of_getElem?
abbrev JV:=@PySem.boot_len
abbrev JW:=@List.pairwise_append
abbrev JX:=@List.pairwise_cons
abbrev JY:=@PyProof.Rows.callWith_type1
abbrev JZ:=@List.append_assoc
abbrev Ka:=@List.zip_cons_cons
abbrev Kb:=@List.getElem?_set
abbrev Kc:=@List.pairwise_map
abbrev Kd:=@List.replicate_succ
abbrev Ke:=@List.mem_filter
abbrev Kf:=@List.pairwise_iff_getElem
abbrev Kg:=@Nat.exists_eq_succ_of_ne_zero
abbrev Kh:=@Nat.ne_of_gt
abbrev Ki:=@List.any_cons
abbrev Kj:=@List.map_map
abbrev Kk:=@List.append_eq_nil_iff
abbrev Kl:=@List.mem_cons
abbrev Km:=@Array.getElem?_eq_some_iff
abbrev Kn:=@List.mem_flatMap
abbrev Ko:=@List.length_singleton
abbrev Kq:=@List.filter_append
abbrev Kr:=@PyProof.Rows.slot_tuple_getitem
abbrev Ks:=@List.length_erase_of_mem
abbrev Kt:=@List.find?_cons
abbrev Ku:=@List.length_zip
abbrev Kv:=@List.flatten_cons
abbrev Kw:=@Nat.le_of_lt_succ
abbrev Kx:=@Nat.lt_irrefl
abbrev Ky:=@PySem.Heap.size_push
abbrev Kz:=@List.filter_cons
abbrev KA:=@List.length_pos_of_mem
abbrev KB:=@PySem.Calls.spliced_cons
abbrev KC:=@List.mem_iff_getElem?
abbrev KD:=@PySem.F.slot_tuple_iterator_next
abbrev KF:=@List.getElem?_append_left
abbrev KG:=@Nat.zero_le
abbrev KH:=@List.findIdx?_eq_some_iff_getElem
abbrev KI:=@PySem.AutoSeq1.wpAny_loadPart'
abbrev KJ:=@PySem.mem_of_lookup
abbrev KK:=@List.length_pos_iff
abbrev KL:=@List.map_congr_left
abbrev KM:=@PySem.Calls.callWith_builtin
abbrev KN:=@Nat.lt_succ_of_lt
abbrev KO:=@List.ext_getElem?
abbrev KP:=@PySem.Heap.get?_update_self
abbrev KQ:=@Int.mul_comm
abbrev KR:=@Nat.succ_pos
abbrev KS:=@Nat.le_of_not_lt
abbrev KU:=@Int.ediv_emod_unique
abbrev KW:=@List.any_eq_true
abbrev KY:=@List.map_fst_zip
abbrev KZ:=@List.all_eq_true
abbrev Qa:=@Array.getElem_toList
abbrev Qb:=@List.getElem?_append_right
abbrev Qc:=@Int.add_mul
abbrev Qd:=@List.getElem?_range
abbrev Qe:=@List.getElem_of_mem
abbrev Qf:=@PySem.Heap.SameBut.update
abbrev Qg:=@List.zipIdx_map_fst
abbrev Qh:=@List.getLast?_eq_getElem?
abbrev Qi:=@Nat.lt_of_le_of_lt
namespace L2
open PySem PySem.Spec PyProof.Rows
noncomputable abbrev Key:=Sum Int Str
noncomputable def zaa:Key->Value->Bool
 | .inl k,v=>Value.isInt k v
 | .inr x,v=>Value.isStrOf x v
noncomputable def zoX(w:World):Key->Int
 | .inl k=>hashInt k
 | .inr x=>hashStr w x
theorem zx:∀ {k:Key} {v:Value},zaa k v=true->(∃ i t,k=Sum.inl i/\v=Value.int i t)∨(∃ x t,k=Sum.inr x/\v=Value.str x t)
 | .inl i,v,h=>by
  obtain ⟨t,e⟩:=Value.isInt_shape (k:=i) (v:=v) h
  exact .inl ⟨i,t,rfl,e⟩
 | .inr x,v,h=>by
  obtain ⟨t,e⟩:=Value.isStrOf_shape (x:=x) (v:=v) h
  exact .inr ⟨x,t,rfl,e⟩
theorem zhZ(i:Int)(t:Tok):zaa (.inl i) (.int i t)=true:=by simp [zaa,Value.isInt]
theorem zhY(x:Str)(t:Tok):zaa (.inr x) (.str x t)=true:=by simp [zaa,Value.isStrOf]
theorem znJ(a b:Int):decide ((Sum.inl a:Key)=Sum.inl b)=(a == b):=by
 by_cases e:a=b
 ·subst e;simp
 ·have h:¬ (Sum.inl a:Key)=Sum.inl b:=fun q=>e (Sum.inl.inj q)
  rw [decide_eq_false h]
  exact (beq_eq_false_iff_ne.mpr e).symm
theorem znG(a b:Str):decide ((Sum.inr a:Key)=Sum.inr b)=decide (a=b):=by
 by_cases e:a=b
 ·subst e;simp
 ·have h:¬ (Sum.inr a:Key)=Sum.inr b:=fun q=>e (Sum.inr.inj q)
  rw [decide_eq_false h,decide_eq_false e]
theorem znI(a:Int)(b:Str):decide ((Sum.inl a:Key)=Sum.inr b)=false:=decide_eq_false (fun q=>nomatch q)
theorem znH(a:Str)(b:Int):decide ((Sum.inr a:Key)=Sum.inl b)=false:=decide_eq_false (fun q=>nomatch q)
noncomputable def zl(prog:Program)(w:World):PySem.KeyKind prog w Key where
 is:=zaa
 hash:=zoX w
 inj:=fun v a b ha hb=>by
  rcases zx ha with ⟨i,t,rfl,rfl⟩ | ⟨x,t,rfl,rfl⟩
  ·rcases zx hb with ⟨j,u,rfl,e⟩ | ⟨y,u,rfl,e⟩
   ·injection e with e1 _;rw [e1]
   ·exact nomatch e
  ·rcases zx hb with ⟨j,u,rfl,e⟩ | ⟨y,u,rfl,e⟩
   ·exact nomatch e
   ·injection e with e1 _;rw [e1]
 byValue:=fun k v h=>by
  rcases zx h with ⟨i,t,rfl,rfl⟩ | ⟨x,t,rfl,rfl⟩<;>rfl
 pyHash:=fun hv h=>by
  rcases zx hv with ⟨i,t,rfl,rfl⟩ | ⟨x,t,rfl,rfl⟩
  ·exact wpAny_pyHash_int h
  ·exact wpAny_pyHash_str h
 eqBool:=fun hu hv h=>by
  rcases zx hu with ⟨i,t,rfl,rfl⟩ | ⟨x,t,rfl,rfl⟩
  ·rcases zx hv with ⟨j,u,rfl,rfl⟩ | ⟨y,u,rfl,rfl⟩
   ·rw [znJ] at h;exact wpAny_eqBool_int h
   ·rw [znI] at h;exact SeqAt.EqAt.int_str i t y u _ _ _ _ h
  ·rcases zx hv with ⟨j,u,rfl,rfl⟩ | ⟨y,u,rfl,rfl⟩
   ·rw [znH] at h;exact SeqAt.EqAt.str_int x t j u _ _ _ _ h
   ·rw [znG] at h;exact wpAny_eqBool_str h
 «strs»:=fun k x t v h=>by
  rcases zx h with ⟨i,u,rfl,e⟩ | ⟨y,u,rfl,e⟩
  ·exact nomatch e
  ·injection e with e1 _
   subst e1
   cases v<;>rfl
theorem zbn(prog:Program)(w:World)(k:Key)(v:Value):[273].is k v=zaa k v:=rfl
theorem zev(prog:Program)(w:World)(i:Int)(t:Tok):[273].is (.inl i) (.int i t)=true:=zhZ i t
theorem zeu(prog:Program)(w:World)(x:Str)(t:Tok):[273].is (.inr x) (.str x t)=true:=zhY x t
inductive V where
 | non | bl (b:Bool) | int (i:Int) | str (x:Str) | byt (b:Array UInt8) | flt (b:UInt64) | ref (a:Addr) | ty (n:String)
 deriving DecidableEq
noncomputable def RelV:V->Value->Prop
 | .non,u=>u=Value.none
 | .bl b,u=>u=Value.bool b
 | .int i,u=>∃ t,u=Value.int i t
 | .str x,u=>∃ t,u=Value.str x t
 | .byt b,u=>∃ t,u=Value.bytes b t
 | .flt b,u=>∃ t,u=Value.float b t
 | .ref a,u=>u=Value.ref a
 | .ty n,u=>u=Value.type n
noncomputable abbrev Vals:List V->List Value->Prop:=Paired RelV
theorem Vals.length{xs:List V}{us:List Value}(r:Vals xs us):xs.length=us.length:=Paired.length r
theorem Vals.get:∀ {xs:List V} {us:List Value} {i:Nat} {x:V},Vals xs us->xs[i]?=some x->∃ u,us[i]?=some u/\RelV x u
 | _,_,_,_,.nil,e=>by simp at e
 | _,_,0,_,.cons r _,e=>by simp at e;subst e;exact ⟨_,rfl,r⟩
 | _,_,i+1,x,.cons _ t,e=>by
  obtain ⟨u,h1,h2⟩:=Vals.get (i:=i) (x:=x) t [151]
  exact ⟨u,by simpa using h1,h2⟩
theorem Vals.set{x:V}{u:Value}(r:RelV x u):∀ {xs:List V} {us:List Value} (i:Nat),Vals xs us->Vals (xs.set i x) (us.set i u)
 | _,_,_,.nil=>.nil
 | _,_,0,.cons _ t=>.cons r t
 | _,_,i+1,.cons q t=>.cons q (Vals.set r i t)
theorem Vals.append:∀ {xs ys:List V} {us ws:List Value},Vals xs us->Vals ys ws->Vals (xs++ys) (us++ws)
 | _,_,_,_,.nil,s=>s
 | _,_,_,_,.cons r t,s=>.cons r (Vals.append t s)
theorem Vals.take:∀ {xs:List V} {us:List Value} (n:Nat),Vals xs us->Vals (xs.take n) (us.take n)
 | _,_,0,_=>.nil
 | _,_,_+1,.nil=>.nil
 | _,_,n+1,.cons r t=>.cons r (Vals.take n t)
theorem Vals.drop:∀ {xs:List V} {us:List Value} (n:Nat),Vals xs us->Vals (xs.drop n) (us.drop n)
 | _,_,0,r=>r
 | _,_,_+1,.nil=>.nil
 | _,_,n+1,.cons _ t=>Vals.drop n t
noncomputable def RelO:Option V->Option Value->Prop
 | some v,some u=>RelV v u
 | none,none=>True
 | _,_=>False
noncomputable def KV{κ:Type}:List (κ × V)->List (κ × Value)->Prop:=Paired fun (p:κ × V) (q:κ × Value)=>p.1=q.1/\RelV p.2 q.2
noncomputable def kV:Key->V
 | .inl i=>.int i
 | .inr x=>.str x
inductive HO where
 | lst (xs : List V)
 | tup (xs : List V)
 | dK (kvs : List [149]) | dT (kvs : List [211])
 | set (S : Int → Bool) (n : Nat)
 | ins (C dx : Addr) (fs : List (Str × V))
 | own (x : Addr)
 | xd (fs : List (Str × V))
 | met (f x : Addr)
 | rng (lo hi : Int)
 | frz (o : Obj) (u : HO)
 | tbl (ps : Array Value)
 | ext (φ : Heap → Prop)
noncomputable abbrev Hp:=Addr->Option HO
noncomputable def upd(H:Hp)(a:Addr)(o:HO):Hp:=fun b=>if b=a then some o else H b
theorem zZ{H:Hp}{a:Addr}{o:HO}:upd H a o a=some o:=by unfold upd;rw [if_pos rfl]
theorem zm{H:Hp}{a b:Addr}{o:HO}(h:b≠a):upd H a o b=H b:=by unfold upd;rw [if_neg h]
theorem zoS{H:Hp}{a b:Addr}{o u:HO}(h:H a=some o)(h':H b=some u)(d:o≠u):a≠b:=by
 intro e;subst e;rw [h] at h';exact d (Jq h')
theorem yi{H:Hp}{a b:Addr}{o:HO}(h:H a=some o)(h':H b=none):a≠b:=by
 intro e;subst e;rw [h] at h';cases h'
section
variable (P:Program) (w:World)
noncomputable def ObjOk(H:Hp)(h:Heap)(a:Addr):HO->Prop
 | .lst xs=>xs.length≤sizeLine/\∃ (its:List Value) (n:Nat),Vals xs its/\h.get? a=some { cls:=.type "list",data:=.seq its.toArray n }
 | .tup xs=>xs.length≤sizeLine/\∃ its:List Value,Vals xs its/\IsTup h a its.toArray
 | .dK kvs=>kvs.length≤sizeLine/\[198]=false/\∃ vs,KV kvs vs/\h.DictOf (zl P w) a vs
 | .dT kvs=>kvs.length≤sizeLine/\[198]=false/\∃ xs:List [143],
   Paired (fun (p:List Key × V) (q:List Key × Addr × Value)=>p.1=q.1/\H q.2.1=some (.tup (p.1.map kV))/\RelV p.2 q.2.2) kvs xs/\
   ∃ o es ep,h.get? a=some o/\o.ExactDict/\o.data=.dict es ep/\es.toList=xs.map (entryOfKey [274])/\(xs.map (·.1)).Nodup
 | .set S n=>h.SetOf (intKind P w) a S n
 | .ins C dx fs=>H dx=some (.own a)/\fs.length≤1000/\dx≠a/\h.get? a=some (PySem.W.instObj C dx)/\
   ∃ mA,h.Ns1 dx mA/\(∀ f,RelO (fs.lookup f) (mA f))/\PySem.Within mA (fs.map (·.1))
 | .own _=>∃ o,h.get? a=some o
 | .xd fs=>∃ mA,h.Ns1 a mA/\∀ f,RelO (fs.lookup f) (mA f)
 | .rng lo hi=>∃ t u v,h.get? a=some { cls:=.type "range",data:=.fields #[.int lo t,.int hi u,.int 1 v] }
 | .frz o u=>h.get? a=some o/\ObjOk H h a u
 | .tbl ps=>h.get? a=some { cls:=.none,data:=.fields ps }
 | .met f x=>h.get? a=some (PySem.W.methodObj [318] (.ref x))
 | .ext φ=>φ h/\(∃ o,h.get? a=some o)/\∀ h1 h2:Heap,φ h1->(∀ o,h1.get? a=some o->h2.get? a=some o)->φ h2
noncomputable def HOk(H:Hp)(h:Heap):Prop:=∀ a o,H a=some o->ObjOk P w H h a o
end
section
variable {P:Program} {w:World} {H H':Hp} {h h':Heap} {a:Addr} {o:HO}
theorem ObjOk.lt(x:ObjOk P w H h a o):a<h.objs.size:=by
 cases o with
 | lst xs=>obtain ⟨_,_,_,_,e⟩:=x;exact Jn e
 | tup xs=>obtain ⟨_,_,_,p⟩:=x;exact p.lt
 | dK kvs=>obtain ⟨_,_,_,_,o,_,_,e,_⟩:=x;exact Jn e
 | dT kvs=>obtain ⟨_,_,_,_,o,_,_,e,_⟩:=x;exact Jn e
 | set S n=>obtain ⟨o,_,_,_,e,_⟩:=x;exact Jn e
 | ins C dx fs=>obtain ⟨_,_,_,e,_⟩:=x;exact Jn e
 | own y=>obtain ⟨_,e⟩:=x;exact Jn e
 | xd fs=>obtain ⟨_,⟨_,_,_,e,_⟩,_⟩:=x;exact Jn e
 | rng lo hi=>obtain ⟨_,_,_,e⟩:=x;exact Jn e
 | frz ob u=>obtain ⟨e,_⟩:=x;exact Jn e
 | tbl ps=>exact Jn (show h.get? a=some _ from x)
 | met f y=>exact Jn (show h.get? a=some _ from x)
 | ext φ=>obtain ⟨_,⟨_,e⟩,_⟩:=x;exact Jn e
theorem Paired.mapP{α β:Type}{F G:α->β->Prop}:∀ {l₁:List α} {l₂:List β},Paired F l₁ l₂->(∀ a b,F a b->G a b)->Paired G l₁ l₂
 | _,_,.nil,_=>.nil
 | _,_,.cons r t,f=>.cons (f _ _ r) (Paired.mapP t f)
theorem ObjOk.stay(x:ObjOk P w H h a o)(k:∀ b u,(b=a∨H b=some (.own a))->h.get? b=some u->h'.get? b=some u)
  (ho:∀ b,H b=some (.own a)->H' b=some (.own a))(ht:∀ b xs,H b=some (.tup xs)->H' b=some (.tup xs)):ObjOk P w H' h' a o:=by
 induction o with
 | lst xs=>obtain ⟨z,its,n,r,e⟩:=x;exact ⟨z,its,n,r,k _ _ [76] e⟩
 | tup xs=>obtain ⟨z,its,r,ob,e,c⟩:=x;exact ⟨z,its,r,ob,k _ _ [76] e,c⟩
 | dK kvs=>obtain ⟨z,y,vs,r,ob,es,ep,e,c⟩:=x;exact ⟨z,y,vs,r,ob,es,ep,k _ _ [76] e,c⟩
 | dT kvs=>
  obtain ⟨z,y,xs,r,ob,es,ep,e,c⟩:=x
  exact ⟨z,y,xs,Paired.mapP r fun p q z=>⟨z.1,ht _ _ z.2.1,z.2.2⟩,ob,es,ep,k _ _ [76] e,c⟩
 | set S n=>obtain ⟨ob,es,ep,t,e,c⟩:=x;exact ⟨ob,es,ep,t,k _ _ [76] e,c⟩
 | ins C dx fs=>
  obtain ⟨d,z,ne,e,mA,⟨od,es,ep,e2,c⟩,r⟩:=x
  exact ⟨ho _ d,z,ne,k _ _ [76] e,mA,⟨od,es,ep,k _ _ (.inr d) e2,c⟩,r⟩
 | own y=>obtain ⟨ob,e⟩:=x;exact ⟨ob,k _ _ [76] e⟩
 | xd fs=>obtain ⟨mA,⟨od,es,ep,e,c⟩,r⟩:=x;exact ⟨mA,⟨od,es,ep,k _ _ [76] e,c⟩,r⟩
 | rng lo hi=>obtain ⟨t,u,v,e⟩:=x;exact ⟨t,u,v,k _ _ [76] e⟩
 | frz ob u ih=>obtain ⟨e,q⟩:=x;exact ⟨k _ _ [76] e,ih q⟩
 | tbl ps=>
  have e:h.get? a=some { cls:=.none,data:=.fields ps }:=x
  show h'.get? a=some { cls:=.none,data:=.fields ps }
  exact k a _ [76] e
 | met f y=>
  have e:h.get? a=some (PySem.W.methodObj [318] (.ref y)):=x
  show h'.get? a=some (PySem.W.methodObj [318] (.ref y))
  exact k a _ [76] e
 | ext φ=>obtain ⟨p,⟨o,e⟩,st⟩:=x;exact ⟨st _ _ p fun o q=>k _ _ [76] q,⟨o,k _ _ [76] e⟩,st⟩
theorem HOk.lt(x:HOk P w H h)(e:H a=some o):a<h.objs.size:=(x a o e).lt
theorem HOk.fresh(x:HOk P w H h)(e:h.objs.size≤a):H a=none:=by
 cases q:H a with
 | none=>rfl
 | some u=>exact absurd (JD (x.lt q) e) (Kx _)
theorem HOk.kept(x:HOk P w H h)(k:∀ b u,h.get? b=some u->h'.get? b=some u):HOk P w H h':=fun a o e=>
 (x a o e).stay (fun b u _ q=>k b u q) (fun _ q=>q) fun _ _ q=>q
theorem HOk.laid(x:HOk P w H h)(k:∀ b u,h.get? b=some u->h'.get? b=some u)(hp:h.objs.size≤a)(new:ObjOk P w (upd H a o) h' a o):HOk P w (upd H a o) h':=fun b u e=>by
 have hn:=x.fresh hp
 by_cases hb:b=a
 ·subst hb;rw [zZ] at e;cases e;exact new
 ·rw [zm hb] at e
  exact (x b u e).stay (fun c v _ q=>k c v q) (fun c q=>by rw [zm (yi q hn)];exact q) fun c xs q=>by rw [zm (yi q hn)];exact q
end
noncomputable def Rd(H:Hp)(a:Addr)(u:HO):Prop:=H a=some u∨∃ o,H a=some (.frz o u)
theorem Rd.ok{P:Program}{w:World}{H:Hp}{h:Heap}{a:Addr}{u:HO}(r:Rd H a u)(x:HOk P w H h):ObjOk P w H h a u:=by
 rcases r with r | ⟨o,r⟩
 ·exact x a u r
 ·obtain ⟨_,q⟩:=x a _ r
  exact q
noncomputable def Mut:Option HO->Prop
 | some (.lst _)=>True
 | some (.dK _)=>True
 | some (.dT _)=>True
 | some (.set _ _)=>True
 | some (.ins _ _ _)=>True
 | some (.ext _)=>True
 | _=>False
section
variable {P:Program} {w:World} {H:Hp} {h h':Heap} {x e:Addr} {o':HO}
theorem HOk.write(ok:HOk P w H h)(mu:Mut (H x))(he:e=x∨H e=some (.own x))(k:∀ b u,b≠e->h.get? b=some u->h'.get? b=some u)(heo:∃ u,h'.get? e=some u)
  (new:ObjOk P w (upd H x o') h' x o'):HOk P w (upd H x o') h':=fun b u q=>by
 have nown:∀ c y,H c=some (.own y)->c≠x:=fun c y r z=>by subst z;rw [r] at mu;exact mu
 have ntup:∀ c xs,H c=some (.tup xs)->c≠x:=fun c xs r z=>by subst z;rw [r] at mu;exact mu
 by_cases hb:b=x
 ·subst hb;rw [zZ] at q;cases q;exact new
 ·rw [zm hb] at q
  by_cases hbe:b=e
  ·have q':H b=some (.own x):=by
    rcases he with z | z
    ·exact absurd (hbe.trans z) hb
    ·rw [hbe];exact z
   rw [q] at q';cases q'
   obtain ⟨v,hv⟩:=heo
   exact ⟨v,by rw [hbe];exact hv⟩
  ·refine (ok b u q).stay (fun c v hc r=>k c v ?_ r) (fun c r=>by rw [zm (nown c b r)];exact r) fun c xs r=>by rw [zm (ntup c xs r)];exact r
   rcases hc with rfl | hc
   ·exact hbe
   ·rintro rfl
    rcases he with z | z
    ·exact nown c b hc z
    ·rw [hc] at z;cases z;exact hb rfl
end
structure Un (fs ex:List Addr) (H H':Hp) (h h':Heap):Prop where
 keep:∀ b o,h.get? b=some o->H b=none->b ∉ fs->b ∉ ex->h'.get? b=some o
 slot:∀ b o,h.get? b=some o->H b=none->b ∈ fs->b ∉ ex->∃ sl,h'.get? b=some { o with slots:=sl }
 free:∀ b o,h.get? b=some o->H b=none->b ∉ ex->H' b=none
 there:∀ b o,h.get? b=some o->b ∉ ex->∃ o',h'.get? b=some o'
 tups:∀ b xs,H b=some (.tup xs)->H' b=some (.tup xs)
 frzs:∀ b o u,H b=some (.frz o u)->H' b=some (.frz o u)
 tbls:∀ b ps,H b=some (.tbl ps)->∃ more,H' b=some (.tbl (ps++more))
section
variable {fs fs' ex ex':List Addr} {H H1 H2:Hp} {h h1 h2 h':Heap} {a x e:Addr} {o:HO}
theorem Un.any(u:Un fs ex H H1 h h1){b:Addr}{ob:Obj}(q:h.get? b=some ob)(n:H b=none)(hx:b ∉ ex):∃ sl,h1.get? b=some { ob with slots:=sl }:=by
 by_cases hb:b ∈ fs
 ·exact u.slot b ob q n hb hx
 ·exact ⟨ob.slots,u.keep b ob q n hb hx⟩
theorem Un.kept(k:∀ b u,h.get? b=some u->h'.get? b=some u):Un fs ex H H h h':=
 ⟨fun b ob q _ _ _=>k b ob q,fun b ob q _ _ _=>⟨ob.slots,k b ob q⟩,fun _ _ _ n _=>n,fun b ob q _=>⟨ob,k b ob q⟩,fun _ _ q=>q,fun _ _ _ q=>q,fun _ ps q=>⟨#[],by rw [q];simp⟩⟩
theorem Un.refl:Un fs ex H H h h:=Un.kept fun _ _ q=>q
theorem Un.laid(k:∀ b u,h.get? b=some u->h'.get? b=some u)(hp:h.objs.size≤a)(hn:H a=none):Un fs ex H (upd H a o) h h' where
 keep:=fun b u q _ _ _=>k b u q
 slot:=fun b u q _ _ _=>⟨u.slots,k b u q⟩
 free:=fun b u q n _=>by rw [zm (JE (JD (Jn q) hp))];exact n
 there:=fun b u q _=>⟨u,k b u q⟩
 tups:=fun b xs q=>by rw [zm (yi q hn)];exact q
 frzs:=fun b u xs q=>by rw [zm (yi q hn)];exact q
 tbls:=fun b ps q=>⟨#[],by rw [zm (yi q hn),q];simp⟩
theorem Un.write(mu:Mut (H x))(he:e=x∨H e=some (.own x))(k:∀ b u,b≠e->h.get? b=some u->h'.get? b=some u)(heo:∃ u,h'.get? e=some u):Un fs ex H (upd H x o) h h':=by
 have hx:∀ b,H b=none->b≠x:=fun b n z=>by subst z;rw [n] at mu;exact mu
 have hb:∀ b,H b=none->b≠e:=fun b n z=>by
  subst z
  rcases he with r | r
  ·exact hx b n r
  ·rw [n] at r;cases r
 have hm:∀ b u,H b=some u->¬ Mut (some u)->b≠x:=fun b u q nm z=>by subst z;rw [q] at mu;exact nm mu
 refine ⟨fun b u q n _ _=>k b u (hb b n) q,fun b u q n _ _=>⟨u.slots,k b u (hb b n) q⟩,fun b u q n _=>by rw [zm (hx b n)];exact n,fun b u q _=>?_,
  fun b xs q=>by rw [zm (hm b _ q fun z=>z)];exact q,fun b u xs q=>by rw [zm (hm b _ q fun z=>z)];exact q,fun b ps q=>⟨#[],by rw [zm (hm b _ q fun z=>z),q];simp⟩⟩
 by_cases hbe:b=e
 ·subst hbe;exact heo
 ·exact ⟨u,k b u hbe q⟩
end
noncomputable def trk(h:Heap)(H:Hp):List Addr:=(List.range h.objs.size).filter fun a=>(H a).isSome
noncomputable def zdu(h:Heap)(H:Hp):Heap:=PySem.W.hideAll h (trk h H)
theorem zic(h:Heap)(H:Hp):(zdu h H).objs.size=h.objs.size:=PySem.W.hideAll_size _ _
theorem zkt{h:Heap}{H:Hp}{b:Addr}{o:Obj}(e:h.get? b=some o)(n:H b=none):(zdu h H).get? b=some o:=
 PySem.W.hideAll_get _ e fun hm=>by
  have q:(H b).isSome=true:=(Ke.mp hm).2
  rw [n] at q;simp at q
theorem zlW{h:Heap}{H:Hp}{b:Addr}{o:Obj}(e:(zdu h H).get? b=some o):h.get? b=some o/\H b=none:=by
 have e':h.get? b=some o:=PySem.W.of_hideAll (trk h H) e
 refine ⟨e',?_⟩
 cases q:H b with
 | none=>rfl
 | some x=>
  have hm:b ∈ trk h H:=List.mem_filter.mpr ⟨List.mem_range.mpr (Heap.lt_size e'),by simp [q]⟩
  have z:(zdu h H).get? b=none:=PySem.W.hideAll_none (trk h H) hm
  rw [z] at e;cases e
noncomputable def zmu(g h:Heap)(L:Addr):List [24]:=(List.range h.objs.size).filterMap fun a=>if a=L∨(g.get? a).isSome=true then none else (h.get? a).map fun o=>(a,o)
noncomputable def wW(g h:Heap)(L d:Addr):List [24]:=(zmu g h L).filter fun p=>decide (p.1≠d)
structure Mod (K:PySem.W.Frag) (mg:Str->Option Value) (base:Heap):Prop where
 kin:K.In base
 glob:base.Ns mainGlobals mg
 blt:∃ mb,base.Ns builtinsNs mb/\∀ x:Str,x≠"__name__"->mb x=bootBuiltins x
 nolimit:base.NoLimit
structure Cx where
 prog:Program
 w:World
 K:PySem.W.Frag
 mg:Str->Option Value
 base:Heap
 A:Around
 N:List Str
 s₀:Shared
 H₀:Hp
 env:Env
 outer:List Env
 stack:List Env
 ex:List Addr
 fn:Str->Bool
 calm:Bool
 pn:List [24]
 xe:Value->Shared->Prop
noncomputable def frs(l:List Env):List Addr:=l.filterMap (·.frame)
noncomputable abbrev Cx.fs(X:Cx):List Addr:=frs X.outer
noncomputable def Vis(sc:Scope)(x:Str):Prop:=sc.names.lookup x=some .local∨sc.names.lookup x=some .cell∨sc.names.lookup x=some .free
noncomputable def Loc(sc:Scope)(x:Str):Prop:=sc.names.lookup x=some .local∨sc.names.lookup x=some .cell
noncomputable def zqu(env:Env)(h:Heap)(m:Str->Option Value)(x:Str)(u:Value):Prop:=
 (env.kindOf x=some .local/\m x=some u)∨((env.kindOf x=some .cell∨env.kindOf x=some .free)/\∃ c,env.cells.lookup x=some c/\h.IsCell c (some u))
structure Cx.Ok (X:Cx):Prop where
 mod:Mod X.K X.mg X.base
 kind:X.env.scope.kind=.function
 glob:X.env.globals=mainGlobals
 blt:X.env.builtins=builtinsNs
 above:X.s₀.heap.objs.size≤X.env.locals
 inj:∀ x y c,X.env.cells.lookup x=some c->X.env.cells.lookup y=some c->x=y
 has:∀ x,(X.env.kindOf x=some .cell∨X.env.kindOf x=some .free)->∃ c,X.env.cells.lookup x=some c
 cab:∀ x c,X.fn x=true->X.env.cells.lookup x=some c->X.s₀.heap.objs.size≤c
 hd:X.calm=true->X.A.handled=none
 frames:X.A.frames=some X.stack
 stk:X.stack=X.outer∨(X.stack=X.env::X.outer/\X.env.frame=some X.env.locals)
 exf:∀ b ∈ X.ex,b≠X.env.locals/\∀ x c,X.env.cells.lookup x=some c->c≠b
 bs:∀ b o,X.base.get? b=some o->X.s₀.heap.get? b=some o/\X.H₀ b=none
 bsz:X.base.objs.size≤X.s₀.heap.objs.size
 noex:∀ b o,X.base.get? b=some o->b ∉ X.ex
 exfs:∀ b ∈ X.ex,b ∉ X.fs
 funs:X.s₀.heap.FunFrames X.base X.outer
 frf:∀ b ∈ X.fs,X.H₀ b=none
structure Inv (X:Cx) (pins:List [24]) (σ:List (Option V)) (H:Hp) (s:Shared):Prop where
 ok:X.Ok
 os:s.os=X.s₀.os
 bare:AllBare s.gens
 base:Un X.fs X.ex X.H₀ H X.s₀.heap s.heap
 loc:∃ m,s.heap.Ns X.env.locals m/\∀ (i:Nat) (x:Str) (v:V),X.N[i]?=some x->σ[i]?=some (some v)->Vis X.env.scope x->∃ u,RelV v u/\zqu X.env s.heap m x u
 cell:∀ x c,X.env.cells.lookup x=some c->∃ v,s.heap.IsCell c v
 free:H X.env.locals=none
 freeC:∀ x c,X.env.cells.lookup x=some c->H c=none
 pin:∀ p ∈ X.pn++pins,s.heap.get? p.1=some p.2/\H p.1=none/\p.1≠X.env.locals/\p.1 ∉ X.fs/\∀ v,p.2.data≠.cell v
 hok:HOk X.prog X.w H s.heap
 len:σ.length=X.N.length
section
variable {X:Cx} {pins:List [24]} {σ:List (Option V)} {H H':Hp} {s:Shared} {h':Heap}
theorem Cx.Ok.nofr(ok:X.Ok){b:Addr}{o:Obj}(e:X.base.get? b=some o):b ∉ X.fs:=fun hb=>by
 have:=(ok.funs.mem hb).1
 rw [e] at this;cases this
theorem Inv.bs(I:Inv X pins σ H s):∀ b o,X.base.get? b=some o->s.heap.get? b=some o/\H b=none:=fun b o e=>
 ⟨I.base.keep b o (I.ok.bs b o e).1 (I.ok.bs b o e).2 (I.ok.nofr e) (I.ok.noex b o e),I.base.free b o (I.ok.bs b o e).1 (I.ok.bs b o e).2 (I.ok.noex b o e)⟩
theorem Inv.bk(I:Inv X pins σ H s):∀ b o,X.base.get? b=some o->s.heap.get? b=some o:=fun b o e=>(I.bs b o e).1
theorem Inv.mod(I:Inv X pins σ H s):Mod X.K X.mg X.base:=I.ok.mod
theorem Inv.kIn(I:Inv X pins σ H s):X.K.In s.heap:=I.ok.mod.kin.keeps I.bk
theorem Inv.lt(I:Inv X pins σ H s):X.env.locals<s.heap.objs.size:=let ⟨_,hn,_⟩:=I.loc;hn.lt
theorem Inv.sz(I:Inv X pins σ H s):X.s₀.heap.objs.size≤s.heap.objs.size:=JN I.ok.above (Nat.le_of_lt I.lt)
theorem Inv.nofs(I:Inv X pins σ H s){a:Addr}(h:s.heap.objs.size≤a):a ∉ X.fs:=fun hb=>by
 obtain ⟨_,o,ho,_⟩:=I.ok.funs.mem hb
 exact absurd (JD (Jn ho) (JN I.sz h)) (Kx _)
theorem Inv.cne(I:Inv X pins σ H s):∀ x c,X.env.cells.lookup x=some c->c≠X.env.locals:=fun x c e z=>by
 obtain ⟨v,o,ho,hd⟩:=I.cell x c e
 obtain ⟨m,⟨o',es,ep,ho',hd',_⟩,_⟩:=I.loc
 rw [z,ho'] at ho;cases ho;rw [hd'] at hd;cases hd
theorem Inv.funs(I:Inv X pins σ H s):s.heap.FunFrames X.base X.outer:=by
 have all:∀ (l:List Env),(∀ b ∈ frs l,b ∈ X.fs)->X.s₀.heap.FunFrames X.base l->s.heap.FunFrames X.base l:=by
  intro l
  induction l with
  | nil=>intro _ _;trivial
  | cons env r ih=>
   intro hs hl
   obtain ⟨hk,⟨L,o,hf,hn,ho,hd⟩,hr⟩:=hl
   have hL:L ∈ X.fs:=hs L (by unfold frs;rw [List.filterMap_cons,hf];exact List.mem_cons_self)
   obtain ⟨sl,e⟩:=I.base.slot L o ho (I.ok.frf L hL) hL fun z=>I.ok.exfs L z hL
   exact ⟨hk,⟨L,_,hf,hn,e,hd⟩,ih (fun b hb=>hs b (by unfold frs;rw [List.filterMap_cons,hf];exact List.mem_cons_of_mem _ hb)) hr⟩
 exact all X.outer (fun _ hb=>hb) I.ok.funs
theorem Inv.stack(I:Inv X pins σ H s):s.heap.FunFrames X.base X.stack:=by
 rcases I.ok.stk with e | ⟨e,hf⟩
 ·rw [e];exact I.funs
 ·rw [e]
  obtain ⟨m,hn,_⟩:=I.loc
  refine .cons (by rw [I.ok.kind];decide) hf hn ?_ I.funs
  exact Heap.get?_none_of_le (JN I.ok.bsz I.ok.above)
theorem Inv.stkSub(I:Inv X pins σ H s):∀ b ∈ frs X.stack,b ∈ X.env.locals::X.fs:=fun b hb=>by
 rcases I.ok.stk with e | ⟨e,hf⟩
 ·rw [e] at hb;exact Jg _ hb
 ·rw [e] at hb
  unfold frs at hb
  rw [List.filterMap_cons,hf] at hb
  exact hb
theorem Inv.stkFree(I:Inv X pins σ H s):∀ b ∈ frs X.stack,H b=none:=fun b hb=>by
 rcases List.mem_cons.mp (I.stkSub b hb) with e | hb
 ·rw [e];exact I.free
 ·obtain ⟨_,o,ho,_⟩:=I.ok.funs.mem hb
  exact I.base.free b o ho (I.ok.frf b hb) fun z=>I.ok.exfs b z hb
theorem Inv.step{g':Array GenState}{t':Nat}{d':Drawn}{ch:List Addr}(I:Inv X pins σ H s)
  (hch:∀ b ∈ ch,[150]/\b≠X.env.locals/\[132]/\∀ p ∈ X.pn++pins,p.1≠b)
  (keep:∀ b o,b≠X.env.locals->b ∉ X.fs->b ∉ ch->s.heap.get? b=some o->H b=none->h'.get? b=some o)
  (slot:∀ b o,b≠X.env.locals->b ∈ X.fs->b ∉ ch->s.heap.get? b=some o->H b=none->∃ sl,h'.get? b=some { o with slots:=sl })(free:∀ b o,b ∉ ch->s.heap.get? b=some o->H b=none->H' b=none)
  (there:∀ b o,b ∉ ch->s.heap.get? b=some o->∃ o',h'.get? b=some o')
  (tups:∀ b xs,H b=some (.tup xs)->H' b=some (.tup xs))(frzs:∀ b o u,H b=some (.frz o u)->H' b=some (.frz o u))(tbls:∀ b ps,H b=some (.tbl ps)->∃ more,H' b=some (.tbl (ps++more)))
  (ns:∀ m,s.heap.Ns X.env.locals m->h'.Ns X.env.locals m)(hok:HOk X.prog X.w H' h')(hg:AllBare g'):
  Inv X pins σ H' { s with heap:=h',gens:=g',drawn:=d',toks:=t' }:=by
 have neL:∀ b o,X.s₀.heap.get? b=some o->b≠X.env.locals:=fun b o e=>JE [319]
 have neC:∀ b o,X.s₀.heap.get? b=some o->b ∉ X.ex->b ∉ ch:=fun b o e hx hb=>by
  rcases (hch b hb).1 with z | z
  ·exact hx z
  ·exact absurd (JD (Jn e) z) (Kx _)
 have cellK:∀ x c,X.env.cells.lookup x=some c->∀ v,s.heap.IsCell c v->h'.IsCell c v:=fun x c e v ⟨o,ho,hd⟩=>by
  have nch:c ∉ ch:=fun z=>(hch c z).2.2.1 x c e rfl
  by_cases hc:c ∈ X.fs
  ·obtain ⟨sl,q⟩:=slot c o (I.cne x c e) hc nch ho (I.freeC x c e)
   exact ⟨_,q,hd⟩
  ·exact ⟨o,keep c o (I.cne x c e) hc nch ho (I.freeC x c e),hd⟩
 refine ⟨I.ok,I.os,hg,⟨fun b o e n hb hx=>?_,fun b o e n hb hx=>?_,fun b o e n hx=>?_,fun b o e hx=>?_,fun b xs e=>tups b xs (I.base.tups b xs e),fun b o xs e=>frzs b o xs (I.base.frzs b o xs e),fun b ps e=>?_⟩,?_,fun x c e=>?_,?_,fun x c e=>?_,fun p hp=>?_,hok,I.len⟩
 ·exact keep b o (neL b o e) hb (neC b o e hx) (I.base.keep b o e n hb hx) (I.base.free b o e n hx)
 ·obtain ⟨sl,e1⟩:=I.base.slot b o e n hb hx
  obtain ⟨sl',e2⟩:=slot b _ (neL b o e) hb (neC b o e hx) e1 (I.base.free b o e n hx)
  exact ⟨sl',e2⟩
 ·obtain ⟨o',e1⟩:=I.base.there b o e hx
  exact free b o' (neC b o e hx) e1 (I.base.free b o e n hx)
 ·obtain ⟨o',e1⟩:=I.base.there b o e hx
  exact there b o' (neC b o e hx) e1
 ·obtain ⟨m1,e1⟩:=I.base.tbls b ps e
  obtain ⟨m2,e2⟩:=tbls b _ e1
  exact ⟨m1++m2,by rw [e2,Array.append_assoc]⟩
 ·obtain ⟨m,hn,hl⟩:=I.loc
  refine ⟨m,ns m hn,fun i x v e1 e2 e3=>?_⟩
  obtain ⟨u,r,l⟩:=hl i x v e1 e2 e3
  refine ⟨u,r,?_⟩
  rcases l with l | ⟨k,c,e,z⟩
  ·exact .inl l
  ·exact .inr ⟨k,c,e,cellK x c e _ z⟩
 ·obtain ⟨v,z⟩:=I.cell x c e
  exact ⟨v,cellK x c e v z⟩
 ·obtain ⟨m,⟨o,_,_,ho,_⟩,_⟩:=I.loc
  exact free _ o (fun z=>(hch _ z).2.1 rfl) ho I.free
 ·obtain ⟨v,o,ho,hd⟩:=I.cell x c e
  exact free c o (fun z=>(hch c z).2.2.1 x c e rfl) ho (I.freeC x c e)
 ·obtain ⟨e,n,ne,nf,d⟩:=I.pin p hp
  have nch:p.1 ∉ ch:=fun z=>(hch p.1 z).2.2.2 p hp rfl
  exact ⟨keep p.1 p.2 ne nf nch e n,free p.1 p.2 nch e n,ne,nf,d⟩
theorem Inv.un{t':Nat}(I:Inv X pins σ H s)(u:Un X.fs [] H H' s.heap h')(hok:HOk X.prog X.w H' h'):Inv X pins σ H' { s with heap:=h',toks:=t' }:=by
 obtain ⟨m,⟨o,es,ep,ho,r⟩,_⟩:=id I.loc
 obtain ⟨sl,hL⟩:=u.any ho I.free [19]
 exact I.step (g':=s.gens) (d':=s.drawn) (ch:=[]) [231] (fun b o _ hb _ e n=>u.keep b o e n hb [19]) (fun b o _ hb _ e n=>u.slot b o e n hb [19]) (fun b o _ e n=>u.free b o e n [19]) (fun b o _ e=>u.there b o e [19]) u.tups u.frzs u.tbls (fun m' hm=>by
  obtain ⟨o',es',ep',ho',r'⟩:=hm
  rw [ho] at ho';cases ho'
  exact ⟨_,es',ep',hL,r'⟩) hok I.bare
theorem Inv.call{g':Array GenState}{t':Nat}{d':Drawn}{ch:List Addr}(I:Inv X pins σ H s)(u:Un (frs X.stack) ch H H' s.heap h')(hok:HOk X.prog X.w H' h')(hg:AllBare g')
  (hch:∀ b ∈ ch,[150]/\b≠X.env.locals/\[132]/\∀ p ∈ X.pn++pins,p.1≠b):
  Inv X pins σ H' { s with heap:=h',gens:=g',drawn:=d',toks:=t' }:=by
 obtain ⟨m,⟨o,es,ep,ho,r⟩,_⟩:=id I.loc
 obtain ⟨sl,hL⟩:=u.any ho I.free fun z=>(hch _ z).2.1 rfl
 exact I.step (ch:=ch) hch (fun b o hL hb hc e n=>u.keep b o e n (fun z=>(Kl.mp (I.stkSub b z)).elim hL hb) hc) (fun b o _ _ hc e n=>u.any e n hc) (fun b o hc e n=>u.free b o e n hc) (fun b o hc e=>u.there b o e hc) u.tups u.frzs u.tbls (fun m' hm=>by
  obtain ⟨o',es',ep',ho',r'⟩:=hm
  rw [ho] at ho';cases ho'
  exact ⟨_,es',ep',hL,r'⟩) hok hg
theorem Inv.turned{t':Nat}{it:Addr}(I:Inv X pins σ H s)(k:∀ b o,b≠it->s.heap.get? b=some o->h'.get? b=some o)(hn:H it=none)(hL:it≠X.env.locals)
  (h1:it ∈ X.ex∨X.s₀.heap.objs.size≤it)(h2:∀ x c,X.env.cells.lookup x=some c->c≠it)(h3:∀ p ∈ X.pn++pins,p.1≠it):Inv X pins σ H { s with heap:=h',toks:=t' }:=by
 have nit:∀ b u,H b=some u->b≠it:=fun b u e z=>by rw [z,hn] at e;cases e
 refine I.step (g':=s.gens) (d':=s.drawn) (ch:=[it]) (fun b hb=>?_) (fun b o _ _ hc e _=>k b o (fun z=>hc (by simp [z])) e) (fun b o _ _ hc e _=>⟨o.slots,k b o (fun z=>hc (by simp [z])) e⟩) (fun _ _ _ _ n=>n)
  (fun b o hc e=>⟨o,k b o (fun z=>hc (by simp [z])) e⟩) (fun _ _ e=>e) (fun _ _ _ e=>e) (fun b ps e=>⟨#[],by rw [e];simp⟩) (fun m hm=>?_) (fun b u e=>?_) I.bare
 ·have e:b=it:=by simpa using hb
  subst e
  exact ⟨h1,hL,h2,h3⟩
 ·obtain ⟨o,es,ep,ho,r⟩:=hm
  exact ⟨o,es,ep,k _ o (Ne.symm hL) ho,r⟩
 ·refine (I.hok b u e).stay (fun c v hc q=>k c v ?_ q) (fun _ q=>q) fun _ _ q=>q
  rcases hc with z | z
  ·rw [z];exact nit b u e
  ·exact nit c _ z
theorem Inv.tok(I:Inv X pins σ H s)(t:Nat):Inv X pins σ H { s with toks:=t }:=I.un (h':=s.heap) (t':=t) Un.refl I.hok
theorem Inv.kept{t':Nat}(I:Inv X pins σ H s)(k:∀ b u,s.heap.get? b=some u->h'.get? b=some u):Inv X pins σ H { s with heap:=h',toks:=t' }:=I.un (Un.kept k) (I.hok.kept k)
theorem Inv.laid{a:Addr}{o:HO}{t':Nat}(I:Inv X pins σ H s)(k:∀ b u,s.heap.get? b=some u->h'.get? b=some u)(hp:s.heap.objs.size≤a)(new:ObjOk X.prog X.w (upd H a o) h' a o):
  Inv X pins σ (upd H a o) { s with heap:=h',toks:=t' }:=I.un (Un.laid k hp (I.hok.fresh hp)) (I.hok.laid k hp new)
theorem Inv.write{x e:Addr}{o:HO}{t':Nat}(I:Inv X pins σ H s)(mu:Mut (H x))(he:e=x∨H e=some (.own x))(k:∀ b u,b≠e->s.heap.get? b=some u->h'.get? b=some u)(heo:∃ u,h'.get? e=some u)
  (new:ObjOk X.prog X.w (upd H x o) h' x o):Inv X pins σ (upd H x o) { s with heap:=h',toks:=t' }:=I.un (Un.write mu he k heo) (I.hok.write mu he k heo new)
theorem Inv.pins_of{pins':List [24]}(I:Inv X pins σ H s)(h:∀ p ∈ pins',s.heap.get? p.1=some p.2/\H p.1=none/\p.1≠X.env.locals/\p.1 ∉ X.fs/\∀ v,p.2.data≠.cell v):Inv X pins' σ H s:=
 ⟨I.ok,I.os,I.bare,I.base,I.loc,I.cell,I.free,I.freeC,fun p hp=>(JB.mp hp).elim (fun z=>I.pin p (Jj _ z)) (h p),I.hok,I.len⟩
theorem zes{N:List Str}(hN:N.Nodup){i j:Nat}{x:Str}(a:N[i]?=some x)(b:N[j]?=some x):i=j:=by
 obtain ⟨h1,e1⟩:=Jv.mp a
 obtain ⟨h2,e2⟩:=Jv.mp b
 exact (List.getElem_inj hN).mp (e1.trans e2.symm)
theorem zhF{M:Model}{A:Around}{E:Value->Shared->Prop}{i:Nat}{x:Str}{v:V}{u:Value}{Q:Unit->Shared->Prop}(I:Inv X pins σ H s)(hN:X.N.Nodup)(hi:X.N[i]?=some x)(hx:Loc X.env.scope x)(r:RelV v u)
  (h:∀ s',Inv X pins [290] H s'->(∃ a,Heap.SameBut a s.heap s'.heap/\(a=X.env.locals∨X.env.cells.lookup x=some a))->Q () s')(hf:X.fn x=true∨X.env.scope.names.lookup x=some .local:=by first | exact .inl rfl | exact .inr rfl | assumption):wpAny M A (storeName X.env x u) Q E s:=by
 obtain ⟨m,hn,hl⟩:=id I.loc
 have hcls:(X.env.scope.kind == .class || (X.env.scope.kind == .module && X.env.locals != X.env.globals))=false:=by rw [I.ok.kind];rfl
 have hiσ:i<σ.length:=by rw [I.len];exact (Jv.mp hi).1
 have cne:=I.cne
 have tracked:∀ {a:Addr} {h':Heap},(∃ o,s.heap.get? a=some o/\H a=none)->Heap.SameBut a s.heap h'->HOk X.prog X.w H h':=fun {a h'} ha hs b ob e=>by
  obtain ⟨_,_,hfree⟩:=ha
  refine (I.hok b ob e).stay (fun c w' hc q=>(hs.2 c ?_).trans q) (fun _ q=>q) fun _ _ q=>q
  rintro rfl
  rcases hc with rfl | hc
  ·rw [hfree] at e;cases e
  ·rw [hfree] at hc;cases hc
 rcases hx with hk | hk
 ·refine wpAny_storeName_local hk hn (fun h' hn' hs=>?_) hcls
  obtain ⟨oL,_,_,hoL,_⟩:=id hn
  refine h _ ⟨I.ok,I.os,I.bare,⟨fun b o e n hb hx=>?_,fun b o e n hb hx=>?_,I.base.free,fun b o e hx=>?_,I.base.tups,I.base.frzs,I.base.tbls⟩,⟨_,hn',fun j y v' e1 e2 e3=>?_⟩,fun y c e=>?_,I.free,I.freeC,fun p hp=>?_,tracked ⟨oL,hoL,I.free⟩ hs,by simpa using I.len⟩ ⟨_,hs,.inl rfl⟩
  ·exact (hs.2 b (JE [319])).trans (I.base.keep b o e n hb hx)
  ·obtain ⟨sl,e1⟩:=I.base.slot b o e n hb hx
   exact ⟨sl,(hs.2 b (JE [319])).trans e1⟩
  ·obtain ⟨o',e1⟩:=I.base.there b o e hx
   exact ⟨o',(hs.2 b (JE [319])).trans e1⟩
  ·by_cases hj:j=i
   ·subst hj
    rw [hi] at e1;cases e1
    rw [List.getElem?_set_self hiσ] at e2
    cases e2
    exact ⟨u,r,.inl ⟨hk,by simp⟩⟩
   ·rw [List.getElem?_set_ne (Ne.symm hj)] at e2
    obtain ⟨u',r',q⟩:=hl j y v' e1 e2 e3
    refine ⟨u',r',?_⟩
    rcases q with ⟨k,e⟩ | ⟨k,c,e,z⟩
    ·refine .inl ⟨k,?_⟩
     have:y≠x:=fun e=>hj (zes hN e1 (e ▸ hi))
     simp [this,e]
    ·exact .inr ⟨k,c,e,z.sameBut hs (cne y c e)⟩
  ·obtain ⟨w',z⟩:=I.cell y c e
   exact ⟨w',z.sameBut hs (cne y c e)⟩
  ·obtain ⟨e,n,ne,nf,d⟩:=I.pin p hp
   exact ⟨(hs.2 p.1 ne).trans e,n,ne,nf,d⟩
 ·have hfn:X.fn x=true:=by
   rcases hf with z | z
   ·exact z
   ·rw [z] at hk;cases hk
  obtain ⟨c,hc⟩:=I.ok.has x (.inl hk)
  obtain ⟨w',z⟩:=I.cell x c hc
  refine wpAny_storeName_cell I.ok.kind hk hc z (fun h' hc' hs=>?_)
  obtain ⟨oc,hoc,hocd⟩:=id z
  refine h { s with heap:=h' } ⟨I.ok,I.os,I.bare,⟨fun b o e n hb hx=>?_,fun b o e n hb hx=>?_,I.base.free,fun b o e hx=>?_,I.base.tups,I.base.frzs,I.base.tbls⟩,⟨m,hn.sameBut hs (Ne.symm (cne x c hc)),fun j y v' e1 e2 e3=>?_⟩,fun y c' e=>?_,I.free,I.freeC,fun p hp=>?_,tracked ⟨oc,hoc,I.freeC x c hc⟩ hs,by simpa using I.len⟩ ⟨c,hs,.inr hc⟩
  ·exact [199].trans (I.base.keep b o e n hb hx)
  ·obtain ⟨sl,e1⟩:=I.base.slot b o e n hb hx
   exact ⟨sl,[199].trans e1⟩
  ·obtain ⟨o',e1⟩:=I.base.there b o e hx
   exact ⟨o',[199].trans e1⟩
  ·by_cases hj:j=i
   ·subst hj
    rw [hi] at e1;cases e1
    rw [List.getElem?_set_self hiσ] at e2
    cases e2
    exact ⟨u,r,.inr ⟨.inl hk,c,hc,hc'⟩⟩
   ·rw [List.getElem?_set_ne (Ne.symm hj)] at e2
    obtain ⟨u',r',q⟩:=hl j y v' e1 e2 e3
    refine ⟨u',r',?_⟩
    rcases q with q | ⟨k,c',e,z'⟩
    ·exact .inl q
    ·refine .inr ⟨k,c',e,z'.sameBut hs ?_⟩
     rintro rfl
     exact hj (zes hN e1 (I.ok.inj _ _ _ e hc ▸ hi))
  ·by_cases hcc:c'=c
   ·subst hcc;exact ⟨_,hc'⟩
   ·obtain ⟨w2,z2⟩:=I.cell y c' e
    exact ⟨w2,z2.sameBut hs hcc⟩
  ·obtain ⟨e,n,ne,nf,d⟩:=I.pin p hp
   refine ⟨(hs.2 p.1 ?_).trans e,n,ne,nf,d⟩
   intro q
   rw [q,hoc] at e
   have q':oc=p.2:=Jq e
   exact d w' (by rw [← q'];exact hocd)
theorem zdZ{M:Model}{A:Around}{E:Value->Shared->Prop}{i:Nat}{x:Str}{v:V}{u:Value}{Q:Unit->Shared->Prop}(I:Inv X pins σ H s)(hN:X.N.Nodup)(hi:X.N[i]?=some x)(hx:Loc X.env.scope x)(r:RelV v u)
  (h:∀ s',Inv X pins [290] H s'->Q () s')(hf:X.fn x=true∨X.env.scope.names.lookup x=some .local:=by first | exact .inl rfl | exact .inr rfl | assumption):wpAny M A (storeName X.env x u) Q E s:=
 zhF I hN hi hx r (fun s' I' _=>h s' I') hf
theorem Inv.call'{s':Shared}{ch:List Addr}(I:Inv X pins σ H s)(ho:s'.os=s.os)(u:Un (frs X.stack) ch H H' s.heap s'.heap)(hok:HOk X.prog X.w H' s'.heap)(hg:AllBare s'.gens)
  (hch:∀ b ∈ ch,[150]/\b≠X.env.locals/\[132]/\∀ p ∈ X.pn++pins,p.1≠b):Inv X pins σ H' s':=by
 obtain ⟨h',g',d',t',o'⟩:=s'
 have e:o'=s.os:=ho
 subst e
 exact I.call (g':=g') (t':=t') (d':=d') u hok hg hch
end
noncomputable abbrev XK:=Value->Option Addr->Hp->Prop
noncomputable abbrev St:=List (Option V)
noncomputable abbrev VK:=V->Hp->Prop
noncomputable abbrev TE:=St->Hp->VK->Prop
noncomputable abbrev TT:=St->Hp->(Bool->Hp->Prop)->Prop
noncomputable abbrev TA:=St->Hp->(List V->Hp->Prop)->Prop
structure Ends where
 nx:St->Hp->Prop
 rt:VK
 bk:St->Hp->Prop:=fun _ _=>False
 ct:St->Hp->Prop:=fun _ _=>False
noncomputable abbrev TS:=Ends->St->Hp->Prop
noncomputable def EP(X:Cx)(pins:List [24])(σ:St)(Q:VK)(u:Value)(s':Shared):Prop:=∃ v H',Inv X pins σ H' s'/\RelV v u/\Q v H'
noncomputable def TP(X:Cx)(pins:List [24])(σ:St)(Q:Bool->Hp->Prop)(b:Bool)(s':Shared):Prop:=∃ H',Inv X pins σ H' s'/\Q b H'
noncomputable def AP(X:Cx)(pins:List [24])(σ:St)(Q:List V->Hp->Prop)(us:List Value)(s':Shared):Prop:=∃ vs H',Inv X pins σ H' s'/\Vals vs us/\Q vs H'
noncomputable def SP(X:Cx)(pins:List [24])(D:Ends)(f:Flow)(s':Shared):Prop:=
 match f with
 | .next=>∃ σ' H',Inv X pins σ' H' s'/\D.nx σ' H'
 | .brk=>∃ σ' H',Inv X pins σ' H' s'/\D.bk σ' H'
 | .cont=>∃ σ' H',Inv X pins σ' H' s'/\D.ct σ' H'
 | .ret u=>∃ v σ' H',Inv X pins σ' H' s'/\RelV v u/\D.rt v H'
noncomputable def PE(X:Cx)(e:Expr)(t:TE):Prop:=
 ∀ (pins:List [24]) (s:Shared) (σ:St) (H:Hp) (Q:VK),Inv X pins σ H s->t σ H Q->wpAny [21] X.A (eval e X.env) [144] X.xe s
noncomputable def PT(X:Cx)(e:Expr)(t:TT):Prop:=
 ∀ (pins:List [24]) (s:Shared) (σ:St) (H:Hp) (Q:Bool->Hp->Prop),Inv X pins σ H s->t σ H Q->wpAny [21] X.A (isTrue e X.env (eval e X.env)) (TP X pins σ Q) X.xe s
noncomputable def PW(X:Cx)(e:Expr)(t:TT):Prop:=
 ∀ (whole:Sem Value) (pins:List [24]) (s:Shared) (σ:St) (H:Hp) (Q:Bool->Hp->Prop),Inv X pins σ H s->t σ H Q->wpAny [21] X.A (isTrue e X.env whole) (TP X pins σ Q) X.xe s
theorem PW.pt{X:Cx}{e:Expr}{t:TT}(h:PW X e t):PT X e t:=h _
noncomputable def PA(X:Cx)(es:List Expr)(t:TA):Prop:=
 ∀ (pos:Pos) (pins:List [24]) (s:Shared) (σ:St) (H:Hp) (Q:List V->Hp->Prop),Inv X pins σ H s->t σ H Q->wpAny [21] X.A (spliced [72]) (AP X pins σ Q) X.xe s
noncomputable def PS(X:Cx)(st:Stmt)(t:TS):Prop:=
 ∀ (pins:List [24]) (s:Shared) (σ:St) (H:Hp) (D:Ends),Inv X pins σ H s->t D σ H->wpAny [21] X.A (exec st X.env) (SP X pins D) X.xe s
noncomputable def PSs(X:Cx)(st:List Stmt)(t:TS):Prop:=
 ∀ (pins:List [24]) (s:Shared) (σ:St) (H:Hp) (D:Ends),Inv X pins σ H s->t D σ H->wpAny [21] X.A (execs st X.env) (SP X pins D) X.xe s
theorem thn{α:Type}{t:Sem α}{Q Q':α->Shared->Prop}{M:Model}{A:Around}{E:Value->Shared->Prop}{s:Shared}(h:wpAny M A t Q E s)(hQ:∀ a s,Q a s->Q' a s):wpAny M A t Q' E s:=wpAny_mono h hQ fun _ _ x=>x
section
variable {X:Cx}
noncomputable def uV(i:Nat):TE:=fun σ H Q=>∃ v,σ[i]?=some (some v)/\Q v H
noncomputable def tC(v:V):TE:=fun _ H Q=>Q v H
theorem znr{i:Nat}{x:Str}{pos:Pos}(hN:X.N[i]?=some x)(hv:Vis X.env.scope x)(hd:[50]=false:=by decide)(hcd:(x == ("__classdict__":Str))=false:=by decide):PE X [139] (uV i):=by
 intro pins s σ H Q I h
 obtain ⟨v,e,h⟩:=h
 obtain ⟨m,hn,hl⟩:=I.loc
 obtain ⟨u,r,l⟩:=hl i x v hN e hv
 have fin:EP X pins σ Q u s:=⟨v,H,I,r,h⟩
 rcases l with ⟨hk,hm⟩ | ⟨hk,c,hc,hcell⟩
 ·exact wpAny_Name (wpAny_loadName_local I.ok.kind hk hn hm fin) hd
 ·rcases hk with hk | hk
  ·exact wpAny_Name (wpAny_loadName_cell I.ok.kind hk hc hcell fin) hd
  ·exact wpAny_Name (wpAny_loadName_free I.ok.kind hk hc hcell fin hcd) hd
theorem zjF{i j pos}:PE X (.Constant [88] j pos) (tC [88]):=fun _ _ _ H _ I h=>wpAny_Constant_int ⟨.int i,H,I.tok _,⟨_,rfl⟩,h⟩
theorem zoL{b j pos}:PE X (.Constant (.bool b) j pos) (tC (.bl b)):=fun _ _ _ H _ I h=>Constant_bool ⟨.bl b,H,I,rfl,h⟩
theorem znw{j pos}:PE X (.Constant .none j pos) (tC .non):=fun _ _ _ H _ I h=>Constant_none ⟨.non,H,I,rfl,h⟩
theorem znt{x j pos}:PE X (.Constant (.str x) j pos) (tC (.str x)):=fun _ _ _ H _ I h=>Calls.Constant_str ⟨.str x,H,I.tok _,⟨_,rfl⟩,h⟩
noncomputable def Gl(X:Cx)(x:Str):Prop:=X.env.kindOf x=some .globalImplicit
theorem zgM{E:Value->Shared->Prop}{pins:List [24]}{s:Shared}{σ:St}{H:Hp}{x:Str}{u:Value}{pos:Pos}{Q:Value->Shared->Prop}(I:Inv X pins σ H s)(hg:Gl X x)(hm:X.mg x=some u)(h:Q u s)
  (hd:[50]=false:=by decide):wpAny [21] X.A (eval [139] X.env) Q E s:=
 Calls.Name_function_global I.ok.kind hg (Calls.loadGlobal_global (by rw [I.ok.glob];exact I.mod.glob.keeps I.bk) hm h) hd
theorem uJ{E:Value->Shared->Prop}{pins:List [24]}{s:Shared}{σ:St}{H:Hp}{x:Str}{u:Value}{pos:Pos}{Q:Value->Shared->Prop}(I:Inv X pins σ H s)(hg:Gl X x)(hm:X.mg x=none)(hv:bootBuiltins x=some u)(h:Q u s)
  (hn:x≠"__name__":=by decide)(hd:[50]=false:=by decide):wpAny [21] X.A (eval [139] X.env) Q E s:=by
 obtain ⟨mb,h1,h2⟩:=I.mod.blt
 exact Calls.Name_function_global I.ok.kind hg (Calls.loadGlobal_builtin (by rw [I.ok.glob];exact I.mod.glob.keeps I.bk) hm (by rw [I.ok.blt];exact h1.keeps I.bk) ((h2 x hn).trans hv) h) hd
theorem zlK{x:Str}{v:V}{u:Value}{pos:Pos}(hg:Gl X x)(hm:X.mg x=some u)(r:RelV v u)(hd:[50]=false:=by decide):PE X [139] (tC v):=
 fun _ _ _ H _ I h=>zgM I hg hm ⟨v,H,I,r,h⟩ hd
theorem zlP{x:Str}{v:V}{u:Value}{pos:Pos}(hg:Gl X x)(hm:X.mg x=none)(hv:bootBuiltins x=some u)(r:RelV v u)(hn:x≠"__name__":=by decide)(hd:[50]=false:=by decide):PE X [139] (tC v):=
 fun _ _ _ H _ I h=>uJ I hg hm hv ⟨v,H,I,r,h⟩ hn hd
variable {a b:Expr} {ta tb:TE} {pos:Pos}
variable {tA tB':TT} {wW:List Expr}
noncomputable def zpT(t u:TT):TT:=fun σ H Q=>t σ H fun c H1=>if c=true then u σ H1 Q else Q false H1
noncomputable def tOr(t u:TT):TT:=fun σ H Q=>t σ H fun c H1=>if c=true then Q true H1 else u σ H1 Q
noncomputable def zpP(t:TT):TT:=fun σ H Q=>t σ H fun c H1=>Q (!c) H1
theorem zlx(ha:PT X a tA):PW X (.BoolOp .And [a] pos) tA:=by
 intro wh pins s σ H Q I h
 refine isTrue_and (thn (ha pins s σ H Q I h) fun c s1 e=>?_)
 cases c with
 | true=>exact isTrue_and_nil e
 | false=>exact e
theorem zng(ha:PT X a tA):PW X (.BoolOp .Or [a] pos) tA:=by
 intro wh pins s σ H Q I h
 refine isTrue_or (thn (ha pins s σ H Q I h) fun c s1 e=>?_)
 cases c with
 | false=>exact isTrue_or_nil e
 | true=>exact e
theorem znh(ha:PT X a tA)(hb:PW X [266] tB'):PW X [238] (zpT tA tB'):=by
 intro wh pins s σ H Q I h
 refine isTrue_and (thn [95] fun c s1 hq_=>?_)
 obtain ⟨H1,I1,q1⟩:=hq_
 cases c with
 | true=>exact hb wh pins s1 σ H1 Q I1 q1
 | false=>exact ⟨H1,I1,q1⟩
theorem zoG(ha:PT X a tA)(hb:PW X (.BoolOp .Or (b::wW) pos) tB'):PW X (.BoolOp .Or (a::b::wW) pos) (tOr tA tB'):=by
 intro wh pins s σ H Q I h
 refine isTrue_or (thn [95] fun c s1 hq_=>?_)
 obtain ⟨H1,I1,q1⟩:=hq_
 cases c with
 | true=>exact ⟨H1,I1,q1⟩
 | false=>exact hb wh pins s1 σ H1 Q I1 q1
theorem znj(ha:PT X a tA):PT X (.UnaryOp .Not a pos) (zpP tA):=by
 intro pins s σ H Q I h
 exact isTrue_not (ha pins s σ H (fun c H1=>Q (!c) H1) I h)
noncomputable def zov(ta tb:TE):TE:=fun σ H Q=>ta σ H fun x H1=>∃ c,x=.bl c/\if c=true then tb σ H1 Q else Q [218] H1
noncomputable def zor(ta:TE):TE:=fun σ H Q=>ta σ H fun x H1=>∃ c,x=.bl c/\Q (.bl (!c)) H1
theorem znu{op}{t:TE}(h:PE X a t):PE X (.BoolOp op [a] pos) t:=fun pins s σ H Q I hw=>BoolOp_one (h pins s σ H Q I hw)
theorem znz(ha:PE X a ta)(hb:PE X [266] tb):PE X [238] (zov ta tb):=by
 intro pins s σ H Q I h
 refine BoolOp_and (thn [95] fun v s1 hq_=>?_)
 obtain ⟨x,H1,I1,r1,q1⟩:=hq_
 obtain ⟨c,rfl,q1⟩:=q1
 cases r1
 refine wpAny_truthy_bool ?_
 cases c with
 | true=>exact hb pins s1 σ H1 Q I1 q1
 | false=>exact ⟨.bl false,H1,I1,rfl,q1⟩
theorem znv(ha:PE X a ta):PE X (.UnaryOp .Not a pos) (zor ta):=by
 intro pins s σ H Q I h
 refine UnaryOp_ (thn [95] fun v s1 hq_=>?_)
 obtain ⟨x,H1,I1,r1,q1⟩:=hq_
 obtain ⟨c,rfl,q1⟩:=q1
 cases r1
 exact not_of (wpAny_truthy_bool ⟨.bl (!c),H1,I1,rfl,q1⟩)
noncomputable def tIf(t:TT)(ta tb:TE):TE:=fun σ H Q=>t σ H fun c H1=>if c=true then ta σ H1 Q else tb σ H1 Q
theorem zjG{c:Expr}(hc:PT X c tA)(ha:PE X a ta)(hb:PE X b tb):PE X (.IfExp c a b pos) (tIf tA ta tb):=by
 intro pins s σ H Q I h
 refine wpAny_IfExp (thn (hc pins s σ H _ I h) fun d s1 hq_=>?_)
 obtain ⟨H1,I1,q1⟩:=hq_
 cases d with
 | true=>exact ha pins s1 σ H1 Q I1 q1
 | false=>exact hb pins s1 σ H1 Q I1 q1
end
noncomputable def SqL(K:PySem.W.Frag)(H:Hp)(a:Addr)(xs:List V):Prop:=
 Rd H a [107]∨
  ∃ (o:Obj) (its:Array Value) (n:Nat),K.lookup a=some o/\o.cls=.type "list"/\o.dict=none/\o.data=.seq its n/\its.size≤sizeLine/\Vals xs its.toList
noncomputable def SqT(K:PySem.W.Frag)(H:Hp)(a:Addr)(xs:List V):Prop:=
 Rd H a (.tup xs)∨
  ∃ (o:Obj) (its:Array Value) (n:Nat),K.lookup a=some o/\o.cls=.type "tuple"/\o.data=.seq its n/\its.size≤sizeLine/\Vals xs its.toList
noncomputable def zqs:Value->Option V
 | .none=>some .non
 | .bool b=>some (.bl b)
 | .int i _=>some [88]
 | .str x _=>some (.str x)
 | .bytes b _=>some (.byt b)
 | .float b _=>some (.flt b)
 | .ref a=>some [84]
 | .type n=>some (.ty n)
 | _=>none
theorem RelV.abs{x:V}{u:Value}(r:RelV x u):zqs u=some x:=by
 cases x with
 | non=>cases r;rfl
 | bl _=>cases r;rfl
 | int _=>obtain ⟨t,rfl⟩:=r;rfl
 | str _=>obtain ⟨t,rfl⟩:=r;rfl
 | byt _=>obtain ⟨t,rfl⟩:=r;rfl
 | flt _=>obtain ⟨t,rfl⟩:=r;rfl
 | ref _=>cases r;rfl
 | ty _=>cases r;rfl
theorem RelV.inj{x y:V}{u:Value}(r:RelV x u)(q:RelV y u):x=y:=Jq (r.abs.symm.trans q.abs)
theorem Vals.inj{xs ys:List V}{us:List Value}(h:Vals xs us):Vals ys us->xs=ys:=by
 induction h generalizing ys with
 | nil=>intro h;cases h;rfl
 | cons r t ih=>intro h;cases h with | cons r' t'=>rw [r.inj r',ih t']
section
variable {X:Cx} {pins:List [24]} {σ:St} {H:Hp} {s:Shared} {a:Addr} {xs ys:List V}
theorem SqL.of{K:PySem.W.Frag}(h:H a=some [107]):SqL K H a xs:=.inl (.inl h)
theorem SqT.of{K:PySem.W.Frag}(h:H a=some (.tup xs)):SqT K H a xs:=.inl (.inl h)
theorem Inv.list(I:Inv X pins σ H s)(h:SqL X.K H a xs):∃ its:List Value,Vals xs its/\PlainL s.heap a its.toArray/\xs.length≤sizeLine:=by
 rcases h with h | ⟨o,its,n,hk,hc,hd,hs,hz,r⟩
 ·obtain ⟨z,its,n,r,e⟩:=h.ok I.hok
  exact ⟨its,r,⟨_,n,e,rfl,rfl,rfl⟩,z⟩
 ·refine ⟨its.toList,r,⟨o,n,I.kIn a o hk,hc,hd,by simpa using hs⟩,?_⟩
  have e:=r.length
  simp only [Array.length_toList] at e
  omega
theorem Inv.tuple(I:Inv X pins σ H s)(h:SqT X.K H a xs):∃ its:List Value,Vals xs its/\IsTup s.heap a its.toArray/\xs.length≤sizeLine:=by
 rcases h with h | ⟨o,its,n,hk,hc,hs,hz,r⟩
 ·obtain ⟨z,its,r,p⟩:=h.ok I.hok
  exact ⟨its,r,p,z⟩
 ·refine ⟨its.toList,r,⟨o,I.kIn a o hk,hc,n,by simpa using hs⟩,?_⟩
  have e:=r.length
  simp only [Array.length_toList] at e
  omega
theorem Inv.list_inj(I:Inv X pins σ H s)(h:SqL X.K H a xs)(h':SqL X.K H a ys):xs=ys:=by
 obtain ⟨its,r,⟨o,n,e,_,_,d⟩,_⟩:=I.list h
 obtain ⟨its',r',⟨o',n',e',_,_,d'⟩,_⟩:=I.list h'
 rw [e] at e';cases e'
 rw [d] at d'
 injection d' with d1 _
 have:its=its':=by simpa using congrArg Array.toList d1
 subst this
 exact r.inj r'
theorem Inv.tuple_inj(I:Inv X pins σ H s)(h:SqT X.K H a xs)(h':SqT X.K H a ys):xs=ys:=by
 obtain ⟨its,r,⟨o,e,_,n,d⟩,_⟩:=I.tuple h
 obtain ⟨its',r',⟨o',e',_,n',d'⟩,_⟩:=I.tuple h'
 rw [e] at e';cases e'
 rw [d] at d'
 injection d' with d1 _
 have:its=its':=by simpa using congrArg Array.toList d1
 subst this
 exact r.inj r'
end
noncomputable abbrev Cx.wish(X:Cx)(E:Value->Shared->Prop):Cx:={ X with xe:=E }
noncomputable abbrev Cx.nox(X:Cx):Cx:=X.wish fun _ _=>False
theorem Cx.Ok.wish{X:Cx}(ok:X.Ok)(E:Value->Shared->Prop):(X.wish E).Ok:=
 ⟨ok.mod,ok.kind,ok.glob,ok.blt,ok.above,ok.inj,ok.has,ok.cab,ok.hd,ok.frames,ok.stk,ok.exf,ok.bs,ok.bsz,ok.noex,ok.exfs,ok.funs,ok.frf⟩
theorem Cx.Ok.unwish{X:Cx}{E:Value->Shared->Prop}(ok:(X.wish E).Ok):X.Ok:=
 ⟨ok.mod,ok.kind,ok.glob,ok.blt,ok.above,ok.inj,ok.has,ok.cab,ok.hd,ok.frames,ok.stk,ok.exf,ok.bs,ok.bsz,ok.noex,ok.exfs,ok.funs,ok.frf⟩
section
variable {X:Cx} {pins:List [24]} {σ:St} {H:Hp} {s:Shared} {E:Value->Shared->Prop}
theorem Inv.wish(I:Inv X pins σ H s)(E:Value->Shared->Prop):Inv (X.wish E) pins σ H s:=⟨I.ok.wish E,I.os,I.bare,I.base,I.loc,I.cell,I.free,I.freeC,I.pin,I.hok,I.len⟩
theorem Inv.unwish(I:Inv (X.wish E) pins σ H s):Inv X pins σ H s:=⟨I.ok.unwish,I.os,I.bare,I.base,I.loc,I.cell,I.free,I.freeC,I.pin,I.hok,I.len⟩
theorem SP.unwish{D:Ends}{f:Flow}{s':Shared}(h:SP (X.wish E) pins D f s'):SP X pins D f s':=by
 cases f with
 | next=>obtain ⟨σ',H',I,q⟩:=h;exact ⟨σ',H',I.unwish,q⟩
 | brk=>obtain ⟨σ',H',I,q⟩:=h;exact ⟨σ',H',I.unwish,q⟩
 | cont=>obtain ⟨σ',H',I,q⟩:=h;exact ⟨σ',H',I.unwish,q⟩
 | ret u=>obtain ⟨v,σ',H',I,r,q⟩:=h;exact ⟨v,σ',H',I.unwish,r,q⟩
theorem PSs.nox{st:List Stmt}{t:TS}(h:PSs X.nox st t):PSs X st t:=fun pins s σ H D I hw=>
 wpAny_mono (h pins s σ H D (I.wish _) hw) (fun _ _ q=>q.unwish) fun _ _ z=>False.elim z
end
section
variable {X:Cx} {st:Stmt} {wW:List Stmt} {t u:TS} {e:Expr} {te:TE} {pos:Pos}
noncomputable def zos:TS:=fun D σ H=>D.nx σ H
noncomputable def zpN(t u:TS):TS:=fun D σ H=>t { D with nx:=u D } σ H
theorem pss_nil:PSs X [] zos:=fun _ _ σ H _ I h=>wpAny_execs_nil ⟨σ,H,I,h⟩
theorem zeh(h1:PS X st t)(h2:PSs X wW u):PSs X (st::wW) (zpN t u):=by
 intro pins s σ H D I h
 refine wpAny_execs_cons (thn (h1 pins s σ H { D with nx:=u D } I h) fun f s1 q=>?_)
 cases f with
 | next=>
  obtain ⟨σ',H',I',q⟩:=q
  exact h2 pins s1 σ' H' D I' q
 | ret v=>exact q
 | brk=>exact q
 | cont=>exact q
theorem Inv.quiet{pins:List [24]}{σ:St}{H:Hp}{s:Shared}(I:Inv X pins σ H s):interactive X.env=false:=by simp [interactive,I.ok.kind]
noncomputable def zaL(te:TE):TS:=fun D σ H=>te σ H fun _ H1=>D.nx σ H1
theorem yD(he:PE X e te)(hs:swapsWith e none pos.line X.env=pure false:=by rfl):PS X (.Expr e pos) (zaL te):=by
 intro pins s σ H D I h
 exact wpAny_Expr_any (thn [253] fun v s1 ⟨x,H1,I1,r1,q1⟩=>⟨σ,H1,I1,q1⟩) I.quiet hs
noncomputable def zpO(te:TE):TS:=fun D σ H=>te σ H D.rt
theorem znl(he:PE X e te):PS X (.Return (some e) pos) (zpO te):=by
 intro pins s σ H D I h
 exact wpAny_Return_some (thn [253] fun v s1 ⟨x,H1,I1,r1,q1⟩=>⟨x,σ,H1,I1,r1,q1⟩)
noncomputable def zpR(c:TT)(t u:TS):TS:=fun D σ H=>c σ H fun b H1=>if b=true then t D σ H1 else u D σ H1
theorem zoH{c:Expr}{a b:List Stmt}{tc:TT}(hc:PT X c tc)(ha:PSs X a t)(hb:PSs X b u):PS X (.If c a b pos) (zpR tc t u):=by
 intro pins s σ H D I h
 refine wpAny_If (thn (hc pins s σ H _ I h) fun d s1 hq_=>?_)
 obtain ⟨H1,I1,q1⟩:=hq_
 cases d with
 | true=>exact ha pins s1 σ H1 D I1 q1
 | false=>exact hb pins s1 σ H1 D I1 q1
end
noncomputable abbrev TG:=V->St->Hp->(St->Hp->Prop)->Prop
noncomputable abbrev TGs:=List V->St->Hp->(St->Hp->Prop)->Prop
noncomputable def PG(X:Cx)(target:Expr)(t:TG):Prop:=
 ∀ (pins:List [24]) (s:Shared) (σ:St) (H:Hp) (v:V) (u:Value) (Q:St->Hp->Prop),Inv X pins σ H s->RelV v u->t v σ H Q->
  wpAny [21] X.A (assign target X.env u) (fun _ s'=>∃ σ' H',Inv X pins σ' H' s'/\Q σ' H') X.xe s
noncomputable def PGs(X:Cx)(ts:List Expr)(t:TGs):Prop:=
 ∀ (pins:List [24]) (s:Shared) (σ:St) (H:Hp) (vs:List V) (us:List Value) (Q:St->Hp->Prop),Inv X pins σ H s->Vals vs us->t vs σ H Q->
  wpAny [21] X.A (assignInOrder ((assignEach ts X.env).map (·.2)) us) (fun _ s'=>∃ σ' H',Inv X pins σ' H' s'/\Q σ' H') X.xe s
noncomputable abbrev zog:=V->V->V->Hp->(Hp->Prop)->Prop
noncomputable def zpu(X:Cx)(t:zog):Prop:=
 ∀ (pins:List [24]) (s:Shared) (σ:St) (H:Hp) (o i v:V) (ov iv u:Value) (Q:Hp->Prop),Inv X pins σ H s->RelV o ov->RelV i iv->RelV v u->t o i v H Q->
  wpAny [21] X.A (setItem ov iv u) (fun _ s'=>∃ H',Inv X pins σ H' s'/\Q H') X.xe s
section
variable {X:Cx} {pos:Pos}
noncomputable def j6(i:Nat):TG:=fun v σ H Q=>Q [290] H
theorem zU{i:Nat}{x:Str}(hN:X.N.Nodup)(hi:X.N[i]?=some x)(hx:Loc X.env.scope x)(hf:X.fn x=true∨X.env.scope.names.lookup x=some .local:=by first | exact .inl rfl | exact .inr rfl | assumption):PG X [139] (j6 i):=by
 intro pins s σ H v u Q I r h
 exact wpAny_assign_Name (zdZ I hN hi hx r (fun s' I'=>⟨_,H,I',h⟩) hf)
noncomputable def zqi:TGs:=fun vs σ H Q=>vs=[]/\Q σ H
noncomputable def zpb(t:TG)(u:TGs):TGs:=fun vs σ H Q=>∃ v r,vs=v::r/\t v σ H fun σ' H'=>u r σ' H' Q
theorem pgs_nil:PGs X [] zqi:=by
 intro pins s σ H vs us Q I r h
 obtain ⟨e,h⟩:=h
 subst e
 cases r
 exact assignInOrder_nil ⟨σ,H,I,h⟩
theorem zjC{e:Expr}{es:List Expr}{t:TG}{u:TGs}(h1:PG X e t)(h2:PGs X es u)
  (hs:(assignEach (e::es) X.env).map (·.2)=assign e X.env::[140].map (·.2):=by rfl):PGs X (e::es) (zpb t u):=by
 intro pins s σ H vs us Q I r h
 obtain ⟨v,vr,e1,h⟩:=h
 subst e1
 cases r with
 | cons r rr=>
  rw [hs]
  refine assignInOrder_cons (thn (h1 pins s σ H _ _ _ I r h) fun _ s1 hq_=>?_)
  obtain ⟨σ1,H1,I1,q1⟩:=hq_
  exact h2 pins s1 σ1 H1 _ _ Q I1 rr q1
noncomputable def zqh(K:PySem.W.Frag)(n:Nat)(t:TGs):TG:=fun v σ H Q=>∃ a xs,v=.ref a/\SqT K H a xs/\xs.length=n/\t xs σ H Q
theorem znp{es:List Expr}{k:Nat}{t:TGs}{n:Nat}(hc:X.calm=true)(h:PGs X es t)
  (hn:[140].length=n:=by rfl)(hst:[140].findIdx? (·.1)=none:=by rfl):PG X [275] (zqh X.K n t):=by
 intro pins s σ H v u Q I r hw
 obtain ⟨a,xs,e1,hq,hl,hw⟩:=hw
 subst e1
 cases r
 obtain ⟨its,rv,ht,hz⟩:=I.tuple hq
 refine assign_Tuple_tuple [105] ht (by simp [hn,← hl,rv.length]) hst fun h' hx=>?_
 have I1:Inv X pins σ H { s with heap:=h' }:=I.kept (t':=s.toks) fun b o e=>hx b o (Nat.ne_of_lt (Heap.lt_size e)) e
 exact h pins _ σ H xs _ Q I1 (by simpa using rv) hw
noncomputable def zpa(to ti:TE)(t:zog):TG:=fun v σ H Q=>to σ H fun o H1=>ti σ H1 fun i H2=>t o i v H2 fun H3=>Q σ H3
theorem qW{o i:Expr}{to ti:TE}{t:zog}(ho:PE X o to)(hi:PE X i ti)(hs:zpu X t)
  (ha:∀ v,assign (.Subscript o i pos) X.env v=(do
   let ov ← holding [v] (eval o X.env)
   let iv ← holding [v,ov] (eval i X.env)
   standAt pos
   holding [v,ov,iv] (setItem ov iv v)
   release [v,ov,iv] []):=by intro _;rfl):PG X (.Subscript o i pos) (zpa to ti t):=by
 intro pins s σ H v u Q I r h
 rw [ha]
 refine wpAny_bind (wpAny_holding (thn [195] fun ov s1 hq_=>?_))
 obtain ⟨x,H1,I1,r1,q1⟩:=hq_
 refine wpAny_bind (wpAny_holding (thn (hi pins s1 σ H1 _ I1 q1) fun iv s2 hq_=>?_))
 obtain ⟨y,H2,I2,r2,q2⟩:=hq_
 refine wpAny_bind (wpAny_standAt (wpAny_bind (wpAny_holding (thn (hs pins s2 σ H2 x y v ov iv u _ I2 r1 r2 r q2) fun _ s3 hq_=>?_))))
 obtain ⟨H3,I3,q3⟩:=hq_
 exact wpAny_release ⟨σ,H3,I3,q3⟩
noncomputable def zaM(te:TE)(g:TG):TS:=fun D σ H=>te σ H fun x H1=>g x σ H1 D.nx
theorem kK{tg e:Expr}{te:TE}{g:TG}(he:PE X e te)(hg:PG X tg g)(hs:swapsWithSole [tg] e pos.line X.env=pure false:=by rfl)(hw:swappedStores [tg] e X.env=pure none:=by rfl)
  (h1:(assignEach [tg] X.env).map (·.2)=[assign tg X.env]:=by rfl):PS X (.Assign [tg] e pos) (zaM te g):=by
 intro pins s σ H D I h
 refine wpAny_Assign_stores (thn [253] fun v s1 ⟨x,H1,I1,r1,q1⟩=>?_) hs hw
 rw [h1]
 exact thn (hg pins s1 σ H1 x v _ I1 r1 q1) fun _ s2 q=>q
theorem zP{i:Nat}{x:Str}{e:Expr}{te:TE}{pos':Pos}(hN:X.N.Nodup)(hi:X.N[i]?=some x)(hx:Loc X.env.scope x)(he:PE X e te)(hs:swapsWith e (some (.Name x pos')) pos.line X.env=pure false:=by rfl)(hf:X.fn x=true∨X.env.scope.names.lookup x=some .local:=by first | exact .inl rfl | exact .inr rfl | assumption):
  PS X (.Assign [.Name x pos'] e pos) (zaM te (j6 i)):=by
 intro pins s σ H D I h
 refine wpAny_Assign_Name (thn [253] fun v s1 ⟨y,H1,I1,r1,q1⟩=>?_) hs
 exact zdZ I1 hN hi hx r1 (fun s2 I2=>⟨_,H1,I2,q1⟩) hf
noncomputable def zmW(c:TT)(tb:TS):TS:=fun D σ H=>∃ W:Nat->St->Hp->Prop,(∃ m,W m σ H)/\∀ m σ H,W m σ H->
 c σ H fun b H1=>if b=true then ∃ N:St->Hp->Prop,(∀ σ' H',N σ' H'->∃ m',m'<m/\W m' σ' H')/\tb { D with nx:=N,ct:=N,bk:=D.nx } σ H1 else D.nx σ H1
theorem zjv{c:Expr}{body:List Stmt}{tc:TT}{tb:TS}(hp:PassesOwn [21] X.A X.env X.xe)(hc:PT X c tc)(hb:PSs X body tb):PS X (.While c body [] pos) (zmW tc tb):=by
 intro pins s σ H D I h
 obtain ⟨W,⟨m0,w0⟩,turn⟩:=h
 refine wpAny_While (codeAny_whileLoop (fun n s'=>∃ σ' H',Inv X pins σ' H' s'/\W n σ' H') ?_ m0 ⟨σ,H,I,w0⟩)
 rintro n s1 ⟨σ1,H1,I1,w1⟩
 refine wpAny_passesOwn hp (thn (hc pins s1 σ1 H1 _ I1 (turn n σ1 H1 w1)) fun b s2 hq_=>?_)
 obtain ⟨H2,I2,q2⟩:=hq_
 cases b with
 | true=>
  obtain ⟨N,hN,q2⟩:=q2
  rw [if_pos rfl]
  refine wpAny_passesOwn hp (thn (hb pins s2 σ1 H2 _ I2 q2) fun f s3 q3=>?_)
  cases f with
  | next=>
   obtain ⟨σ3,H3,I3,n3⟩:=q3
   obtain ⟨m',hm,w3⟩:=hN σ3 H3 n3
   exact ⟨m',hm,σ3,H3,I3,w3⟩
  | cont=>
   obtain ⟨σ3,H3,I3,n3⟩:=q3
   obtain ⟨m',hm,w3⟩:=hN σ3 H3 n3
   exact ⟨m',hm,σ3,H3,I3,w3⟩
  | brk=>exact q3
  | ret v=>exact q3
 | false=>
  rw [if_neg Je]
  exact wpAny_execs_nil ⟨σ1,H2,I2,q2⟩
end
structure It where
 go:Nat->Hp->Prop
 yld:Nat->Hp->V->Hp->Prop
 stop:Nat->Hp->Prop
noncomputable def jy(X:Cx)(pins:List [24])(H:Hp)(b:Addr):Prop:=
 H b=none/\b≠X.env.locals/\b ∉ X.fs/\[150]/\[132]/\∀ p ∈ X.pn++pins,p.1≠b
theorem Inv.fpOk{X:Cx}{pins:List [24]}{σ:St}{H H':Hp}{s:Shared}{b:Addr}(I:Inv X pins σ H s)(hb:s.heap.objs.size≤b)(hn:H' b=none):jy X pins H' b:=by
 refine ⟨hn,Kh (JD I.lt hb),I.nofs hb,.inr (JN I.sz hb),fun x c e z=>?_,fun p hp z=>?_⟩
 ·obtain ⟨v,q⟩:=I.cell x c e
  exact absurd (JD q.lt (by rw [z];exact hb)) (Kx _)
 ·exact absurd (JD (Jn (I.pin p hp).1) (by rw [z];exact hb)) (Kx _)
structure Turn (P:Program) (w:World) (K:PySem.W.Frag) (tg:Expr) (J:It) (fp:List Addr) (it:Addr) (tn:Nat->Heap->Prop):Prop where
 mem:it ∈ fp
 obj:∀ i h,tn i h->∀ b ∈ fp,∃ o,h.get? b=some o/\∀ v,o.data≠.cell v
 keep:∀ i h h',tn i h->(∀ b ∈ fp,∀ o,h.get? b=some o->h'.get? b=some o)->tn i h'
 item:∀ (X:Cx),X.prog=P->X.w=w->X.K=K->X.calm=true->∀ (i:Nat) (pins:List [24]) (s:Shared) (σ:St) (H:Hp) (E:Value->Shared->Prop),Inv X pins σ H s->(∀ b ∈ fp,jy X pins H b)->tn i s.heap->J.go i H->
  wpAny (model P w) X.A (pyNext [158]) (fun r s1=>∃ u,r=some u/\
   wpAny (model P w) X.A (letOwnedTupleGo tg [158] u) (fun _ s2=>∃ x H',Inv X pins σ H' s2/\RelV x u/\J.yld i H x H'/\tn (i+1) s2.heap/\∀ b ∈ fp,H' b=none) E s1) E s
 done:∀ (X:Cx),X.prog=P->X.w=w->X.K=K->X.calm=true->∀ (i:Nat) (pins:List [24]) (s:Shared) (σ:St) (H:Hp) (E:Value->Shared->Prop),Inv X pins σ H s->(∀ b ∈ fp,jy X pins H b)->tn i s.heap->J.stop i H->
  wpAny (model P w) X.A (pyNext [158]) (fun r s1=>r=none/\Inv X pins σ H s1) E s
 self:∀ (A:Around) (i:Nat) (s:Shared) (Q:Value->Shared->Prop) (E:Value->Shared->Prop),tn i s.heap->Q [158] s->wpAny (model P w) A (pyIter [158]) Q E s
noncomputable abbrev TI:=St->Hp->(It->Hp->Prop)->Prop
noncomputable def PIE(X:Cx)(pins:List [24])(σ:St)(tg:Expr)(R:It->Hp->Prop)(itv:Value)(s2:Shared):Prop:=
 ∃ (it:Addr) (fp:List Addr) (tn:Nat->Heap->Prop) (J:It) (H':Hp),itv=.ref it/\Inv X pins σ H' s2/\Turn X.prog X.w X.K tg J fp it tn/\tn 0 s2.heap/\(∀ b ∈ fp,jy X pins H' b)/\R J H'
noncomputable def PI(X:Cx)(tg iter:Expr)(wi:TI):Prop:=
 ∀ (pins:List [24]) (s:Shared) (σ:St) (H:Hp) (R:It->Hp->Prop),Inv X pins σ H s->wi σ H R->
  wpAny [21] X.A (eval iter X.env) (fun v s1=>wpAny [21] X.A (pyIter v) (PIE X pins σ tg R) X.xe s1) X.xe s
theorem zkx {M : Model} {A : Around} {E : Value → Shared → Prop} {s : Shared} {tg : Expr} {it : Addr} {u : Value} {o : Obj} {n : String} {vs : Array Value} {Q : Unit → Shared → Prop} (ho : s.heap.get? it = some o) (hc : o.cls = .type n) (hd : o.data = .fields vs)
    (hn : ["enumerate", "zip", "dict_itemiterator", "dict_reverseitemiterator", "odict_iterator", "itertools.zip_longest", "itertools.pairwise"].contains n = false) (hQ : Q () s) : wpAny M A (letOwnedTupleGo tg [158] u) Q E s := by
  unfold letOwnedTupleGo
  cases tg <;> first
    | exact wpAny_pure hQ
    | (cases u <;> first
        | exact wpAny_pure hQ
        | (refine wpAny_bind (wpAny_load ho ?_)
           rw [hc, hd]
           show wpAny M A (if (["enumerate", "zip", "dict_itemiterator", "dict_reverseitemiterator", "odict_iterator", "itertools.zip_longest", "itertools.pairwise"].contains n && vs[0]? == some (rawInt _)) = true then _ else _) Q E s
           rw [if_neg (by intro h; rw [hn, Bool.false_and] at h; cases h)]
           exact wpAny_pure hQ))
noncomputable def Itl(K:PySem.W.Frag)(a:Addr):It:=
 ⟨fun i H=>∃ xs x,SqL K H a xs/\xs[i]?=some x,fun i H x H'=>H'=H/\∀ xs,SqL K H a xs->xs[i]?=some x,fun i H=>∃ xs,SqL K H a xs/\xs.length≤i⟩
noncomputable def Itt(K:PySem.W.Frag)(a:Addr):It:=
 ⟨fun i H=>∃ xs x,SqT K H a xs/\xs[i]?=some x,fun i H x H'=>H'=H/\∀ xs,SqT K H a xs->xs[i]?=some x,fun i H=>∃ xs,SqT K H a xs/\xs.length≤i⟩
noncomputable def Itr(lo:Int)(n:Nat):It:=⟨fun i _=>i<n,fun i H x H'=>H'=H/\x=.int (lo+i),fun i _=>n≤i⟩
theorem zhB{P:Program}{w:World}{K:PySem.W.Frag}{tg:Expr}(a it:Addr):Turn P w K tg (Itl K a) [it] it (fun i h=>h.IsListIter it a i) where
 mem:=by simp
 obj:=fun i h st b hb=>by
  have e:b=it:=by simpa using hb
  subst e
  obtain ⟨o,e,c,d⟩:=st
  exact ⟨o,e,fun v z=>by rw [d] at z;cases z⟩
 keep:=fun i h h' st k=>st.at fun o e=>k it [19] o e
 item:=by
  intro X hP hw hK hc i pins s σ H E I hf st hg
  subst hP hw hK
  obtain ⟨xs,x,hq,hx⟩:=hg
  obtain ⟨its,rv,p,hz⟩:=I.list hq
  obtain ⟨u,hu,ru⟩:=rv.get hx
  obtain ⟨f0,f1,f2,f3,f4,f5⟩:=hf it [19]
  refine wpAny_pyNext_list_item st p.isList (x:=u) [291] fun h' st' sb=>?_
  have I1:Inv X pins σ H { s with heap:=h' }:=I.turned (t':=s.toks) (fun b o hb e=>(sb.2 b hb).trans e) f0 f1 f3 f4 f5
  obtain ⟨o,e,c,d⟩:=id st'
  exact ⟨u,rfl,zkx (s:={ s with heap:=h' }) e c d [10] ⟨x,H,I1,ru,⟨rfl,fun ys hy=>by rw [I.list_inj hy hq];exact hx⟩,st',fun b hb=>[152].1⟩⟩
 done:=by
  intro X hP hw hK hc i pins s σ H E I hf st hg
  subst hP hw hK
  obtain ⟨xs,hq,hx⟩:=hg
  obtain ⟨its,rv,p,hz⟩:=I.list hq
  obtain ⟨f0,f1,f2,f3,f4,f5⟩:=hf it [19]
  have hl:=rv.length
  exact wpAny_pyNext_list_end [105] st p.isList (by simp;omega) fun h' eb=>⟨rfl,I.turned (t':=s.toks) (fun b o hb e=>eb b o hb e) f0 f1 f3 f4 f5⟩
 self:=fun _ _ _ _ _ st h=>wpAny_pyIter_listiter st h
theorem zfi{P:Program}{w:World}{K:PySem.W.Frag}{tg:Expr}(a it:Addr):Turn P w K tg (Itt K a) [it] it (fun i h=>h.IsTupleIter it a i) where
 mem:=by simp
 obj:=fun i h st b hb=>by
  have e:b=it:=by simpa using hb
  subst e
  obtain ⟨o,e,c,d⟩:=st
  exact ⟨o,e,fun v z=>by rw [d] at z;cases z⟩
 keep:=fun i h h' st k=>st.at fun o e=>k it [19] o e
 item:=by
  intro X hP hw hK hc i pins s σ H E I hf st hg
  subst hP hw hK
  obtain ⟨xs,x,hq,hx⟩:=hg
  obtain ⟨its,rv,p,hz⟩:=I.tuple hq
  obtain ⟨u,hu,ru⟩:=rv.get hx
  obtain ⟨f0,f1,f2,f3,f4,f5⟩:=hf it [19]
  refine wpAny_pyNext_tuple_item st (show s.heap.IsTuple a its.toArray from p) (x:=u) [291] fun h' st' sb=>?_
  have I1:Inv X pins σ H { s with heap:=h' }:=I.turned (t':=s.toks) (fun b o hb e=>(sb.2 b hb).trans e) f0 f1 f3 f4 f5
  obtain ⟨o,e,c,d⟩:=id st'
  exact ⟨u,rfl,zkx (s:={ s with heap:=h' }) e c d [10] ⟨x,H,I1,ru,⟨rfl,fun ys hy=>by rw [I.tuple_inj hy hq];exact hx⟩,st',fun b hb=>[152].1⟩⟩
 done:=by
  intro X hP hw hK hc i pins s σ H E I hf st hg
  subst hP hw hK
  obtain ⟨xs,hq,hx⟩:=hg
  obtain ⟨its,rv,p,hz⟩:=I.tuple hq
  obtain ⟨f0,f1,f2,f3,f4,f5⟩:=hf it [19]
  have hl:=rv.length
  exact wpAny_pyNext_tuple_end [105] st (show s.heap.IsTuple a its.toArray from p) (by simp;omega) fun h' eb=>⟨rfl,I.turned (t':=s.toks) (fun b o hb e=>eb b o hb e) f0 f1 f3 f4 f5⟩
 self:=fun _ _ _ _ _ st h=>wpAny_pyIter_tupleiter st h
theorem zfj{P:Program}{w:World}{K:PySem.W.Frag}{tg:Expr}(it:Addr)(lo:Int)(n:Nat):Turn P w K tg (Itr lo n) [it] it (fun i h=>IsRangeIter h it (lo+(i:Nat) * 1) ((n:Int) - (i:Nat)) 1) where
 mem:=by simp
 obj:=fun i h st b hb=>by
  have e:b=it:=by simpa using hb
  subst e
  exact ⟨_,st,fun v z=>by
   have z':Data.fields _=Data.cell v:=z
   cases z'⟩
 keep:=fun i h h' st k=>k it [19] _ st
 item:=by
  intro X hP hw hK hc i pins s σ H E I hf st hg
  subst hP hw hK
  obtain ⟨f0,f1,f2,f3,f4,f5⟩:=hf it [19]
  have W:=Walks.range (prog:=X.prog) (w:=X.w) [105] it lo 1 n
  refine W.item i s _ _ hg st fun v h' tk hv st' kk=>?_
  obtain ⟨t,rfl⟩:=hv
  have I1:Inv X pins σ H { s with heap:=h',toks:=tk }:=I.turned (fun b o hb e=>kk b o (by simpa using hb) e) f0 f1 f3 f4 f5
  refine ⟨_,rfl,zkx (s:={ s with heap:=h',toks:=tk }) (n:="range_iterator") st' rfl rfl [10] ⟨.int (lo+i),H,I1,⟨t,?_⟩,⟨rfl,rfl⟩,st',fun b hb=>[152].1⟩⟩
  rw [Int.mul_one]
 done:=by
  intro X hP hw hK hc i pins s σ H E I hf st hg
  subst hP hw hK
  obtain ⟨f0,f1,f2,f3,f4,f5⟩:=hf it [19]
  exact wpAny_pyNext_range_end [105] st (by have:n≤i:=hg;omega) fun h' eb=>⟨rfl,I.turned (t':=s.toks) (fun b o hb e=>eb b o hb e) f0 f1 f3 f4 f5⟩
 self:=fun _ _ _ _ _ st h=>wpAny_pyIter_rangeiter st h
section
variable {X:Cx} {tg:Expr}
noncomputable def zoZ(K:PySem.W.Frag)(tl:TE):TI:=fun σ H R=>tl σ H fun x H1=>∃ a,x=.ref a/\(∃ xs,SqL K H1 a xs)/\R (Itl K a) H1
noncomputable def zqg(K:PySem.W.Frag)(tl:TE):TI:=fun σ H R=>tl σ H fun x H1=>∃ a,x=.ref a/\(∃ xs,SqT K H1 a xs)/\R (Itt K a) H1
theorem zlH{l:Expr}{tl:TE}(hl:PE X l tl):PI X tg l (zoZ X.K tl):=by
 intro pins s σ H R I h
 refine thn (hl pins s σ H _ I h) fun v s1 ⟨x,H1,I1,r1,q1⟩=>?_
 obtain ⟨a,e,⟨xs,hq⟩,q⟩:=q1
 subst e
 cases r1
 obtain ⟨its,rv,p,hz⟩:=I1.list hq
 refine wpAny_pyIter_list p.isList ?_
 refine ⟨s1.heap.objs.size,[s1.heap.objs.size],_,_,H1,rfl,I1.kept (t':=s1.toks) fun b o e=>Jd _ e,zhB a _,⟨_,Jp _ rfl,rfl,rfl⟩,fun b hb=>?_,q⟩
 have e:b=s1.heap.objs.size:=by simpa using hb
 subst e
 exact I1.fpOk (Jm _) [261]
theorem zno{l:Expr}{tl:TE}(hl:PE X l tl):PI X tg l (zqg X.K tl):=by
 intro pins s σ H R I h
 refine thn (hl pins s σ H _ I h) fun v s1 ⟨x,H1,I1,r1,q1⟩=>?_
 obtain ⟨a,e,⟨xs,hq⟩,q⟩:=q1
 subst e
 cases r1
 obtain ⟨its,rv,p,hz⟩:=I1.tuple hq
 refine wpAny_pyIter_tuple (show s1.heap.IsTuple a its.toArray from p) ?_
 refine ⟨s1.heap.objs.size,[s1.heap.objs.size],_,_,H1,rfl,I1.kept (t':=s1.toks) fun b o e=>Jd _ e,zfi a _,⟨_,Jp _ rfl,rfl,rfl⟩,fun b hb=>?_,q⟩
 have e:b=s1.heap.objs.size:=by simpa using hb
 subst e
 exact I1.fpOk (Jm _) [261]
theorem zjo{pins:List [24]}{σ:St}{H:Hp}{s:Shared}{R:It->Hp->Prop}{E:Value->Shared->Prop}{lo hi:Int}{t u v:Tok}{tk:Nat}(I:Inv X pins σ H s)(h1 : -(2 ^ 62)≤lo)(h2:lo<2 ^ 62)(h3 : -(2 ^ 62)≤hi)(h4:hi<2 ^ 62)
  (q:R (Itr lo (hi - lo).toNat) H):wpAny [21] X.A (pyIter [64]) (PIE X pins σ tg R) E { s with heap:=s.heap.push { cls:=.type "range",data:=.fields #[.int lo t,.int hi u,.int 1 v] },toks:=tk }:=by
 refine wpAny_pyIter_range (IsRange.new ..) (small_one h1 h2 h3 h4) ?_
 have I1:Inv X pins σ H { s with heap:=s.heap.push { cls:=.type "range",data:=.fields #[.int lo t,.int hi u,.int 1 v] },toks:=tk }:=I.kept fun b o e=>Heap.get?_push_of_some _ e
 refine ⟨[99].objs.size,[[99].objs.size],_,_,H,rfl,
  I1.kept (t':=tk) fun b o e=>Jd _ e,zfj _ lo (hi - lo).toNat,?_,fun b hb=>?_,q⟩
 ·have e1:lo+((0:Nat):Int) * 1=lo:=by simp
  have e2:(((hi - lo).toNat:Nat):Int) - ((0:Nat):Int)=Builtin.Range.rangeSize lo hi 1:=by rw [rangeSize_one];split<;>omega
  show IsRangeIter _ _ (lo+((0:Nat):Int) * 1) ((((hi - lo).toNat:Nat):Int) - ((0:Nat):Int)) 1
  rw [e1,e2]
  exact Jp _ rfl
 ·have e:b=[99].objs.size:=by simpa using hb
  subst e
  exact I1.fpOk (Jm _) [261]
noncomputable def zoY(ta:TA):TI:=fun σ H R=>ta σ H fun vs H1=>∃ j:Int,vs=[.int j]/\-(2 ^ 62)≤j/\j<2 ^ 62/\R (Itr 0 j.toNat) H1
theorem zhN{a:Expr}{ta:TA}{p pos:Pos}(hg:Gl X "range")(hm:X.mg "range"=none)(ha:PA X [a] ta)(hs:starEach [a] X.env=[[124]]:=by rfl):PI X tg (.Call (.Name "range" p) [a] [] pos) (zoY ta):=by
 intro pins s σ H R I h
 refine Call_ (uJ I hg hm boot_range (JY [55] hs rfl))
 obtain ⟨j,e,q1,q2,q⟩:=q1
 subst e
 cases r1 with
 | cons r rr=>
  cases rr
  obtain ⟨t,rfl⟩:=r
  exact call_range_1 (zjo I1 [12] [12] q1 q2 (by simpa using q))
noncomputable def zpS(wi:TI)(g:TG)(tb:TS):TS:=fun D σ H=>wi σ H fun J H1=>∃ W:Nat->Nat->St->Hp->Prop,(∃ m,W 0 m σ H1)/\∀ i m σ H,W i m σ H->
 (J.stop i H/\D.nx σ H)∨(J.go i H/\∃ N:St->Hp->Prop,(∀ σ' H',N σ' H'->∃ m',m'<m/\W (i+1) m' σ' H')/\∀ x H',J.yld i H x H'->g x σ H' fun σ2 H2=>tb { D with nx:=N,ct:=N,bk:=D.nx } σ2 H2)
noncomputable def zaZ(fp:List Addr)(h:Heap):List [24]:=fp.filterMap fun b=>(h.get? b).map fun o=>(b,o)
theorem uo{fp:List Addr}{h:Heap}{b:Addr}{o:Obj}(hb:b ∈ fp)(e:h.get? b=some o):(b,o) ∈ zaZ fp h:=List.mem_filterMap.mpr ⟨b,hb,by rw [e];rfl⟩
theorem zhV{fp:List Addr}{h:Heap}{p:Addr × Obj}(hp:p ∈ zaZ fp h):p.1 ∈ fp/\h.get? p.1=some p.2:=by
 obtain ⟨b,hb,e⟩:=List.mem_filterMap.mp hp
 cases q:h.get? b with
 | none=>rw [q] at e;cases e
 | some o=>
  rw [q] at e
  have e':(b,o)=p:=Jq e
  subst e'
  exact ⟨hb,q⟩
theorem Inv.pinned{pins:List [24]}{σ:St}{H:Hp}{s:Shared}{fp:List Addr}(I:Inv X pins σ H s)(hf:∀ b ∈ fp,jy X pins H b)(ho:∀ b ∈ fp,∃ o,s.heap.get? b=some o/\∀ v,o.data≠.cell v):Inv X (pins++zaZ fp s.heap) σ H s:=
 I.pins_of fun p hp=>(JB.mp hp).elim (fun z=>I.pin p (Jr _ z)) fun z=>by
  obtain ⟨hb,e⟩:=zhV z
  obtain ⟨f0,f1,f2,_⟩:=hf p.1 hb
  obtain ⟨o,e',d⟩:=ho p.1 hb
  rw [e] at e';cases e'
  exact ⟨e,f0,f1,f2,d⟩
theorem Inv.unpinned{pins pl:List [24]}{σ:St}{H:Hp}{s:Shared}(I:Inv X (pins++pl) σ H s):Inv X pins σ H s:=I.pins_of fun p hp=>I.pin p (Jr _ (Jj _ hp))
theorem znm{iter:Expr}{body:List Stmt}{wi:TI}{g:TG}{tb:TS}{pos:Pos}(hp:PassesOwn [21] X.A X.env X.xe)(hc:X.calm=true)(hi:PI X tg iter wi)(hg:PG X tg g)(hb:PSs X body tb)
  (hs:∀ x,foldedSetIterable iter X.env x=pure x:=by intro _;rfl):PS X (.For tg iter body [] pos) (zpS wi g tb):=by
 intro pins s σ H D I h
 refine wpAny_For [123] hs
 obtain ⟨it,fp,tn,J,H2,e,I2,T,st2,f2,W,⟨m0,w0⟩,turn⟩:=h2
 subst e
 -- what stays true of the iterator's objects through the loop
 have stat:∀ {H':Hp},(∀ b ∈ fp,H' b=none)->∀ b ∈ fp,jy X pins H' b:=fun hn b hb=>⟨hn b hb,(f2 b hb).2⟩
 refine codeAny_forLoop_any (fun n s'=>∃ i σ' H',Inv X pins σ' H' s'/\tn i s'.heap/\[287]/\W i n σ' H') ?_ m0 ⟨0,σ,H2,I2,st2,fun b hb=>(f2 b hb).1,w0⟩
 rintro n s3 ⟨i,σ3,H3,I3,st3,fr3,w3⟩
 rcases turn i n σ3 H3 w3 with ⟨stop,qn⟩ | ⟨go,N,hN,step⟩
 ·refine wpAny_passesOwn hp (thn (T.done X rfl rfl rfl hc i pins s3 σ3 H3 X.xe I3 (stat fr3) st3 stop) fun r s4 ⟨hr,I4⟩=>?_)
  subst hr
  exact wpAny_execs_nil ⟨σ3,H3,I4,qn⟩
 ·refine wpAny_passesOwn hp (thn (T.item X rfl rfl rfl hc i pins s3 σ3 H3 X.xe I3 (stat fr3) st3 go) fun r s4 ⟨u,hr,h4⟩=>?_)
  subst hr
  refine wpAny_passesOwn hp (thn h4 fun _ s5 hq_=>?_)
  obtain ⟨x,H5,I5,r5,y5,st5,fr5⟩:=hq_
  have I5':=I5.pinned (stat fr5) (T.obj _ _ st5)
  refine wpAny_passesOwn hp (thn (hg _ s5 σ3 H5 x u _ I5' r5 (step x H5 y5)) fun _ s6 hq_=>?_)
  obtain ⟨σ6,H6,I6,q6⟩:=hq_
  refine wpAny_passesOwn hp (thn (hb _ s6 σ6 H6 _ I6 q6) fun f s7 q7=>?_)
  have again:∀ {σ7:St} {H7:Hp},Inv X (pins++zaZ fp s5.heap) σ7 H7 s7->N σ7 H7->∃ m,m<n/\∃ i σ' H',Inv X pins σ' H' s7/\tn i s7.heap/\[287]/\W i m σ' H':=fun {σ7 H7} I7 n7=>by
   obtain ⟨m',hm,w7⟩:=hN σ7 H7 n7
   refine ⟨m',hm,i+1,σ7,H7,I7.unpinned,T.keep _ _ _ st5 fun b hb o e=>(I7.pin (b,o) [300]).1,fun b hb=>?_,w7⟩
   obtain ⟨o,e,d⟩:=T.obj _ _ st5 b hb
   exact (I7.pin (b,o) [300]).2.1
  cases f with
  | next=>obtain ⟨σ7,H7,I7,n7⟩:=q7;exact again I7 n7
  | cont=>obtain ⟨σ7,H7,I7,n7⟩:=q7;exact again I7 n7
  | brk=>obtain ⟨σ7,H7,I7,q7⟩:=q7;exact ⟨σ7,H7,I7.unpinned,q7⟩
  | ret v=>obtain ⟨x7,σ7,H7,I7,r7,q7⟩:=q7;exact ⟨x7,σ7,H7,I7.unpinned,r7,q7⟩
end
noncomputable abbrev R2:=V->V->Hp->VK->Prop
noncomputable def OpR(X:Cx)(f:Value->Value->Sem Value)(r:R2):Prop:=
 ∀ (pins:List [24]) (s:Shared) (σ:St) (H:Hp) (x y:V) (v u:Value) (Q:VK),Inv X pins σ H s->RelV x v->RelV y u->r x y H Q->
  wpAny [21] X.A (f v u) [144] X.xe s
noncomputable def UnR(X:Cx)(f:Value->Sem Value)(r:V->Hp->VK->Prop):Prop:=
 ∀ (pins:List [24]) (s:Shared) (σ:St) (H:Hp) (x:V) (v:Value) (Q:VK),Inv X pins σ H s->RelV x v->r x H Q->
  wpAny [21] X.A (f v) [144] X.xe s
noncomputable def CallR(X:Cx)(f:Value)(r:List V->Hp->VK->Prop):Prop:=
 ∀ (pins:List [24]) (s:Shared) (σ:St) (H:Hp) (xs:List V) (us:List Value) (Q:VK),Inv X pins σ H s->Vals xs us->r xs H Q->
  wpAny [21] X.A (call f us) [144] X.xe s
noncomputable def zqt(X:Cx)(r:V->Hp->(Bool->Hp->Prop)->Prop):Prop:=
 ∀ (pins:List [24]) (s:Shared) (σ:St) (H:Hp) (x:V) (v:Value) (Q:Bool->Hp->Prop),Inv X pins σ H s->RelV x v->r x H Q->
  wpAny [21] X.A (truthy v) (TP X pins σ Q) X.xe s
noncomputable def tOp(r:R2)(ta tb:TE):TE:=fun σ H Q=>ta σ H fun x H1=>tb σ H1 fun y H2=>r x y H2 Q
noncomputable def tUn(r:V->Hp->VK->Prop)(ta:TE):TE:=fun σ H Q=>ta σ H fun x H1=>r x H1 Q
noncomputable def rI(C:Int->Int->Prop)(g:Int->Int->V):R2:=fun x y H Q=>∃ i j,x=.int i/\y=.int j/\C i j/\Q (g i j) H
noncomputable def rI0(g:Int->Int->V):R2:=fun x y H Q=>∃ i j,x=.int i/\y=.int j/\Q (g i j) H
noncomputable def rU(g:Int->V):V->Hp->VK->Prop:=fun x H Q=>∃ i,x=.int i/\Q (g i) H
section
variable {X:Cx} {a b c:Expr} {ta tb tc:TE} {pos:Pos}
theorem zoe(ha:PE X a ta)(hb:PE X b tb){pins:List [24]}{s:Shared}{σ:St}{H:Hp}{R:V->V->Hp->Prop}(I:Inv X pins σ H s)
  (h:ta σ H fun x H1=>tb σ H1 fun y H2=>R x y H2){Q:Value->Shared->Prop}{f:Value->Value->Sem Value}
  (hf:∀ v u s2 x y H2,Inv X pins σ H2 s2->RelV x v->RelV y u->R x y H2->wpAny [21] X.A (f v u) Q X.xe s2):
  wpAny [21] X.A (eval a X.env) (fun v s₁=>wpAny [21] X.A (eval b X.env) (fun u s₂=>wpAny [21] X.A (f v u) Q X.xe s₂) X.xe s₁) X.xe s:=by
 refine thn [95] fun v s1 ⟨x,H1,I1,r1,q1⟩=>?_
 refine thn (hb pins s1 σ H1 _ I1 q1) fun u s2 ⟨y,H2,I2,r2,q2⟩=>?_
 exact hf v u s2 x y H2 I2 r1 r2 q2
theorem zoJ{op:Operator}{r:R2}(ho:OpR X (binaryOp op) r)(ha:PE X a ta)(hb:PE X b tb):PE X (.BinOp a op b pos) (tOp r ta tb):=by
 intro pins s σ H Q I h
 exact wpAny_BinOp (zoe ha hb I h fun v u s2 x y H2 I2 rx ry q=>ho pins s2 σ H2 x y v u Q I2 rx ry q)
theorem zoI{op:UnaryOp}{r:V->Hp->VK->Prop}(ho:UnR X (unaryOp op) r)(ha:PE X a ta):PE X (.UnaryOp op a pos) (tUn r ta):=by
 intro pins s σ H Q I h
 exact UnaryOp_ (thn [95] fun v s1 ⟨x,H1,I1,r1,q1⟩=>ho pins s1 σ H1 x v Q I1 r1 q1)
theorem opI{f:Value->Value->Sem Value}{C:Int->Int->Prop}{g:Int->Int->Int}
  (rule:∀ (i j:Int) (t u:Tok) (s:Shared) (Q:Value->Shared->Prop) (E:Value->Shared->Prop),C i j->Q (.int (g i j) s.toks) { s with toks:=s.toks+1 }->wpAny [21] X.A (f (.int i t) (.int j u)) Q E s):
  OpR X f (rI C fun i j=>.int (g i j)):=by
 intro pins s σ H x y v u Q I rx ry h
 obtain ⟨i,j,rfl,rfl,hc,q⟩:=h
 obtain ⟨t,rfl⟩:=rx
 obtain ⟨t',rfl⟩:=ry
 exact rule i j t t' s _ _ hc ⟨.int (g i j),H,I.tok _,⟨_,rfl⟩,q⟩
theorem zoQ{f:Value->Value->Sem Value}{g:Int->Int->Int}
  (rule:∀ (i j:Int) (t u:Tok) (s:Shared) (Q:Value->Shared->Prop) (E:Value->Shared->Prop),Q (.int (g i j) s.toks) { s with toks:=s.toks+1 }->wpAny [21] X.A (f (.int i t) (.int j u)) Q E s):
  OpR X f (rI0 fun i j=>.int (g i j)):=by
 intro pins s σ H x y v u Q I rx ry h
 obtain ⟨i,j,rfl,rfl,q⟩:=h
 obtain ⟨t,rfl⟩:=rx
 obtain ⟨t',rfl⟩:=ry
 exact rule i j t t' s _ _ ⟨.int (g i j),H,I.tok _,⟨_,rfl⟩,q⟩
theorem zlR{f:Value->Value->Sem Value}{g:Int->Int->Bool}
  (rule:∀ (i j:Int) (t u:Tok) (s:Shared) (Q:Value->Shared->Prop) (E:Value->Shared->Prop),Q (.bool (g i j)) s->wpAny [21] X.A (f (.int i t) (.int j u)) Q E s):
  OpR X f (rI0 fun i j=>.bl (g i j)):=by
 intro pins s σ H x y v u Q I rx ry h
 obtain ⟨i,j,rfl,rfl,q⟩:=h
 obtain ⟨t,rfl⟩:=rx
 obtain ⟨t',rfl⟩:=ry
 exact rule i j t t' s _ _ ⟨.bl (g i j),H,I,rfl,q⟩
noncomputable def zpx(i j:Int):Prop:=0<j/\j<1073741824
noncomputable def zqK(i j:Int):Prop:=(-(2 ^ 64)<i/\i<2 ^ 64)∨(-(2 ^ 64)<j/\j<2 ^ 64)
theorem op_add:OpR X [322] (rI0 fun i j=>.int (i+j)):=zoQ fun _ _ _ _ _ _ _ q=>add_int q
theorem xU:OpR X (binaryOp .Sub) (rI0 fun i j=>.int (i - j)):=zoQ fun _ _ _ _ _ _ _ q=>sub_int q
theorem wm:OpR X (binaryOp .FloorDiv) (rI zpx fun i j=>.int (i / j)):=opI fun i j _ _ _ _ _ hc q=>by
 have h1:(0:Int)<j:=hc.1
 have h2:j<1073741824:=hc.2
 exact floordiv_int [12] (by rw [Int.fdiv_eq_ediv_of_nonneg i [12]];exact q) (.inl (PyProof.noPylong_small [12]))
theorem yo:OpR X (binaryOp .Mod) (rI (fun _ j=>0<j) fun i j=>.int (i % j)):=opI fun i j _ _ _ _ _ hc q=>by
 have h1:(0:Int)<j:=hc
 exact mod_int' [12] (by rw [Int.fmod_eq_emod_of_nonneg i [12]];exact q)
theorem unI{f:Value->Sem Value}{g:Int->Int}
  (rule:∀ (i:Int) (t:Tok) (s:Shared) (Q:Value->Shared->Prop) (E:Value->Shared->Prop),Q (.int (g i) s.toks) { s with toks:=s.toks+1 }->wpAny [21] X.A (f (.int i t)) Q E s):
  UnR X f (rU fun i=>.int (g i)):=by
 intro pins s σ H x v Q I rx h
 obtain ⟨i,rfl,q⟩:=h
 obtain ⟨t,rfl⟩:=rx
 exact rule i t s _ _ ⟨.int (g i),H,I.tok _,⟨_,rfl⟩,q⟩
theorem jH:UnR X (unaryOp .USub) (rU fun i=>.int (-i)):=unI fun _ _ _ _ _ q=>neg_int q
theorem zkC{pins:List [24]}{σ:St}{H:Hp}{s:Shared}{Q:VK}{k k':Bool}(I:Inv X pins σ H s)(q:Q (.bl k) H)(e:k=k'):EP X pins σ Q (.bool k') s:=by
 subst e
 exact ⟨.bl k,H,I,rfl,q⟩
theorem zjN:OpR X (compareOp .Lt) (rI0 fun i j=>.bl (decide (i<j))):=zlR fun _ _ _ _ _ _ _ q=>lt_int q
theorem zmH:OpR X (compareOp .LtE) (rI0 fun i j=>.bl (decide (i≤j))):=zlR fun _ _ _ _ _ _ _ q=>le_int q
theorem q5:OpR X (compareOp .Gt) (rI0 fun i j=>.bl (decide (j<i))):=zlR fun _ _ _ _ _ _ _ q=>gt_int q
theorem zoP:OpR X (compareOp .GtE) (rI0 fun i j=>.bl (decide (j≤i))):=zlR fun _ _ _ _ _ _ _ q=>ge_int q
theorem zjO:OpR X (compareOp .Is) (fun x y H Q=>y=.non/\Q (.bl (decide (x=.non))) H):=by
 intro pins s σ H x y v u Q I rx ry h
 obtain ⟨rfl,q⟩:=h
 cases ry
 refine is_none_gen (zkC I q ?_)
 cases x<;>first
  | (cases rx;rfl)
  | (obtain ⟨t,rfl⟩:=rx;rfl)
theorem zgH:OpR X (compareOp .IsNot) (fun x y H Q=>y=.non/\Q (.bl (!decide (x=.non))) H):=by
 intro pins s σ H x y v u Q I rx ry h
 obtain ⟨rfl,q⟩:=h
 cases ry
 refine isnot_none_gen (zkC I q ?_)
 cases x<;>first
  | (cases rx;rfl)
  | (obtain ⟨t,rfl⟩:=rx;rfl)
theorem OpR.or{f:Value->Value->Sem Value}{r r':R2}(h:OpR X f r)(h':OpR X f r'):OpR X f (fun x y H Q=>r x y H Q∨r' x y H Q):=by
 intro pins s σ H x y v u Q I rx ry q
 rcases q with q | q
 ·exact h pins s σ H x y v u Q I rx ry q
 ·exact h' pins s σ H x y v u Q I rx ry q
theorem zt(b:Expr){op:CmpOp}(h:op≠.In:=by decide)(h2:op≠.NotIn:=by decide):behindInMarks op b=false:=by
 have e1:(op == CmpOp.In)=false:=by cases op<;>first | rfl | exact absurd rfl h
 have e2:(op == CmpOp.NotIn)=false:=by cases op<;>first | rfl | exact absurd rfl h2
 cases b<;>simp [behindInMarks,e1,e2]
theorem zlN{op:CmpOp}{r:R2}(ho:OpR X (compareOp op) r)(ha:PE X a ta)(hb:PE X b tb)(hm:behindInMarks op b=false):PE X [276] (tOp r ta tb):=by
 intro pins s σ H Q I h
 exact wpAny_Compare1 (zoe ha hb I h fun v u s2 x y H2 I2 rx ry q=>ho pins s2 σ H2 x y v u Q I2 rx ry q) hm
noncomputable def zmy(t:TE):TT:=fun σ H Q=>t σ H fun x H'=>∃ k,x=.bl k/\Q k H'
theorem zlB{op:CmpOp}{r:R2}(ho:OpR X (compareOp op) r)(ha:PE X a ta)(hb:PE X b tb)(hm:behindInMarks op b=false):PT X [276] (zmy (tOp r ta tb)):=by
 intro pins s σ H Q I h
 refine wpAny_isTrue_Compare1 (thn [95] fun v s1 ⟨x,H1,I1,r1,q1⟩=>thn (hb pins s1 σ H1 _ I1 q1) fun u s2 ⟨y,H2,I2,r2,q2⟩=>
  thn (ho pins s2 σ H2 x y v u _ I2 r1 r2 q2) fun c s3 ⟨z,H3,I3,r3,k,e,q3⟩=>?_) hm
 subst e
 cases r3
 exact wpAny_truthy_bool ⟨H3,I3,q3⟩
noncomputable def ziX(r r':R2)(ta tb tc:TE):TE:=fun σ H Q=>ta σ H fun x H1=>tb σ H1 fun y H2=>r x y H2 fun z H3=>∃ k,z=.bl k/\
 (if k=true then tc σ H3 fun w' H4=>r' y w' H4 Q else Q [218] H3)
theorem zjH{op op':CmpOp}{r r':R2}(ho:OpR X (compareOp op) r)(ho':OpR X (compareOp op') r')(ha:PE X a ta)(hb:PE X b tb)(hc:PE X c tc)
  (hm:lastMarks [op,op'] [b,c]=false:=by with_unfolding_all rfl):PE X (.Compare a [op,op'] [b,c] pos) (ziX r r' ta tb tc):=by
 intro pins s σ H Q I h
 refine Compare_chain (thn [95] fun v s1 ⟨x,H1,I1,r1,q1⟩=>chain_link (thn (hb pins s1 σ H1 _ I1 q1) fun u s2 ⟨y,H2,I2,r2,q2⟩=>
  thn (ho pins s2 σ H2 x y v u _ I2 r1 r2 q2) fun d s3 ⟨z,H3,I3,r3,k,e,q3⟩=>?_)) hm
 subst e
 cases r3
 refine wpAny_truthy_bool ?_
 cases k with
 | false=>exact ite_ff ⟨.bl false,H3,I3,rfl,q3⟩
 | true=>exact ite_tt (chain_last (thn (hc pins s3 σ H3 _ I3 q3) fun w' s4 ⟨z',H4,I4,r4,q4⟩=>ho' pins s4 σ H4 y z' u w' Q I4 r2 r4 q4))
noncomputable def zpt(K:PySem.W.Frag)(x:V)(H:Hp)(k:Bool):Prop:=
 match x with
 | .non=>k=false
 | .bl b=>k=b
 | .int i=>k=(i != 0)
 | .str y=>y.length≤sizeLine/\k=((y.length:Int) != 0)
 | .byt y=>y.size≤sizeLine/\k=((y.size:Int) != 0)
 | .ref p=>(∃ xs,SqL K H p xs/\k=!xs.isEmpty)∨(∃ xs,SqT K H p xs/\k=!xs.isEmpty)∨∃ kvs,H p=some [94]/\k=!kvs.isEmpty
 | _=>False
theorem zfO{κ:Type}{kvs:List [292]}{vs:List (κ × Value)}(r:KV kvs vs):(!vs.isEmpty)=!kvs.isEmpty:=by
 cases r<;>rfl
theorem zbx{xs:List V}{its:List Value}(r:Vals xs its):(!its.toArray.isEmpty)=!xs.isEmpty:=by
 cases r<;>simp
theorem kN:(sizeLine:Nat)<2 ^ 63:=by rw [sizeLine_eq];decide
theorem zmU:zqt X (fun x H Q=>∃ k,zpt X.K x H k/\Q k H):=by
 intro pins s σ H x v Q I rx h
 obtain ⟨k,e,q⟩:=h
 have hl:=kN
 have hs:sizeLine=16777216:=sizeLine_eq
 cases x with
 | non=>
  cases rx
  have e':k=false:=e
  subst e'
  exact truthy_none ⟨H,I,q⟩
 | bl b=>
  cases rx
  have e':k=b:=e
  subst e'
  exact wpAny_truthy_bool ⟨H,I,q⟩
 | int i=>
  obtain ⟨t,rfl⟩:=rx
  have e':k=(i != 0):=e
  subst e'
  exact PySem.P.truthy_int ⟨H,I,q⟩
 | str y=>
  obtain ⟨t,rfl⟩:=rx
  obtain ⟨hy,e'⟩:y.length≤sizeLine/\k=((y.length:Int) != 0):=e
  subst e'
  exact PySem.P.truthy_str [12] ⟨H,I.tok _,q⟩
 | byt y=>
  obtain ⟨t,rfl⟩:=rx
  obtain ⟨hy,e'⟩:y.size≤sizeLine/\k=((y.size:Int) != 0):=e
  subst e'
  exact PySem.W.truthy_bytes [12] ⟨H,I.tok _,q⟩
 | ref p=>
  cases rx
  have e':(∃ xs,SqL X.K H p xs/\k=!xs.isEmpty)∨(∃ xs,SqT X.K H p xs/\k=!xs.isEmpty)∨∃ kvs,H p=some [94]/\k=!kvs.isEmpty:=e
  rcases e' with ⟨xs,hx,e'⟩ | ⟨xs,hx,e'⟩ | ⟨kvs,hx,e'⟩
  ·subst e'
   obtain ⟨its,r,pl,hz⟩:=I.list hx
   have hlen:=r.length
   exact wpAny_truthy_list pl.isList (by simp only [List.size_toArray];omega) ⟨H,I.tok _,by rw [zbx r];exact q⟩
  ·subst e'
   obtain ⟨its,r,pl,hz⟩:=I.tuple hx
   have hlen:=r.length
   exact truthy_tuple pl (by simp only [List.size_toArray];omega) ⟨H,I.tok _,by rw [zbx r];exact q⟩
  ·subst e'
   obtain ⟨hz,hS,vs,r,m⟩:kvs.length≤sizeLine/\(p == sysModules)=false/\∃ vs,KV kvs vs/\s.heap.DictOf [323] p vs:=I.hok p _ hx
   have hlen:kvs.length=vs.length:=Paired.length r
   exact wpAny_truthy_dict hS m [12] ⟨H,I.tok _,by rw [zfO r];exact q⟩
 | _=>exact (show False from e).elim
theorem zjt(ha:PE X a ta)(he:∀ whole,isTrue a X.env whole=(do let v ← whole;standAt a.pos;holding [v] (truthy v))):
  PT X a (fun σ H Q=>ta σ H fun x H'=>∃ k,zpt X.K x H' k/\Q k H'):=by
 intro pins s σ H Q I h
 exact isTrue_plain (thn [95] fun v s1 ⟨x,H1,I1,r1,q1⟩=>zmU pins s1 σ H1 x v Q I1 r1 q1) (he _)
theorem zfC:OpR X [322] (fun x y H Q=>∃ i j,x=.str i/\y=.str j/\i.length+j.length≤sizeLine/\Q (.str (i++j)) H):=by
 intro pins s σ H x y v u Q I rx ry h
 obtain ⟨i,j,rfl,rfl,hz,q⟩:=h
 obtain ⟨t,rfl⟩:=rx
 obtain ⟨t',rfl⟩:=ry
 exact add_str (fun t' tk=>⟨.str (i++j),H,I.tok _,⟨_,rfl⟩,q⟩) hz
theorem kf{x:V}{us:List Value}(r:Vals [x] us):∃ u,us=[u]/\RelV x u:=by
 cases r with
 | cons r1 r2=>cases r2;exact ⟨_,rfl,r1⟩
theorem zgs{x y:V}{us:List Value}(r:Vals [x,y] us):∃ u w',us=[u,w']/\RelV x u/\RelV y w':=by
 cases r with
 | cons r1 r2=>
  cases r2 with
  | cons r3 r4=>cases r4;exact ⟨_,_,rfl,r1,r3⟩
theorem zkQ:CallR X (.builtin "abs") (fun xs H Q=>∃ i,xs=[.int i]/\Q (.int (if i<0 then -i else i)) H):=by
 intro pins s σ H xs us Q I r h
 obtain ⟨i,rfl,q⟩:=h
 obtain ⟨u,rfl,t,rfl⟩:=kf r
 exact call_abs_int fun u tk=>⟨.int (if i<0 then -i else i),H,I.tok _,⟨_,rfl⟩,q⟩
theorem ziz(hc:X.calm=true):CallR X (.builtin "max") (fun xs H Q=>∃ i j,xs=[.int i,.int j]/\Q (.int (if j > i then j else i)) H):=by
 intro pins s σ H xs us Q I r h
 obtain ⟨i,j,rfl,q⟩:=h
 obtain ⟨u,w',rfl,⟨t,rfl⟩,⟨t',rfl⟩⟩:=zgs r
 refine max_two_ints [105] fun h' tk k=>⟨_,H,I.kept k,?_,q⟩
 by_cases hj:j > i
 ·rw [if_pos hj,if_pos hj];exact ⟨_,rfl⟩
 ·rw [if_neg hj,if_neg hj];exact ⟨_,rfl⟩
theorem zix(hc:X.calm=true):CallR X (.builtin "min") (fun xs H Q=>∃ i j,xs=[.int i,.int j]/\Q (.int (if j<i then j else i)) H):=by
 intro pins s σ H xs us Q I r h
 obtain ⟨i,j,rfl,q⟩:=h
 obtain ⟨u,w',rfl,⟨t,rfl⟩,⟨t',rfl⟩⟩:=zgs r
 refine min_two_ints [105] fun h' tk k=>⟨_,H,I.kept k,?_,q⟩
 by_cases hj:j<i
 ·rw [if_pos hj,if_pos hj];exact ⟨_,rfl⟩
 ·rw [if_neg hj,if_neg hj];exact ⟨_,rfl⟩
theorem ziA:CallR X (.type "int") (fun xs H Q=>(∃ i,xs=[.int i]/\Q [88] H)∨∃ k,xs=[.bl k]/\Q (.int (if k then 1 else 0)) H):=by
 intro pins s σ H xs us Q I r h
 rcases h with ⟨i,rfl,q⟩ | ⟨k,rfl,q⟩
 ·obtain ⟨u,rfl,t,rfl⟩:=kf r
  exact call_int_int ⟨.int i,H,I,⟨_,rfl⟩,q⟩
 ·obtain ⟨u,rfl,r1⟩:=kf r
  cases r1
  exact call_int_bool ⟨.int (if k then 1 else 0),H,I.tok _,⟨_,rfl⟩,q⟩
end
structure ObjM (h:Heap) (x dx C:Addr) (mA:Str->Option Value):Prop where
 obj:h.get? x=some (PySem.W.instObj C dx)
 ns:h.Ns1 dx mA
 ne:dx≠x
theorem RelO.some_of{v:V}{o:Option Value}(r:RelO (some v) o):∃ u,o=some u/\RelV v u:=by
 cases o with
 | none=>exact [293].elim
 | some u=>exact ⟨u,rfl,r⟩
structure Cls (K:PySem.W.Frag) (C:Addr):Prop where
 pg:PySem.W.plainGet K C Str.empty=true
 hd:PySem.W.hasDictIn K C=true
 po:PySem.W.plainOver K C=true
 sa:PySem.W.findIn K (.ref C) "__setattr__"=some (some (.builtin "object.__setattr__"))
structure Con (K:PySem.W.Frag) (C:Addr) (f:Str) (v:V) (u:Value):Prop where
 at_:PySem.W.findIn K (.ref C) f=some (some u)
 rel:RelV v u
 get:PySem.W.specialIn K u "__get__"=some none
 cp:PySem.W.copiedNames.contains f=false
structure Meth (K:PySem.W.Frag) (C:Addr) (m:Str) (f:Addr):Prop where
 at_:PySem.W.findIn K (.ref C) m=some (some [318])
 fn:PySem.W.isFn K [318]=true
 kp:PySem.W.keepIn K [318]=true
section
variable {X:Cx} {pins:List [24]} {σ:St} {H:Hp} {s:Shared} {A:Around} {E:Value->Shared->Prop} {Q:Value->Shared->Prop} {c:Value} {b:Bool}
inductive TyOf (K:PySem.W.Frag) (H:Hp):V->Value->Prop where
 | non:TyOf K H .non (.type "NoneType")
 | bl (x:Bool):TyOf K H (.bl x) (.type "bool")
 | int (i:Int):TyOf K H [88] (.type "int")
 | str (x:Str):TyOf K H (.str x) (.type "str")
 | flt (x:UInt64):TyOf K H (.flt x) (.type "float")
 | lst {a:Addr} {xs:List V} (e:H a=some [107]):TyOf K H [84] (.type "list")
 | frz {a:Addr} {o:Obj} {xs:List V} (e:H a=some (.frz o [107])):TyOf K H [84] (.type "list")
 | tup {a:Addr} {xs:List V} (e:H a=some (.tup xs)):TyOf K H [84] (.type "tuple")
 | dK {a:Addr} {kvs:List [149]} (e:H a=some [94]):TyOf K H [84] (.type "dict")
 | dT {a:Addr} {kvs:List [211]} (e:H a=some (.dT kvs)):TyOf K H [84] (.type "dict")
 | ins {a C dx:Addr} {fs:List (Str × V)} (e:H a=some (.ins C dx fs)) (cl:Cls K C) (ha:PySem.W.findIn K (.ref C) "__class__"=some (some (.builtin "object.__class__")))
   (hn:PySem.W.specialIn K (.builtin "object.__class__") "__get__"=some (some (.builtin "getset_descriptor.__get__"))) (htk:PySem.W.takesIn K (.builtin "object.__class__")=some true)
   (hm:PySem.W.mroIn K C (.type "object")=some true):TyOf K H [84] (.ref C)
end
structure Room (k:Nat) (A:Around):Prop where
 hd:A.handled=none
 dp:A.depth+3 * k+5<recursionLimit
 un:A.units+16 * k+200<cLine
theorem Room.mono{j k:Nat}{A:Around}(r:Room k A)(h:j≤k):Room j A:=⟨r.hd,by have:=r.dp;omega,by have:=r.un;omega⟩
theorem Room.deeper{k:Nat}{A:Around}(r:Room (k+1) A)(env:Env):Room k (A.deeper env):=
 ⟨r.hd,by have:=r.dp;show A.depth+1+3 * k+5<_;omega,by have:=r.un;show A.units+3+16 * k+200<_;omega⟩
theorem Room.depth{k:Nat}{A:Around}(r:Room k A):A.depth<recursionLimit:=by have:=r.dp;omega
theorem Room.units{k:Nat}{A:Around}(r:Room k A):A.units+64<cLine:=by have:=r.un;omega
noncomputable def zdX:TA:=fun _ H Q=>Q [] H
noncomputable def qw(ta:TE)(tr:TA):TA:=fun σ H Q=>ta σ H fun x H1=>tr σ H1 fun xs H2=>Q (x::xs) H2
section
variable {X:Cx} {e:Expr} {es:List Expr} {te:TE} {t:TA} {pos:Pos}
theorem pa_nil:PA X [] zdX:=fun _ _ _ _ H Q I h=>Calls.spliced_nil ⟨[],H,I,.nil,h⟩
theorem zy(ha:PE X e te)(hr:PA X es t)(hs:starEach (e::es) X.env=[54]::starEach es X.env:=by rfl):PA X (e::es) (qw te t):=by
 intro pos pins s σ H Q I h
 rw [hs]
 show wpAny _ _ (spliced ([54]::backTo pos (starEach es X.env))) _ _ s
 refine KB (thn [95] fun u s1 hq_=>?_)
 obtain ⟨x,H1,I1,r1,q1⟩:=hq_
 exact thn (hr pos pins s1 σ H1 _ I1 q1) fun us s2 ⟨xs,H2,I2,r2,q2⟩=>⟨x::xs,H2,I2,.cons r1 r2,q2⟩
noncomputable def zpM(t:TA):TE:=fun σ H Q=>t σ H fun xs H1=>xs.length≤sizeLine/\∀ p,H1 p=none->Q (.ref p) (upd H1 p (.tup xs))
noncomputable def zpQ(t:TA):TE:=fun σ H Q=>t σ H fun xs H1=>xs.length≤sizeLine/\∀ p,H1 p=none->Q (.ref p) (upd H1 p [107])
theorem zns{x1}(h:PA X es t):PE X (.Tuple es x1 pos) (zpM t):=by
 intro pins s σ H Q I hq
 refine wpAny_Tuple_spliced (thn (h pos pins s σ H _ I hq) fun us s1 ⟨xs,H1,I1,r,z,q⟩=>⟨by rw [← r.length];exact z,?_⟩)
 have hf:H1 s1.heap.objs.size=none:=I1.hok.fresh (Jm _)
 refine ⟨.ref s1.heap.objs.size,upd H1 s1.heap.objs.size (.tup xs),I1.laid (t':=s1.toks) (fun b u e=>Jd _ e) (Jm _) ?_,rfl,q _ hf⟩
 exact ⟨z,us,r,⟨_,Jp _ rfl,rfl,_,rfl⟩⟩
theorem znx(h:PA X es t):PE X (.List es pos) (zpQ t):=by
 intro pins s σ H Q I hq
 refine wpAny_List_spliced (thn (h pos pins s σ H _ I hq) fun us s1 ⟨xs,H1,I1,r,z,q⟩=>⟨by rw [← r.length];exact z,?_⟩)
 have hf:H1 s1.heap.objs.size=none:=I1.hok.fresh (Jm _)
 refine ⟨.ref s1.heap.objs.size,upd H1 s1.heap.objs.size [107],I1.laid (t':=s1.toks) (fun b u e=>Jd _ e) (Jm _) ?_,rfl,q _ hf⟩
 exact ⟨z,us,0,r,Jp _ rfl⟩
end
noncomputable abbrev Sp:=List V->Hp->VK->XK->Prop
noncomputable abbrev CXT:=List Env->Hp->Shared->XK->Value->Shared->Prop
structure Env0 (P:Program) (w:World) (K:PySem.W.Frag) (mg:Str->Option Value) (base:Heap) (A:Around) (outer:List Env) (s:Shared) (H:Hp):Prop where
 frames:A.frames=some outer
 mod:Mod K mg base
 bs:∀ b o,base.get? b=some o->s.heap.get? b=some o/\H b=none
 bsz:base.objs.size≤s.heap.objs.size
 funs:s.heap.FunFrames base outer
 frf:∀ b ∈ frs outer,H b=none
 hok:HOk P w H s.heap
 bare:AllBare s.gens
noncomputable def CE(outer:List Env)(P:Program)(w:World)(H:Hp)(s:Shared)(Q:VK)(u:Value)(s':Shared):Prop:=
 ∃ v H',s'.os=s.os/\AllBare s'.gens/\Un (frs outer) [] H H' s.heap s'.heap/\HOk P w H' s'.heap/\RelV v u/\Q v H'
noncomputable def CR(CX:CXT)(outer:List Env)(P:Program)(w:World)(H:Hp)(s:Shared)(Q:VK)(E:XK)(r:Result)(s':Shared):Prop:=
 match r with
 | .ok (.ret u)=>CE outer P w H s Q u s'
 | .ok _=>False
 | .error e=>CX outer H s E e s'
structure FnOk (P:Program) (w:World) (K:PySem.W.Frag) (mg:Str->Option Value) (base:Heap) (CX:CXT) (k:Nat) (f:Addr) (fd:FuncData) (ps:List Str) (sp:Sp):Prop where
 len:∀ vs H Q E,sp vs H Q E->vs.length=ps.length
 run:∀ (A:Around) (outer:List Env) (s:Shared) (H:Hp) (args:Args) (us:List Value) (vs:List V) (Q:VK) (E:XK),Room k A->Env0 P w K mg base A outer s H->BindsTo s fd args (ps.zip us)->Vals vs us->sp vs H Q E->
  codeAny (model P w) A (.call [318] args) (CR CX outer P w H s Q E) s
section
variable {X:Cx} {pins:List [24]} {σ:St} {H:Hp} {s s':Shared}
theorem Inv.env0(I:Inv X pins σ H s):Env0 X.prog X.w X.K X.mg X.base X.A X.stack s H:=
 ⟨I.ok.frames,I.ok.mod,I.bs,JN I.ok.bsz I.sz,I.stack,I.stkFree,I.hok,I.bare⟩
theorem Inv.after{Q:VK}{u:Value}(I:Inv X pins σ H s)(h:CE X.stack X.prog X.w H s Q u s'):EP X pins σ Q u s':=by
 obtain ⟨v,H',os,bare,un,hok,r,q⟩:=h
 obtain ⟨hh,g,d,t,os'⟩:=s'
 obtain rfl:os'=s.os:=os
 exact ⟨v,H',I.call (h':=hh) (g':=g) (d':=d) (t':=t) (ch:=[]) un hok bare (fun b z=>absurd z [19]),r,q⟩
end
noncomputable def zmB(sp:Sp)(dvs:List V)(E:XK)(t:TA):TE:=fun σ H Q=>t σ H fun vs H1=>sp (vs++dvs) H1 Q E
noncomputable def Binds(K:PySem.W.Frag)(fd:FuncData)(ps:List Str)(ds:List Value):Prop:=
 ∀ (s:Shared) (us:List Value),K.In s.heap->(us++ds).length=ps.length->BindsTo s fd ⟨us,[]⟩ (ps.zip (us++ds))
theorem Binds.all{K:PySem.W.Frag}{fd:FuncData}{ps:List Str}(h:∀ us:List Value,us.length=ps.length->bindArgs fd ⟨us,[]⟩=pure (ps.zip us)):Binds K fd ps []:=fun s us _ hl=>by
 rw [JO] at hl ⊢
 exact .of_eq (h us hl)
noncomputable def zgl(CX:CXT)(X:Cx)(E:XK):Prop:=∀ (pins:List [24]) (σ:St) (H:Hp) (s:Shared) (e:Value) (s':Shared),Inv X pins σ H s->CX X.stack H s E e s'->X.xe e s'
section
variable {X:Cx} {CX:CXT} {k:Nat} {f C:Addr} {fd:FuncData} {ps:List Str} {sp:Sp} {dvs:List V} {ds:List Value} {E:XK} {x m:Str} {p pos apos:Pos} {e o:Expr} {es:List Expr} {ta:TE} {t:TA}
theorem znc{pins:List [24]}{σ:St}{H:Hp}{s:Shared}{Q:VK}{us:List Value}{vs:List V}(F:FnOk X.prog X.w X.K X.mg X.base CX k f fd ps sp)(hr:Room k X.A)(hb:Binds X.K fd ps ds)(hd:Vals dvs ds)(hx:zgl CX X E)
  (I:Inv X pins σ H s)(r:Vals vs us)(h:sp (vs++dvs) H Q E):wpAny [21] X.A (call [318] us) [144] X.xe s:=by
 have r2:Vals (vs++dvs) (us++ds):=r.append hd
 have hl:(us++ds).length=ps.length:=by rw [← r2.length];exact F.len _ _ _ _ h
 refine wpAny_call (codeAny_mono (F.run X.A X.stack s H ⟨us,[]⟩ (us++ds) (vs++dvs) Q E hr I.env0 (hb s us I.kIn hl) r2 h) fun r s' hq=>?_)
 cases r with
 | error e=>exact hx pins σ H s e s' I hq
 | ok fl=>
  cases fl with
  | ret u=>exact I.after hq
  | next=>exact False.elim hq
  | brk=>exact False.elim hq
  | cont=>exact False.elim hq
theorem zlO(F:FnOk X.prog X.w X.K X.mg X.base CX k f fd ps sp)(hr:Room k X.A)(hg:Gl X x)(hm:X.mg x=some [318])(hk:PySem.W.keepIn X.K [318]=true)(hb:Binds X.K fd ps ds)(hd:Vals dvs ds)(hx:zgl CX X E)
  (ha:PA X (e::es) t)(hdb:[50]=false:=by decide)(he:starEach (e::es) X.env=[54]::starEach es X.env:=by rfl)(hpl:[72].any (·.1)=false:=by rfl):
  PE X [81] (zmB sp dvs E t):=by
 intro pins s σ H Q I h
 refine wpAny_Call_Name_kw (zgM I hg hm ?_ hdb)
 refine PySem.W.callWith_K (h₀:=X.base) I.ok.mod.kin hk (thn (ha pos pins s σ H _ I h) fun us s1 ⟨vs,H1,I1,r,q⟩=>⟨I1.kIn,?_⟩) he hpl
 exact znc F hr hb hd hx I1 r q
structure Mk (K:PySem.W.Frag) (C f:Addr):Prop where
 makes:PySem.W.makesIn K C=true
 init:PySem.W.findIn K (.ref C) "__init__"=some (some [318])
 fn:PySem.W.isFn K [318]=true
 kp:PySem.W.keepIn K (.ref C)=true
end
section
variable {X:Cx} {CX:CXT} {k:Nat} {f C:Addr} {fd:FuncData} {ps ks:List Str} {sp:Sp} {E:XK} {x m:Str} {p pos apos kpos:Pos} {e o:Expr} {es:List Expr} {kws:List Keyword} {te ta:TE} {t tk:TA} {nm:Option Str}
structure KBinds (K:PySem.W.Frag) (fd:FuncData) (ps ks:List Str) (g:List Value->List Value->List Value) (gV:List V->List V->List V):Prop where
 to:∀ (s:Shared) (us ws:List Value),K.In s.heap->(g us ws).length=ps.length->BindsTo s fd ⟨us,ks.zip ws⟩ (ps.zip (g us ws))
 rel:∀ {vs:List V} {us:List Value} {zs:List V} {ws:List Value},Vals vs us->Vals zs ws->Vals (gV vs zs) (g us ws)
variable {g:List Value->List Value->List Value} {gV:List V->List V->List V}
end
structure FnScope (N P:List Str) (sc:Scope):Prop where
 kind:sc.kind=.function
 co:sc.isCoroutine=false
 gen:sc.isGenerator=false
 nd:N.Nodup
 pre:N.take P.length=P
 par:∀ x ∈ P,sc.names.lookup x=some .local∨sc.names.lookup x=some .cell
 nofree:∀ y ∈ sc.names,y.2≠.free
theorem zcO{kindOf:Str->Option NameKind}{x:Str}:∀ {binds:List (Str × Value)} {m:Str->Option Value},(∀ v,(x,v) ∉ binds)->bindL kindOf binds m x=m x
 | [],_,_=>rfl
 | (n,v)::r,m,h=>by
  unfold bindL
  rw [zcO fun w hw=>h w (Jg _ hw)]
  split
  ·have:x≠n:=by rintro rfl;exact h v Jf
   simp [this]
  ·rfl
theorem zcQ{kindOf:Str->Option NameKind}{x:Str}:∀ {binds:List (Str × Value)} {m:Str->Option Value},(∀ v,(x,v) ∉ binds)->bindC kindOf binds m x=m x
 | [],_,_=>rfl
 | (n,v)::r,m,h=>by
  unfold bindC
  rw [zcQ fun w hw=>h w (Jg _ hw)]
  split
  ·rfl
  ·have:x≠n:=by rintro rfl;exact h v Jf
   simp [this]
theorem zcP{kindOf:Str->Option NameKind}{x:Str}{v:Value}:∀ {P:List Str} {vs:List Value} {i:Nat} {m:Str->Option Value},P.Nodup->P[i]?=some x->vs[i]?=some v->kindOf x=some .local->
  bindL kindOf (P.zip vs) m x=some v
 | [],_,_,_,_,h,_,_=>by simp at h
 | _::_,[],_,_,_,_,h,_=>by simp at h
 | p::P,w::vs,0,m,nd,h1,h2,hk=>by
  simp at h1 h2;subst h1;subst h2
  show bindL kindOf ((p,w)::P.zip vs) m p=_
  unfold bindL
  rw [zcO fun v hv=>(Jy.mp nd).1 (List.of_mem_zip hv).1,if_pos hk]
  simp
 | p::P,w::vs,i+1,m,nd,h1,h2,hk=>by
  show bindL kindOf ((p,w)::P.zip vs) m x=_
  unfold bindL
  exact zcP (i:=i) (List.nodup_cons.mp nd).2 (by simpa using h1) (by simpa using h2) hk
theorem zcR{kindOf:Str->Option NameKind}{x:Str}{v:Value}:∀ {P:List Str} {vs:List Value} {i:Nat} {m:Str->Option Value},P.Nodup->P[i]?=some x->vs[i]?=some v->kindOf x≠some .local->
  bindC kindOf (P.zip vs) m x=some v
 | [],_,_,_,_,h,_,_=>by simp at h
 | _::_,[],_,_,_,_,h,_=>by simp at h
 | p::P,w::vs,0,m,nd,h1,h2,hk=>by
  simp at h1 h2;subst h1;subst h2
  show bindC kindOf ((p,w)::P.zip vs) m p=_
  unfold bindC
  rw [zcQ fun v hv=>(Jy.mp nd).1 (List.of_mem_zip hv).1,if_neg hk]
  simp
 | p::P,w::vs,i+1,m,nd,h1,h2,hk=>by
  show bindC kindOf ((p,w)::P.zip vs) m x=_
  unfold bindC
  exact zcR (i:=i) (List.nodup_cons.mp nd).2 (by simpa using h1) (by simpa using h2) hk
noncomputable def start(N:List Str)(vs:List V):St:=vs.map some++List.replicate (N.length - vs.length) none
noncomputable def zfX(CX:CXT)(P:Program)(w:World)(K:PySem.W.Frag)(mg:Str->Option Value)(base:Heap)(N:List Str)(qual:Str)(scope:Scope)(f:Addr)(cd:Value)(A:Around)(outer:List Env)(s:Shared)(H:Hp)(E:XK):Cx where
 prog:=P
 w:=w
 K:=K
 mg:=mg
 base:=base
 A:=A.deeper [108]
 N:=N
 s₀:=s
 H₀:=H
 env:=envOfC qual scope s.heap.objs.size f cd
 outer:=outer
 stack:=envOfC qual scope s.heap.objs.size f cd::outer
 ex:=[]
 calm:=true
 fn:=fun _=>true
 pn:=[]
 xe:=fun e s'=>wpAny (model P w) (A.deeper [108]) (leaving [108] e) (fun _ s''=>CX outer H s E e s'') (fun e' s''=>CX outer H s E e' s'') s'
theorem zeX{sc:Scope}{n:Nat}{x:Str}(h:sc.names.lookup x=some .cell):∃ c,(cellsFrom n sc.names []).lookup x=some c:=by
 have q:=PySem.W.cellsFrom_some sc.names n [] (.inl h)
 exact Option.isSome_iff_exists.mp q
theorem zib{CX:CXT}{P:Program}{w:World}{K:PySem.W.Frag}{mg:Str->Option Value}{base:Heap}{N ps:List Str}{qual:Str}{scope:Scope}{f:Addr}{cd:Value}{A:Around}{outer:List Env}{s s1:Shared}{H:Hp}{E:XK}{us:List Value}{vs:List V}
  (S:FnScope N ps scope)(hd:A.handled=none)(e0:Env0 P w K mg base A outer s H)(hl:vs.length=ps.length)(r:Vals vs us)
  (x:InCallC s s.heap.objs.size (bindL [108].kindOf (ps.zip us) fun _=>none) (cellsFrom [181] scope.names []) (bindC [108].kindOf (ps.zip us) fun _=>none) s1):
  Inv (zfX CX P w K mg base N qual scope f cd A outer s H E) [] (start N vs) H s1:=by
 have hpl:ps.length≤N.length:=by have:=congrArg List.length S.pre;rw [List.length_take] at this;omega
 obtain ⟨h1,tk,rfl,hk⟩:=x.done
 have noA:∀ b:Addr,b ∉ (zfX CX P w K mg base N qual scope f cd A outer s H E).ex:=fun b z=>absurd (show b ∈ ([]:List Addr) from z) [19]
 refine ⟨⟨e0.mod,S.kind,rfl,rfl,Jm _,fun y z c h1 h2=>?_,fun y hy=>?_,fun y c _ h=>?_,fun _=>hd,Around.frames_deeper e0.frames,.inr ⟨rfl,rfl⟩,fun b z=>absurd z (noA b),e0.bs,e0.bsz,fun b _ _=>noA b,fun b z=>absurd z (noA b),e0.funs,e0.frf⟩,
  rfl,e0.bare,Un.kept hk,⟨_,x.toInCall.ns,fun i y v h1 h2 h3=>?_⟩,fun y c h=>⟨_,x.cell y c h⟩,e0.hok.fresh [247],fun y c h=>?_,fun p hp=>absurd (show p ∈ ([]:List [24]) from hp) [19],e0.hok.kept hk,?_⟩
 ·exact name_of_addr x.apart (KJ h1) (KJ h2)
 ·have hy:scope.names.lookup y=some .cell∨scope.names.lookup y=some .free:=hy
  rcases hy with hy | hy
  ·exact zeX hy
  ·exact absurd rfl (S.nofree _ (KJ hy))
 ·exact Nat.le_of_lt (x.above y c (KJ h))
 ·have hi:i<vs.length:=by
   unfold start at h2
   by_cases hi:i<vs.length
   ·exact hi
   ·rw [List.getElem?_append_right [141]] at h2
    rw [List.getElem?_replicate] at h2
    split at h2<;>cases h2
  have ha:vs[i]?=some v:=by
   unfold start at h2
   rw [List.getElem?_append_left [141],List.getElem?_map] at h2
   cases e:vs[i]? with
   | none=>rw [e] at h2;cases h2
   | some a=>rw [e] at h2;cases h2;rfl
  obtain ⟨u,hu,rv⟩:=r.get ha
  have hp:ps[i]?=some y:=by
   rw [← S.pre,List.getElem?_take_of_lt [12]];exact h1
  have ndP:ps.Nodup:=by rw [← S.pre];exact S.nd.sublist (List.take_sublist _ _)
  refine ⟨u,rv,?_⟩
  rcases S.par y (List.mem_of_getElem? hp) with k | k
  ·exact .inl ⟨k,zcP ndP hp hu k⟩
  ·obtain ⟨c,e⟩:=zeX (n:=s.heap.objs.size+1) k
   refine .inr ⟨.inl k,c,e,?_⟩
   have q:=x.cell y c e
   rw [zcR ndP hp hu (by show scope.names.lookup y≠_;rw [k];decide)] at q
   exact q
 ·exact e0.hok.fresh (Nat.le_of_lt (x.above y c (KJ h)))
 ·unfold start
  show _=N.length
  rw [Jl,Jh,List.length_replicate]
  omega
theorem zpd {CX : CXT} {P : Program} {w : World} {K : PySem.W.Frag} {mg : Str → Option Value} {base : Heap} {k : Nat} {f : Addr} {name qual : Str} {params : Arguments} {body : List Stmt} {scope : Scope} {dV kV doc pm cdv ct oc : Value} {an od : Option Addr}
    {osl : Array [161]} {N ps : List Str} {sp : Sp} (lk : K.lookup f = some ⟨oc, od, .func (PySem.W.fnOf name qual params body scope dV kV doc pm an cdv ct), osl⟩) (hcd : PySem.W.codeIn K cdv qual = true) (S : FnScope N ps scope)
    (len : ∀ vs H Q E, sp vs H Q E → vs.length = ps.length)
    (hbody : ∀ (A : Around) (outer : List Env) (s : Shared) (H : Hp) (vs : List V) (Q : VK) (E : XK), Room k (A.deeper (envOfC qual scope s.heap.objs.size f cdv)) → sp vs H Q E →
      ∃ t, PSs [159] body t ∧ t { nx := fun _ H' => Q .non H', rt := Q } (start N vs) H) :
    FnOk P w K mg base CX (k + 1) f (PySem.W.fnOf name qual params body scope dV kV doc pm an cdv ct) ps sp := by
  refine ⟨len, fun A outer s H args us vs Q E hr e0 hb r hsp => ?_⟩
  have hl := len _ _ _ _ hsp
  have KX : K.In s.heap := e0.mod.kin.keeps fun b o e => (e0.bs b o e).1
  have lim : s.heap.NoLimit := e0.mod.nolimit.keeps fun b o e => (e0.bs b o e).1
  have hkind : ∀ y ∈ ps.zip us, scope.names.lookup y.1 = some .local ∨ (scope.names.lookup y.1 = some .cell ∧ ((cellsFrom (s.heap.objs.size + 1) scope.names []).lookup y.1).isSome = true) := fun ⟨n, v⟩ hy => by
    rcases S.par n (List.of_mem_zip hy).1 with q | q
    · exact .inl q
    · exact .inr ⟨q, PySem.W.cellsFrom_some _ _ _ (.inl q)⟩
  refine codeAny_call_function hr.depth (KX _ _ lk) rfl S.co S.gen rfl (PySem.W.codeRec_of KX hcd) (hb _ _ _ _ ?_)
  refine wpAny_newFunctionEnv_cells S.kind hkind fun env he s1 x => ?_
  subst he
  refine ⟨lim.keeps x.toInCall.keep, codeAny_func ?_⟩
  obtain ⟨t, ht, hq⟩ := hbody A outer s H vs Q E (hr.deeper _) hsp
  have I : Inv [159] [] (start N vs) H s1 := zib S hr.hd e0 hl r x
  refine wpAny_mono (ht [] s1 (start N vs) H _ I hq) (fun fl s' hs => ?_) fun e s' hs => hs
  have fin : ∀ {σ' : St} {H' : Hp} {v : V} {u : Value}, Inv [159] [] σ' H' s' → RelV v u → Q v H' → CE outer P w H s Q u s' :=
    fun {σ' H' v u} J rv q => ⟨v, H', J.os, J.bare, J.base, J.hok, rv, q⟩
  cases fl with
  | ret u =>
    obtain ⟨v, σ', H', J, rv, q⟩ := hs
    exact fin J rv q
  | next =>
    obtain ⟨σ', H', J, q⟩ := hs
    exact fin (v := V.non) (u := Value.none) J rfl q
  | brk =>
    obtain ⟨_, _, _, q⟩ := hs
    exact False.elim q
  | cont =>
    obtain ⟨_, _, _, q⟩ := hs
    exact False.elim q
section
variable {X:Cx} {x:Str} {p pos:Pos} {e:Expr} {es:List Expr} {t:TA} {id T:String} {r:List V->Hp->VK->Prop}
noncomputable def tCB(r:List V->Hp->VK->Prop)(t:TA):TE:=fun σ H Q=>t σ H fun vs H1=>r vs H1 Q
theorem zjI(hc:CallR X [239] r)(hg:Gl X x)(hm:X.mg x=none)(hv:bootBuiltins x=some [239])(ha:PA X (e::es) t)(hn:x≠"__name__":=by decide)(hdb:[50]=false:=by decide)
  (he:starEach (e::es) X.env=[54]::starEach es X.env:=by rfl)(hpl:[72].any (·.1)=false:=by rfl):PE X [81] (tCB r t):=by
 intro pins s σ H Q I h
 refine wpAny_Call_Name_kw (uJ I hg hm hv ?_ hn hdb)
 exact PyProof.Rows.callWith_builtin1 (thn (ha pos pins s σ H _ I h) fun us s1 ⟨vs,H1,I1,r1,q1⟩=>hc pins s1 σ H1 vs us Q I1 r1 q1) he hpl
theorem zcw(hc:CallR X (.type T) r)(hg:Gl X x)(hm:X.mg x=none)(hv:bootBuiltins x=some (.type T))(ha:PA X (e::es) t)(hn:x≠"__name__":=by decide)(hdb:[50]=false:=by decide)
  (he:starEach (e::es) X.env=[54]::starEach es X.env:=by rfl)(hpl:[72].any (·.1)=false:=by rfl):PE X [81] (tCB r t):=by
 intro pins s σ H Q I h
 refine wpAny_Call_Name_kw (uJ I hg hm hv ?_ hn hdb)
 exact JY (thn (ha pos pins s σ H _ I h) fun us s1 ⟨vs,H1,I1,r1,q1⟩=>hc pins s1 σ H1 vs us Q I1 r1 q1) he hpl
end
end L2
namespace HT
open PySem PyProof.Rows
section
variable {prog:Program} {w:World} {A:Around} {E:Value->Shared->Prop} {s:Shared}
theorem cat_tup{t b:Addr}{vs ws:List Value}{Q:Value->Shared->Prop}(ht:IsTup s.heap t vs.toArray)(hb:IsTup s.heap b ws.toArray)(hv:vs≠[])
  (h1:ws=[]->Q (.ref t) s)(h2:ws≠[]->Q [64] { s with heap:=s.heap.push { cls:=.type "tuple",data:=.seq (vs++ws).toArray } })
  (hsz:vs.length+ws.length≤sizeLine):wpAny [35] A (binaryOp .Add (.ref t) (.ref b)) Q E s:=by
 obtain ⟨⟨cls,dd,data,sl⟩,ho,hc,n,hd⟩:=id ht
 obtain ⟨⟨cls2,dd2,data2,sl2⟩,ho2,hc2,n2,hd2⟩:=id hb
 simp only at hc hd hc2 hd2
 subst hc hd hc2 hd2
 have e:vs.toArray++ws.toArray=(vs++ws).toArray:=by simp
 by_cases hw:ws=[]
 ·exact concat_meets ⟨_,ho,rfl⟩ ⟨_,ho2,rfl⟩ noFill_tuple_add seq_tuple_add PySem.F.slot_tuple_add PySem.F.entry_tuple_add (PySem.F.args_tuple_add_2 _ _)
   (tuple_addW1 t b vs.toArray ws.toArray n n2 dd dd2 sl sl2 (by simpa using hv) (by simp [hw])) ⟨ho,ho2,h1 hw⟩
 ·refine concat_meets ⟨_,ho,rfl⟩ ⟨_,ho2,rfl⟩ noFill_tuple_add seq_tuple_add PySem.F.slot_tuple_add PySem.F.entry_tuple_add (PySem.F.args_tuple_add_2 _ _)
   (tuple_addW2 t b vs.toArray ws.toArray n n2 dd dd2 sl sl2 (by simpa using hv) (by simpa using hw) (by rw [List.size_toArray,List.size_toArray];exact hsz)) ⟨ho,ho2,?_⟩
  rw [e]
  exact h2 hw
noncomputable def sIx(n d:Nat):Option Int->Nat
 | none=>d
 | some v=>if v<0 then (v+(n:Int)).toNat else min v.toNat n
theorem zna(n d:Nat)(hd:d≤n)(o:Option Int):sIx n d o≤n:=by
 cases o with
 | none=>exact hd
 | some v=>
  show (if v<0 then (v+(n:Int)).toNat else min v.toNat n)≤n
  by_cases hv:v<0
  ·rw [if_pos hv];omega
  ·rw [if_neg hv];exact Nat.min_le_right _ _
theorem zhe(v:Int)(n d:Nat):(if v<0 then max (v+(n:Int)) 0 else min v (n:Int))=((sIx n d (some v):Nat):Int):=by
 show (if v<0 then max (v+(n:Int)) 0 else min v (n:Int))=(((if v<0 then (v+(n:Int)).toNat else min v.toNat n):Nat):Int)
 by_cases hv:v<0
 ·simp only [if_pos hv];omega
 ·simp only [if_neg hv];omega
theorem zgi(lo hi:Option Int)(n:Nat):Builtin.Slice.sliceAdjust lo hi 1 (n:Int)=(((sIx n 0 lo:Nat):Int),((sIx n n hi:Nat):Int)):=by
 have h1:¬ ((1:Int)<0):=by omega
 unfold Builtin.Slice.sliceAdjust
 simp only [h1,if_false]
 refine Prod.ext ?_ ?_
 ·cases lo with
  | none=>rfl
  | some v=>exact zhe v n 0
 ·cases hi with
  | none=>rfl
  | some v=>exact zhe v n n
theorem zfz(i j:Nat):Builtin.Slice.slicePlaces (i:Int) (j:Int) 1=j - i:=by
 unfold Builtin.Slice.slicePlaces
 have h1:(1:Int) > 0:=by omega
 simp only [h1,if_true,Int.ediv_one]
 split<;>omega
theorem zaQ{v:Value}{o:Option Int}{Q:Option Int->Shared->Prop}(p:IsPart v o)(h:Q o s):wpAny [35] A (Builtin.Slice.slicePartIndex v) Q E s:=by
 cases p with
 | none=>exact slicePart_none h
 | int i t=>exact slicePart_int h
theorem sliceApplied_gen{sl:Addr}{vl vu:Value}{lo hi:Option Int}{n:Nat}{Q:Int × Int × Nat->Shared->Prop}(hs:s.heap.IsSliceOf sl vl vu .none)(pl:IsPart vl lo)(pu:IsPart vu hi)
  (h:Q (((sIx n 0 lo:Nat):Int),1,sIx n n hi - sIx n 0 lo) s):wpAny [35] A (Builtin.Slice.sliceApplied (.ref sl) (pure (n:Int))) Q E s:=by
 obtain ⟨os,hos,hcs,hds⟩:=id hs
 unfold Builtin.Slice.sliceApplied Builtin.Slice.sliceFields
 refine wpAny_bind (wpAny_bind (wpAny_field hos hds (x:=vl) rfl (wpAny_bind (wpAny_field hos hds (x:=vu) rfl (wpAny_bind (wpAny_field hos hds (x:=.none) rfl [47]))))))
 refine wpAny_bind (slicePart_none ?_)
 show wpAny _ _ (if ((1:Int) == 0)=true then _ else _) _ _ s
 rw [if_neg [10]]
 refine wpAny_bind (zaQ pl (wpAny_bind (zaQ pu (wpAny_bind [47]))))
 show wpAny _ _ (match Builtin.Slice.sliceAdjust lo hi 1 (n:Int) with | (lo,hi)=>pure (lo,(1:Int),Builtin.Slice.slicePlaces lo hi 1)) _ _ s
 rw [zgi lo hi n]
 show wpAny _ _ (pure (((sIx n 0 lo:Nat):Int),(1:Int),Builtin.Slice.slicePlaces ((sIx n 0 lo:Nat):Int) ((sIx n n hi:Nat):Int) 1)) _ _ s
 rw [zfz]
 exact wpAny_pure h
theorem zjA(xs:Array Value)(i k:Nat):((List.range k).filterMap fun (m:Nat)=>xs[((i:Int)+(m:Int) * 1).toNat]?).toArray=((xs.toList.drop i).take k).toArray:=by
 have e:(fun (m:Nat)=>xs[((i:Int)+(m:Int) * 1).toNat]?)=fun m=>xs[i+m]?:=by
  funext m
  have:((i:Int)+(m:Int) * 1).toNat=i+m:=by omega
  rw [this]
 rw [e]
 have:=pick_run xs i k
 rw [List.filterMap_map] at this
 have e2:((fun x=>xs[x]?) ∘ fun x=>i+x)=fun m=>xs[i+m]?:=rfl
 rw [e2] at this
 rw [this]
theorem getItem_tuple_cut{t sl:Addr}{items:Array Value}{vl vu:Value}{lo hi:Option Int}{Q:Value->Shared->Prop}(ht:IsTup s.heap t items)(hs:s.heap.IsSliceOf sl vl vu .none)(pl:IsPart vl lo)(pu:IsPart vu hi)
  (hw:¬ (sIx items.size 0 lo=0/\sIx items.size items.size hi=items.size))
  (h:Q [64] { s with heap:=s.heap.push { cls:=.type "tuple",data:=.seq [75].toArray } })
  (hsz:items.size≤sizeLine):wpAny [35] A (getItem (.ref t) (.ref sl)) Q E s:=by
 have htake:sizeOk (.seq [75].toArray):=by
  show [75].toArray.size≤sizeLine
  rw [Jz,List.length_take,List.length_drop,Jk]
  omega
 have hj:sIx items.size items.size hi≤items.size:=zna _ _ (Jm _) hi
 obtain ⟨os,hos,hcs,hds⟩:=id hs
 have hTs:s.TypeIs (.ref sl) "slice":=⟨os,hos,hcs⟩
 unfold getItem
 try with_reducible refine wpAny_holding ?_
 first | refine wpAny_bind [47] | skip
 refine wpAny_bind (wpAny_sequenceKey ht.typeIs [10] ?_)
 refine wpAny_bind (wpAny_callSpecial?_slot (name:=Str.ofString "__getitem__") ht.typeIs Kr
  (wpAny_call_entry Kr ht.typeIs entry_tuple_getitem ?_ (args_tuple_getitem _ _)))
 show wpAny _ _ (Builtin.Tuple.tupleItemsOf (.ref t) >>= _) _ _ s
 refine wpAny_bind (tupleItemsOf_ ht ?_)
 refine wpAny_bind (wpAny_typeOf hTs ?_)
 rw [if_pos [10]]
 refine wpAny_bind (sliceApplied_gen hs pl pu ?_)
 have hno:¬ ((((sIx items.size 0 lo:Nat):Int) == 0 && (1:Int) == 1 && (sIx items.size items.size hi - sIx items.size 0 lo) == items.size)=true):=by
  intro q
  rw [JS,JS] at q
  have q1:((sIx items.size 0 lo:Nat):Int)=0:=eq_of_beq q.1.1
  have q2:sIx items.size items.size hi - sIx items.size 0 lo=items.size:=eq_of_beq q.2
  exact hw ⟨by omega,by omega⟩
 show wpAny _ _ (if (((sIx items.size 0 lo:Nat):Int) == 0 && (1:Int) == 1 && (sIx items.size items.size hi - sIx items.size 0 lo) == items.size)=true then _ else _) _ _ s
 rw [if_neg hno,zjA]
 first
  | exact wpAny_bind (m:=Builtin.Tuple.tupleExact _) (wpAny_newObj_type [71] htake)
  | exact wpAny_bind (m:=Builtin.Tuple.tupleExact _) (wpAny_newObj_type (wpAny_bind (wpAny_pure [71])) htake)
  | exact wpAny_bind (wpAny_bind (m:=Builtin.Tuple.tupleExact _) (wpAny_newObj_type (wpAny_pure [71]) htake))
  | exact wpAny_bind (wpAny_bind (m:=Builtin.Tuple.tupleExact _) (wpAny_newObj_type [71] htake))
end
end HT
namespace L2
open PySem PySem.Spec PyProof.Rows
noncomputable abbrev TO:=St->Hp->(Option Int->Hp->Prop)->Prop
noncomputable def PO(X:Cx)(e:Option Expr)(t:TO):Prop:=
 ∀ (pins:List [24]) (s:Shared) (σ:St) (H:Hp) (Q:Option Int->Hp->Prop),Inv X pins σ H s->t σ H Q->
  wpAny [21] X.A (evalPart e X.env) (fun u s'=>∃ o H',Inv X pins σ H' s'/\IsPart u o/\Q o H') X.xe s
noncomputable def zlp:TO:=fun _ H Q=>Q none H
noncomputable def zoq(t:TE):TO:=fun σ H Q=>t σ H fun x H1=>∃ i,x=.int i/\Q (some i) H1
theorem zfP{ns:List Int}:∀ {us:List Value},Vals [63] us->IntsAre us ns:=by
 induction ns with
 | nil=>intro us r;rw [List.map_nil] at r;cases r;exact .nil
 | cons n ns ih=>
  intro us r
  rw [Ju] at r
  cases r with
  | cons r1 r2=>
   obtain ⟨t,e⟩:=r1
   subst e
   exact .cons n t (ih r2)
section
variable {X:Cx} {e:Expr} {te:TE} {lo hi:Option Expr} {tl th:TO} {pos p2:Pos}
theorem zlG:PO X none zlp:=by
 intro pins s σ H Q I h
 rw [evalPart_none]
 exact wpAny_pure ⟨none,H,I,.none,h⟩
theorem zlF(h:PE X e te):PO X (some e) (zoq te):=by
 intro pins s σ H Q I hw
 rw [evalPart_some]
 refine thn (h pins s σ H _ I hw) fun u s1 ⟨x,H1,I1,r1,q1⟩=>?_
 obtain ⟨i,rfl,q⟩:=q1
 obtain ⟨t,rfl⟩:=r1
 exact ⟨some i,H1,I1,.int i t,q⟩
noncomputable def SlR(X:Cx)(r:V->Option Int->Option Int->Hp->VK->Prop):Prop:=
 ∀ (pins:List [24]) (s:Shared) (σ:St) (H:Hp) (x:V) (v vl vu:Value) (lo hi:Option Int) (sl:Addr) (Q:VK),Inv X pins σ H s->RelV x v->s.heap.IsSliceOf sl vl vu .none->IsPart vl lo->IsPart vu hi->r x lo hi H Q->
  ∃ T id,typeLookup (.type T) "__getitem__"=pure (some [239])/\s.TypeIs v T/\wpAny [21] X.A (getItem v (.ref sl)) [144] X.xe s
theorem SlR.or{r r':V->Option Int->Option Int->Hp->VK->Prop}(h:SlR X r)(h':SlR X r'):SlR X (fun x lo hi H Q=>r x lo hi H Q∨r' x lo hi H Q):=by
 intro pins s σ H x v vl vu lo hi sl Q I rx hs pl pu q
 rcases q with q | q
 ·exact h pins s σ H x v vl vu lo hi sl Q I rx hs pl pu q
 ·exact h' pins s σ H x v vl vu lo hi sl Q I rx hs pl pu q
noncomputable def tSl(r:V->Option Int->Option Int->Hp->VK->Prop)(te:TE)(tl th:TO):TE:=fun σ H Q=>te σ H fun x H1=>tl σ H1 fun l H2=>th σ H2 fun u H3=>r x l u H3 Q
theorem zjD{r:V->Option Int->Option Int->Hp->VK->Prop}(hr:SlR X r)(he:PE X e te)(hl:PO X lo tl)(hu:PO X hi th):PE X (.Subscript e (.Slice lo hi none p2) pos) (tSl r te tl th):=by
 intro pins s σ H Q I h
 refine Subscript_ (thn [253] fun v s1 hq_=>?_)
 obtain ⟨x,H1,I1,r1,q1⟩:=hq_
 refine wpAny_Slice (thn (hl pins s1 σ H1 _ I1 q1) fun vl s2 ⟨l,H2,I2,pl,q2⟩=>thn (hu pins s2 σ H2 _ I2 q2) fun vu s3 ⟨u,H3,I3,pu,q3⟩=>?_)
 rw [evalPart_none]
 refine wpAny_pure ?_
 have I4:Inv X pins σ H3 { s3 with heap:=s3.heap.push { cls:=.type "slice",data:=.fields #[vl,vu,.none] } }:=I3.kept (t':=s3.toks) fun b ob q=>Heap.get?_push_of_some _ q
 obtain ⟨T,id,hT,ht,hg⟩:=hr pins { s3 with heap:=s3.heap.push { cls:=.type "slice",data:=.fields #[vl,vu,.none] } } σ H3 x v vl vu l u s3.heap.objs.size Q I4 r1 (Heap.IsSliceOf.new ..) pl pu q3
 show wpAny [21] X.A (subscriptTail e (.Slice lo hi none p2) v (.ref s3.heap.objs.size)) [144] X.xe { s3 with heap:=s3.heap.push { cls:=.type "slice",data:=.fields #[vl,vu,.none] } }
 exact tail_any (ops:=[.ref s3.heap.objs.size,v]) ht hT hg [29]
noncomputable def zbN(xs:List V)(lo hi:Option Int):List V:=(xs.drop [301]).take [103]
theorem zaj(xs:List V)(lo hi:Option Int):[302].length≤xs.length:=by
 unfold zbN
 rw [List.length_take,List.length_drop]
 exact JN (Nat.min_le_right _ _) (Nat.sub_le _ _)
noncomputable def zpV(K:PySem.W.Frag):V->Option Int->Option Int->Hp->VK->Prop:=fun x lo hi H Q=>∃ a xs,x=.ref a/\SqT K H a xs/\
 ¬ (HT.sIx xs.length 0 lo=0/\HT.sIx xs.length xs.length hi=xs.length)/\∀ p,H p=none->Q (.ref p) (upd H p (.tup [302]))
theorem zmY:SlR X (zpV X.K):=by
 intro pins s σ H x v vl vu lo hi sl Q I rx hs pl pu h
 obtain ⟨a,xs,rfl,hx,hw,q⟩:=h
 cases rx
 obtain ⟨its,r,ht,hz⟩:=I.tuple hx
 have hlen:its.toArray.size=xs.length:=by rw [Jz];exact r.length.symm
 refine ⟨"tuple",_,PyProof.Rows.slot_tuple_getitem.lookup,ht.typeIs,?_⟩
 refine HT.getItem_tuple_cut ht hs pl pu (by rw [hlen];exact hw) ?_ (by rw [hlen];exact hz)
 rw [hlen]
 refine ⟨.ref s.heap.objs.size,_,I.laid (t':=s.toks) (o:=.tup [302]) (fun b ob q=>Jd _ q) (Jm _) ?_,rfl,q _ [277]⟩
 exact ⟨JN (zaj xs lo hi) hz,_,(r.drop [301]).take [103],IsTup.new _ _⟩
noncomputable def zjr(K:PySem.W.Frag):R2:=fun x y H Q=>∃ a b xs ys,x=.ref a/\y=.ref b/\SqT K H a xs/\SqT K H b ys/\xs≠[]/\xs.length+ys.length≤sizeLine/\
 (ys=[]->Q [84] H)/\(ys≠[]->∀ p,H p=none->Q (.ref p) (upd H p (.tup (xs++ys))))
theorem Vals.nil_iff{xs:List V}{us:List Value}(r:Vals xs us):us=[] ↔ xs=[]:=by
 cases r with
 | nil=>simp
 | cons _ _=>simp
theorem op_catT:OpR X [322] (zjr X.K):=by
 intro pins s σ H x y v u Q I rx ry h
 obtain ⟨a,b,xs,ys,rfl,rfl,ha,hb,hx,hz,q1,q2⟩:=h
 cases rx
 cases ry
 obtain ⟨its,r1,p1,_⟩:=I.tuple ha
 obtain ⟨its2,r2,p2,_⟩:=I.tuple hb
 refine HT.cat_tup p1 p2 (fun z=>hx (r1.nil_iff.mp z)) (fun z=>⟨.ref a,H,I,rfl,q1 (r2.nil_iff.mp z)⟩) (fun z=>?_) (by rw [← r1.length,← r2.length];exact hz)
 refine ⟨.ref s.heap.objs.size,_,I.laid (t':=s.toks) (o:=.tup (xs++ys)) (fun b ob q=>Jd _ q) (Jm _) ?_,rfl,q2 (fun w=>z (r2.nil_iff.mpr w)) _ [277]⟩
 exact ⟨by rw [Jl];exact hz,_,r1.append r2,IsTup.new _ _⟩
end
noncomputable def ixN(n:Nat)(i:Int):Option Nat:=if 0≤i then (if i<n then some i.toNat else none) else if -(n:Int)≤i then some (i+n).toNat else none
noncomputable def atI{α:Type}(xs:List α)(i:Int):Option α:=(ixN xs.length i).bind fun j=>xs[j]?
theorem zgP{n:Nat}{i:Int}{j:Nat}(h:ixN n i=some j):seqIndex? i n=some j/\j<n/\-(n:Int)≤i/\i<n:=by
 unfold ixN at h
 by_cases h0:0≤i
 ·rw [if_pos h0] at h
  by_cases h1:i<n
  ·rw [if_pos h1] at h
   have e:i.toNat=j:=Jq h
   exact ⟨by rw [seqIndex_of h0 h1,e],by omega,by omega,h1⟩
  ·rw [if_neg h1] at h;cases h
 ·rw [if_neg h0] at h
  by_cases h1 : -(n:Int)≤i
  ·rw [if_pos h1] at h
   have e:(i+n).toNat=j:=Jq h
   exact ⟨by rw [seqIndex_neg [12] h1,e],by omega,h1,by omega⟩
  ·rw [if_neg h1] at h;cases h
theorem zdF{α:Type}{xs:List α}{i:Int}{v:α}(h:atI xs i=some v):∃ j,seqIndex? i xs.length=some j/\xs[j]?=some v/\j<xs.length/\-(xs.length:Int)≤i/\i<xs.length:=by
 unfold atI at h
 cases e:ixN xs.length i with
 | none=>rw [e] at h;cases h
 | some j=>
  rw [e] at h
  obtain ⟨h1,h2,h3,h4⟩:=zgP e
  exact ⟨j,h1,h,h2,h3,h4⟩
theorem atI_nat{α:Type}{xs:List α}{j:Nat}{v:α}(h:xs[j]?=some v):atI xs (j:Int)=some v:=by
 have hj:j<xs.length:=(Jv.mp h).1
 have e:ixN xs.length (j:Int)=some j:=by
  unfold ixN
  rw [if_pos [12],if_pos [12]];simp
 unfold atI;rw [e];exact h
noncomputable def zhm(b:Expr):Prop:=∀ o i,subscripted b false o i=operate [o,i] (getItem o i)
noncomputable def IxR(X:Cx)(r:R2):Prop:=
 ∀ (value slice:Expr) (pins:List [24]) (s:Shared) (σ:St) (H:Hp) (x y:V) (v u:Value) (Q:VK),Inv X pins σ H s->RelV x v->RelV y u->r x y H Q->
  subscripted slice false v u=operate [v,u] (getItem v u)->wpAny [21] X.A (subscriptTail value slice v u) [144] X.xe s
noncomputable def MtR(X:Cx)(id:String)(r:V->List V->Hp->VK->Prop):Prop:=
 ∀ (pins:List [24]) (s:Shared) (σ:St) (H:Hp) (x:V) (xs:List V) (v:Value) (us:List Value) (Q:VK),Inv X pins σ H s->RelV x v->Vals xs us->r x xs H Q->
  wpAny [21] X.A (call [239] (v::us)) [144] X.xe s
section
variable {X:Cx} {a b:Expr} {ta tb:TE} {pos:Pos}
theorem IxR.or{r r':R2}(h:IxR X r)(h':IxR X r'):IxR X (fun x y H Q=>r x y H Q∨r' x y H Q):=by
 intro value slice pins s σ H x y v u Q I rx ry q hs
 rcases q with q | q
 ·exact h value slice pins s σ H x y v u Q I rx ry q hs
 ·exact h' value slice pins s σ H x y v u Q I rx ry q hs
theorem zjE{r:R2}(hr:IxR X r)(ha:PE X a ta)(hb:PE X b tb)(hs:zhm b):PE X (.Subscript a b pos) (tOp r ta tb):=by
 intro pins s σ H Q I h
 exact Subscript_ (zoe ha hb I h fun v u s2 x y H2 I2 rx ry q=>hr a b pins s2 σ H2 x y v u Q I2 rx ry q (hs _ _))
noncomputable def zoF(K:PySem.W.Frag):R2:=fun x y H Q=>∃ p xs i v,x=.ref p/\y=.int i/\SqL K H p xs/\atI xs i=some v/\Q v H
noncomputable def zoD(K:PySem.W.Frag):R2:=fun x y H Q=>∃ p xs i v,x=.ref p/\y=.int i/\SqT K H p xs/\atI xs i=some v/\Q v H
noncomputable def zoE:R2:=fun x y H Q=>∃ z i c,x=.str z/\y=.int i/\z.length≤sizeLine/\atI z.cps.toList i=some c/\Q (.str ⟨#[c]⟩) H
theorem ix_list:IxR X (zoF X.K):=by
 intro value slice pins s σ H x y v u Q I rx ry h hs
 obtain ⟨p,xs,i,z,rfl,rfl,hq,he,q⟩:=h
 cases rx
 obtain ⟨t,rfl⟩:=ry
 obtain ⟨its,r,pl,hz⟩:=I.list hq
 obtain ⟨j,h1,h2,h3,h4,h5⟩:=zdF he
 obtain ⟨w,ew,rw'⟩:=r.get h2
 have hl:=r.length
 have hn:=kN
 have fin:EP X pins σ Q w s:=⟨z,H,I,rw',q⟩
 by_cases h0:0≤i
 ·have hj:i.toNat=j:=by
   rw [seqIndex_of h0 h5] at h1
   exact Jq h1
  exact item_listR pl.isList h0 [12] (by rw [hj];simpa using ew) fin hs
 ·have hj:(i+(its.toArray.size:Int)).toNat=j:=by
   rw [seqIndex_neg [12] h4] at h1
   rw [Jz,← hl]
   exact Jq h1
  exact subscriptTail_builtinR (x:=w) pl.isList.typeIs slot_list_getitem.lookup
   (wpAny_getItem_list_neg (Q:=fun r s'=>r=w/\EP X pins σ Q r s') pl.isList [12] (by rw [List.size_toArray]<;>omega) [12] (by rw [hj];simpa using ew) ⟨rfl,fin⟩) hs
theorem ix_tup:IxR X (zoD X.K):=by
 intro value slice pins s σ H x y v u Q I rx ry h hs
 obtain ⟨p,xs,i,z,rfl,rfl,hq,he,q⟩:=h
 cases rx
 obtain ⟨t,rfl⟩:=ry
 obtain ⟨its,r,pl,hz⟩:=I.tuple hq
 obtain ⟨j,h1,h2,h3,h4,h5⟩:=zdF he
 obtain ⟨w,ew,rw'⟩:=r.get h2
 have hl:=r.length
 have hn:=kN
 have fin:EP X pins σ Q w s:=⟨z,H,I,rw',q⟩
 exact subscriptTail_builtinR (x:=w) pl.typeIs slot_tuple_getitem.lookup
  (getItem_tuple (j:=j) (Q:=fun r s'=>r=w/\EP X pins σ Q r s') pl [12] [12] (by rw [List.size_toArray,← hl];exact h1) (by simpa using ew) ⟨rfl,fin⟩) hs
theorem znK:IxR X zoE:=by
 intro value slice pins s σ H x y v u Q I rx ry h hs
 obtain ⟨z,i,c,rfl,rfl,hz,he,q⟩:=h
 obtain ⟨t,rfl⟩:=rx
 obtain ⟨t',rfl⟩:=ry
 obtain ⟨j,h1,h2,h3,h4,h5⟩:=zdF he
 have hl:z.cps.toList.length=z.length:=by simp [Str.length]
 rw [hl] at h1 h4 h5
 have hn:=kN
 exact tail_any (typeIs_str s z t) slot_str_getitem.lookup (getItem_str (c:=c) (by
  have e1:decide (i < -(2 ^ 63:Int))=false:=decide_eq_false [12]
  have e2:decide (i ≥ 2 ^ 63)=false:=decide_eq_false [12]
  rw [e1,e2,Bool.or_false]) (by rw [h1];simpa using h2) ⟨.str ⟨#[c]⟩,H,I.tok _,⟨_,rfl⟩,q⟩) hs
noncomputable def rIx(K:PySem.W.Frag):R2:=fun x y H Q=>zoF K x y H Q∨zoD K x y H Q∨zoE x y H Q
theorem zfN:IxR X (rIx X.K):=ix_list.or (ix_tup.or znK)
theorem zfJ(its:List Value)(n j:Nat)(u:Value):Obj.mapSeq (·.setIfInBounds j u) { cls:=.type "list",data:=.seq its.toArray n }={ cls:=.type "list",data:=.seq (its.set j u).toArray n }:=by
 simp [Obj.mapSeq]
theorem Inv.lst{pins:List [24]}{σ:St}{H:Hp}{s:Shared}{p:Addr}{xs:List V}(I:Inv X pins σ H s)(h:H p=some [107]):
  ∃ (its:List Value) (n:Nat),Vals xs its/\s.heap.get? p=some { cls:=.type "list",data:=.seq its.toArray n }/\xs.length≤sizeLine:=by
 obtain ⟨z,its,n,r,e⟩:=I.hok p _ h
 exact ⟨its,n,r,e,z⟩
theorem Inv.lstUpd{pins:List [24]}{σ:St}{H:Hp}{s:Shared}{p:Addr}{xs ys:List V}{its its':List Value}{n n':Nat}{f:Obj->Obj}(I:Inv X pins σ H s)(h:H p=some [107])
  (ho:s.heap.get? p=some { cls:=.type "list",data:=.seq its.toArray n })(hf:f { cls:=.type "list",data:=.seq its.toArray n }={ cls:=.type "list",data:=.seq its'.toArray n' })(r:Vals ys its')(hz:ys.length≤sizeLine)(t:Nat):
  Inv X pins σ (upd H p [262]) { s with heap:=s.heap.update p f,toks:=t }:=by
 have e:(s.heap.update p f).get? p=some { cls:=.type "list",data:=.seq its'.toArray n' }:=by
  rw [KP f ho (by rw [hf]<;>rfl),hf]
 refine I.write (x:=p) (e:=p) (by rw [h];trivial) [76] (fun b u hb q=>(Heap.get?_update_other _ _ (Ne.symm hb)).trans q) ⟨_,e⟩ ?_
 exact ⟨hz,its',n',r,e⟩
noncomputable def zmD:V->V->V->Hp->(Hp->Prop)->Prop:=fun o i v H Q=>∃ p xs k j,o=.ref p/\i=.int k/\H p=some [107]/\ixN xs.length k=some j/\Q (upd H p (.lst (xs.set j v)))
theorem uW:zpu X zmD:=by
 intro pins s σ H o i v ov iv u Q I ro ri rv h
 obtain ⟨p,xs,k,j,rfl,rfl,hp,hj,q⟩:=h
 cases ro
 obtain ⟨t,rfl⟩:=ri
 obtain ⟨its,n,r,ho,hz⟩:=I.lst hp
 obtain ⟨h1,h2,h3,h4⟩:=zgP hj
 have hl:=r.length
 have hn:=kN
 have I':Inv X pins σ (upd H p (.lst (xs.set j v))) { s with heap:=s.heap.update p (Obj.mapSeq (·.setIfInBounds j u)) }:=
  I.lstUpd hp ho (zfJ its n j u) (r.set rv j) (by rw [List.length_set];exact hz) s.toks
 by_cases h0:0≤k
 ·have hk:k.toNat=j:=by
   rw [seqIndex_of h0 h4] at h1
   exact Jq h1
  exact PySem.W.ki_setAt ho h0 [12] (by rw [Jz,← hl];exact h4) (by rw [hk];exact ⟨_,I',q⟩)
 ·have hk:(k+(its.toArray.size:Int)).toNat=j:=by
   rw [seqIndex_neg [12] h3] at h1
   rw [Jz,← hl]
   exact Jq h1
  exact PySem.W.ki_setBack ho [12] (by rw [Jz,← hl];exact h3) [12] (by rw [hk];exact ⟨_,I',q⟩)
theorem zda(lo hi:Option Int)(n:Nat):(sliceBounds lo hi none n).1=((HT.sIx n 0 lo:Nat):Int)/\(sliceBounds lo hi none n).2.1=((HT.sIx n n hi:Nat):Int)/\(sliceBounds lo hi none n).2.2=1:=by
 refine ⟨?_,?_,rfl⟩
 ·cases lo with
  | none=>simp [sliceBounds,HT.sIx]
  | some i=>
   simp only [sliceBounds,HT.sIx,Option.getD_none,show (1:Int) > 0 by decide,if_true]
   by_cases h:i<0
   ·simp only [h,if_true]<;>omega
   ·simp only [h,if_false]<;>omega
 ·cases hi with
  | none=>simp [sliceBounds,HT.sIx]
  | some i=>
   simp only [sliceBounds,HT.sIx,Option.getD_none,show (1:Int) > 0 by decide,if_true]
   by_cases h:i<0
   ·simp only [h,if_true]<;>omega
   ·simp only [h,if_false]<;>omega
theorem zbZ(its:List Value)(lo hi:Option Int):slicePick its.toArray lo hi none=((its.drop (HT.sIx its.length 0 lo)).take (HT.sIx its.length its.length hi - HT.sIx its.length 0 lo)).toArray:=by
 obtain ⟨h1,h2,h3⟩:=zda lo hi its.toArray.size
 unfold slicePick
 rw [h1,h2,h3]
 simp only [sliceRange_one,pick_run,List.size_toArray]<;>rfl
noncomputable def zpW(K:PySem.W.Frag):V->Option Int->Option Int->Hp->VK->Prop:=fun x lo hi H Q=>∃ a xs,x=.ref a/\SqL K H a xs/\∀ p,H p=none->Q (.ref p) (upd H p (.lst [302]))
theorem sl_list:SlR X (zpW X.K):=by
 intro pins s σ H x v vl vu lo hi sl Q I rx hs pl pu h
 obtain ⟨a,xs,rfl,hx,q⟩:=h
 cases rx
 obtain ⟨its,r,ht,hz⟩:=I.list hx
 have hlen:=r.length
 refine ⟨"list",_,slot_list_getitem.lookup,ht.isList.typeIs,?_⟩
 refine wpAny_getItem_list_slice ht.isList hs pl pu .none [19] ?_ (by rw [List.size_toArray]<;>omega)
 rw [zbZ,← hlen]
 refine ⟨.ref s.heap.objs.size,_,I.laid (t':=s.toks) (o:=.lst [302]) (fun b ob q=>Jd _ q) (Jm _) ?_,rfl,q _ [277]⟩
 exact ⟨JN (zaj xs lo hi) hz,_,0,(r.drop [301]).take [103],Jp _ rfl⟩
noncomputable def jB:V->Bool
 | .non=>true
 | .bl _=>true
 | .int _=>true
 | .str _=>true
 | _=>false
noncomputable def eqV:V->V->Bool
 | .non,.non=>true
 | .bl a,.bl b=>a == b
 | .bl a,.int b=>(if a then 1 else 0) == b
 | .int a,.bl b=>a == (if b then 1 else 0)
 | .int a,.int b=>a == b
 | .str a,.str b=>a == b
 | _,_=>false
theorem znT{A:Around}{s:Shared}{y x:V}{u v:Value}(ry:RelV y u)(rx:RelV x v)(fy:jB y=true)(fx:jB x=true):SeqAt.EqAt A s u v (eqV y x):=by
 cases y with
 | non=>
  cases ry
  cases x with
  | non=>cases rx;exact SeqAt.EqAt.same _
  | bl b=>cases rx;exact SeqAt.EqAt.none_bool b
  | int b=>obtain ⟨t,rfl⟩:=rx;exact SeqAt.EqAt.none_int b t
  | str b=>obtain ⟨t,rfl⟩:=rx;exact SeqAt.EqAt.none_str b t
  | _=>exact absurd [278] Je
 | bl a=>
  cases ry
  cases x with
  | non=>cases rx;exact SeqAt.EqAt.bool_none a
  | bl b=>cases rx;exact SeqAt.EqAt.bool_bool a b
  | int b=>obtain ⟨t,rfl⟩:=rx;exact SeqAt.EqAt.bool_int a b t
  | str b=>obtain ⟨t,rfl⟩:=rx;exact SeqAt.EqAt.bool_str a b t
  | _=>exact absurd [278] Je
 | int a=>
  obtain ⟨t',rfl⟩:=ry
  cases x with
  | non=>cases rx;exact SeqAt.EqAt.int_none a t'
  | bl b=>cases rx;exact SeqAt.EqAt.int_bool a t' b
  | int b=>obtain ⟨t,rfl⟩:=rx;exact SeqAt.EqAt.int_int a t' b t
  | str b=>obtain ⟨t,rfl⟩:=rx;exact SeqAt.EqAt.int_str a t' b t
  | _=>exact absurd [278] Je
 | str a=>
  obtain ⟨t',rfl⟩:=ry
  cases x with
  | non=>cases rx;exact SeqAt.EqAt.str_none a t'
  | bl b=>cases rx;exact SeqAt.EqAt.str_bool a t' b
  | int b=>obtain ⟨t,rfl⟩:=rx;exact SeqAt.EqAt.str_int a t' b t
  | str b=>obtain ⟨t,rfl⟩:=rx;exact SeqAt.EqAt.str_str a t' b t
  | _=>exact absurd [278] Je
 | _=>exact absurd (show false=true from fy) Je
noncomputable def eqU(x:V)(u:Value):Bool:=match u with
 | .none=>eqV .non x
 | .bool b=>eqV (.bl b) x
 | .int i _=>eqV [88] x
 | .str z _=>eqV (.str z) x
 | _=>false
theorem zkG{x y:V}{u:Value}(r:RelV y u)(f:jB y=true):eqU x u=eqV y x:=by
 cases y with
 | non=>cases r;rfl
 | bl b=>cases r;rfl
 | int i=>obtain ⟨t,rfl⟩:=r;rfl
 | str z=>obtain ⟨t,rfl⟩:=r;rfl
 | _=>exact absurd (show false=true from f) Je
theorem qL{x:V}:∀ {xs:List V} {us:List Value},Vals xs us->xs.all jB=true->us.any (eqU x)=xs.any fun y=>eqV y x
 | _,_,.nil,_=>rfl
 | y::xs,u::us,.cons r t,f=>by
  rw [List.all_cons,JS] at f
  rw [Ki,Ki,zkG r f.1,qL t f.2]
theorem jQ{A:Around}{s:Shared}{x:V}{v:Value}(rx:RelV x v)(fx:jB x=true):∀ {xs:List V} {us:List Value},Vals xs us->xs.all jB=true->∀ u ∈ us,SeqAt.EqAt A s u v (eqU x u)
 | _,_,.nil,_=>fun u hu=>by cases hu
 | y::xs,u::us,.cons r t,f=>fun u' hu=>by
  rw [List.all_cons,JS] at f
  rcases List.mem_cons.mp hu with rfl | hu
  ·rw [zkG r f.1];exact znT r rx f.1 fx
  ·exact jQ rx fx t f.2 u' hu
noncomputable def inV(x:V)(xs:List V):Bool:=xs.any fun y=>eqV y x
noncomputable def rIn(K:PySem.W.Frag)(neg:Bool):R2:=fun x y H Q=>∃ p xs,y=.ref p/\(SqL K H p xs∨SqT K H p xs)/\jB x=true/\xs.all jB=true/\Q (.bl (if neg then !inV x xs else inV x xs)) H
theorem zhO:OpR X (compareOp .In) (rIn X.K false):=by
 intro pins s σ H x y v u Q I rx ry h
 obtain ⟨p,xs,rfl,hq,fx,fs,q⟩:=h
 cases ry
 rcases hq with hq | hq
 ·obtain ⟨its,r,pl,hz⟩:=I.list hq
  refine SeqAt.in_listAt (eqU x) pl.isList [121] ⟨.bl _,H,I,rfl,?_⟩
  rw [show its.toArray.any (eqU x)=its.any (eqU x) by simp,qL r fs]
  exact q
 ·obtain ⟨its,r,pl,hz⟩:=I.tuple hq
  refine SeqAt.in_tupleAt (eqU x) pl [121] ⟨.bl _,H,I,rfl,?_⟩
  rw [show its.toArray.any (eqU x)=its.any (eqU x) by simp,qL r fs]
  exact q
theorem zdf:OpR X (compareOp .NotIn) (rIn X.K true):=by
 intro pins s σ H x y v u Q I rx ry h
 obtain ⟨p,xs,rfl,hq,fx,fs,q⟩:=h
 cases ry
 rcases hq with hq | hq
 ·obtain ⟨its,r,pl,hz⟩:=I.list hq
  refine SeqAt.notIn_listAt (eqU x) pl.isList [121] ⟨.bl _,H,I,rfl,?_⟩
  rw [show its.toArray.any (eqU x)=its.any (eqU x) by simp,qL r fs]
  exact q
 ·obtain ⟨its,r,pl,hz⟩:=I.tuple hq
  refine SeqAt.notIn_tupleAt (eqU x) pl [121] ⟨.bl _,H,I,rfl,?_⟩
  rw [show its.toArray.any (eqU x)=its.any (eqU x) by simp,qL r fs]
  exact q
theorem call_len_seq:CallR X (.builtin "len") (fun xs H Q=>∃ p ys,xs=[.ref p]/\[200]/\Q (.int ys.length) H):=by
 intro pins s σ H xs us Q I r h
 obtain ⟨p,ys,rfl,hq,q⟩:=h
 obtain ⟨u,rfl,rx⟩:=kf r
 cases rx
 have hn:=kN
 rcases hq with hq | hq
 ·obtain ⟨its,r',pl,hz⟩:=I.list hq
  have hlen:=r'.length
  exact Calls.call_len_list pl.isList [106] ⟨.int ys.length,H,I.tok _,⟨s.toks+1,by rw [List.size_toArray,hlen]⟩,q⟩
 ·obtain ⟨its,r',pl,hz⟩:=I.tuple hq
  have hlen:=r'.length
  exact len_tuple pl [106] ⟨.int ys.length,H,I.tok _,⟨s.toks+1,by rw [List.size_toArray,hlen]⟩,q⟩
theorem zdC:CallR X (.builtin "len") (fun xs H Q=>∃ z,xs=[.str z]/\z.length≤sizeLine/\Q (.int z.length) H):=by
 intro pins s σ H xs us Q I r h
 obtain ⟨z,rfl,hz,q⟩:=h
 obtain ⟨u,rfl,t,rfl⟩:=kf r
 have hn:=kN
 exact len_str [12] ⟨.int z.length,H,I.tok _,⟨_,rfl⟩,q⟩
theorem CallR.or{f:Value}{r r':List V->Hp->VK->Prop}(h:CallR X f r)(h':CallR X f r'):CallR X f (fun xs H Q=>r xs H Q∨r' xs H Q):=by
 intro pins s σ H xs us Q I rs q
 rcases q with q | q
 ·exact h pins s σ H xs us Q I rs q
 ·exact h' pins s σ H xs us Q I rs q
theorem call_list_of:CallR X (.type "list") (fun xs H Q=>∃ p ys,xs=[.ref p]/\[200]/\∀ l,H l=none->Q [288] (upd H l [262])):=by
 intro pins s σ H xs us Q I r h
 obtain ⟨p,ys,rfl,hq,q⟩:=h
 obtain ⟨u,rfl,rx⟩:=kf r
 cases rx
 have fin:∀ (its:List Value),Vals ys its->ys.length≤sizeLine->∀ (h':Heap) (c':Nat),(∀ b o',s.heap.get? b=some o'->h'.get? b=some o')->
   h'.get? s.heap.objs.size=some { cls:=.type "list",dict:=none,data:=.seq its.toArray c',slots:=#[] }->EP X pins σ Q [64] { s with heap:=h' }:=fun its r' hz h' c' kp e=>
  ⟨.ref s.heap.objs.size,_,I.laid (t':=s.toks) kp (Jm _) (show ObjOk X.prog X.w _ h' _ [262] from ⟨hz,its,c',r',e⟩),rfl,q _ [277]⟩
 rcases hq with hq | hq
 ·obtain ⟨its,r',pl,hz⟩:=I.list hq
  have hlen:=r'.length
  obtain ⟨o,ho,hc,n,hd⟩:=pl.isList
  exact call_list_seq p [76] ho hc hd (fun h' c' kp e=>fin its r' hz h' c' kp e) [106]
 ·obtain ⟨its,r',pl,hz⟩:=I.tuple hq
  have hlen:=r'.length
  obtain ⟨o,ho,hc,n,hd⟩:=pl
  exact call_list_seq p (.inr rfl) ho hc hd (fun h' c' kp e=>fin its r' hz h' c' kp e) [106]
theorem j8:CallR X (.type "tuple") (fun xs H Q=>∃ p ys,xs=[.ref p]/\((SqL X.K H p ys/\∀ l,H l=none->Q [288] (upd H l (.tup ys)))∨(SqT X.K H p ys/\Q (.ref p) H))):=by
 intro pins s σ H xs us Q I r h
 obtain ⟨p,ys,rfl,h⟩:=h
 obtain ⟨u,rfl,rx⟩:=kf r
 cases rx
 rcases h with ⟨hq,q⟩ | ⟨hq,q⟩
 ·obtain ⟨its,r',pl,hz⟩:=I.list hq
  have hlen:=r'.length
  refine call_tuple_list pl.isList (fun h' kp=>?_) [106]
  have I1:Inv X pins σ H { s with heap:=h' }:=I.kept (t':=s.toks) kp
  have I2:Inv X pins σ (upd H h'.objs.size (.tup ys)) { s with heap:=h'.push { cls:=.type "tuple",data:=.seq its.toArray } }:=
   I1.laid (t':=s.toks) (fun b o e=>Jd _ e) (Jm _) (show ObjOk X.prog X.w _ _ _ (.tup ys) from ⟨hz,its,r',IsTup.new _ _⟩)
  exact ⟨.ref h'.objs.size,_,I2,rfl,q _ [261]⟩
 ·obtain ⟨its,r',pl,hz⟩:=I.tuple hq
  exact call_tuple_same pl ⟨.ref p,H,I,rfl,q⟩
noncomputable def tyV(K:PySem.W.Frag)(T:String)(x:V)(H:Hp):Prop:=match x with
 | .str _=>T="str"
 | .int _=>T="int"
 | .ref p=>(T="list"/\∃ xs,SqL K H p xs)∨(T="tuple"/\∃ o,K.lookup p=some o/\o.cls=.type "tuple"/\o.dict=none)∨
   (T="dict"/\((∃ kvs,H p=some [94])∨∃ kvs,H p=some (.dT kvs)))∨(T="set"/\∃ S n,H p=some (.set S n))
 | _=>False
theorem ziO{pins:List [24]}{σ:St}{H:Hp}{s:Shared}{T:String}{x:V}{v:Value}(I:Inv X pins σ H s)(r:RelV x v)(ty:tyV X.K T x H):
  s.TypeIs v T/\∀ a,v=.ref a->∃ ob,s.heap.get? a=some ob/\ob.dict=none:=by
 cases x with
 | str z=>
  obtain ⟨t,rfl⟩:=r
  cases (show T="str" from ty)
  exact ⟨typeIs_str s z t,fun _ e=>nomatch e⟩
 | int i=>
  obtain ⟨t,rfl⟩:=r
  cases (show T="int" from ty)
  exact ⟨typeIs_int s i t,fun _ e=>nomatch e⟩
 | ref p=>
  cases r
  rcases ty with ⟨rfl,xs,hq⟩ | ⟨rfl,o,hk,hc,hd⟩ | ⟨rfl,hk⟩ | ⟨rfl,S,n,hk⟩
  ·obtain ⟨its,_,pl,_⟩:=I.list hq
   refine ⟨pl.isList.typeIs,fun a e=>?_⟩
   cases e
   obtain ⟨o,n,e,c,hd,_⟩:=pl
   exact ⟨o,e,hd⟩
  ·refine ⟨⟨o,I.kIn p o hk,hc⟩,fun a e=>?_⟩
   cases e
   exact ⟨o,I.kIn _ o hk,hd⟩
  ·have z:∃ o,s.heap.get? p=some o/\o.ExactDict:=by
    rcases hk with ⟨kvs,hk⟩ | ⟨kvs,hk⟩
    ·obtain ⟨_,_,_,_,o,_,_,e,ex,_⟩:=I.hok p _ hk
     exact ⟨o,e,ex⟩
    ·obtain ⟨_,_,_,_,o,_,_,e,ex,_⟩:=I.hok p _ hk
     exact ⟨o,e,ex⟩
   obtain ⟨o,e,ex⟩:=z
   refine ⟨⟨o,e,ex.1⟩,fun a e2=>?_⟩
   cases e2
   exact ⟨o,e,ex.2.1⟩
  ·obtain ⟨o,_,_,_,e,ex,_⟩:=I.hok p _ hk
   refine ⟨⟨o,e,ex.1⟩,fun a e2=>?_⟩
   cases e2
   exact ⟨o,e,ex.2.1⟩
 | _=>exact False.elim ty
noncomputable def zou(K:PySem.W.Frag)(T:String)(r:V->List V->Hp->VK->Prop)(to:TE):TE:=fun σ H Q=>to σ H fun x H1=>tyV K T x H1/\r x [] H1 Q
noncomputable def tBM(K:PySem.W.Frag)(T:String)(r:V->List V->Hp->VK->Prop)(to:TE)(t:TA):TE:=fun σ H Q=>to σ H fun x H1=>tyV K T x H1/\t σ H1 fun xs H2=>r x xs H2 Q
variable {o e:Expr} {es:List Expr} {to:TE} {t:TA} {name:Str} {apos cpos:Pos} {T id:String} {r:V->List V->Hp->VK->Prop}
theorem zny(pa:PlainAttrs T)(slot:Slot T name id)(hty:typeOf [239]=pure (.type "method_descriptor"))(hm:MtR X id r)(ho:PE X o to)
  (hbase:attributeBase o name X.env (eval o X.env)=eval o X.env:=by rfl)(hline:[256]=true:=by rfl):PE X (.Call (.Attribute o name apos) [] [] cpos) (zou X.K T r to):=by
 intro pins s σ H Q I h
 refine wpAny_Call_method0_late hbase hline (thn [195] fun v s1 hq_=>?_)
 obtain ⟨x,H1,I1,r1,ty,q1⟩:=hq_
 obtain ⟨h1,h2⟩:=ziO I1 r1 ty
 exact ⟨T,id,pa,slot,hty,h1,h2,KM rfl (PySem.evalArgs_none (hm pins s1 σ H1 x [] v [] Q I1 r1 .nil q1))⟩
theorem xB(pa:PlainAttrs T)(slot:Slot T name id)(hty:typeOf [239]=pure (.type "method_descriptor"))(hm:MtR X id r)(ho:PE X o to)(ha:PA X (e::es) t)
  (hbase:attributeBase o name X.env (eval o X.env)=eval o X.env:=by rfl)
  (hfew:((backTo cpos (starEach (e::es) X.env)).all (fun x=>!x.1) && (backToKw cpos (keywordEach [] X.env)).all (fun x=>x.1.isSome)
   && decide ((e::es).length+([]:List Keyword).length+[219]<30))=true:=by rfl)
  (hline:[256]=true:=by rfl)(hs:starEach (e::es) X.env=[54]::starEach es X.env:=by rfl)(hplain:(backTo cpos (starEach es X.env)).any (·.1)=false:=by rfl):
  PE X (.Call (.Attribute o name apos) (e::es) [] cpos) (tBM X.K T r to t):=by
 intro pins s σ H Q I h
 refine wpAny_Call_method_late hbase hfew hline rfl (thn [195] fun v s1 hq_=>?_)
 obtain ⟨x,H1,I1,r1,ty,q1⟩:=hq_
 obtain ⟨h1,h2⟩:=ziO I1 r1 ty
 refine ⟨T,id,pa,slot,hty,h1,h2,?_⟩
 have hA:=ha cpos pins s1 σ H1 _ I1 q1
 rw [hs] at hA ⊢
 refine KM (by show (false || (backTo cpos (starEach es X.env)).any (·.1))=false;rw [hplain]<;>rfl) (Calls.evalArgs_plain ?_)
 exact thn hA fun us s2 ⟨vs,H2,I2,r2,q2⟩=>hm pins s2 σ H2 x vs v us Q I2 r1 r2 q2
end
noncomputable def MtM(X:Cx)(id:String)(r:V->List V->Hp->VK->Prop):Prop:=
 ∀ (pins:List [24]) (s:Shared) (σ:St) (H:Hp) (x:V) (xs:List V) (v:Value) (us:List Value) (Q:VK),Inv X pins σ H s->RelV x v->Vals xs us->r x xs H Q->
  wpAny [21] X.A (call [239] (v::us)) [144] X.xe s
theorem Vals.one{x:V}{us:List Value}(h:Vals [x] us):∃ u,us=[u]/\RelV x u:=by
 cases h with | cons r t=>cases t;exact ⟨_,rfl,r⟩
theorem Vals.zero:∀ {us:List Value},Vals [] us->us=[]
 | _,.nil=>rfl
theorem Vals.dropLast{xs:List V}{us:List Value}(h:Vals xs us):Vals xs.dropLast us.dropLast:=by
 induction h with
 | nil=>exact .nil
 | cons r t ih=>
  cases t with
  | nil=>exact .nil
  | cons q t'=>exact .cons r ih
theorem Vals.eraseIdx:∀ {xs:List V} {us:List Value} (i:Nat),Vals xs us->Vals (xs.eraseIdx i) (us.eraseIdx i)
 | _,_,_,.nil=>.nil
 | _,_,0,.cons _ t=>t
 | _,_,i+1,.cons r t=>.cons r (Vals.eraseIdx i t)
theorem Vals.rep{xs:List V}{us:List Value}(h:Vals xs us):∀ k:Nat,Vals (List.replicate k xs).flatten (List.replicate k us).flatten
 | 0=>.nil
 | k+1=>by
  rw [Kd,Kd,Kv,Kv]
  exact Vals.append h (Vals.rep h k)
theorem zfW{α:Type}(l:List α):l.eraseIdx (l.length - 1)=l.dropLast:=List.eraseIdx_length_sub_one
theorem zcy{α:Type}:∀ (l:List α) (i:Nat),(l.eraseIdx i).length≤l.length
 | [],_=>Jm _
 | _::_,0=>Nat.le_succ _
 | _::r,i+1=>Nat.succ_le_succ (zcy r i)
theorem zcG(its:List Value):∀ (k:Nat) (acc:List Value),
  List.foldl (fun x1 x2=>x1++x2) acc.toArray (List.replicate k its.toArray)=(acc++(List.replicate k its).flatten).toArray
 | 0,acc=>by simp
 | k+1,acc=>by
  have e:acc.toArray++its.toArray=(acc++its).toArray:=by simp
  have e2:(acc++its)++(List.replicate k its).flatten=acc++(List.replicate (k+1) its).flatten:=by
   rw [Kd,Kv,JZ]
  rw [← e2,← zcG its k (acc++its),← e,Kd,List.foldl_cons]
section
variable {X:Cx} {pins:List [24]} {σ:St} {H:Hp} {s:Shared} {l b:Addr} {xs ys zs:List V}
theorem Inv.lset{its its':List Value}{n:Nat}{f:Array Value->Array Value}{t':Nat}(I:Inv X pins σ H s)(hH:H l=some [107])
  (e:s.heap.get? l=some { cls:=.type "list",data:=.seq its.toArray n })(hf:f its.toArray=its'.toArray)(hv:Vals ys its')(hz:ys.length≤sizeLine):
  Inv X pins σ (upd H l [262]) { s with heap:=s.heap.update l (Obj.mapSeq f),toks:=t' }:=by
 have q:=PySem.IsL.update e f
 rw [hf] at q
 refine I.write (x:=l) (e:=l) (by rw [hH];exact trivial) [76] (fun b' u hb hu=>(Heap.get?_update_other s.heap (Obj.mapSeq f) (Ne.symm hb)).trans hu) ⟨_,q⟩ ?_
 exact ⟨hz,its',_,hv,q⟩
theorem Inv.lnew{its:List Value}{t':Nat}(I:Inv X pins σ H s)(hv:Vals ys its)(hz:ys.length≤sizeLine):
  Inv X pins σ (upd H s.heap.objs.size [262]) { s with heap:=s.heap.push { cls:=.type "list",data:=.seq its.toArray },toks:=t' }:=
 I.laid (fun _ _ q=>Jd _ q) (Jm _) ⟨hz,its,0,hv,Jp _ rfl⟩
theorem Inv.fresh(I:Inv X pins σ H s):H s.heap.objs.size=none:=I.hok.fresh (Jm _)
theorem Inv.lstM(I:Inv X pins σ H s)(hH:H l=some [107]):xs.length≤sizeLine/\∃ (its:List Value) (n:Nat),Vals xs its/\xs.length=its.length/\s.heap.get? l=some { cls:=.type "list",data:=.seq its.toArray n }:=by
 obtain ⟨z,its,n,r,e⟩:=I.hok l _ hH
 exact ⟨z,its,n,r,r.length,e⟩
theorem zbi{n:Nat}(h:n≤sizeLine):Builtin.List.listTooLong n=false:=by
 unfold Builtin.List.listTooLong
 exact decide_eq_false [12]
end
section
variable {X:Cx}
noncomputable def kr:V->List V->Hp->VK->Prop:=fun x vs H Q=>∃ l xs y,x=.ref l/\vs=[y]/\H l=some [107]/\xs.length<sizeLine/\Q .non (upd H l (.lst (xs++[y])))
theorem zp:MtM X "list.append" kr:=by
 intro pins s σ H x vs v us Q I rx rv h
 obtain ⟨l,xs,y,rfl,rfl,hH,hz,q⟩:=h
 cases rx
 obtain ⟨u,rfl,ru⟩:=rv.one
 obtain ⟨z,its,n,r,hl,e⟩:=I.lstM hH
 refine call_meets F.slot_list_append ⟨_,e,rfl⟩ F.entry_list_append (F.args_list_append_2 _ _) (PySem.list_append l its.toArray n u [314]) ⟨e,?_⟩
 refine ⟨.non,_,I.lset (its':=its++[u]) hH e [19] (r.append (.cons ru .nil)) ?_,rfl,q⟩
 rw [Jl,Ko]
 omega
noncomputable def zdd:V->List V->Hp->VK->Prop:=fun x vs H Q=>∃ l b xs zs,x=.ref l/\vs=[.ref b]/\H l=some [107]/\H b=some (.lst zs)/\xs.length+zs.length≤sizeLine/\Q .non (upd H l (.lst (xs++zs)))
theorem mt_extend:MtM X "list.extend" zdd:=by
 intro pins s σ H x vs v us Q I rx rv h
 obtain ⟨l,b,xs,zs,rfl,rfl,hH,hB,hz,q⟩:=h
 cases rx
 obtain ⟨u,rfl,ru⟩:=rv.one
 cases ru
 obtain ⟨z,its,n,r,hl,e⟩:=I.lstM hH
 obtain ⟨z2,its2,n2,r2,hl2,e2⟩:=I.lstM hB
 have hsz:its.toArray.size+its2.toArray.size≤sizeLine:=by rw [Jz,Jz];omega
 have hlong:¬ (!its.toArray.isEmpty && Builtin.List.listTooLong (its.toArray.size+its2.toArray.size))=true:=by
  rw [zbi hsz,Bool.and_false]
  exact Je
 refine call_meets F.slot_list_extend ⟨_,e,rfl⟩ F.entry_list_extend (F.args_list_extend_2 _ _)
  (AutoSeq1.list_extend_list_list_0 l its.toArray n b its2.toArray n2 hlong [314] [12]) ⟨e,e2,?_⟩
 refine ⟨.non,_,I.lset (its':=its++its2) hH e [19] (r.append r2) ?_,rfl,q⟩
 rw [Jl]
 omega
noncomputable def zoC:V->List V->Hp->VK->Prop:=fun x vs H Q=>∃ l xs y,x=.ref l/\vs=[]/\H l=some [107]/\xs[xs.length - 1]?=some y/\Q y (upd H l (.lst xs.dropLast))
theorem znC:MtM X "list.pop" zoC:=by
 intro pins s σ H x vs v us Q I rx rv h
 obtain ⟨l,xs,y,rfl,rfl,hH,hy,q⟩:=h
 cases rx
 have hus:=rv.zero
 subst hus
 obtain ⟨z,its,n,r,hl,e⟩:=I.lstM hH
 obtain ⟨u,hu,ru⟩:=r.get hy
 have hy':its.toArray[its.toArray.size - 1]?=some u:=by
  show its.toArray[its.length - 1]?=some u
  rw [← JL,← hl]
  exact hu
 refine call_meets F.slot_list_pop ⟨_,e,rfl⟩ F.entry_list_pop (F.args_list_pop_1 _) (MeetsSeq.list_pop_last l its.toArray n u hy' [314]) ⟨e,?_⟩
 refine ⟨y,_,I.lset (its':=its.dropLast) hH e ?_ r.dropLast ?_,ru,q⟩
 ·show its.toArray.eraseIdxIfInBounds (its.toArray.size - 1)=its.dropLast.toArray
  rw [Jz,List.eraseIdxIfInBounds_toArray,zfW]
 ·rw [List.length_dropLast]
  omega
noncomputable def zjp:V->List V->Hp->VK->Prop:=fun x vs H Q=>∃ l xs i k y,x=.ref l/\vs=[.int i]/\H l=some [107]/\-(2 ^ 63)≤i/\i<2 ^ 63/\seqIndex? i xs.length=some k/\xs[k]?=some y/\Q y (upd H l (.lst (xs.eraseIdx k)))
theorem zjV:MtM X "list.pop" zjp:=by
 intro pins s σ H x vs v us Q I rx rv h
 obtain ⟨l,xs,i,k,y,rfl,rfl,hH,h1,h2,hk,hy,q⟩:=h
 cases rx
 obtain ⟨u,rfl,ru⟩:=rv.one
 obtain ⟨t,rfl⟩:=ru
 obtain ⟨z,its,n,r,hl,e⟩:=I.lstM hH
 obtain ⟨w,hw,rw'⟩:=r.get hy
 refine call_meets F.slot_list_pop ⟨_,e,rfl⟩ F.entry_list_pop (F.args_list_pop_2 _ _)
  (MeetsSeq.list_pop_at l its.toArray n i t k w (fitsIndex_both h1 h2) (by rw [Jz,← hl];exact hk) (by rw [← JL];exact hw) [314]) ⟨e,?_⟩
 refine ⟨y,_,I.lset (its':=its.eraseIdx k) hH e ?_ (r.eraseIdx k) ?_,rw',q⟩
 ·show its.toArray.eraseIdxIfInBounds k=(its.eraseIdx k).toArray
  rw [List.eraseIdxIfInBounds_toArray]
 ·have:=zcy xs k
  omega
noncomputable def znf:R2:=fun x y H Q=>∃ l b xs zs,x=.ref l/\y=.ref b/\H l=some [107]/\H b=some (.lst zs)/\xs.length+zs.length≤sizeLine/\∀ p,H p=none->Q (.ref p) (upd H p (.lst (xs++zs)))
theorem op_cat:OpR X [322] znf:=by
 intro pins s σ H x y v u Q I rx ry h
 obtain ⟨l,b,xs,zs,rfl,rfl,hH,hB,hz,q⟩:=h
 cases rx
 cases ry
 obtain ⟨z,its,n,r,hl,e⟩:=I.lstM hH
 obtain ⟨z2,its2,n2,r2,hl2,e2⟩:=I.lstM hB
 refine PySem.P.add_list e e2 ?_ (by rw [Jz,Jz];omega)
 have ea:its.toArray++its2.toArray=(its++its2).toArray:=by simp
 rw [ea]
 exact ⟨.ref _,_,I.lnew (t':=s.toks) (r.append r2) (by rw [Jl];omega),rfl,q _ I.fresh⟩
noncomputable def znd:R2:=fun x y H Q=>∃ l k xs,x=.ref l/\y=.int k/\H l=some [107]/\-(2 ^ 63)≤k/\k<2 ^ 63/\xs.length * k.toNat≤sizeLine/\
 ∀ p,H p=none->Q (.ref p) (upd H p (.lst (List.replicate k.toNat xs).flatten))
theorem zmc{α:Type}(xs:List α)(k:Nat):(List.replicate k xs).flatten.length=k * xs.length:=by
 induction k with
 | zero=>simp
 | succ k ih=>rw [Kd,Kv,Jl,ih,Nat.succ_mul,Nat.add_comm]
theorem znA:OpR X (binaryOp .Mult) znd:=by
 intro pins s σ H x y v u Q I rx ry h
 obtain ⟨l,k,xs,rfl,rfl,hH,h1,h2,hz,q⟩:=h
 cases rx
 obtain ⟨t,rfl⟩:=ry
 obtain ⟨z,its,n,r,hl,e⟩:=I.lstM hH
 have hlen:its.toArray.size * k.toNat≤sizeLine:=by rw [Jz,← hl];exact hz
 have hcap:¬ its.toArray.size * k.toNat > (2 ^ 63 - 1) / 8:=by
  have:(sizeLine:Nat)≤(2 ^ 63 - 1) / 8:=by decide
  omega
 have hfit:¬ (!Builtin.List.listFitsIndex k)=true:=by
  rw [fitsIndex_both h1 h2]
  exact Je
 have hlong:¬ Builtin.List.listTooLong (its.toArray.size * k.toNat)=true:=by
  rw [zbi hlen]
  exact Je
 have hnew:List.foldl (fun x1 x2=>x1++x2) #[] (List.replicate (if its.toArray.isEmpty=true then 0 else k.toNat) its.toArray)=(List.replicate k.toNat its).flatten.toArray:=by
  have f0:∀ m:Nat,List.foldl (fun x1 x2=>x1++x2) #[] (List.replicate m its.toArray)=(List.replicate m its).flatten.toArray:=fun m=>by
   have:=zcG its m []
   rw [List.nil_append] at this
   exact this
  rw [f0]
  cases its with
  | nil=>simp
  | cons a r'=>rw [if_neg [19]]
 refine wpAny_binaryOp_repeat_ref (T:="list") (U:="int") [10] ⟨_,e,rfl⟩ (fun s'=>typeIs_int s' k t) noFill_list_mul F.fills_int_mul F.slot_int_rmul repeat_list F.slot_int_index.lookup
  (call_meets F.slot_int_rmul (typeIs_int s k t) F.entry_int_rmul (F.args_int_rmul_2 _ _) (int___rmul___int_list k t l its.toArray n)
   ⟨e,rfl,⟨_,e,rfl⟩,call_meets F.slot_list_mul ⟨_,e,rfl⟩ F.entry_list_mul (F.args_list_mul_2 _ _) (AutoListH.list___mul___list_int_3 l its.toArray n k t hfit hcap hlong) ⟨e,?_⟩⟩)
 rw [hnew]
 exact ⟨.ref _,_,I.lnew (t':=s.toks) (r.rep k.toNat) (by rw [zmc,Nat.mul_comm];exact hz),rfl,q _ I.fresh⟩
end
section
variable {κ:Type} [DecidableEq κ]
noncomputable def wP(kvs:List [292])(k:κ):Option V:=(kvs.find? fun kv=>decide (kv.1=k)).map (·.2)
noncomputable def wQ(kvs:List [292])(k:κ)(v:V):List [292]:=
 if [201]=true then kvs.map (fun kv=>if kv.1=k then (kv.1,v) else kv) else kvs++[(k,v)]
noncomputable def zqA(kvs:List [292])(k:κ):List [292]:=kvs.filter fun kv=>decide (kv.1≠k)
theorem kg{p:κ × V}{r:List [292]}{k:κ}(e:p.1=k):wP (p::r) k=some p.2:=by simp [wP,List.find?_cons,e]
theorem zaH{p:κ × V}{r:List [292]}{k:κ}(e:¬ p.1=k):wP (p::r) k=wP r k:=by simp [wP,List.find?_cons,e]
theorem kh(k:κ):∀ kvs:List [292],[201]=(wP kvs k).isSome
 | []=>rfl
 | p::r=>by
  rw [Ki]
  by_cases e:p.1=k
  ·simp only [kg e,decide_eq_true e,Bool.true_or,Option.isSome_some]
  ·rw [zaH e,decide_eq_false e,Bool.false_or];exact kh k r
theorem vn(kvs:List [292])(k:κ)(v:V):(wQ kvs k v).length≤kvs.length+1:=by
 unfold wQ
 split
 ·rw [Jh];omega
 ·rw [Jl,JF,List.length_nil];omega
theorem RelO.isSome_eq{o:Option V}{u:Option Value}(r:RelO o u):o.isSome=u.isSome:=by
 cases o with
 | none=>cases u with
  | none=>rfl
  | some _=>exact [293].elim
 | some _=>cases u with
  | none=>exact [293].elim
  | some _=>rfl
theorem RelO.getD{o:Option V}{u:Option Value}{d:V}{d':Value}(r:RelO o u)(rd:RelV d d'):RelV (o.getD d) (u.getD d'):=by
 cases o with
 | none=>cases u with
  | none=>exact rd
  | some _=>exact [293].elim
 | some _=>cases u with
  | none=>exact [293].elim
  | some _=>exact r
theorem KV.val{kvs:List [292]}{vs:List (κ × Value)}(r:KV kvs vs)(k:κ):RelO (wP kvs k) (valueAt vs k):=by
 unfold KV at r
 induction r with
 | nil=>exact True.intro
 | @cons p q ps qs h t ih=>
  obtain ⟨h1,h2⟩:=h
  by_cases e:p.1=k
  ·have e':q.1=k:=h1.symm.trans e
   have b:valueAt (q::qs) k=some q.2:=by simp [valueAt,List.find?_cons,e']
   rw [kg e,b];exact h2
  ·have e':¬ q.1=k:=fun z=>e (h1.trans z)
   have b:valueAt (q::qs) k=valueAt qs k:=by simp [valueAt,List.find?_cons,e']
   rw [zaH e,b];exact ih
theorem KV.any{kvs:List [292]}{vs:List (κ × Value)}(r:KV kvs vs)(k:κ):[201]=vs.any fun kv=>decide (kv.1=k):=by
 unfold KV at r
 induction r with
 | nil=>rfl
 | cons h t ih=>rw [Ki,Ki,ih,h.1]
theorem KV.repl{kvs:List [292]}{vs:List (κ × Value)}(r:KV kvs vs)(k:κ){y:V}{u:Value}(ry:RelV y u):
  KV (kvs.map fun kv=>if kv.1=k then (kv.1,y) else kv) (vs.map fun kv=>if kv.1=k then (kv.1,u) else kv):=by
 unfold KV at r ⊢
 induction r with
 | nil=>exact .nil
 | @cons p q ps qs h t ih=>
  rw [Ju,Ju]
  refine .cons ?_ ih
  obtain ⟨h1,h2⟩:=h
  by_cases e:p.1=k
  ·rw [if_pos e,if_pos (h1.symm.trans e)];exact ⟨h1,ry⟩
  ·rw [if_neg e,if_neg (fun z=>e (h1.trans z))];exact ⟨h1,h2⟩
theorem KV.put{kvs:List [292]}{vs:List (κ × Value)}(r:KV kvs vs)(k:κ){y:V}{u:Value}(ry:RelV y u):KV (wQ kvs k y) (stored vs k u):=by
 unfold wQ stored
 rw [r.any k]
 by_cases e:(vs.any fun kv=>decide (kv.1=k))=true
 ·rw [if_pos e,if_pos e];exact r.repl k ry
 ·rw [if_neg e,if_neg e];exact Paired.snoc r ⟨rfl,ry⟩
theorem KV.length{kvs:List [292]}{vs:List (κ × Value)}(r:KV kvs vs):kvs.length=vs.length:=Paired.length r
end
theorem zac{P:Program}{w:World}{k:Key}{u:Value}(r:RelV (kV k) u):(zl P w).is k u=true:=by
 cases k with
 | inl i=>obtain ⟨t,e⟩:=(show ∃ t,u=Value.int i t from r);subst e;exact zev P w i t
 | inr x=>obtain ⟨t,e⟩:=(show ∃ t,u=Value.str x t from r);subst e;exact zeu P w x t
theorem zcF{P:Program}{w:World}:∀ {ks:List Key} {us:List Value},Vals (ks.map kV) us->ItemsAre (zl P w) ks us
 | [],_,r=>by rw [List.map_nil] at r;cases r;exact .nil
 | k::ks,_,r=>by
  rw [Ju] at r
  cases r with
  | cons h t=>exact .cons (zac h) (zcF t)
noncomputable abbrev KT(H:Hp):List (List Key × V)->List (List Key × Addr × Value)->Prop:=Paired fun p q=>p.1=q.1/\H q.2.1=some (.tup (p.1.map kV))/\RelV p.2 q.2.2
theorem KT.val{H:Hp}{kvs:List [211]}{xs:List [143]}(r:KT H kvs xs)(k:List Key):RelO (wP kvs k) ((atKey xs k).map (·.2)):=by
 induction r with
 | nil=>exact True.intro
 | @cons p q ps qs h t ih=>
  obtain ⟨h1,_,h2⟩:=h
  by_cases e:p.1=k
  ·have e':q.1=k:=h1.symm.trans e
   have b:atKey (q::qs) k=some q.2:=by simp [atKey,List.find?_cons,e']
   rw [kg e,b];exact h2
  ·have e':¬ q.1=k:=fun z=>e (h1.trans z)
   have b:atKey (q::qs) k=atKey qs k:=by simp [atKey,List.find?_cons,e']
   rw [zaH e,b];exact ih
theorem KT.repl{H:Hp}{kvs:List [211]}{xs:List [143]}(r:KT H kvs xs)(k:List Key){y:V}{u:Value}(ry:RelV y u):
  KT H (kvs.map fun kv=>if kv.1=k then (kv.1,y) else kv) (xs.map (putAt k u)):=by
 induction r with
 | nil=>exact .nil
 | @cons p q ps qs h t ih=>
  rw [Ju,Ju]
  refine .cons ?_ ih
  obtain ⟨h1,h2,h3⟩:=h
  unfold putAt
  by_cases e:p.1=k
  ·rw [if_pos e,if_pos (h1.symm.trans e)];exact ⟨h1,h2,ry⟩
  ·rw [if_neg e,if_neg (fun z=>e (h1.trans z))];exact ⟨h1,h2,h3⟩
theorem KT.put{H:Hp}{kvs:List [211]}{xs:List [143]}(r:KT H kvs xs)(k:List Key){b:Addr}{y:V}{u:Value}(hb:H b=some (.tup (k.map kV)))(ry:RelV y u):
  KT H (wQ kvs k y) (storedH xs k b u):=by
 have e:[201]=(atKey xs k).isSome:=by
  rw [kh,(r.val k).isSome_eq,Option.isSome_map]
 unfold wQ storedH
 rw [e]
 by_cases q:(atKey xs k).isSome=true
 ·rw [if_pos q,if_pos q];exact r.repl k ry
 ·rw [if_neg q,if_neg q];exact Paired.snoc r ⟨rfl,hb,ry⟩
theorem KT.keeps{H H':Hp}{kvs:List [211]}{xs:List [143]}(r:KT H kvs xs)(ht:∀ b ys,H b=some (.tup ys)->H' b=some (.tup ys)):KT H' kvs xs:=
 Paired.mapP r fun _ _ z=>⟨z.1,ht _ _ z.2.1,z.2.2⟩
section
variable {P:Program} {w:World} {H:Hp} {h:Heap} {a:Addr}
theorem zmC{u:HO}(ok:HOk P w H h)(e:Rd H a u):ObjOk P w H h a u:=e.ok ok
theorem zai{kvs:List [149]}(ok:HOk P w H h)(e:Rd H a [94]):kvs.length≤sizeLine/\[198]=false/\∃ vs,KV kvs vs/\h.DictOf (zl P w) a vs:=
 show ObjOk P w H h a [94] from zmC ok e
theorem qE{kvs:List [149]}(ok:HOk P w H h)(e:H a=some [94]):kvs.length≤sizeLine/\[198]=false/\∃ vs,KV kvs vs/\h.DictOf (zl P w) a vs:=zai ok (.inl e)
theorem qb{ks:List Key}(ok:HOk P w H h)(e:H a=some (.tup (ks.map kV))):[274].is h ks a:=by
 obtain ⟨_,its,r,o,h1,h2,n,h3⟩:=(show ObjOk P w H h a (.tup (ks.map kV)) from ok a _ e)
 exact ⟨o,its.toArray,n,h1,h2,h3,by simpa using zcF r⟩
theorem zbJ{kvs:List [211]}(ok:HOk P w H h)(e:Rd H a (.dT kvs)):kvs.length≤sizeLine/\[198]=false/\
  ∃ xs,KT H kvs xs/\h.DictOfH [274] a xs:=by
 obtain ⟨z,y,xs,r,o,es,ep,h1,h2,h3,h4,h5⟩:=(show ObjOk P w H h a (.dT kvs) from zmC ok e)
 refine ⟨z,y,xs,r,o,es,ep,h1,h2,h3,h4,fun x hx=>?_,h5⟩
 have all:∀ {l:List [211]} {m:List [143]},KT H l m->∀ x ∈ m,[274].is h x.1 x.2.1:=by
  intro l m q
  induction q with
  | nil=>intro x hx;exact nomatch hx
  | @cons p q ps qs hq t ih=>
   intro x hx
   rcases List.mem_cons.mp hx with e | hx
   ·subst e
    exact qb ok (by rw [← hq.1];exact hq.2.1)
   ·exact ih x hx
 exact all r x hx
theorem zpj{kvs:List [211]}(ok:HOk P w H h)(e:H a=some (.dT kvs)):kvs.length≤sizeLine/\[198]=false/\
  ∃ xs,KT H kvs xs/\h.DictOfH [274] a xs:=zbJ ok (.inl e)
end
noncomputable def DGet(H:Hp)(a:Addr)(y:V)(r:Option V):Prop:=
 (∃ kvs k,Rd H a [94]/\y=kV k/\r=wP kvs k)∨∃ kvs k b,Rd H a (.dT kvs)/\y=.ref b/\H b=some (.tup (k.map kV))/\r=wP kvs k
noncomputable def DPut(H:Hp)(a:Addr)(y v:V)(H':Hp):Prop:=
 (∃ kvs k,H a=some [94]/\y=kV k/\kvs.length<sizeLine/\H'=upd H a (.dK (wQ kvs k v)))∨
 ∃ kvs k b,H a=some (.dT kvs)/\y=.ref b/\H b=some (.tup (k.map kV))/\kvs.length<sizeLine/\H'=upd H a (.dT (wQ kvs k v))
theorem DGet.k{H:Hp}{a:Addr}{kvs:List [149]}{k:Key}(e:H a=some [94]):DGet H a (kV k) (wP kvs k):=.inl ⟨kvs,k,.inl e,rfl,rfl⟩
theorem DPut.k{H:Hp}{a:Addr}{kvs:List [149]}{k:Key}{v:V}(e:H a=some [94])(hl:kvs.length<sizeLine):DPut H a (kV k) v (upd H a (.dK (wQ kvs k v))):=.inl ⟨kvs,k,e,rfl,hl,rfl⟩
section
variable {X:Cx} {pins:List [24]} {σ:St} {H:Hp} {s:Shared} {a:Addr} {y v:V} {u r:Value} {o:Option V} {A:Around} {E:Value->Shared->Prop}
theorem Inv.big(I:Inv X pins σ H s):sysModules<s.heap.objs.size:=by
 have h:mainGlobals<s.heap.objs.size:=(I.mod.glob.keeps I.bk).lt
 exact Nat.lt_trans [10] h
theorem zim{Q:Value->Shared->Prop}(hu:A.units+1<cLine)(I:Inv X pins σ H s)(g:DGet H a y (some v))(ry:RelV y u)(h:∀ w' s',Inv X pins σ H s'->RelV v w'->Q w' s'):
  wpAny [21] A (getItem [84] u) Q E s:=by
 rcases g with ⟨kvs,k,e,ey,l⟩ | ⟨kvs,k,b,e,ey,eb,l⟩
 ·subst ey
  obtain ⟨z,hd,vs,rel,dd⟩:=zai I.hok e
  obtain ⟨w',hw,rw'⟩:=RelO.some_of (v:=v) (o:=valueAt vs k) (by rw [l];exact rel.val k)
  exact wpAny_getItem_of (zac ry) dd.mapOf hw (h w' _ (I.tok _) rw')
 ·subst ey
  cases (show u=Value.ref b from ry)
  obtain ⟨z,hd,xs,rel,dd⟩:=zbJ I.hok e
  obtain ⟨w',hw,rw'⟩:=RelO.some_of (v:=v) (o:=(atKey xs k).map (·.2)) (by rw [l];exact rel.val k)
  obtain ⟨p,hp,hp2⟩:=JT.mp hw
  refine wpAny_getItem_heap [303] (qb I.hok eb) dd hp ?_
  rw [hp2]
  exact h w' _ (I.tok _) rw'
theorem zqn{Q:Value->Shared->Prop}(hu:A.units+1<cLine)(I:Inv X pins σ H s)(g:DGet H a y o)(ry:RelV y u)(h:∀ s',Inv X pins σ H s'->Q (.bool o.isSome) s'):
  wpAny [21] A (compareOp .In u [84]) Q E s:=by
 rcases g with ⟨kvs,k,e,ey,l⟩ | ⟨kvs,k,b,e,ey,eb,l⟩
 ·subst ey
  obtain ⟨z,hd,vs,rel,dd⟩:=zai I.hok e
  refine wpAny_in_of (zac ry) hd dd.mapOf ?_
  rw [← (rel.val k).isSome_eq,← l]
  exact h _ (I.tok _)
 ·subst ey
  cases (show u=Value.ref b from ry)
  obtain ⟨z,hd,xs,rel,dd⟩:=zbJ I.hok e
  refine wpAny_in_heap [303] (qb I.hok eb) hd dd ?_
  have q:=(rel.val k).isSome_eq
  rw [Option.isSome_map] at q
  rw [← q,← l]
  exact h _ (I.tok _)
theorem zmr{Q:Value->Shared->Prop}(hu:A.units+1<cLine)(I:Inv X pins σ H s)(g:DGet H a y o)(ry:RelV y u)(h:∀ s',Inv X pins σ H s'->Q (.bool (!o.isSome)) s'):
  wpAny [21] A (compareOp .NotIn u [84]) Q E s:=by
 rcases g with ⟨kvs,k,e,ey,l⟩ | ⟨kvs,k,b,e,ey,eb,l⟩
 ·subst ey
  obtain ⟨z,hd,vs,rel,dd⟩:=zai I.hok e
  refine wpAny_notIn_of (zac ry) hd dd.mapOf ?_
  rw [← (rel.val k).isSome_eq,← l]
  exact h _ (I.tok _)
 ·subst ey
  cases (show u=Value.ref b from ry)
  obtain ⟨z,hd,xs,rel,dd⟩:=zbJ I.hok e
  refine wpAny_notIn_heap [303] (qb I.hok eb) hd dd ?_
  have q:=(rel.val k).isSome_eq
  rw [Option.isSome_map] at q
  rw [← q,← l]
  exact h _ (I.tok _)
theorem qF{h':Heap}{t':Nat}{ob:HO}(I:Inv X pins σ H s)(mu:Mut (H a))(hs:Heap.SameBut a s.heap h')(he:∃ q,h'.get? a=some q)(new:ObjOk X.prog X.w (upd H a ob) h' a ob):
  Inv X pins σ (upd H a ob) { s with heap:=h',toks:=t' }:=
 I.write (x:=a) (e:=a) mu [76] (fun b q hb z=>(hs.2 b hb).trans z) he new
theorem zdz{P:Program}{w:World}{H':Hp}{h':Heap}{kvs:List [149]}{vs:List (Key × Value)}(z:kvs.length≤sizeLine)(hd:[198]=false)(rel:KV kvs vs)(dd:h'.DictOf (zl P w) a vs):
  ObjOk P w H' h' a [94]:=⟨z,hd,vs,rel,dd⟩
theorem zil{H':Hp}{Q:Unit->Shared->Prop}(hu:A.units+1<cLine)(I:Inv X pins σ H s)(g:DPut H a y v H')(ry:RelV y u)(rv:RelV v r)(h:∀ s',Inv X pins σ H' s'->Q () s'):
  wpAny [21] A (setItem [84] u r) Q E s:=by
 rcases g with ⟨kvs,k,e,ey,l,eH⟩ | ⟨kvs,k,b,e,ey,eb,l,eH⟩
 ·subst ey eH
  obtain ⟨z,hd,vs,rel,dd⟩:=qE I.hok e
  have hz:vs.length≤sizeLine:=by rw [← rel.length];exact z
  have hl:(wQ kvs k v).length≤sizeLine:=by have:=vn kvs k v;omega
  refine wpAny_setItem_pairs (hsz:=hz) (zac ry) dd fun h' dd' hs=>h _ ?_
  have he:∃ q,h'.get? a=some q:=let ⟨q,_,_,hq,_⟩:=dd';⟨q,hq⟩
  exact qF I [250] hs he (zdz hl hd (rel.put k rv) dd')
 ·subst ey eH
  cases (show u=Value.ref b from ry)
  obtain ⟨z,hd,xs,rel,dd⟩:=zpj I.hok e
  have hz:xs.length≤sizeLine:=by rw [← Paired.length rel];exact z
  have hl:(wQ kvs k v).length≤sizeLine:=by have:=vn kvs k v;omega
  refine wpAny_setItem_heap (hsz:=hz) [303] (qb I.hok eb) dd fun h' dd' hs=>h _ ?_
  obtain ⟨q,es,ep,hq,h2,h3,h4,_,h5⟩:=dd'
  refine qF I [250] hs ⟨q,hq⟩ ⟨hl,hd,_,(rel.put k eb rv).keeps fun c ys ec=>?_,q,es,ep,hq,h2,h3,h4,h5⟩
  rw [zm (zoS ec e [73])]
  exact ec
end
section
variable {X:Cx} {pins:List [24]} {σ:St} {H:Hp} {s:Shared} {a:Addr} {kvs:List [149]} {k:Key} {u:Value} {A:Around} {E:Value->Shared->Prop}
theorem zpm{Q:Value->Shared->Prop}(I:Inv X pins σ H s)(e:Rd H a [94])(h:∀ t s',Inv X pins σ H s'->Q (.int kvs.length t) s'):wpAny [21] A (call (.builtin "len") [.ref a]) Q E s:=by
 obtain ⟨z,hd,vs,rel,dd⟩:=zai I.hok e
 refine call_len_dict hd dd (by rw [← rel.length];rw [sizeLine_eq] at z;omega) ?_
 rw [← rel.length]
 exact h _ _ (I.tok _)
end
noncomputable def zpv(i:Expr):Prop:=∀ ov iv,subscripted i false ov iv=operate [ov,iv] (getItem ov iv)
theorem zlq{prog:Program}{w:World}{A:Around}{E:Value->Shared->Prop}{s:Shared}{env:Env}{value slice:Expr}{pos:Pos}{T id:String}{Q:Value->Shared->Prop}
  (hl:typeLookup (.type T) "__getitem__"=pure (some [239]))(hs:zpv slice)
  (h:wpAny [35] A (eval value env) (fun o s₁=>wpAny [35] A (eval slice env) (fun i s₂=>s₂.TypeIs o T/\wpAny [35] A (getItem o i) Q E s₂) E s₁) E s):
  wpAny [35] A (eval (.Subscript value slice pos) env) Q E s:=by
 refine Subscript_ (wpAny_mono h (fun o s₁ h₁=>wpAny_mono h₁ (fun i s₂ h₂=>?_) fun _ _ x=>x) fun _ _ x=>x)
 obtain ⟨hT,h₂⟩:=h₂
 unfold subscriptTail
 refine wpAny_bind ?_
 rw [getitemInPython_of_ne hT.not_modules]
 refine wpAny_bind (wpAny_specialOf hT hl ?_)
 have fin:wpAny [35] A (subscripted slice false o i) (fun r s₃=>wpAny [35] A (letTemporaryGo value o r >>= fun _=>pure r) Q E s₃) E s₂:=by
  rw [hs o i]
  exact wpAny_operating (wpAny_mono h₂ (fun r s₃ h₃=>wpAny_bind (wpAny_letTemporaryGo (wpAny_pure h₃))) fun _ _ x=>x)
 first
  | exact wpAny_pure (wpAny_bind fin)
  | exact wpAny_bind (wpAny_pure (wpAny_bind fin))
  | exact wpAny_bind fin
theorem zeP{X:Cx}{pins:List [24]}{σ:St}{H:Hp}{s:Shared}{a:Addr}{y:V}{o:Option V}(I:Inv X pins σ H s)(g:DGet H a y o):s.TypeIs [84] "dict":=by
 rcases g with ⟨kvs,k,e,_,_⟩ | ⟨kvs,k,b,e,_,_,_⟩
 ·obtain ⟨_,_,vs,_,dd⟩:=zai I.hok e
  exact dd.typeIs
 ·obtain ⟨_,_,xs,_,dd⟩:=zbJ I.hok e
  exact dd.typeIs
noncomputable def zmA(td ty:TE):TE:=fun σ H Q=>td σ H fun x H1=>ty σ H1 fun y H2=>∃ a v,x=.ref a/\DGet H2 a y (some v)/\Q v H2
noncomputable def zgy(td ty tv:TE):TS:=fun D σ H=>tv σ H fun v H1=>td σ H1 fun x H2=>ty σ H2 fun y H3=>∃ a H4,x=.ref a/\DPut H3 a y v H4/\D.nx σ H4
section
variable {X:Cx} {o i e value:Expr} {pos pos' tpos:Pos} {td ty tv:TE}
theorem zgE(hu:X.A.units+1<cLine)(ho:PE X o td)(hi:PE X i ty)(hs:zpv i):PE X (.Subscript o i pos) (zmA td ty):=by
 intro pins s σ H Q I h
 refine zlq PySem.F.slot_dict_getitem.lookup hs (thn [195] fun u s1 ⟨x,H1,I1,rx,q1⟩=>thn (hi pins s1 σ H1 _ I1 q1) fun iv s2 ⟨y,H2,I2,ry,a,v,ex,g,q2⟩=>?_)
 subst ex
 obtain rfl:u=Value.ref a:=rx
 exact ⟨zeP I2 g,zim hu I2 g ry fun w' s3 I3 rw'=>⟨v,H2,I3,rw',q2⟩⟩
theorem um(hu:X.A.units+1<cLine)(ho:PE X o td)(hi:PE X i ty)(hv:PE X value tv)(hs:swapsWith value (some (.Subscript o i pos')) pos.line X.env=pure false):
  PS X (.Assign [.Subscript o i pos'] value pos) (zgy td ty tv):=by
 intro pins s σ H D I h
 refine wpAny_Assign_Subscript (thn (hv pins s σ H _ I h) fun r s1 ⟨v,H1,I1,rv,q1⟩=>thn (ho pins s1 σ H1 _ I1 q1) fun u s2 ⟨x,H2,I2,rx,q2⟩=>thn (hi pins s2 σ H2 _ I2 q2) fun iv s3 ⟨y,H3,I3,ry,a,H4,ex,g,q3⟩=>?_) hs
 subst ex
 obtain rfl:u=Value.ref a:=rx
 exact zil hu I3 g ry rv fun s4 I4=>⟨σ,H4,I4,q3⟩
end
theorem zeO{P:Program}{w:World}{H:Hp}(h:Heap)(hb:sysModules<h.objs.size):ObjOk P w H (h.push { cls:=.type "dict",data:=.dict #[] }) h.objs.size (.dK []):=
 ⟨KG _,beq_eq_false_iff_ne.mpr (Ne.symm (JE hb)),[],.nil,Heap.DictOf.new h⟩
noncomputable def ziV:TE:=fun _ H Q=>∀ p,H p=none->Q (.ref p) (upd H p (.dK []))
section
variable {X:Cx} {pos:Pos}
theorem uY:PE X (.Dict [] [] pos) ziV:=fun pins s σ H Q I h=>
 wpAny_Dict_empty ⟨.ref s.heap.objs.size,_,I.laid (a:=s.heap.objs.size) (o:=.dK []) (t':=s.toks) (fun _ _ q=>Jd _ q) (Jm _) (zeO s.heap I.big),rfl,h _ [277]⟩
end
noncomputable def zfm:List (TE × TE)->St->Hp->(List (V × V)->Hp->Prop)->Prop
 | [],_,H,Q=>Q [] H
 | (tk,tv)::r,σ,H,Q=>tk σ H fun x H1=>tv σ H1 fun y H2=>zfm r σ H2 fun ps H3=>Q ((x,y)::ps) H3
noncomputable abbrev VV:List (V × V)->List (Value × Value)->Prop:=Paired fun p q=>RelV p.1 q.1/\RelV p.2 q.2
noncomputable def PPs(X:Cx)(pos:Pos)(keys:List (Option Expr))(values:List Expr)(trs:List (TE × TE)):Prop:=
 ∀ (pins:List [24]) (s:Shared) (σ:St) (H:Hp) (Q:List (V × V)->Hp->Prop),Inv X pins σ H s->zfm trs σ H Q->
  wpAny [21] X.A (evalPairs (pairTrees keys values X.env pos)) (fun vs s'=>∃ ps H',Inv X pins σ H' s'/\VV ps vs/\Q ps H') X.xe s
theorem zlD{X:Cx}{pos:Pos}:PPs X pos [] [] []:=fun pins s σ H Q I h=>pairTrees_nil_walk ⟨[],H,I,.nil,h⟩
theorem zjx{X:Cx}{pos:Pos}{k v:Expr}{ks:List (Option Expr)}{vs:List Expr}{tk tv:TE}{trs:List (TE × TE)}(hk:PE X k tk)(hv:PE X v tv)(hr:PPs X pos ks vs trs):
  PPs X pos (some k::ks) (v::vs) ((tk,tv)::trs):=fun pins s σ H Q I h=>
 pairTrees_cons_walk (thn (hk pins s σ H _ I h) fun u s1 ⟨x,H1,I1,rx,q1⟩=>thn (hv pins s1 σ H1 _ I1 q1) fun w2 s2 ⟨y,H2,I2,ry,q2⟩=>
  thn (hr pins s2 σ H2 _ I2 q2) fun ws s3 ⟨ps,H3,I3,rel,q3⟩=>⟨(x,y)::ps,H3,I3,.cons ⟨rx,ry⟩ rel,q3⟩)
noncomputable def vY(kvs more:List [149]):List [149]:=more.foldl (fun acc kv=>wQ acc kv.1 kv.2) kvs
theorem KV.merge:∀ {more:List [149]} {rs:List (Key × Value)} {kvs:List [149]} {vs:List (Key × Value)},KV more rs->KV kvs vs->KV (vY kvs more) (merged vs rs):=by
 intro more rs kvs vs r
 unfold KV at r
 induction r generalizing kvs vs with
 | nil=>intro q;exact q
 | @cons p q ps qs h t ih=>
  intro r0
  have e:KV (wQ kvs p.1 p.2) (stored vs q.1 q.2):=by
   have:=r0.put p.1 h.2
   rw [← h.1];exact this
  exact ih e
theorem uH:∀ (more kvs:List [149]),(vY kvs more).length≤kvs.length+more.length
 | [],kvs=>by show kvs.length≤kvs.length+0;omega
 | p::r,kvs=>by
  have h1:=uH r (wQ kvs p.1 p.2)
  have h2:=vn kvs p.1 p.2
  show (vY (wQ kvs p.1 p.2) r).length≤_
  rw [JF];omega
theorem zbV{P:Program}{w:World}:∀ {kvs:List [149]} {ws:List (Value × Value)},VV (kvs.map fun kv=>(kV kv.1,kv.2)) ws->∃ rs,Carries (zl P w) ws rs/\KV kvs rs
 | [],_,r=>by rw [List.map_nil] at r;cases r;exact ⟨[],True.intro,.nil⟩
 | p::kvs,_,r=>by
  rw [Ju] at r
  cases r with
  | @cons a b as bs h t=>
   obtain ⟨rs,c,q⟩:=zbV (P:=P) (w:=w) t
   obtain ⟨b1,b2⟩:=b
   exact ⟨(p.1,b2)::rs,⟨zac h.1,rfl,c⟩,.cons ⟨rfl,h.2⟩ q⟩
noncomputable def zot(trs:List (TE × TE)):TE:=fun σ H Q=>∀ p,H p=none->zfm trs σ (upd H p (.dK [])) fun ps H2=>H2 p=some (.dK [])/\∃ kvs:List [149],ps=kvs.map (fun kv=>(kV kv.1,kv.2))/\kvs.length≤15/\Q (.ref p) (upd H2 p (.dK (vY [] kvs)))
theorem zlM{X:Cx}{pos:Pos}{keys:List (Option Expr)}{values:List Expr}{trs:List (TE × TE)}(h:PPs X pos keys values trs)(hall:keys.all (·.isSome)=true)(hl:keys.length=values.length)(h0:keys≠[])
  (h15:keys.length≤15):PE X (.Dict keys values pos) (zot trs):=by
 intro pins s σ H Q I q
 have hn:=I.hok.fresh (Jm s.heap.objs.size)
 have I1:=I.laid (a:=s.heap.objs.size) (o:=.dK []) (h':=s.heap.push { cls:=.type "dict",data:=.dict #[] }) (t':=s.toks) (fun _ _ q=>Jd _ q) (Jm _) (zeO s.heap I.big)
 refine wpAny_Dict_walk (knd:=zl X.prog X.w) hall hl h0 h15 (thn (h pins _ σ _ _ I1 (q _ hn)) fun ws s2 hq_=>?_)
 obtain ⟨ps,H2,I2,rel,e,kvs,ep,lk,q2⟩:=hq_
 subst ep
 obtain ⟨rs,c,rk⟩:=zbV (P:=X.prog) (w:=X.w) rel
 obtain ⟨z,hd,vs0,r0,dd⟩:=qE I2.hok e
 cases r0
 refine ⟨rs,c,dd,fun h' dd' hs=>⟨.ref s.heap.objs.size,_,?_,rfl,q2⟩⟩
 have hz:(vY [] kvs).length≤sizeLine:=by
  have h1:=uH kvs []
  rw [List.length_nil] at h1
  rw [sizeLine_eq];omega
 have he:∃ q,h'.get? s.heap.objs.size=some q:=let ⟨q,_,_,hq,_⟩:=dd';⟨q,hq⟩
 exact qF I2 [250] hs he (zdz hz hd (rk.merge .nil) dd')
structure M1 (X:Cx) (o:Expr) (m:Str) (apos:Pos) (e:Expr) (cpos:Pos):Prop where
 base:attributeBase o m X.env (eval o X.env)=eval o X.env
 few:((backTo cpos (starEach [e] X.env)).all (fun x=>!x.1) && (backToKw cpos (keywordEach [] X.env)).all (fun x=>x.1.isSome)
  && decide (([e]:List Expr).length+([]:List Keyword).length+[219]<30))=true
 line:[256]=true
 trees:backTo cpos (starEach [e] X.env)=[[54]]
structure M2 (X:Cx) (o:Expr) (m:Str) (apos:Pos) (e f:Expr) (cpos:Pos):Prop where
 base:attributeBase o m X.env (eval o X.env)=eval o X.env
 few:((backTo cpos (starEach [e,f] X.env)).all (fun x=>!x.1) && (backToKw cpos (keywordEach [] X.env)).all (fun x=>x.1.isSome)
  && decide (([e,f]:List Expr).length+([]:List Keyword).length+[219]<30))=true
 line:[256]=true
 trees:backTo cpos (starEach [e,f] X.env)=[[54],(false,eval f X.env)]
noncomputable def IsD(H:Hp)(a:Addr):Prop:=(∃ kvs,Rd H a [94])∨∃ kvs,Rd H a (.dT kvs)
theorem zkp{X:Cx}{pins:List [24]}{σ:St}{H:Hp}{s:Shared}{a:Addr}(I:Inv X pins σ H s)(d:IsD H a):
  s.TypeIs [84] "dict"/\(∀ b,Value.ref a=.ref b->∃ ob,s.heap.get? b=some ob/\ob.dict=none)/\[198]=false:=by
 rcases d with ⟨kvs,e⟩ | ⟨kvs,e⟩
 ·obtain ⟨_,hd,vs,_,dd⟩:=zai I.hok e
  refine ⟨dd.typeIs,fun b q=>?_,hd⟩
  cases q
  obtain ⟨ob,_,_,h1,h2,_⟩:=dd
  exact ⟨ob,h1,h2.2.1⟩
 ·obtain ⟨_,hd,xs,_,dd⟩:=zbJ I.hok e
  refine ⟨dd.typeIs,fun b q=>?_,hd⟩
  cases q
  obtain ⟨ob,_,_,h1,h2,_⟩:=dd
  exact ⟨ob,h1,h2.2.1⟩
section
variable {X:Cx} {pins:List [24]} {σ:St} {H:Hp} {s:Shared} {a:Addr} {y d:V} {u r:Value} {o:Option V} {A:Around} {E:Value->Shared->Prop}
theorem znV{Q:Value->Shared->Prop}(hu:A.units+1<cLine)(I:Inv X pins σ H s)(g:DGet H a y o)(ry:RelV y u)(rd:RelV d r)(h:∀ w' s',Inv X pins σ H s'->RelV (o.getD d) w'->Q w' s'):
  wpAny [21] A (call (.builtin "dict.get") [.ref a,u,r]) Q E s:=by
 rcases g with ⟨kvs,k,e,ey,l⟩ | ⟨kvs,k,b,e,ey,eb,l⟩
 ·subst ey
  obtain ⟨z,hd,vs,rel,dd⟩:=zai I.hok e
  refine call_meetsIn PySem.F.slot_dict_get dd.typeIs PySem.F.entry_dict_get (PySem.F.args_dict_get_3 _ _ _) (meets_dict_get_default [323] a (zac ry) hd r) ⟨_,dd.mapOf,h _ _ (I.tok _) ?_⟩
  rw [l]
  exact (rel.val k).getD rd
 ·subst ey
  cases (show u=Value.ref b from ry)
  obtain ⟨z,hd,xs,rel,dd⟩:=zbJ I.hok e
  refine call_meetsIn PySem.F.slot_dict_get dd.typeIs PySem.F.entry_dict_get (PySem.F.args_dict_get_3 _ _ _) (meetsH_dict_get_default (tupleKind [323]) a b hd r) ⟨tupleKind_room_in1 hu,k,xs,qb I.hok eb,dd,h _ _ (I.tok _) ?_⟩
  rw [l]
  exact (rel.val k).getD rd
end
noncomputable def zmX(td ty tx:TE):TE:=fun σ H Q=>td σ H fun x H1=>∃ a,x=.ref a/\IsD H1 a/\ty σ H1 fun y H2=>tx σ H2 fun z H3=>∃ o,DGet H3 a y o/\Q (o.getD z) H3
section
variable {X:Cx} {o e f:Expr} {apos cpos:Pos} {td ty tx:TE}
theorem zej(hu:X.A.units+1<cLine)(ho:PE X o td)(he:PE X e ty)(hf:PE X f tx)(m:M2 X o "get" apos e f cpos):PE X (.Call (.Attribute o "get" apos) [e,f] [] cpos) (zmX td ty tx):=by
 intro pins s σ H Q I h
 refine wpAny_Call_method m.base m.few m.line PySem.F.plainAttrs_dict PySem.F.slot_dict_get PySem.F.type_dict_get (thn [195] fun u s1 hq_=>?_)
 obtain ⟨x,H1,I1,rx,a,ex,d,q1⟩:=hq_
 subst ex
 obtain rfl:u=Value.ref a:=rx
 obtain ⟨t1,t2,_⟩:=zkp I1 d
 refine ⟨t1,t2,?_⟩
 rw [m.trees]
 refine KM rfl (Calls.evalArgs_plain (KB (thn (he pins s1 σ H1 _ I1 q1) fun iv s2 ⟨y,H2,I2,ry,q2⟩=>
  KB (thn (hf pins s2 σ H2 _ I2 q2) fun fv s3 ⟨z,H3,I3,rz,ov,g,q3⟩=>Calls.spliced_nil ?_))))
 exact znV hu I3 g ry rz fun w' s4 I4 rw'=>⟨_,H3,I4,rw',q3⟩
end
end L2
namespace Att
open PySem PySem.W PySem.Calls PyProof.Rows
theorem zan{P:Params}{h:Heap}:∀ (ns:List Int) (vs:List Value),WellAll P h vs (ns.map WData.int)->IntsAre vs ns:=by
 intro ns
 induction ns with
 | nil=>
  intro vs w
  rw [List.map_nil] at w
  cases w
  exact .nil
 | cons n ns ih=>
  intro vs w
  rw [Ju] at w
  cases w with
  | cons a b=>
   cases a
   exact .cons _ _ (ih _ b)
theorem zhH{l:OpenLaw}{n:Nat}(hn:l.most=some n){P:Params}{h:Heap}{args:List WData}{vals:List Value}
  (hpre:l.row.toRowW.claim.pre args=true)(hwl:WellAll P h vals args):
  ∃ a vs ns,vals=[Value.ref a]/\args=[WData.list (ns.map WData.int)]/\h.get? a=some { cls:=.type "list",data:=.seq vs.toArray }/\IntsAre vs ns/\ns.length≤n:=by
 have hsh:WShape.hasAll [] args [.list .int]=true:=(pre_splitW hpre).1
 have hc:l.pre.holds [] { args:=args }=true:=(pre_splitW hpre).2
 obtain ⟨d,r,rfl,h1,h2⟩:=hasAllW_cons hsh
 obtain rfl:=hasAllW_nil h2
 obtain ⟨xs,rfl,h3⟩:=hasW_list h1
 obtain ⟨ns,rfl⟩:=items_int h3
 have hlen:ns.length≤n:=by
  unfold OpenLaw.pre at hc
  have h4:(WTm.not (.lt (.lit (.int (n:Int))) (.len (.arg 0)))).holds [] { args:=[.list (ns.map .int)] }=true:=by
   have h4:=(holds_andW hc).1
   rw [hn] at h4
   exact h4
  have h5:=condW_of h4 (w_not (w_lt w_lit (w_len_list (w_arg rfl))))
  rw [Jh] at h5
  refine KS fun q=>?_
  have q':(n:Int)<((ns.length:Nat):Int):=by omega
  first
   | (rw [decide_eq_true q'] at h5;exact absurd h5 [10])
   | (simp at h5;omega)
 cases hwl with
 | cons w1 w2=>
  cases w2
  cases w1 with
  | list ho hall=>exact ⟨_,_,ns,rfl,rfl,ho,zan ns _ hall,hlen⟩
theorem zhJ(l:OpenLaw)(args:List WData):l.row.toRowW.claim.post args (.bool true) args=true:=
 postW_of (r:=l.row.toRowW) (X:=(true == true))
  (show WShape.has [] (.bool true) .bool=true by first | rfl | decide | simp [WShape.has,WShape.arms,WShape.armsAll])
  (show (WTm.eq .res (.lit (.bool true))).value [] { args:=args,res:=some (.bool true),after:=args }=some (.bool (true == true)) from w_eq_bool (w_res rfl) w_lit) rfl
end Att
namespace L2
open PySem PySem.Spec PyProof.Rows
theorem zcm:∀ {vs:List Value} {ns:List Int},IntsAre vs ns->Vals [63] vs
 | _,_,.nil=>.nil
 | _,_,.cons n t h=>.cons ⟨t,rfl⟩ (zcm h)
noncomputable def zmv(H:Hp):Prop:=∀ b,H b=none∨∃ o xs,H b=some (.frz o [107])
theorem zkg{P:Program}{w:World}{K:PySem.W.Frag}{mg mb:Str->Option Value}{CX:CXT}{k:Nat}{fa a:Addr}{fd:FuncData}{x:Str}{sp:Sp}{s₁:Shared}{vs:List Value}{ns:List Int}
  (KX:K.In s₁.heap)(hns:s₁.heap.Ns mainGlobals mg)(hb:s₁.heap.Ns builtinsNs mb)(hbb:∀ x:Str,x≠"__name__"->mb x=bootBuiltins x)(hlim:s₁.heap.NoLimit)(hg:s₁.gens=#[])
  (ha:s₁.heap.get? a=some { cls:=.type "list",data:=.seq vs.toArray })(hi:IntsAre vs ns)(hl:ns.length≤sizeLine)(hr:Room k callerA)
  (F:∀ base:Heap,K.In base->base.Ns mainGlobals mg->FnOk P w K mg base CX k fa fd [x] sp)(hbind:∀ (s:Shared) (u:Value),BindsTo s fd ⟨[u],[]⟩ [(x,u)])
  (hsp:∀ H:Hp,zmv H->SqL K H a (ns.map V.int)->sp [.ref a] H (fun v _=>v=.bl true) fun _ _ _=>False)
  (hCX:∀ H e s',CX [] H s₁ (fun _ _ _=>False) e s'->False):
  codeAny (model P w) callerA (.call (.ref fa) ⟨[.ref a],[]⟩) (fun r s'=>r=.ok (.ret (.bool true))/\OldK s₁.heap s'.heap/\s'.os=s₁.os/\AllBare s'.gens) s₁:=by
 have rv:=zcm hi
 have lenV:=hi.length
 -- from an abstract heap in which nothing but the script may be tracked
 have core:∀ H:Hp,zmv H->SqL K H a (ns.map V.int)->HOk P w H s₁.heap->(∀ b,H b≠none->b=a)->(H a≠none->K.lookup a=none)->
   codeAny (model P w) callerA (.call (.ref fa) ⟨[.ref a],[]⟩) (fun r s'=>r=.ok (.ret (.bool true))/\OldK s₁.heap s'.heap/\s'.os=s₁.os/\AllBare s'.gens) s₁:=by
  intro H hO hS hok hA hK
  have base_of:∀ {b:Addr} {o:Obj},s₁.heap.get? b=some o->H b=none->(zdu s₁.heap H).get? b=some o:=fun e n=>zkt e n
  have noA:∀ {b:Addr} {o:Obj} {es:Array DictEntry} {ep:Nat},s₁.heap.get? b=some o->o.data=.dict es ep->H b=none:=fun {b o es ep} e d=>by
   cases q:H b with
   | none=>rfl
   | some u=>
    have e':b=a:=hA b (by rw [q];simp)
    subst e'
    rw [ha] at e;cases e
    have d':Data.seq vs.toArray _=Data.dict es ep:=d
    cases d'
  have nsK:∀ {b:Addr} {m:Str->Option Value},s₁.heap.Ns b m->(zdu s₁.heap H).Ns b m:=fun {b m} ⟨o,es,ep,e,d,r⟩=>⟨o,es,ep,base_of e (noA e d),d,r⟩
  have hKb:K.In (zdu s₁.heap H):=fun b o e=>base_of (KX b o e) (by
   cases q:H b with
   | none=>rfl
   | some u=>
    have e':b=a:=hA b (by rw [q];simp)
    subst e'
    rw [hK (by rw [q];simp)] at e;cases e)
  have hM:Mod K mg (zdu s₁.heap H):=⟨hKb,nsK hns,⟨mb,nsK hb,hbb⟩,let ⟨mc,h1,h2⟩:=hlim;⟨mc,nsK h1,h2⟩⟩
  have e0:Env0 P w K mg (zdu s₁.heap H) callerA [] s₁ H:=⟨rfl,hM,fun b o e=>zlW e,Nat.le_of_eq (zic _ _),trivial,fun b hb=>absurd (show b ∈ ([]:List Addr) from hb) [19],hok,.of_eq hg⟩
  refine codeAny_mono ((F _ hKb (nsK hns)).run callerA [] s₁ H ⟨[.ref a],[]⟩ [.ref a] [.ref a] _ _ hr e0 (hbind s₁ [84]) (.cons rfl .nil) (hsp H hO hS)) fun r s' h=>?_
  cases r with
  | error e=>exact (hCX H e s' h).elim
  | ok fl=>
   cases fl with
   | next=>exact False.elim h
   | brk=>exact False.elim h
   | cont=>exact False.elim h
   | ret u=>
    obtain ⟨v,H',os,bare,un,hok',r',q⟩:=h
    have q':v=.bl true:=q
    subst q'
    obtain rfl:u=Value.bool true:=r'
    refine ⟨rfl,OldK.of_keep fun b o e=>?_,os,bare⟩
    cases q:H b with
    | none=>exact un.keep b o e q (by intro z;exact absurd (show b ∈ ([]:List Addr) from z) [19]) [19]
    | some u=>
     rcases hO b with z | ⟨ob,xs,z⟩
     ·rw [q] at z;cases z
     ·have z2:=un.frzs b ob _ z
      obtain ⟨e1,_⟩:=hok b _ z
      obtain ⟨e2,_⟩:=hok' b _ z2
      rw [e] at e1;cases e1
      exact e2
 cases hk:K.lookup a with
 | some o=>
  -- the script is one of the module's own objects
  have e:=KX a o hk
  rw [ha] at e
  cases e
  refine core (fun _=>none) (fun _=>.inl rfl) (.inr ⟨_,vs.toArray,_,hk,rfl,rfl,rfl,by rw [List.size_toArray,lenV];exact hl,by simpa using rv⟩) (fun b u z=>by have z':(none:Option HO)=some u:=z;cases z') (fun b z=>absurd rfl z) fun z=>absurd rfl z
 | none=>
  refine core (fun b=>if b=a then some (.frz { cls:=.type "list",data:=.seq vs.toArray } (.lst [63])) else none) (fun b=>?_) (.inl (.inr ⟨{ cls:=.type "list",data:=.seq vs.toArray },if_pos rfl⟩)) (fun b u z=>?_) (fun b z=>?_) fun _=>hk
  ·by_cases hb:b=a
   ·exact .inr ⟨_,_,if_pos hb⟩
   ·exact .inl (if_neg hb)
  ·by_cases hb:b=a
   ·have z':=(if_pos hb).symm.trans z
    cases z'
    subst hb
    exact ⟨ha,by rw [Jh];exact hl,vs,_,rv,ha⟩
   ·have z':=(if_neg hb).symm.trans z
    cases z'
  ·by_cases hb:b=a
   ·exact hb
   ·exact absurd (if_neg hb) z
noncomputable def u5(s:Stmt):Arguments:=match s with
 | .FunctionDef _ a _ _ _ _ _ _ _ _=>a
 | _=>{ posonlyargs:=[],args:=[],vararg:=none,kwonlyargs:=[],kw_defaults:=[],kwarg:=none,defaults:=[] }
noncomputable def vG(s:Stmt):List Stmt:=match s with
 | .FunctionDef _ _ b _ _ _ _ _ _ _=>b
 | _=>[]
noncomputable def zR(s:Stmt):Scope:=match s with
 | .FunctionDef _ _ _ _ _ _ sc _ _ _=>sc
 | _=>{ kind:=.function,names:=[],isGenerator:=false,isCoroutine:=false }
noncomputable abbrev CX0:CXT:=fun _ _ _ _ _ _=>False
noncomputable abbrev E0:XK:=fun _ _ _=>False
theorem zoM{X:Cx}:zgl CX0 X E0:=fun _ _ _ _ _ _ _ h=>h.elim
structure Fun (K:PySem.W.Frag) (x qual:Str) (st:Stmt) (f:Addr) (fd:FuncData):Prop where
 ex:∃ (oc:Value) (od:Option Addr) (kV doc pm:Value) (an:Option Addr) (cdv ct:Value) (osl:Array [161]),
  fd=PySem.W.fnOf x qual (u5 st) (vG st) (zR st) .none kV doc pm an cdv ct/\K.lookup f=some ⟨oc,od,.func fd,osl⟩/\PySem.W.codeIn K cdv qual=true
 kp:PySem.W.keepIn K [318]=true
section
variable {P:Program} {w:World} {K:PySem.W.Frag} {mg:Str->Option Value} {base:Heap}
theorem Fun.ok{x qual:Str}{st:Stmt}{f:Addr}{fd:FuncData}{N ps:List Str}{k:Nat}{sp:Sp}(F:Fun K x qual st f fd)(S:FnScope N ps (zR st))(len:∀ vs H Q E,sp vs H Q E->vs.length=ps.length)
  (hbody:∀ (cdv:Value) (A:Around) (outer:List Env) (s:Shared) (H:Hp) (vs:List V) (Q:VK) (E:XK),Room k (A.deeper (envOfC qual (zR st) s.heap.objs.size f cdv))->sp vs H Q E->
   ∃ t,PSs (zfX CX0 P w K mg base N qual (zR st) f cdv A outer s H E).nox (vG st) t/\t { nx:=fun _ H'=>Q .non H',rt:=Q } (start N vs) H):FnOk P w K mg base CX0 (k+1) f fd ps sp:=by
 obtain ⟨oc,od,kV,doc,pm,an,cdv,ct,osl,rfl,lk,hcd⟩:=F.ex
 refine zpd lk hcd S len fun A outer s H vs Q E hr hsp=>?_
 obtain ⟨t,h,q⟩:=hbody cdv A outer s H vs Q E hr hsp
 exact ⟨t,h.nox,q⟩
theorem Fun.binds{x qual:Str}{st:Stmt}{f:Addr}{fd:FuncData}{ps:List Str}(F:Fun K x qual st f fd)
  (h:∀ (kV doc pm:Value) (an:Option Addr) (cdv ct:Value) (us:List Value),us.length=ps.length->bindArgs [115] ⟨us,[]⟩=pure (ps.zip us)):Binds K fd ps []:=by
 obtain ⟨oc,od,kV,doc,pm,an,cdv,ct,osl,rfl,lk,hcd⟩:=F.ex
 exact .all (h kV doc pm an cdv ct)
theorem zkz{x qual:Str}{st:Stmt}{f:Addr}{oc:Value}{od an:Option Addr}{osl:Array [161]}{kV doc pm cdv ct:Value}(l:K.lookup f=some ⟨oc,od,.func [115],osl⟩)
  (c:PySem.W.codeIn K cdv qual=true)(k:PySem.W.keepIn K [318]=true):Fun K x qual st f [115]:=⟨⟨oc,od,kV,doc,pm,an,cdv,ct,osl,rfl,l,c⟩,k⟩
end
theorem yL{A:Around}{k:Nat}(hr:Room k A):A.units+1<cLine:=Qi (Nat.add_le_add_left (by decide:1≤64) _) hr.units
section
variable {X:Cx}
theorem pv(i:Nat){x:Str}{pos:Pos}(hN:X.N[i]?=some x:=by rfl)(hv:Vis X.env.scope x:=by first | exact Or.inl rfl | exact Or.inr [77] | exact Or.inr (Or.inr rfl))(hd:[50]=false:=by decide)
  (hcd:(x == ("__classdict__":Str))=false:=by decide):PE X [139] (uV i):=znr hN hv hd hcd
theorem call_lenD:CallR X (.builtin "len") (fun xs H Q=>∃ a kvs,xs=[V.ref a]/\H a=some [94]/\Q (.int kvs.length) H):=by
 intro pins s σ H xs us Q I r h
 obtain ⟨a,kvs,rfl,ha,q⟩:=h
 obtain ⟨u,rfl,ru⟩:=kf r
 cases ru
 exact zpm I (.inl ha) fun t s' I'=>⟨.int kvs.length,H,I',⟨t,rfl⟩,q⟩
end
noncomputable def Same(H H':Hp):Prop:=∀ b o,H b=some o->H' b=some o
theorem Same.refl(H:Hp):Same H H:=fun _ _ h=>h
theorem Same.trans{H H1 H2:Hp}(a:Same H H1)(b:Same H1 H2):Same H H2:=fun c o h=>b c o (a c o h)
theorem Same.free{H H':Hp}(e:Same H H'){l:Addr}(h:H' l=Option.none):H l=Option.none:=by
 cases q:H l with
 | none=>rfl
 | some o=>
  rw [e l o q] at h
  cases h
theorem Same.seq{K:PySem.W.Frag}{H H':Hp}{a:Addr}{xs:List V}(e:Same H H')(h:SqL K H a xs):SqL K H' a xs:=by
 rcases h with (h | ⟨o,h⟩) | h
 ·exact .inl (.inl (e _ _ h))
 ·exact .inl (.inr ⟨o,e _ _ h⟩)
 ·exact .inr h
theorem zbC{α β:Type}{f:α->β->Sem (ForInStep β)}(g:β->α->β):∀ (l:List α) (c:β),(∀ x ∈ l,∀ c,f x c=pure (.yield (g c x)))->forIn l c f=pure (l.foldl g c)
 | [],_,_=>rfl
 | x::l,c,h=>by
  rw [List.forIn_cons,h x Jf,pure_bind]
  exact zbC g l _ fun y hy=>h y (Jg _ hy)
noncomputable def we(cells:List [212])(cs:List [212])(y:Str × NameKind):List [212]:=
 if (y.2 == NameKind.free)=true then (match cells.lookup y.1 with | some c=>(y.1,c)::cs | none=>cs) else cs
noncomputable def zgc(scope:Scope)(cells:List [212]):List [212]:=scope.names.foldl (we cells) []
theorem zbU{scope:Scope}{env:Env}(h:∀ y ∈ scope.names,(y.2 == NameKind.free)=true->∃ c,env.cells.lookup y.1=some c):closureFor scope env=pure (zgc scope env.cells):=by
 simp only [closureFor]
 rw [zbC (we env.cells) _ _ (fun y hy c=>?_)]
 ·rfl
 ·obtain ⟨n,k⟩:=y
  by_cases e:(k == NameKind.free)=true
  ·obtain ⟨a,ha⟩:=h _ hy e
   have ha':List.lookup n env.cells=some a:=ha
   simp [we,cellOf,ha',e]
  ·simp [we,e]
theorem z8{x n:Str}{α:Type}{c:α}{r:List (Str × α)}:List.lookup x ((n,c)::r)=if x=n then some c else r.lookup x:=by
 rw [List.lookup_cons]
 by_cases e:x=n
 ·subst e;simp
 ·rw [if_neg e]
  have:(x == n)=false:=by simpa using e
  rw [this]
theorem zgb{cells:List [212]}:∀ (names:List (Str × NameKind)) (acc:List [212]),(∀ x c,acc.lookup x=some c->cells.lookup x=some c)->∀ x c,(names.foldl (we cells) acc).lookup x=some c->cells.lookup x=some c
 | [],_,h=>h
 | y::r,acc,h=>by
  refine zgb r (we cells acc y) fun x c e=>?_
  unfold we at e
  split at e
  ·split at e
   ·rename_i c' hc'
    rw [z8] at e
    split at e
    ·rename_i hx;cases e;rw [hx];exact hc'
    ·exact h x c e
   ·exact h x c e
  ·exact h x c e
theorem zhf{cells:List [212]}{x:Str}:∀ (names:List (Str × NameKind)) (acc:List [212]),(acc.lookup x).isSome=true->((names.foldl (we cells) acc).lookup x).isSome=true
 | [],_,h=>h
 | y::r,acc,h=>by
  refine zhf r (we cells acc y) ?_
  unfold we
  split
  ·split
   ·rw [z8];split
    ·rfl
    ·exact h
   ·exact h
  ·exact h
theorem zkO{cells:List [212]}{x:Str}(hc:(cells.lookup x).isSome=true):∀ (names:List (Str × NameKind)) (acc:List [212]) (k:NameKind),(k == NameKind.free)=true->(x,k) ∈ names->((names.foldl (we cells) acc).lookup x).isSome=true
 | [],_,_,_,h=>nomatch h
 | y::r,acc,k,hk,h=>by
  rcases List.mem_cons.mp h with e | h
  ·refine zhf r (we cells acc y) ?_
   subst e
   obtain ⟨c,hc⟩:=Option.isSome_iff_exists.mp hc
   unfold we
   rw [if_pos hk]
   simp [hc]
  ·exact zkO hc r _ k hk h
theorem kn{env:Env}{x:Str}{k:NameKind}:∀ {names:List (Str × NameKind)},
  (names.map fun (n,k)=>if [62] then (n,NameKind.cell) else (n,k)).lookup x=some k->∃ k0,(x,k0) ∈ names/\(k=k0∨(k0 == NameKind.free)=true)
 | [],h=>by simp at h
 | (n,j)::r,h=>by
  rw [Ju] at h
  by_cases hx:x=n
  ·subst hx
   by_cases hc:(j == NameKind.free && env.scope.kind == .function && env.kindOf x == some .cell)=true
   ·refine ⟨j,Jf,.inr ?_⟩
    simp only [Bool.and_eq_true] at hc
    exact hc.1.1
   ·dsimp only at h
    rw [if_neg hc,z8,if_pos rfl] at h
    cases h
    exact ⟨k,Jf,.inl rfl⟩
  ·have h':(r.map fun (n,k)=>if [62] then (n,NameKind.cell) else (n,k)).lookup x=some k:=by
    dsimp only at h
    by_cases hc:(j == NameKind.free && env.scope.kind == .function && env.kindOf n == some .cell)=true
    ·rw [if_pos hc,z8,if_neg hx] at h;exact h
    ·rw [if_neg hc,z8,if_neg hx] at h;exact h
   obtain ⟨k0,h1,h2⟩:=kn h'
   exact ⟨k0,Jg _ h1,h2⟩
theorem kq{env:Env}{x:Str}:∀ {names:List (Str × NameKind)},names.lookup x=some .free->
  (names.map fun (n,k)=>if [62] then (n,NameKind.cell) else (n,k)).lookup x=some .cell∨
  (names.map fun (n,k)=>if [62] then (n,NameKind.cell) else (n,k)).lookup x=some .free
 | [],h=>by simp at h
 | (n,j)::r,h=>by
  rw [Ju]
  dsimp only
  by_cases hx:x=n
  ·subst hx
   rw [z8,if_pos rfl] at h
   cases h
   by_cases hc:(NameKind.free == NameKind.free && env.scope.kind == .function && env.kindOf x == some .cell)=true
   ·rw [if_pos hc,z8,if_pos rfl];exact .inl rfl
   ·rw [if_neg hc,z8,if_pos rfl];exact .inr rfl
  ·rw [z8,if_neg hx] at h
   have ih:=kq (env:=env) h
   by_cases hc:(j == NameKind.free && env.scope.kind == .function && env.kindOf n == some .cell)=true
   ·rw [if_pos hc,z8,if_neg hx];exact ih
   ·rw [if_neg hc,z8,if_neg hx];exact ih
noncomputable def cN(own:List Str)(js:List Nat)(N:List Str):List Str:=own++js.map fun j=>N.getD j ""
noncomputable def cS(own:List Str)(js:List Nat)(σ:St):St:=own.map (fun _=>none)++js.map fun j=>(σ[j]?).join
noncomputable def yt (X : Cx) (own : List Str) (js : List Nat) (scope : Scope) (C : Addr) (s₀ : Shared) (H₀ : Hp) (fp : List Addr) : Cx :=
  { prog := X.prog, w := X.w, K := X.K, mg := X.mg, base := X.base, A := X.A, N := cN own js X.N, s₀ := s₀, H₀ := H₀, env := compEnvC scope [240] C X.env, outer := X.stack, stack := X.stack,
    ex := fp, fn := fun _ => false, calm := X.calm, pn := [], xe := fun _ _ => False }
noncomputable def zbS(js:List Nat)(scope:Scope)(kindOf:Str->Option NameKind)(N:List Str):Bool:=
 (scope.kind == .function) && scope.names.all (fun y=>!(y.2 == .cell) && (!(y.2 == .free) || kindOf y.1 == some .cell || kindOf y.1 == some .free) && (!(y.2 == .local) || scope.names.lookup y.1 == some .local)) &&
  js.all fun j=>scope.names.lookup (N.getD j "") == some .free
structure CompOk (js:List Nat) (scope:Scope) (kindOf:Str->Option NameKind) (N:List Str):Prop where
 kind:scope.kind=.function
 nocell:∀ y ∈ scope.names,y.2≠.cell
 free:∀ y ∈ scope.names,(y.2 == NameKind.free)=true->kindOf y.1=some .cell∨kindOf y.1=some .free
 loc:∀ y ∈ scope.names,y.2=.local->scope.names.lookup y.1=some .local
 used:∀ j ∈ js,scope.names.lookup (N.getD j "")=some .free
theorem zcL{js:List Nat}{scope:Scope}{kindOf:Str->Option NameKind}{N:List Str}(h:zbS js scope kindOf N=true):CompOk js scope kindOf N:=by
 unfold zbS at h
 simp only [Bool.and_eq_true,List.all_eq_true] at h
 obtain ⟨⟨h1,h2⟩,h3⟩:=h
 refine ⟨by simpa using h1,fun y hy e=>?_,fun y hy e=>?_,fun y hy e=>?_,fun j hj=>by simpa using h3 j hj⟩
 ·have:=(h2 y hy).1.1
  rw [e] at this
  exact absurd this [10]
 ·have:=(h2 y hy).1.2
  rw [e] at this
  simpa using this
 ·have:=(h2 y hy).2
  rw [e] at this
  simpa using this
theorem zbp{α:Type}{x:Str}{a:α}:∀ {l:List (Str × α)},l.lookup x=some a->(x,a) ∈ l
 | [],h=>by simp at h
 | (n,c)::r,h=>by
  rw [z8] at h
  split at h
  ·rename_i e;cases h;subst e;exact List.mem_cons_self
  ·exact Jg _ (zbp h)
section
variable {X:Cx} {pins:List [24]} {σ:St} {H:Hp} {s:Shared} {own:List Str} {js:List Nat} {scope:Scope}
theorem zga {C : Addr} {h₁ : Heap} {t : Nat} {fp : List Addr} {m0 : Str → Option Value} (ok : CompOk js scope X.env.kindOf X.N) (I : Inv X pins σ H s) (hC : C = s.heap.objs.size) (hns : h₁.Ns C m0)
    (keep : ∀ b o, s.heap.get? b = some o → h₁.get? b = some o) (hf : ∀ b ∈ fp, jy X pins H b) (hlt : ∀ b ∈ fp, b < s.heap.objs.size) :
    Inv (yt X own js scope C s H fp) [] (cS own js σ) H { s with heap := h₁, toks := t } := by
  have sub := zgb (cells := X.env.cells) scope.names [] [19]
  have has : ∀ x k0, (x, k0) ∈ scope.names → (k0 == NameKind.free) = true → ∃ c, [240].lookup x = some c := fun x k0 m hk => by
    obtain ⟨c, hc⟩ := I.ok.has x (ok.free _ m hk)
    exact Option.isSome_iff_exists.mp (zkO (by rw [hc]; rfl) scope.names [] k0 hk m)
  refine ⟨⟨I.ok.mod, ok.kind, I.ok.glob, I.ok.blt, Nat.le_of_eq hC.symm, fun x y c hx hy => I.ok.inj x y c (sub x c hx) (sub y c hy), fun x hx => ?_, fun x c h => absurd (show false = true from h) [10], I.ok.hd, I.ok.frames, .inl rfl, fun b hb => ⟨?_, fun x c hc => [152].2.2.2.2.1 x c (sub x c hc)⟩, I.bs, JN I.ok.bsz I.sz, fun b o e hb => ?_, fun b hb hb2 => ?_, I.stack, I.stkFree⟩,
    rfl, I.bare, Un.kept keep, ⟨m0, hns, fun i x v e1 e2 e3 => ?_⟩, fun x c e => ?_, ?_, fun x c e => I.freeC x c (sub x c e), (fun p hp => nomatch hp), I.hok.kept keep, ?_⟩
  · have hx' : ∃ k, (k = NameKind.cell ∨ k = NameKind.free) ∧ (relabel scope X.env).names.lookup x = some k := by
      rcases hx with hx | hx
      · exact ⟨_, .inl rfl, hx⟩
      · exact ⟨_, .inr rfl, hx⟩
    obtain ⟨k, hk, hl⟩ := hx'
    obtain ⟨k0, m, e⟩ := kn hl
    have hfree : (k0 == NameKind.free) = true := by
      rcases e with e | e
      · subst e
        rcases hk with hk | hk
        · exact absurd hk (ok.nocell _ m)
        · rw [hk]; rfl
      · exact e
    exact has x k0 m hfree
  · rw [hC]; exact JE (hlt b hb)
  · rcases (hf b hb).2.2.2.1 with z | z
    · exact I.ok.noex b o e z
    · exact absurd (JD (Jn e) (JN I.ok.bsz z)) (Kx _)
  · rcases List.mem_cons.mp (I.stkSub b hb2) with e | e
    · exact [152].2.1 e
    · exact [152].2.2.1 e
  · have key : ∃ j, j ∈ js ∧ x = X.N.getD j "" ∧ σ[j]? = some (some v) := by
      have e1 : (own ++ js.map fun j => X.N.getD j "")[i]? = some x := e1
      have e2 : (own.map (fun _ => none) ++ js.map fun j => (σ[j]?).join)[i]? = some (some v) := e2
      by_cases hi : i < own.length
      · rw [List.getElem?_append_left [141], List.getElem?_map] at e2
        cases q : own[i]? with
        | none => rw [q] at e2; simp at e2
        | some y => rw [q] at e2; simp at e2
      · have hi' : own.length ≤ i := KS hi
        rw [Qb hi', JM] at e1
        rw [List.getElem?_append_right (by simpa using hi'), List.getElem?_map, List.length_map] at e2
        cases q : js[i - own.length]? with
        | none => rw [q] at e1; simp at e1
        | some j =>
          rw [q] at e1 e2
          refine ⟨j, JU q, ?_, ?_⟩
          · have := Jq e1; exact this.symm
          · have e2' : (σ[j]?).join = some v := Jq e2
            cases z : σ[j]? with
            | none => rw [z] at e2'; simp at e2'
            | some w => rw [z] at e2'; have : w = some v := by simpa using e2'
                        rw [this]
    obtain ⟨j, hj, hx, hσ⟩ := key
    have hu := ok.used j hj
    rw [← hx] at hu
    have hm := zbp hu
    obtain ⟨m, hn, hl⟩ := I.loc
    have hjl : j < X.N.length := by rw [← I.len]; exact (Jv.mp hσ).1
    have hN : X.N[j]? = some x := by
      rw [hx, Ji hjl]
      simp [List.getD, List.getElem?_eq_getElem hjl]
    have kx := ok.free _ hm rfl
    obtain ⟨u, r, l⟩ := hl j x v hN hσ (.inr kx)
    refine ⟨u, r, .inr ⟨kq hu, ?_⟩⟩
    rcases l with ⟨hk, _⟩ | ⟨hk, c, hc, cell⟩
    · have kx' : X.env.kindOf x = some .cell ∨ X.env.kindOf x = some .free := kx
      rw [hk] at kx'
      rcases kx' with z | z <;> cases z
    · obtain ⟨c', hc'⟩ := has x _ hm rfl
      have := sub x c' hc'
      rw [hc] at this; cases this
      obtain ⟨o, ho, hd⟩ := cell
      exact ⟨c, hc', o, keep _ _ ho, hd⟩
  · obtain ⟨v, o, ho, hd⟩ := I.cell x c (sub x c e)
    exact ⟨v, o, keep _ _ ho, hd⟩
  · show H C = none
    rw [hC]; exact I.hok.fresh (Jm _)
  · show (own.map (fun _ => none) ++ js.map fun j => (σ[j]?).join).length = (own ++ js.map fun j => X.N.getD j "").length
    simp
theorem zit{C:Addr}{s':Shared}{p2:List [24]}{σ2:St}{H2:Hp}{fp:List Addr}(I:Inv X pins σ H s)(hf:∀ b ∈ fp,jy X pins H b)(J:Inv (yt X own js scope C s H fp) p2 σ2 H2 s'):Inv X pins σ H2 s':=
 I.call' J.os J.base J.hok J.bare fun b hb=>⟨[152].2.2.2.1,[152].2.1,[152].2.2.2.2.1,[152].2.2.2.2.2⟩
end
noncomputable def PTs(X:Cx)(ifs:List Expr)(t:TT):Prop:=
 ∀ (pins:List [24]) (s:Shared) (σ:St) (H:Hp) (Q:Bool->Hp->Prop),Inv X pins σ H s->t σ H Q->
  wpAny [21] X.A (forIn ifs true fun c r=>if r=true then do let ok ← isTrue c X.env (eval c X.env);pure (ForInStep.yield ok) else pure (ForInStep.yield r)) (TP X pins σ Q) X.xe s
noncomputable def zpK:TT:=fun _ H Q=>Q true H
theorem zlA{X:Cx}:PTs X [] zpK:=fun _ _ _ H _ I h=>wpAny_tests_nil ⟨H,I,h⟩
theorem zlz{X:Cx}{c:Expr}{t:TT}(h:PT X c t):PTs X [c] t:=fun pins s σ H Q I hw=>wpAny_tests_one (h pins s σ H Q I hw)
theorem zis{prog:Program}{w:World}{A:Around}{R:Result->Shared->Prop}{s:Shared}{elt target iter:Expr}{ifs:List Expr}{scope:Scope}{pos:Pos}{it acc:Value}{env:Env}(I:Nat->Shared->Prop)
  (turn:∀ n s,I n s->wpAny [35] A (pyNext it) (fun r s₁=>match r with
   | none=>R (.ok .next) s₁
   | some v=>wpAny [35] A (letOwnedTupleGo target it v) (fun _ s₁'=>wpAny [35] A (assign target env v) (fun _ s₂=>
     wpAny [35] A (forIn ifs true fun c r=>if r=true then do let ok ← isTrue c env (eval c env);pure (ForInStep.yield ok) else pure (ForInStep.yield r)) (fun ok s₃=>
      if ok=true then wpAny [35] A (eval elt env) (fun x s₄=>
       wpAny [35] A (call (.builtin "list.append") [acc,x]) (fun _ s₅=>∃ m,m<n/\I m s₅) [190] s₄) [190] s₃
      else ∃ m,m<n/\I m s₃) [190] s₂) [190] s₁') [190] s₁) [190] s)
  (n:Nat)(h:I n s):codeAny [35] A (.compLoop (.ListComp elt [⟨target,iter,ifs,0⟩] scope pos) 0 it acc env) R s:=by
 refine codeAny_loop rfl I (fun n s hI=>?_) n h
 show wpAny _ A ((compTurn (.ListComp elt [⟨target,iter,ifs,0⟩] scope pos) 0 it acc env).onRaise (fun x=>do noteFrame x env;theTreesLotGoes x)) _ _ s
 refine wpAny_noted ?_
 rw [compTurn_list]
 refine wpAny_bind (wpAny_standAt (wpAny_bind (wpAny_mono (turn n s hI) (fun r s₁ h₁=>?_) fun _ _ h'=>h'.elim)))
 cases r with
 | none=>exact wpAny_pure h₁
 | some v=>
  refine wpAny_bind (wpAny_mono h₁ (fun _ s₁' h₁'=>?_) fun _ _ h'=>h'.elim)
  refine wpAny_bind (wpAny_mono h₁' (fun _ s₂ h₂=>wpAny_bind (wpAny_mono h₂ (fun ok s₃ h₃=>?_) fun _ _ h'=>h'.elim)) fun _ _ h'=>h'.elim)
  cases ok with
  | false=>exact wpAny_pure ⟨rfl,h₃⟩
  | true=>
   exact wpAny_bind (wpAny_bind (wpAny_mono h₃ (fun x s₄ h₄=>wpAny_bind (wpAny_mono h₄ (fun _ s₅ h₅=>wpAny_pure (wpAny_pure ⟨rfl,h₅⟩)) fun _ _ h'=>h'.elim)) fun _ _ h'=>h'.elim))
noncomputable def zoy(t:TT)(σ:St)(H:Hp)(Q:Bool->Hp->Prop):Prop:=t σ H Q
noncomputable def zoA(t:TE)(σ:St)(H:Hp)(Q:VK):Prop:=t σ H Q
noncomputable def zoz(g:TG)(v:V)(σ:St)(H:Hp)(Q:St->Hp->Prop):Prop:=g v σ H Q
noncomputable def zpo(Q:VK)(D:Addr)(H:Hp):Prop:=Q (.ref D) H
noncomputable def ziW(wi:TI)(own:List Str)(js:List Nat)(g:Addr->Shared->Hp->List Addr->TG)(tt:Addr->Shared->Hp->List Addr->TT)(te:Addr->Shared->Hp->List Addr->TE):TE:=fun σ H Q=>wi σ H fun J H1=>∀ C s₀ H₀ fp D,H1 D=none->
 ∃ W:Nat->Nat->St->Hp->Prop,(∃ m,W 0 m (cS own js σ) [125])/\∀ i m σ1 H2,W i m σ1 H2->
  (J.stop i H2/\zpo Q D H2)∨(J.go i H2/\∀ x H3,J.yld i H2 x H3->zoz [315] x σ1 H3 fun σ2 H4=>zoy [294] σ2 H4 fun b H5=>
   if b=true then zoA [295] σ2 H5 fun y H6=>∃ ys,H6 D=some [262]/\ys.length<sizeLine/\∃ m',m'<m/\W (i+1) m' σ2 (upd H6 D (.lst (ys++[y]))) else ∃ m',m'<m/\W (i+1) m' σ2 H5)
section
variable {X:Cx} {own:List Str} {js:List Nat} {scope:Scope} {tg elt iter:Expr} {ifs:List Expr} {pos:Pos} {g:Addr->Shared->Hp->List Addr->TG} {tt:Addr->Shared->Hp->List Addr->TT} {te:Addr->Shared->Hp->List Addr->TE}
theorem zbR{pins:List [24]}{σ:St}{H1:Hp}{s2:Shared}{it:Addr}{fp:List Addr}{tn:Nat->Heap->Prop}{J:It}{E:Value->Shared->Prop}{RR:Value->Addr->Result->Shared->Prop}{Qv:V->Hp->Prop}
  (hc:X.calm=true)(ok:CompOk js scope X.env.kindOf X.N)(hg:∀ C s₀ H₀ fp,PG [60] tg [315])(ht:∀ C s₀ H₀ fp,PTs [60] ifs [294])(he:∀ C s₀ H₀ fp,PE [60] elt [295])
  (I:Inv X pins σ H1 s2)(T:Turn X.prog X.w X.K tg J fp it tn)(st:tn 0 s2.heap)(hf:∀ b ∈ fp,jy X pins H1 b)
  (h:∀ C s₀ H₀ fp D,H1 D=none->∃ W:Nat->Nat->St->Hp->Prop,(∃ m,W 0 m (cS own js σ) [125])/\∀ i m σ1 H2,W i m σ1 H2->
   (J.stop i H2/\zpo Qv D H2)∨(J.go i H2/\∀ x H3,J.yld i H2 x H3->zoz [315] x σ1 H3 fun σ2 H4=>zoy [294] σ2 H4 fun b H5=>
    if b=true then zoA [295] σ2 H5 fun y H6=>∃ ys,H6 D=some [262]/\ys.length<sizeLine/\∃ m',m'<m/\W (i+1) m' σ2 (upd H6 D (.lst (ys++[y]))) else ∃ m',m'<m/\W (i+1) m' σ2 H5))
  (hRR:∀ D C H2 s' oC m,s'.heap.get? C=some oC->s'.heap.Ns C m->(∀ v,oC.data≠.cell v)->jy X pins H2 C->Inv X pins σ H2 s'->Qv (.ref D) H2->RR (.ref D) C (.ok .next) s'):
  wpAny [21] X.A (newList []) (fun acc s₃=>wpAny [21] X.A (newFunctionEnv scope X.env.globals [240] [] X.env.qual none .none (some X.env)) (fun cenv s₄=>
   codeAny [21] X.A (.compStart [43] 0 [158] acc { cenv with scope:=relabel scope X.env }) (RR acc cenv.locals) s₄) E s₃) E s2:=by
 refine wpAny_newObj_type (wpAny_newFunctionEnv ok.nocell (by intro y hy;simp at hy) (fun h₁ hns₁ hsb₁=>?_) ok.kind)
 dsimp only at hns₁ hsb₁ ⊢
 have hD:H1 s2.heap.objs.size=none:=I.hok.fresh (Jm _)
 have I3:Inv X pins σ (upd H1 s2.heap.objs.size (.lst [])) { s2 with heap:=s2.heap.push { cls:=.type "list",dict:=none,data:=.seq ([]:List Value).toArray } }:=
  I.laid (t':=s2.toks) (fun b u e=>Jd _ e) (Jm _) ⟨KG _,[],0,.nil,Jp _ rfl⟩
 have hlt2:∀ b ∈ fp,b<s2.heap.objs.size:=fun b hb=>let ⟨o,e,_⟩:=T.obj 0 _ st b hb;Jn e
 generalize hH2:s2.heap.push { cls:=.type "list",dict:=none,data:=.seq ([]:List Value).toArray }=heap2 at hns₁ hsb₁ I3 ⊢
 have sz2:heap2.objs.size=s2.heap.objs.size+1:=by rw [← hH2,Ky]
 have keep12:∀ b o,s2.heap.get? b=some o->heap2.get? b=some o:=fun b o e=>hH2 ▸ Jd _ e
 have keep:∀ b o,heap2.get? b=some o->h₁.get? b=some o:=fun b o e=>hsb₁.extBut b o (JE (Jn e)) (Jd _ e)
 have hf3:∀ b ∈ fp,jy X pins (upd H1 s2.heap.objs.size (.lst [])) b:=fun b hb=>⟨by rw [zm (JE (hlt2 b hb))];exact [152].1,[152].2⟩
 have hlt3:∀ b ∈ fp,b<heap2.objs.size:=fun b hb=>by rw [sz2];exact KN (hlt2 b hb)
 generalize hDd:s2.heap.objs.size=D at *
 have I4:=zga (own:=own) (js:=js) (t:=s2.toks+([]:List (Str × Value)).length) ok I3 rfl hns₁ keep hf3 hlt3
 have st4:tn 0 h₁:=T.keep 0 _ _ st fun b _ o e=>keep b o (keep12 b o e)
 obtain ⟨W,⟨m0,w0⟩,turn⟩:=h heap2.objs.size { s2 with heap:=heap2 } [125] fp D hD
 -- facts about the block's frame
 have hXl:X.env.locals<heap2.objs.size:=I3.lt
 have loop:∀ s₃:Shared,s₃={ s2 with heap:=h₁,toks:=s2.toks+([]:List (Str × Value)).length }->
   codeAny [21] X.A (.compLoop [43] 0 [158] (.ref D) (compEnvC scope [240] heap2.objs.size X.env)) (RR (.ref D) heap2.objs.size) s₃:=by
  rintro s₃ rfl
  generalize hXX:yt X own js scope heap2.objs.size { s2 with heap:=heap2 } [125] fp=X' at I4
  have eP:X'.prog=X.prog:=by rw [← hXX];rfl
  have eW:X'.w=X.w:=by rw [← hXX];rfl
  have eK:X'.K=X.K:=by rw [← hXX];rfl
  have eA:X'.A=X.A:=by rw [← hXX];rfl
  have eC:X'.calm=true:=by rw [← hXX];exact hc
  have eE:X'.env=compEnvC scope [240] heap2.objs.size X.env:=by rw [← hXX];rfl
  have eL:X'.env.locals=heap2.objs.size:=by rw [← hXX];rfl
  have eX:X'.xe=fun _ _=>False:=by rw [← hXX];rfl
  have eex:X'.ex=fp:=by rw [← hXX];rfl
  have epn:X'.pn=[]:=by rw [← hXX];rfl
  have efs:X'.fs=frs X.stack:=by rw [← hXX];rfl
  have ecl:X'.env.cells=zgc scope X.env.cells:=by rw [← hXX];rfl
  have sub:=zgb (cells:=X.env.cells) scope.names [] [19]
  have stat:∀ {H':Hp},(∀ b ∈ fp,H' b=none)->∀ b ∈ fp,jy X' [] H' b:=fun {H'} hn b hb=>by
   refine ⟨hn b hb,by rw [eL];exact JE (hlt3 b hb),?_,.inl (by rw [eex];exact hb),fun x c hc=>?_,fun p hp=>?_⟩
   ·rw [efs]
    intro hb2
    rcases List.mem_cons.mp (I3.stkSub b hb2) with e | e
    ·exact (hf3 b hb).2.1 e
    ·exact (hf3 b hb).2.2.1 e
   ·rw [ecl] at hc
    exact (hf3 b hb).2.2.2.2.1 x c (sub x c hc)
   ·rw [epn] at hp;exact nomatch hp
  have hg':=hg heap2.objs.size { s2 with heap:=heap2 } [125] fp
  have ht':=ht heap2.objs.size { s2 with heap:=heap2 } [125] fp
  have he':=he heap2.objs.size { s2 with heap:=heap2 } [125] fp
  rw [hXX] at hg' ht' he'
  rw [← eE]
  refine zis (fun n s'=>∃ i σ' H',Inv X' [] σ' H' s'/\tn i s'.heap/\[287]/\W i n σ' H') ?_ m0 ⟨0,_,_,I4,st4,fun b hb=>(hf3 b hb).1,w0⟩
  rintro n s3 ⟨i,σ3,H3,I3',st3,fr3,w3⟩
  rcases turn i n σ3 H3 w3 with ⟨stop,qn⟩ | ⟨go,step⟩
  ·have:=T.done X' eP eW eK eC i [] s3 σ3 H3 [190] I3' (stat fr3) st3 stop
   rw [eA] at this
   refine thn this fun r s4 ⟨hr,I5⟩=>?_
   subst hr
   obtain ⟨m,hn,_⟩:=I5.loc
   obtain ⟨oC,es,ep,hoC,hd,_⟩:=id hn
   rw [eL] at hoC hn
   have hback:Inv X pins σ H3 s4:=zit I3 hf3 (hXX ▸ I5)
   refine hRR _ _ H3 s4 oC m hoC hn (fun v z=>by rw [hd] at z;cases z) ?_ hback qn
   have hfree:H3 heap2.objs.size=none:=by have:=I5.free;rw [eL] at this;exact this
   refine ⟨hfree,Kh hXl,I3.nofs (Jm _),.inr I3.sz,fun x c e z=>?_,fun p hp z=>?_⟩
   ·obtain ⟨v,q⟩:=I3.cell x c e
    exact absurd q.lt (by rw [z];exact Kx _)
   ·exact absurd (Jn (I3.pin p hp).1) (by rw [z];exact Kx _)
  ·have:=T.item X' eP eW eK eC i [] s3 σ3 H3 [190] I3' (stat fr3) st3 go
   rw [eA] at this
   refine thn this fun r s4 ⟨u,hr,h4⟩=>?_
   subst hr
   refine thn h4 fun _ s5 ⟨x,H5,I5,r5,y5,st5,fr5⟩=>?_
   have I5':=I5.pinned (stat fr5) (T.obj _ _ st5)
   have h6:=hg' _ s5 σ3 H5 x u _ I5' r5 (step x H5 y5)
   rw [eP,eW,eA,eX] at h6
   refine thn h6 fun _ s6 ⟨σ6,H6,I6,q6⟩=>?_
   have h7:=ht' _ s6 σ6 H6 _ I6 q6
   rw [eP,eW,eA,eX] at h7
   refine thn h7 fun b s7 ⟨H7,I7,q7⟩=>?_
   have again:∀ {s8:Shared} {H8:Hp},Inv X' ([]++zaZ fp s5.heap) σ6 H8 s8->(∃ m',m'<n/\W (i+1) m' σ6 H8)->∃ m,m<n/\∃ i σ' H',Inv X' [] σ' H' s8/\tn i s8.heap/\[287]/\W i m σ' H':=fun {s8 H8} I8 ⟨m',hm,w8⟩=>by
    refine ⟨m',hm,i+1,σ6,H8,I8.unpinned,T.keep _ _ _ st5 fun b hb o e=>(I8.pin (b,o) [300]).1,fun b hb=>?_,w8⟩
    obtain ⟨o,e,d⟩:=T.obj _ _ st5 b hb
    exact (I8.pin (b,o) [300]).2.1
   cases b with
   | false=>exact again I7 q7
   | true=>
    have h8:=he' _ s7 σ6 H7 _ I7 q7
    rw [eP,eW,eA,eX] at h8
    refine thn h8 fun v s8 ⟨y,H8,I8,r8,ys,hys,hz,q8⟩=>?_
    have h9:=zp (X:=X') _ s8 σ6 H8 (.ref D) [y] (.ref D) [v] (fun _ H9=>H9=upd H8 D (.lst (ys++[y]))) I8 rfl (.cons r8 .nil) ⟨D,ys,y,rfl,rfl,hys,hz,rfl⟩
    rw [eP,eW,eA,eX] at h9
    refine thn h9 fun _ s9 ⟨v9,H9,I9,r9,e9⟩=>?_
    subst e9
    exact again I9 q8
 exact codeAny_compStart_list (loop _ rfl) (T.self _ 0 _ _ _ st4 (loop _ rfl))
theorem zmF{wi:TI}(hc:X.calm=true)(hi:PI X tg iter wi)(hg:∀ C s₀ H₀ fp,PG [60] tg [315])(ht:∀ C s₀ H₀ fp,PTs [60] ifs [294])(he:∀ C s₀ H₀ fp,PE [60] elt [295])
  (ok:zbS js scope X.env.kindOf X.N=true:=by first | rfl | decide +kernel)(hs:∀ x,foldedSetIterable iter X.env x=pure x:=by intro _;rfl):
  PE X [43] (ziW wi own js g tt te):=by
 intro pins s σ H Q I h
 have ok:=zcL ok
 rw [eval_ListComp]
 refine wpAny_comprehension_free (use:=none) rfl hs (zbU fun y hy e=>I.ok.has _ (ok.free y hy e)) ok.kind ok.loc [123]
 obtain ⟨it,fp,tn,J,H2,e,I2,T,st2,f2,q⟩:=h2
 subst e
 refine zbR (RR:=fun acc C=>compPost [21] X.A X.xe none [144] acc C) hc ok hg ht he I2 T st2 f2 q ?_
 intro D C H3 s' oC m hoC hn hd hfp I' q'
 refine ⟨m,hn,fun h' hs'=>⟨.ref D,H3,?_,rfl,q'⟩⟩
 exact I'.turned (t':=s'.toks) (fun b o hb e=>(hs'.2 b hb).trans e) hfp.1 hfp.2.1 hfp.2.2.2.1 hfp.2.2.2.2.1 hfp.2.2.2.2.2
theorem zlC{wi:TI}{i:Nat}{y:Str}{py spos:Pos}(hN:X.N.Nodup)(hi':X.N[i]?=some y)(hx:Loc X.env.scope y)(hc:X.calm=true)(hi:PI X tg iter wi)(hg:∀ C s₀ H₀ fp,PG [60] tg [315])
  (ht:∀ C s₀ H₀ fp,PTs [60] ifs [294])(he:∀ C s₀ H₀ fp,PE [60] elt [295])
  (ok:zbS js scope X.env.kindOf X.N=true:=by first | rfl | decide +kernel)(hs:∀ x,foldedSetIterable iter X.env x=pure x:=by intro _;rfl)
  (hsw:swapsWith [43] (some (.Name y py)) spos.line X.env=pure true:=by rfl)(hf:X.fn y=true∨X.env.scope.names.lookup y=some .local:=by first | exact .inl rfl | exact .inr rfl | assumption):
  PS X (.Assign [.Name y py] [43] spos) (zaM (ziW wi own js g tt te) (j6 i)):=by
 intro pins s σ H D I h
 have ok:=zcL ok
 rw [exec_Assign_Name_used _ _ _ _ hsw]
 refine wpAny_bind (wpAny_standAt (wpAny_bind ?_))
 show wpAny _ X.A (do let _ ← comprehension [43] scope X.env _ (newList []) false (eval iter X.env) (some (assign (.Name y py) X.env))) _ _ s
 refine wpAny_bind (wpAny_mono (wpAny_comprehension_free (use:=some (assign (.Name y py) X.env)) (Q:=fun _ s'=>SP X pins D .next s') rfl hs (zbU fun y hy e=>I.ok.has _ (ok.free y hy e)) ok.kind ok.loc [123])
  (fun _ s' hq=>wpAny_pure (wpAny_pure hq)) fun _ _ e=>e)
 obtain ⟨it,fp,tn,J,H2,e,I2,T,st2,f2,q⟩:=h2
 subst e
 refine zbR (Qv:=fun x H1=>j6 i x σ H1 D.nx) (RR:=fun acc C=>compPost [21] X.A X.xe (some (assign (.Name y py) X.env)) (fun _ s'=>SP X pins D .next s') acc C) hc ok hg ht he I2 T st2 f2 q ?_
 intro Da C H3 s' oC m hoC hn hd hfp I' q'
 have I'':Inv X (pins++[(C,oC)]) σ H3 s':=I'.pins_of fun p hp=>(JB.mp hp).elim (fun z=>I'.pin p (Jr _ z)) fun z=>by
  rw [Jc.mp z]
  exact ⟨hoC,hfp.1,hfp.2.1,hfp.2.2.1,hd⟩
 refine thn (zU (pos:=py) hN hi' hx hf _ s' σ H3 (.ref Da) (.ref Da) _ I'' rfl q') fun _ s'' ⟨σ4,H4,I4,q4⟩=>?_
 have hC4:=I4.pin (C,oC) (Jr _ (Jr _ Jf))
 refine ⟨m,hn.at' fun o e=>?_,fun h' hs'=>⟨σ4,H4,?_,q4⟩⟩
 ·rw [hoC] at e;cases e;exact hC4.1
 ·have I5:Inv X pins σ4 H4 s'':=I4.unpinned
  exact I5.turned (t':=s''.toks) (fun b o hb e=>(hs'.2 b hb).trans e) hC4.2.1 hfp.2.1 hfp.2.2.2.1 hfp.2.2.2.2.1 hfp.2.2.2.2.2
end
structure Fn (P:Program) (w:World) (K:PySem.W.Frag) (mg:Str->Option Value) (base:Heap) (x:Str) (k:Nat) (ps:List Str) (sp:Sp):Prop where
 ex:∃ f fd,FnOk P w K mg base CX0 k f fd ps sp/\mg x=some [318]/\PySem.W.keepIn K [318]=true/\Binds K fd ps []
theorem zoK{X:Cx}{x:Str}{k:Nat}{ps:List Str}{sp:Sp}{e:Expr}{es:List Expr}{t:TA}{p pos:Pos}(F:Fn X.prog X.w X.K X.mg X.base x k ps sp)(hr:Room k X.A)(hg:Gl X x)(ha:PA X (e::es) t)
  (hdb:[50]=false:=by decide)(he:starEach (e::es) X.env=[54]::starEach es X.env:=by rfl)(hpl:[72].any (·.1)=false:=by rfl):
  PE X [81] (zmB sp [] E0 t):=by
 obtain ⟨f,fd,F,hm,hk,hb⟩:=F.ex
 exact zlO F hr hg hm hk hb .nil zoM ha hdb he hpl
section
variable {prog:Program} {w:World} {A:Around} {E:Value->Shared->Prop} {s:Shared}
theorem zcI{it t:Addr}{items:Array Value}(hne:t≠it):∀ (n i:Nat) (s:Shared) (Q:List Value->Shared->Prop),s.heap.IsListIter it t i->s.heap.IsList t items->i+n≤items.size->
  (∀ h',h'.IsListIter it t (i+n)->Heap.SameBut it s.heap h'->Q ((items.toList.drop i).take n) { s with heap:=h' })->wpAny [35] A (draw [158] n) Q E s
 | 0,i,s,Q,hit,_,_,hQ=>by
  show wpAny _ _ (pure []) Q E s
  exact wpAny_pure (by simpa using hQ s.heap hit (Heap.SameBut.refl ..))
 | n+1,i,s,Q,hit,ht,hle,hQ=>by
  have hlt:i<items.size:=by omega
  show wpAny _ _ (pyNext [158] >>= _) Q E s
  refine wpAny_bind (wpAny_pyNext_list_item hit ht (x:=items[i]) (by simp [hlt]) fun h₁ hit₁ hs₁=>?_)
  refine wpAny_bind (wpAny_holding (zcI hne n (i+1) _ _ hit₁ (ht.extBut hs₁.extBut hne) [12] fun h₂ hit₂ hs₂=>wpAny_pure ?_))
  have hd:items.toList.drop i=items[i]::items.toList.drop (i+1):=by simp [List.drop_eq_getElem_cons,hlt]
  have:=hQ h₂ (by rw [show i+(n+1)=i+1+n by omega];exact hit₂) (hs₁.trans hs₂)
  rw [hd,List.take_succ_cons] at this
  exact this
theorem qN{t:Addr}{items:Array Value}{Q:List Value->Shared->Prop}(hh:A.handled=none)(ht:s.heap.IsList t items)
  (hQ:∀ h',Heap.ExtBut s.heap.objs.size s.heap h'->Q items.toList { s with heap:=h' }):wpAny [35] A (unpackItems (.ref t) items.size none) Q E s:=by
 have hlt:t≠s.heap.objs.size:=by obtain ⟨o,ho,_⟩:=ht;exact JE (Jn ho)
 unfold unpackItems
 refine wpAny_bind ?_
 ·unfold notIterableAtAll
  refine wpAny_bind (wpAny_specialOf ht.typeIs slot_list_iter.lookup ?_)
  refine wpAny_pure ?_
  simp only [Bool.false_eq_true,if_false]
  refine wpAny_bind (wpAny_holding (wpAny_pyIter_list ht ?_))
  have hpush:(s.heap.push { cls:=.type "list_iterator",data:=.fields #[.ref t,.int 0 0] }).IsList t items:=by
   obtain ⟨o,ho,r⟩:=ht
   exact ⟨o,Jd _ ho,r⟩
  refine wpAny_bind (wpAny_holding (zcI hlt items.size 0 _ _ ⟨_,Jp _ rfl,rfl,rfl⟩ hpush [12] fun h₁ hit₁ hs₁=>?_))
  have hall:List.take items.size (List.drop 0 items.toList)=items.toList:=by
   rw [List.drop_zero];exact List.take_of_length_le [19]
  rw [hall]
  rw [if_neg [19]]
  have ht₁:h₁.IsList t items:=hpush.extBut hs₁.extBut hlt
  refine wpAny_bind (wpAny_holding (wpAny_pyNext_list_end hh hit₁ ht₁ [19] fun h₂ he₂=>?_))
  simp only [Option.isSome_none,Bool.false_eq_true,if_false]
  refine wpAny_pure (hQ h₂ fun b o hb e=>he₂ b o hb (hs₁.extBut b o hb (Jd _ e)))
theorem qI{env:Env}{elts:List Expr}{x1}{pos:Pos}{t:Addr}{items:Array Value}{Q:Unit->Shared->Prop}(hh:A.handled=none)(ht:s.heap.IsList t items)
  (hn:(assignEach elts env).length=items.size)(hstar:(assignEach elts env).findIdx? (·.1)=none)
  (h:∀ h',Heap.ExtBut s.heap.objs.size s.heap h'->wpAny [35] A (assignInOrder ((assignEach elts env).map (·.2)) items.toList) Q E { s with heap:=h' }):
  wpAny [35] A (assign (.Tuple elts x1 pos) env (.ref t)) Q E s:=by
 rw [assign_Tuple]
 refine wpAny_bind (wpAny_standAt ?_)
 unfold unpack
 rw [hn,hstar]
 exact wpAny_bind (wpAny_holding (qN hh ht h))
end
section
variable {X:Cx} {pos:Pos}
noncomputable def zqj(K:PySem.W.Frag)(n:Nat)(t:TGs):TG:=fun v σ H Q=>∃ a xs,v=.ref a/\SqL K H a xs/\xs.length=n/\t xs σ H Q
theorem znq{es:List Expr}{k:Nat}{t:TGs}{n:Nat}(hc:X.calm=true)(h:PGs X es t)
  (hn:[140].length=n:=by rfl)(hst:[140].findIdx? (·.1)=none:=by rfl):PG X [275] (zqj X.K n t):=by
 intro pins s σ H v u Q I r hw
 obtain ⟨a,xs,e1,hq,hl,hw⟩:=hw
 subst e1
 cases r
 obtain ⟨its,rv,ht,hz⟩:=I.list hq
 refine qI [105] ht.isList (by simp [hn,← hl,rv.length]) hst fun h' hx=>?_
 have I1:Inv X pins σ H { s with heap:=h' }:=I.kept (t':=s.toks) fun b o e=>hx b o (Nat.ne_of_lt (Heap.lt_size e)) e
 exact h pins _ σ H xs _ Q I1 (by simpa using rv) hw
end
section
variable {prog:Program} {w:World} {A:Around} {E:Value->Shared->Prop} {s:Shared}
theorem jw{t sl:Addr}{items:Array Value}{vl vu:Value}{lo hi:Option Int}{Q:Value->Shared->Prop}(ht:IsTup s.heap t items)(hs:s.heap.IsSliceOf sl vl vu .none)(pl:IsPart vl lo)(pu:IsPart vu hi)
  (hw:HT.sIx items.size 0 lo=0/\HT.sIx items.size items.size hi=items.size)(h:Q (.ref t) s):wpAny [35] A (getItem (.ref t) (.ref sl)) Q E s:=by
 obtain ⟨os,hos,hcs,hds⟩:=id hs
 have hTs:s.TypeIs (.ref sl) "slice":=⟨os,hos,hcs⟩
 unfold getItem
 try with_reducible refine wpAny_holding ?_
 first | refine wpAny_bind [47] | skip
 refine wpAny_bind (wpAny_sequenceKey ht.typeIs [10] ?_)
 refine wpAny_bind (wpAny_callSpecial?_slot (name:=Str.ofString "__getitem__") ht.typeIs Kr
  (wpAny_call_entry Kr ht.typeIs entry_tuple_getitem ?_ (args_tuple_getitem _ _)))
 show wpAny _ _ (Builtin.Tuple.tupleItemsOf (.ref t) >>= _) _ _ s
 refine wpAny_bind (tupleItemsOf_ ht ?_)
 refine wpAny_bind (wpAny_typeOf hTs ?_)
 rw [if_pos [10]]
 refine wpAny_bind (HT.sliceApplied_gen hs pl pu ?_)
 have hyes:(((HT.sIx items.size 0 lo:Nat):Int) == 0 && (1:Int) == 1 && (HT.sIx items.size items.size hi - HT.sIx items.size 0 lo) == items.size)=true:=by
  rw [hw.1,hw.2];simp
 show wpAny _ _ (if (((HT.sIx items.size 0 lo:Nat):Int) == 0 && (1:Int) == 1 && (HT.sIx items.size items.size hi - HT.sIx items.size 0 lo) == items.size)=true then _ else _) _ _ s
 rw [if_pos hyes]
 refine wpAny_bind ?_
 unfold Builtin.Tuple.tupleIsExact
 refine wpAny_bind (wpAny_typeOf ht.typeIs [47])
 rw [if_pos [10]]
 first
  | exact wpAny_bind (wpAny_rule [71])
  | exact wpAny_bind (wpAny_rule (wpAny_bind (wpAny_pure [71])))
  | exact wpAny_bind (wpAny_rule (wpAny_bind [71]))
end
section
variable {X:Cx}
noncomputable def zoB(K:PySem.W.Frag):V->Option Int->Option Int->Hp->VK->Prop:=fun x lo hi H Q=>∃ a xs,x=.ref a/\SqT K H a xs/\(zbN xs lo hi=xs->Q [84] H)/\∀ p,H p=none->Q (.ref p) (upd H p (.tup [302]))
theorem zlu:SlR X (zoB X.K):=by
 intro pins s σ H x v vl vu lo hi sl Q I rx hs pl pu h
 obtain ⟨a,xs,rfl,hx,q1,q2⟩:=h
 by_cases hw:HT.sIx xs.length 0 lo=0/\HT.sIx xs.length xs.length hi=xs.length
 ·cases rx
  obtain ⟨its,r,ht,hz⟩:=I.tuple hx
  have hlen:its.toArray.size=xs.length:=by rw [Jz];exact r.length.symm
  refine ⟨"tuple",_,PyProof.Rows.slot_tuple_getitem.lookup,ht.typeIs,?_⟩
  refine jw ht hs pl pu (by rw [hlen];exact hw) ⟨.ref a,H,I,rfl,q1 ?_⟩
  unfold zbN
  rw [hw.1,hw.2]
  simp
 ·exact zmY pins s σ H _ v vl vu lo hi sl Q I rx hs pl pu ⟨a,xs,rfl,hx,hw,q2⟩
theorem zgr:∀ {ns:List String} {us:List Value},Vals (ns.map V.ty) us->us=ns.map Value.type
 | [],_,h=>by cases h;rfl
 | n::ns,_,h=>by
  cases h with
  | cons r t=>cases r;rw [zgr t];rfl
theorem op_mulB:OpR X (binaryOp .Mult) (rI IntMulOk fun i j=>.int (i * j)):=opI fun _ _ _ _ _ _ _ hc q=>mul_int q hc
theorem zba(hu:X.A.units+1<cLine):OpR X (compareOp .In) (fun x y H Q=>∃ a o,y=.ref a/\DGet H a x o/\Q (.bl o.isSome) H):=by
 intro pins s σ H x y v u Q I rx ry h
 obtain ⟨a,o,rfl,g,q⟩:=h
 cases ry
 exact zqn hu I g rx fun s' I'=>⟨.bl _,H,I',rfl,q⟩
theorem zca(hu:X.A.units+1<cLine):OpR X (compareOp .NotIn) (fun x y H Q=>∃ a o,y=.ref a/\DGet H a x o/\Q (.bl (!o.isSome)) H):=by
 intro pins s σ H x y v u Q I rx ry h
 obtain ⟨a,o,rfl,g,q⟩:=h
 cases ry
 exact zmr hu I g rx fun s' I'=>⟨.bl _,H,I',rfl,q⟩
noncomputable def zmw(K:PySem.W.Frag)(H:Hp)(y x:V)(b:Bool):Prop:=
 (∃ p xs,y=.ref p/\(SqL K H p xs∨SqT K H p xs)/\jB x=true/\xs.all jB=true/\b=inV x xs)∨∃ a o,y=.ref a/\DGet H a x o/\b=o.isSome
theorem zhP(hu:X.A.units+1<cLine):OpR X (compareOp .In) (fun x y H Q=>∃ b,zmw X.K H y x b/\Q (.bl b) H):=by
 intro pins s σ H x y v u Q I rx ry h
 obtain ⟨b,h | h,q⟩:=h
 ·obtain ⟨p,xs,rfl,h1,h2,h3,rfl⟩:=h
  exact zhO pins s σ H x _ v u Q I rx ry ⟨p,xs,rfl,h1,h2,h3,q⟩
 ·obtain ⟨a,o,rfl,h1,rfl⟩:=h
  exact zba hu pins s σ H x _ v u Q I rx ry ⟨a,o,rfl,h1,q⟩
theorem zdg(hu:X.A.units+1<cLine):OpR X (compareOp .NotIn) (fun x y H Q=>∃ b,zmw X.K H y x b/\Q (.bl (!b)) H):=by
 intro pins s σ H x y v u Q I rx ry h
 obtain ⟨b,h | h,q⟩:=h
 ·obtain ⟨p,xs,rfl,h1,h2,h3,rfl⟩:=h
  exact zdf pins s σ H x _ v u Q I rx ry ⟨p,xs,rfl,h1,h2,h3,q⟩
 ·obtain ⟨a,o,rfl,h1,rfl⟩:=h
  exact zca hu pins s σ H x _ v u Q I rx ry ⟨a,o,rfl,h1,q⟩
theorem zbW(hc:X.calm=true):CallR X (.type "list") (fun xs H Q=>∃ p kvs,xs=[.ref p]/\H p=some [94]/\∀ l,H l=none->Q [288] (upd H l [209])):=by
 intro pins s σ H xs us Q I r h
 obtain ⟨p,kvs,rfl,hp,q⟩:=h
 obtain ⟨u,rfl,rx⟩:=kf r
 cases rx
 obtain ⟨hz,hS,vs,rel,o,es,ep,h1,h2,h3,h4⟩:=qE I.hok hp
 have hlen:kvs.length=vs.length:=rel.length
 have hn:H s.heap.objs.size=none:=I.hok.fresh (Jm _)
 refine PySem.W.kdl_call (PySem.W.kdl_dict (kvs:=vs) (ep:=ep) hS) [105] ⟨o,es,h1,h2,h3,h4⟩ [12] fun h' tk acc' c' hk hl hi=>?_
 have rv:Vals (kvs.map fun kv=>kV kv.1) acc'.toList:=by
  have key:∀ (l:List [149]) (m:List (Key × Value)) (us:List Value),KV l m->us.length=m.length->(∀ (j:Nat) (v:Value),us[j]?=some v->∃ k x,m[j]?=some (k,x)/\[323].is k v=true)->Vals (l.map fun kv=>kV kv.1) us:=by
   intro l m us hr
   unfold KV at hr
   induction hr generalizing us with
   | nil=>intro hl _;cases us with
    | nil=>exact .nil
    | cons _ _=>simp at hl
   | @cons a b l m hab t ih=>
    intro hl hv
    cases us with
    | nil=>simp at hl
    | cons u us=>
     refine .cons ?_ (ih us [202] fun j v hj=>by simpa using hv (j+1) v (by simpa using hj))
     obtain ⟨k,x,e,hk⟩:=hv 0 u rfl
     simp only [List.getElem?_cons_zero,Option.some.injEq] at e
     have e1:b.1=k:=by rw [e]
     show RelV (kV a.1) u
     rw [hab.1,e1]
     rw [zbn] at hk
     rcases zx hk with ⟨i,t,rfl,rfl⟩ | ⟨x,t,rfl,rfl⟩
     ·exact ⟨t,rfl⟩
     ·exact ⟨t,rfl⟩
  refine key kvs vs _ rel (by rw [Jk];exact hi.1) fun j v hj=>hi.2 j v (by rw [← JL];exact hj)
 refine ⟨.ref s.heap.objs.size,_,I.laid hk (Jm _) (show ObjOk X.prog X.w _ h' _ [209] from ⟨by rw [Jh];exact hz,acc'.toList,c',rv,by rw [Array.toArray_toList];exact hl⟩),rfl,q _ hn⟩
end
mutual
inductive Rep (K:PySem.W.Frag) (H:Hp):V->PyData->Prop
 | non:Rep K H .non .none
 | bl (b:Bool):Rep K H (.bl b) (.bool b)
 | int (i:Int):Rep K H [88] [88]
 | str (x:Str):Rep K H (.str x) (.str x)
 | list {a:Addr} {xs:List V} {ds:List PyData}:SqL K H a xs->Reps K H xs ds->Rep K H [84] (.list ds)
 | tuple {a:Addr} {xs:List V} {ds:List PyData}:SqT K H a xs->Reps K H xs ds->Rep K H [84] (.tuple ds)
inductive Reps (K:PySem.W.Frag) (H:Hp):List V->List PyData->Prop
 | nil:Reps K H [] []
 | cons {x:V} {d:PyData} {xs:List V} {ds:List PyData}:Rep K H x d->Reps K H xs ds->Reps K H (x::xs) (d::ds)
end
theorem Same.tup{K:PySem.W.Frag}{H H':Hp}{a:Addr}{xs:List V}(e:Same H H')(h:SqT K H a xs):SqT K H' a xs:=by
 rcases h with (h | ⟨o,h⟩) | h
 ·exact .inl (.inl (e _ _ h))
 ·exact .inl (.inr ⟨o,e _ _ h⟩)
 ·exact .inr h
mutual
theorem Rep.same{K:PySem.W.Frag}{H H':Hp}(e:Same H H'):∀ {x:V} {d:PyData},Rep K H x d->Rep K H' x d
 | _,_,.non=>.non
 | _,_,.bl b=>.bl b
 | _,_,.int i=>.int i
 | _,_,.str x=>.str x
 | _,_,.list h r=>.list (e.seq h) (Reps.same e r)
 | _,_,.tuple h r=>.tuple (e.tup h) (Reps.same e r)
theorem Reps.same{K:PySem.W.Frag}{H H':Hp}(e:Same H H'):∀ {xs:List V} {ds:List PyData},Reps K H xs ds->Reps K H' xs ds
 | _,_,.nil=>.nil
 | _,_,.cons h t=>.cons (Rep.same e h) (Reps.same e t)
end
mutual
theorem Rep.reads{X:Cx}{pins:List [24]}{σ:St}{H:Hp}{s:Shared}(I:Inv X pins σ H s):∀ {x:V} {d:PyData} {u:Value},Rep X.K H x d->RelV x u->∃ as,Reads s.heap u d as
 | _,_,_,.non,r=>by cases r;exact ⟨_,.none⟩
 | _,_,_,.bl b,r=>by cases r;exact ⟨_,.bool b⟩
 | _,_,_,.int i,r=>by obtain ⟨t,rfl⟩:=r;exact ⟨_,.int i t⟩
 | _,_,_,.str x,r=>by obtain ⟨t,rfl⟩:=r;exact ⟨_,.str x t⟩
 | _,_,_,.list h q,r=>by
  cases r
  obtain ⟨its,rv,⟨o,n,e,c,d,hd⟩,hz⟩:=I.list h
  obtain ⟨as,ra⟩:=Reps.reads I q rv
  exact ⟨_,.list e c hd (by simpa using ra)⟩
 | _,_,_,.tuple h q,r=>by
  cases r
  obtain ⟨its,rv,⟨o,e,c,n,hd⟩,hz⟩:=I.tuple h
  obtain ⟨as,ra⟩:=Reps.reads I q rv
  exact ⟨_,.tuple e c hd (by simpa using ra)⟩
theorem Reps.reads{X:Cx}{pins:List [24]}{σ:St}{H:Hp}{s:Shared}(I:Inv X pins σ H s):∀ {xs:List V} {ds:List PyData} {us:List Value},Reps X.K H xs ds->Vals xs us->∃ as,ReadsAll s.heap us ds as
 | _,_,_,.nil,r=>by cases r;exact ⟨_,.nil⟩
 | _,_,_,.cons h t,r=>by
  cases r with
  | cons r1 r2=>
   obtain ⟨as,ra⟩:=Rep.reads I h r1
   obtain ⟨bs,rb⟩:=Reps.reads I t r2
   exact ⟨_,.cons ra rb⟩
end
section
variable {X:Cx}
open PySem.SeqAt in
theorem xv(hu:X.A.units+64<cLine):OpR X (compareOp .Eq) (fun x y H Q=>∃ d e,Rep X.K H x d/\Rep X.K H y e/\d.canLay0=true/\e.canLay0=true/\d.depth≤64/\Q (.bl (PyData.eqv d e)) H):=by
 intro pins s σ H x y v u Q I rx ry h
 obtain ⟨d,e,hd,he,h1,h2,h3,q⟩:=h
 obtain ⟨as,ra⟩:=hd.reads I rx
 obtain ⟨bs,rb⟩:=he.reads I ry
 exact compareEq_reads ra rb h1 h2 (by have:=Nat.min_le_left d.depth e.depth;omega) ⟨.bl _,H,I,rfl,q⟩
open PySem.SeqAt in
theorem jO(hu:X.A.units+64<cLine):OpR X (compareOp .NotEq) (fun x y H Q=>∃ d e,Rep X.K H x d/\Rep X.K H y e/\d.canLay0=true/\e.canLay0=true/\d.depth≤64/\Q (.bl (!PyData.eqv d e)) H):=by
 intro pins s σ H x y v u Q I rx ry h
 obtain ⟨d,e,hd,he,h1,h2,h3,q⟩:=h
 obtain ⟨as,ra⟩:=hd.reads I rx
 obtain ⟨bs,rb⟩:=he.reads I ry
 exact compareNe_reads ra rb h1 h2 (by have:=Nat.min_le_left d.depth e.depth;omega) ⟨.bl _,H,I,rfl,q⟩
end
section
variable {X:Cx} {pos:Pos}
theorem zfB{x:Str}{T:String}(hg:Gl X x)(hm:X.mg x=none)(hv:bootBuiltins x=some (.type T))(hn:x≠"__name__":=by decide)(hd:[50]=false:=by decide):PE X [139] (tC (.ty T)):=
 zlP hg hm hv (show RelV (.ty T) (.type T) from rfl) hn hd
end
noncomputable def cW(D:Addr)(xs:List V)(τ:St)(Pv:Nat->List V->Hp->Prop)(i m:Nat)(σ:St)(H:Hp):Prop:=
 ∃ o ys,σ=o::τ/\H D=some [262]/\ys.length≤i/\i≤xs.length/\m=xs.length - i/\Pv i ys H
noncomputable def zqG(D:Addr)(xs:List V)(τ:St)(Pv:Nat->List V->Hp->Prop)(i:Nat)(x:V)(y:V)(H6:Hp):Prop:=
 ∃ ys,H6 D=some [262]/\ys.length<sizeLine/\∃ m',m'<xs.length - i/\cW D xs τ Pv (i+1) m' (some x::τ) (upd H6 D (.lst (ys++[y])))
noncomputable def zqB(D:Addr)(xs:List V)(τ:St)(Pv:Nat->List V->Hp->Prop)(i:Nat)(x:V)(H5:Hp):Prop:=
 ∃ m',m'<xs.length - i/\cW D xs τ Pv (i+1) m' (some x::τ) H5
section
variable {J:It} {v:Str} {js:List Nat} {tt:TT} {te:TE} {σ:St} {H1:Hp} {Q:VK}
noncomputable def zef(lo:Int)(n:Nat):List V:=[133].map fun (i:Nat)=>V.int (lo+i)
theorem zjk{lo:Int}{n i:Nat}{x:V}(h:(zef lo n)[i]?=some x):i<n/\x=V.int (lo+i):=by
 unfold zef at h
 rw [JM] at h
 by_cases hi:i<n
 ·rw [Qd hi] at h
  exact ⟨hi,(Jq h).symm⟩
 ·rw [List.getElem?_eq_none [141]] at h
  cases h
theorem zee(lo:Int)(n:Nat):(zef lo n).length=n:=by simp [zef]
end
theorem z6{H H':Hp}{D:Addr}{o:HO}(s:Same H H')(hD:H D=none):Same H (upd H' D o):=fun b u e=>by
 rw [zm (yi e hD)]
 exact s b u e
theorem bits_of_weight:∀ (ns:List Int),PySem.W.WData.weightAll (ns.map PySem.W.WData.int)≤2 ^ 20->∀ n ∈ ns,Builtin.Int.intBits n≤1048576
 | [],_,_,h=>nomatch h
 | m::ns,hw,n,h=>by
  rw [Ju] at hw
  unfold PySem.W.WData.weightAll at hw
  rcases List.mem_cons.mp h with rfl | h
  ·have:PySem.W.WData.weight (PySem.W.WData.int n)=Builtin.Int.intBits n:=by unfold PySem.W.WData.weight Builtin.Int.intBits;rfl
   omega
  ·exact bits_of_weight ns [12] n h
end L2
namespace Att
open PySem PySem.W PySem.Calls PyProof.Rows
theorem attach_callB{l:OpenLaw}{n:Nat}{q:Program}{loose:List Str}{XP:(Str->Option Value)->Heap->Prop}{YP:World->Heap->Prop}{d:DefRec}
  (hn:l.most=some n)(hdf:d.params.defaults=[])
  (call:∀ (w:World) (s₀ s₁:Shared) (mg mb:Str->Option Value) (fa:Addr) (o:Obj) (pm cd doc:Value) (a:Addr) (vs:List Value) (ns:List Int),
   Ground q loose [] XP w s₀ mg mb s₁.heap->YP w s₁.heap->
   s₁.heap.get? fa=some o->o.data=.func (docDef d.name d.params d.body d.scope pm cd doc)->s₁.heap.CodeRec cd d.name->mg d.name=some (.ref fa)->
   s₁.heap.get? a=some { cls:=.type "list",data:=.seq vs.toArray }->IntsAre vs ns->ns.length≤n->(∀ m ∈ ns,Builtin.Int.intBits m≤1048576)->s₁.gens=#[]->
   codeAny (model l.prog w) callerA (.call (.ref fa) ⟨[.ref a],[]⟩) (fun r s'=>r=.ok (.ret (.bool true))/\OldK s₁.heap s'.heap/\s'.os=s₁.os/\AllBare s'.gens) s₁):
  WalkO q loose XP YP l.row.toRowW d [] (fun f vs=>PySem.call f vs):=by
 intro w s₀ s₁ mg mb G Y fa o pm cd doc dV kV ho hd hcd hD hmg hg args vals as hpre hlay hrd hwl hlo
 obtain rfl:dV=.none:=Dflts.none hD hdf
 obtain rfl:kV=.none:=Dflts.noKw hD
 obtain ⟨a,vs,ns,rfl,rfl,hobj,hints,hlen⟩:=zhH hn hpre hwl
 have hb:∀ m ∈ ns,Builtin.Int.intBits m≤1048576:=by
  refine L2.bits_of_weight ns ?_
  have h1:WData.layable (WData.list (ns.map WData.int))=true:=by simpa [WData.layableAll] using hlay
  unfold WData.layable at h1
  have h2:=of_decide_eq_true (Bool.and_eq_true_iff.mp h1).2
  unfold WData.weight at h2
  exact h2
 refine enter_call (codeAny_mono (call w s₀ s₁ mg mb fa o pm cd doc a vs ns G Y ho (fd_plain hd) hcd hmg hobj hints hlen hb hg) fun r s' hq=>?_)
 obtain ⟨rfl,h2,h3,h4⟩:=hq
 exact ⟨.inl ⟨.bool true,.bool true,[],rfl,fun _=>rfl,.bool true,zhJ l _,fun _=>⟨List.Pairwise.nil,fun _ hm=>(nomatch hm)⟩⟩,h2,h3,h4⟩
end Att
namespace L2
open PySem PySem.Spec PyProof.Rows
theorem walk_ofB{l:PySem.W.OpenLaw}{n k:Nat}{q:Program}{loose:List Str}{XP:(Str->Option Value)->Heap->Prop}{YP:World->Heap->Prop}{d:DefRec}{K:Params->PySem.W.Frag}{CX:World->CXT}{sp:World->Sp}{x:Str}
  (hn:l.most=some n)(hn2:n≤sizeLine)(hdf:d.params.defaults=[])(hr:Room k callerA)
  (hY:∀ (w:World) (h:Heap),YP w h->[248].In h)
  (F:∀ (w:World) (mg:Str->Option Value) (fa:Addr) (h:Heap),[248].In h->h.Ns mainGlobals mg->mg d.name=some (.ref fa)->
   ∃ fd:FuncData,(∀ (s:Shared) (u:Value),BindsTo s fd ⟨[u],[]⟩ [(x,u)])/\
    ∀ base:Heap,[248].In base->base.Ns mainGlobals mg->FnOk l.prog w [248] mg base (CX w) k fa fd [x] (sp w))
  (hsp:∀ (w:World) (H:Hp) (a:Addr) (ns:List Int),ns.length≤n->(∀ m ∈ ns,Builtin.Int.intBits m≤1048576)->zmv H->SqL [248] H a (ns.map V.int)->sp w [.ref a] H (fun v _=>v=.bl true) fun _ _ _=>False)
  (hCX:∀ (w:World) (H:Hp) (s:Shared) (e:Value) (s':Shared),CX w [] H s (fun _ _ _=>False) e s'->False):
  PySem.W.WalkO q loose XP YP l.row.toRowW d [] (fun f vs=>PySem.call f vs):=by
 refine Att.attach_callB hn hdf fun w s₀ s₁ mg mb fa o pm cd doc a vs ns G Y ho hd hcd hmg hobj hints hlen hb hg=>?_
 have KX:=hY w _ Y
 obtain ⟨fd,hbd,hF⟩:=F w mg fa _ KX G.T.g hmg
 exact zkg KX G.T.g G.T.b G.T.builtins G.T.nolimit hg hobj hints (JN hlen hn2) hr hF hbd (fun H hO hS=>hsp w H a ns hlen hb hO hS) fun H e s'=>hCX w H s₁ e s'
section
variable {prog:Program} {w:World} {A:Around} {E:Value->Shared->Prop} {s:Shared}
theorem vk(s:Shared):s.TypeIs .none "NoneType":=by first | exact rfl | trivial | (unfold Shared.TypeIs;trivial)
theorem ke{Q:Int->Shared->Prop}(h:Q 0xFCA86420 { s with toks:=s.toks+1 }):wpAny [35] A (pyHash .none) Q E s:=by
 unfold pyHash
 unfold pyHashByItsType
 have hv:[Value.none].any Value.onHeap=false:=rfl
 refine wpAny_bind ?_
 rw [cRoomFor,if_neg (by rw [hv];exact Je)];refine wpAny_pure ?_
 refine wpAny_bind (wpAny_specialOf (vk s) PySem.F.slot_NoneType_hash.lookup ?_)
 show wpAny _ _ (if (some (Value.builtin "NoneType.__hash__") == some Value.none)=true then _ else _) Q E s
 rw [if_neg (by rw [beq_builtin_none];exact Je)]
 refine wpAny_bind (wpAny_specialOf (vk s) PySem.F.slot_NoneType_hash.lookup ?_)
 show wpAny _ _ (callSpecialIfBoundUnlessNone? .none "__hash__" _ >>= _) Q E s
 refine wpAny_bind (wpAny_callSpecialIfBoundUnlessNone?_slot (vk s) PySem.F.slot_NoneType_hash
  (wpAny_call_entry PySem.F.slot_NoneType_hash (vk s) PySem.F.entry_NoneType_hash
   (show wpAny _ _ (do ret (← mkInt 0xFCA86420)) _ _ s from wpAny_ret_mkInt ?_) (PySem.F.args_NoneType_hash_1 _)))
 show wpAny _ _ (if (decide (-(2:Int) ^ 63≤0xFCA86420) && decide ((0xFCA86420:Int)<2 ^ 63))=true then _ else _) Q E _
 rw [if_pos [10]]
 exact wpAny_pure h
end
noncomputable def zde(prog:Program)(w:World):PySem.KeyKind prog w (Option Key) where
 is:=fun o v=>match o with | some k=>zaa k v | none=>(v == Value.none)
 hash:=fun o=>match o with | some k=>zoX w k | none=>0xFCA86420
 inj:=fun v a b ha hb=>by
  cases a with
  | none=>
   have ha:v=Value.none:=eq_of_beq ha
   subst ha
   cases b with
   | none=>rfl
   | some k=>rcases zx hb with ⟨_,_,_,e⟩ | ⟨_,_,_,e⟩<;>cases e
  | some k=>
   cases b with
   | none=>
    have hb:v=Value.none:=eq_of_beq hb
    subst hb
    rcases zx ha with ⟨_,_,_,e⟩ | ⟨_,_,_,e⟩<;>cases e
   | some k'=>rw [[273].inj v k k' ha hb]
 byValue:=fun k v h=>by
  cases k with
  | none=>have h:v=Value.none:=eq_of_beq h;subst h;rfl
  | some k=>exact [273].byValue k v h
 pyHash:=fun {A E s k v Q} hv h=>by
  cases k with
  | none=>have hv:v=Value.none:=eq_of_beq hv;subst hv;exact ke h
  | some k=>exact [273].pyHash (k:=k) hv h
 eqBool:=fun {A E s a b u v Q} hu hv h=>by
  cases a with
  | none=>
   have hu:u=Value.none:=eq_of_beq hu
   subst hu
   cases b with
   | none=>
    have hv:v=Value.none:=eq_of_beq hv
    subst hv
    exact SeqAt.EqAt.same .none _ _ _ _ [220]
   | some k=>
    have h:Q false s:=by simpa using h
    rcases zx hv with ⟨i,t,rfl,rfl⟩ | ⟨x,t,rfl,rfl⟩
    ·exact SeqAt.EqAt.none_int i t _ _ _ _ h
    ·exact SeqAt.EqAt.none_str x t _ _ _ _ h
  | some k=>
   cases b with
   | none=>
    have hv:v=Value.none:=eq_of_beq hv
    subst hv
    have h:Q false s:=by simpa using h
    rcases zx hu with ⟨i,t,rfl,rfl⟩ | ⟨x,t,rfl,rfl⟩
    ·exact SeqAt.EqAt.int_none i t _ _ _ _ h
    ·exact SeqAt.EqAt.str_none x t _ _ _ _ h
   | some k'=>
    refine [273].eqBool (a:=k) (b:=k') hu hv ?_
    have e:decide (some k=some k')=decide (k=k'):=by by_cases z:k=k'<;>simp [z]
    rw [e] at h
    exact h
 «strs»:=fun k x t v h=>by
  cases k with
  | none=>
   have z:Value.str x t=Value.none:=eq_of_beq h
   cases z
  | some k=>exact [273].strs k x t v h
theorem zex{P:Program}{w:World}{h:Heap}{a:Addr}{f:Key->Option Value}(m:h.MapOf (zl P w) a f):h.MapOf (zde P w) a (fun o=>match o with | some k=>f k | none=>none):=by
 obtain ⟨o,es,ep,h1,h2,h3,h4,h5⟩:=m
 refine ⟨o,es,ep,h1,h2,h3,fun e he=>?_,fun k=>?_⟩
 ·obtain ⟨k,a1,a2⟩:=h4 e he
  exact ⟨some k,a1,a2⟩
 ·cases k with
  | some k=>exact h5 k
  | none=>
   unfold findBy
   rw [Option.map_eq_none_iff,Array.find?_eq_none]
   intro e he z
   obtain ⟨k,a1,a2⟩:=h4 e he
   have z:e.key=Value.none:=eq_of_beq z
   rw [z] at a1
   rcases zx a1 with ⟨_,_,_,e⟩ | ⟨_,_,_,e⟩<;>cases e
section
variable {X:Cx}
theorem zek(hu:X.A.units+1<cLine):OpR X (compareOp .In) (fun x y H Q=>∃ a,y=.ref a/\((∃ o,DGet H a x o/\Q (.bl o.isSome) H)∨(∃ kvs,x=.non/\H a=some [94]/\Q [218] H))):=by
 intro pins s σ H x y v u Q I rx ry h
 obtain ⟨a,rfl,h | h⟩:=h
 ·obtain ⟨o,g,q⟩:=h
  exact zba hu pins s σ H x _ v u Q I rx ry ⟨a,o,rfl,g,q⟩
 ·obtain ⟨kvs,rfl,ha,q⟩:=h
  cases ry
  cases rx
  obtain ⟨z,hd,vs,rel,dd⟩:=qE I.hok ha
  exact wpAny_in_of (knd:=zde X.prog X.w) (k:=none) rfl hd (zex dd.mapOf) ⟨.bl false,H,I.tok _,rfl,q⟩
end
end L2
namespace CB
inductive Reach (R:Int->Int->Prop) (S A:Int->Prop):Int->Prop where
 | start {p:Int}:A p->S p->Reach R S A p
 | step {p q:Int}:Reach R S A p->R p q->S q->Reach R S A q
theorem Reach.inS{R S A}{p:Int}(h:Reach R S A p):S p:=by
 cases h with
 | start _ h=>exact h
 | step _ _ h=>exact h
theorem Reach.mono{R:Int->Int->Prop}{S S' A A':Int->Prop}(hA:∀ p,A p->S p->Reach R S' A' p)(hS:∀ p,Reach R S A p->S' p){p:Int}(h:Reach R S A p):Reach R S' A' p:=by
 induction h with
 | start a s=>exact hA _ a s
 | step h r s ih=>exact .step ih r (hS _ (.step h r s))
theorem zL:∀ (xs ys:List Int),xs.Nodup->(∀ x ∈ xs,x ∈ ys)->xs.length≤ys.length
 | [],ys,_,_=>KG _
 | x::xs,ys,nd,h=>by
  have hx:x ∈ ys:=h x Jf
  have nd':=Jy.mp nd
  have ih:=zL xs (ys.erase x) nd'.2 fun z hz=>by
   have hzx:z≠x:=fun e=>nd'.1 (e ▸ hz)
   exact (List.mem_erase_of_ne hzx).mpr (h z (Jg _ hz))
  rw [Ks hx] at ih
  have:0<ys.length:=KA hx
  simp only [List.length_cons]
  omega
theorem jv{xs ys:List Int}(nd:xs.Nodup)(nd':ys.Nodup)(h:∀ x ∈ xs,x ∈ ys):xs.length=ys.length ↔ ∀ y ∈ ys,y ∈ xs:=by
 constructor
 ·intro e y hy
  refine JK fun hn=>?_
  have:xs.length≤(ys.erase y).length:=zL xs (ys.erase y) nd fun z hz=>by
   have hzy:z≠y:=fun e=>hn (e ▸ hz)
   exact (List.mem_erase_of_ne hzy).mpr (h z hz)
  rw [Ks hy] at this
  have:0<ys.length:=KA hy
  omega
 ·intro h'
  exact Nat.le_antisymm (zL _ _ nd h) (zL _ _ nd' h')
structure Dfs (R:Int->Int->Prop) (S A:Int->Prop) (found waiting:List Int):Prop where
 nd:found.Nodup
 sound:∀ p ∈ found,Reach R S A p
 soundW:∀ p ∈ waiting,Reach R S A p
 starts:∀ p,A p->S p->p ∈ found∨p ∈ waiting
 closed:∀ p ∈ found,∀ q,R p q->S q->q ∈ found∨q ∈ waiting
section
variable {R:Int->Int->Prop} {S A:Int->Prop} {found ws nbs:List Int} {p:Int}
theorem Dfs.init{starts:List Int}(h:∀ q,q ∈ starts ↔ A q/\S q):Dfs R S A [] starts:=
 ⟨List.nodup_nil,(fun _ h=>nomatch h),fun p hp=>.start ((h p).mp hp).1 ((h p).mp hp).2,fun p a s=>.inr ((h p).mpr ⟨a,s⟩),(fun _ h=>nomatch h)⟩
theorem Dfs.old(d:Dfs R S A found (ws++[p]))(hp:p ∈ found):Dfs R S A found ws:=by
 refine ⟨d.nd,d.sound,fun q hq=>d.soundW q (Jj _ hq),fun q a s=>?_,fun q hq r hr s=>?_⟩
 ·rcases d.starts q a s with h | h
  ·exact .inl h
  ·rcases List.mem_append.mp h with h | h
   ·exact .inr h
   ·rw [Jc.mp h];exact .inl hp
 ·rcases d.closed q hq r hr s with h | h
  ·exact .inl h
  ·rcases List.mem_append.mp h with h | h
   ·exact .inr h
   ·rw [Jc.mp h];exact .inl hp
theorem Dfs.new(d:Dfs R S A found (ws++[p]))(hp:p ∉ found)(hn:∀ q,q ∈ nbs ↔ R p q/\S q):Dfs R S A (found++[p]) (ws++nbs):=by
 have rp:Reach R S A p:=d.soundW p (Jr _ Jf)
 have mv:∀ q,q ∈ found∨q ∈ ws++[p]->q ∈ found++[p]∨q ∈ ws++nbs:=fun q h=>by
  rcases h with h | h
  ·exact .inl (Jj _ h)
  ·rcases List.mem_append.mp h with h | h
   ·exact .inr (Jj _ h)
   ·exact .inl (Jr _ h)
 refine ⟨?_,fun q hq=>?_,fun q hq=>?_,fun q a s=>mv q (d.starts q a s),fun q hq r hr s=>?_⟩
 ·rw [Jw]
  refine ⟨d.nd,by simp,fun a ha b hb=>?_⟩
  rw [Jc.mp hb]
  exact fun e=>hp (e ▸ ha)
 ·rcases List.mem_append.mp hq with h | h
  ·exact d.sound q h
  ·rw [Jc.mp h];exact rp
 ·rcases List.mem_append.mp hq with h | h
  ·exact d.soundW q (Jj _ h)
  ·exact .step rp ((hn q).mp h).1 ((hn q).mp h).2
 ·rcases List.mem_append.mp hq with h | h
  ·exact mv r (d.closed q h r hr s)
  ·rw [Jc.mp h] at hr
   exact .inr (Jr _ ((hn r).mpr ⟨hr,s⟩))
theorem Dfs.done(d:Dfs R S A found [])(q:Int):q ∈ found ↔ Reach R S A q:=by
 refine ⟨d.sound q,fun h=>?_⟩
 induction h with
 | start a s=>rcases d.starts _ a s with h | h;exact h;exact nomatch h
 | step h r s ih=>rcases d.closed _ ih _ r s with h | h;exact h;exact nomatch h
end
noncomputable def Place(w h p:Int):Prop:=0≤p/\p<w * h
noncomputable def Adj(w p q:Int):Prop:=(q=p+1/\p / w=q / w)∨(q+1=p/\p / w=q / w)∨q=p+w∨q+w=p
noncomputable def Rim(w h p:Int):Prop:=p % w=0∨p % w=w - 1∨p / w=0∨p / w=h - 1
theorem zaN{w p:Int}(w1:1≤w)(h:p % w<w - 1):(p+1) / w=p / w/\(p+1) % w=p % w+1:=by
 have e:=JC p w
 have:=JI p [213]
 exact (KU [12]).mpr ⟨by omega,by omega,by omega⟩
theorem zeZ{w p:Int}(w1:1≤w)(h:0<p % w):(p - 1) / w=p / w/\(p - 1) % w=p % w - 1:=by
 have e:=JC p w
 have:=JG p [203]
 exact (KU [12]).mpr ⟨by omega,by omega,by omega⟩
theorem zeb{w p:Int}(w1:1≤w)(h:p / w=(p+1) / w):p % w<w - 1:=by
 have e:=JC p w
 have e':=JC (p+1) w
 have:=JG (p+1) [203]
 rw [← h] at e'
 omega
theorem zji{w p:Int}(w1:1≤w)(h:p / w=(p - 1) / w):0<p % w:=by
 have e:=JC p w
 have e':=JC (p - 1) w
 have:=JI (p - 1) [213]
 rw [← h] at e'
 omega
theorem qV{w h p:Int}(w1:1≤w)(hp:Place w h p):0≤p / w/\p / w<h:=by
 obtain ⟨p0,p1⟩:=hp
 exact ⟨Int.ediv_nonneg p0 [12],Int.ediv_lt_of_lt_mul [12] (by rw [KQ];exact p1)⟩
theorem zew{c:Prop}[Decidable c]{a q:Int}:(q ∈ (if c then [a] else []:List Int)) ↔ c/\q=a:=by
 by_cases h:c
 ·simp [h]
 ·simp [h]
theorem Adj.symm{w p q:Int}(h:Adj w p q):Adj w q p:=by
 unfold Adj at *
 rcases h with ⟨a,b⟩ | ⟨a,b⟩ | a | a
 ·exact .inr (.inl ⟨by omega,b.symm⟩)
 ·exact .inl ⟨by omega,b.symm⟩
 ·exact .inr (.inr (.inr [12]))
 ·exact .inr (.inr (.inl [12]))
structure IsFloor (w h:Int) (F:List Int):Prop where
 w1:1≤w
 w6:w≤6
 h1:1≤h
 h6:h≤6
 ne:F≠[]
 rise:F.Pairwise (·<·)
 inn:∀ p ∈ F,Place w h p
 conn:∀ p ∈ F,Reach (Adj w) (· ∈ F) (fun q=>F.head?=some q) p
 noh:∀ p,Place w h p->p ∉ F->Reach (Adj w) (fun q=>Place w h q/\q ∉ F) (Rim w h) p
theorem yF{F:List Int}(h:F.Pairwise (·<·)):F.Nodup:=h.imp fun h e=>by omega
noncomputable def zj(w h:Int):List Int:=(List.range (w * h).toNat).map fun (n:Nat)=>(n:Int)
theorem mem_places{w h p:Int}:p ∈ zj w h ↔ Place w h p:=by
 unfold zj Place
 simp only [List.mem_map,List.mem_range]
 constructor
 ·rintro ⟨n,hn,rfl⟩;omega
 ·intro hp;exact ⟨p.toNat,by omega,by omega⟩
theorem zei(w h:Int):[279].Pairwise (·<·):=by
 unfold zj
 rw [Kc]
 exact List.pairwise_lt_range.imp fun h=>by omega
theorem znP{w h:Int}(w1:1≤w)(w6:w≤6)(h1:1≤h)(h6:h≤6){L O:Int->Prop}{a:Int}(hL:∀ p,L p->Place w h p)(ha:L a)
  (conn:∀ p,L p->Reach (Adj w) L (·=a) p)(hO:∀ p,O p ↔ Reach (Adj w) (fun q=>Place w h q/\¬ L q) (Rim w h) p)[DecidablePred O]:
  IsFloor w h [61]:=by
 have mem:∀ p,p ∈ [61] ↔ Place w h p/\¬ O p:=fun p=>by
  rw [Ke,mem_places]
  simp
 have LO:∀ p,L p->¬ O p:=fun p hp ho=>((hO p).mp ho).inS.2 hp
 have hne:[61]≠[]:=fun e=>by
  have:a ∈ [61]:=(mem a).mpr ⟨hL a ha,LO a ha⟩
  rw [e] at this;exact nomatch this
 -- within: from any field a row of fields leads left to L
 have toL:∀ (n:Nat) (p:Int),(p % w).toNat=n->Place w h p->¬ O p->¬ L p->∃ q,L q/\Reach (Adj w) (fun q=>Place w h q/\¬ O q) (·=q) p/\Reach (Adj w) (fun q=>Place w h q/\¬ O q) (·=p) q:=by
  intro n
  induction n with
  | zero=>
   intro p e hp ho hl
   refine absurd ((hO p).mpr (.start (.inl ?_) ⟨hp,hl⟩)) ho
   have:=JI p [213]
   omega
  | succ n ih=>
   intro p e hp ho hl
   have hm:0<p % w:=by omega
   obtain ⟨m1,m2⟩:=zeZ w1 hm
   have pl:Place w h (p - 1):=by
    have hp0:p≠0:=fun e=>by rw [e,Int.zero_emod] at hm;omega
    exact ⟨by have:=hp.1;omega,by have:=hp.2;omega⟩
   have e':((p - 1) % w).toNat=n:=by omega
   have adj:Adj w p (p - 1):=.inr (.inl ⟨Int.sub_add_cancel p 1,m1.symm⟩)
   by_cases hl':L (p - 1)
   ·exact ⟨p - 1,hl',.step (.start rfl ⟨pl,LO _ hl'⟩) adj.symm ⟨hp,ho⟩,.step (.start rfl ⟨hp,ho⟩) adj ⟨pl,LO _ hl'⟩⟩
   ·have ho':¬ O (p - 1):=fun z=>ho ((hO p).mpr (.step ((hO _).mp z) adj.symm ⟨hp,hl⟩))
    obtain ⟨q,hq,r1,r2⟩:=ih (p - 1) e' pl ho' hl'
    refine ⟨q,hq,.step r1 adj.symm ⟨hp,ho⟩,r2.mono (fun z e _=>?_) fun z hz=>hz.inS⟩
    rw [e]
    exact .step (.start rfl ⟨hp,ho⟩) adj ⟨pl,ho'⟩
 -- L is within one reach of a
 have mono:∀ p,L p->Reach (Adj w) (fun q=>Place w h q/\¬ O q) (·=a) p:=fun p hp=>(conn p hp).mono (fun q e s=>.start e ⟨hL q s,LO q s⟩) fun q r=>⟨hL q r.inS,LO q r.inS⟩
 have fromA:∀ p,Place w h p->¬ O p->Reach (Adj w) (fun q=>Place w h q/\¬ O q) (·=a) p:=fun p hp ho=>by
  by_cases hl:L p
  ·exact mono p hl
  ·obtain ⟨q,hq,r1,_⟩:=toL _ p rfl hp ho hl
   exact r1.mono (fun z e _=>e ▸ mono q hq) fun z r=>r.inS
 have rev:∀ (S:Int->Prop) (b p:Int),Reach (Adj w) S (·=b) p->Reach (Adj w) S (·=p) b:=fun S b p r=>by
  induction r with
  | start e s=>subst e;exact .start rfl s
  | @step p q r adj s ih=>exact ih.mono (fun z e sz=>by subst e;exact .step (.start rfl s) adj.symm sz) fun z r=>r.inS
 have cn:∀ (S:Int->Prop) (b p:Int),Reach (Adj w) S (·=a) b->Reach (Adj w) S (·=a) p->Reach (Adj w) S (·=b) p:=fun S b p rb rp=>
  rp.mono (fun z e s=>by subst e;exact rev S _ _ rb) fun z r=>r.inS
 refine ⟨w1,w6,h1,h6,hne,(zei w h).sublist List.filter_sublist,fun p hp=>((mem p).mp hp).1,fun p hp=>?_,fun p hp hn=>?_⟩
 ·cases hF:[61] with
  | nil=>exact absurd hF hne
  | cons b r=>
   have hb:b ∈ [61]:=by rw [hF];exact Jf
   rw [hF] at hp
   have hp':p ∈ [61]:=by rw [hF];exact hp
   have:=cn _ b p (fromA b ((mem b).mp hb).1 ((mem b).mp hb).2) (fromA p ((mem p).mp hp').1 ((mem p).mp hp').2)
   refine this.mono (fun q e s=>.start (by subst e;rfl) ?_) fun q r=>?_
   ·rw [← hF];exact (mem q).mpr s
   ·rw [← hF];exact (mem q).mpr r.inS
 ·have ho:O p:=JK fun z=>hn ((mem p).mpr ⟨hp,z⟩)
  have all:∀ q,Reach (Adj w) (fun q=>Place w h q/\¬ L q) (Rim w h) q->Place w h q/\q ∉ [61]:=fun q r=>
   ⟨r.inS.1,fun z=>((mem q).mp z).2 ((hO q).mpr r)⟩
  exact ((hO p).mp ho).mono (fun q ri s=>.start ri (all q (.start ri s))) fun q r=>all q r
noncomputable abbrev Pt:=Int × Int
noncomputable def Nb(p q:Pt):Prop:=(q.1=p.1+1/\q.2=p.2)∨(q.1+1=p.1/\q.2=p.2)∨(q.1=p.1/\q.2=p.2+1)∨(q.1=p.1/\q.2+1=p.2)
noncomputable def Clo(a u:Int->Int->Int)(p:Pt):Prop:=a p.1 p.2+u (p.1+1) p.2=u p.1 p.2+a p.1 (p.2+1)
noncomputable def AcS(S:Pt->Prop)(x y:Int):Prop:=S (x,y)∨S (x,y - 1)
noncomputable def UpS(S:Pt->Prop)(x y:Int):Prop:=S (x,y)∨S (x - 1,y)
noncomputable def zdS(f:Int->Int->Int)(x y v:Int):Int->Int->Int:=fun i j=>if i=x/\j=y then v else f i j
theorem jl{f:Int->Int->Int}{x y v:Int}:zdS f x y v x y=v:=by simp [zdS]
theorem vj{f:Int->Int->Int}{x y v i j:Int}(h:¬ (i=x/\j=y)):zdS f x y v i j=f i j:=by simp [zdS,h]
noncomputable def Ord(G:Pt->Prop):List Pt->Prop
 | []=>True
 | p::r=>(∃ q,Nb p q/\(q ∈ r∨¬ G q))/\p ∉ r/\Ord G r
theorem extend(G:Pt->Prop):∀ (L:List Pt) (S:Pt->Prop) (a u:Int->Int->Int),(∀ p,S p->G p)->(∀ p ∈ L,G p/\¬ S p)->Ord G L->(∀ p,S p->Clo a u p)->
  ∃ a' u',(∀ x y,AcS S x y->a' x y=a x y)/\(∀ x y,UpS S x y->u' x y=u x y)/\∀ p,(S p∨p ∈ L)->Clo a' u' p
 | [],S,a,u,_,_,_,hc=>⟨a,u,fun _ _ _=>rfl,fun _ _ _=>rfl,fun p h=>h.elim (hc p) fun z=>nomatch z⟩
 | p::L,S,a,u,hS,hL,hO,hc=>by
  obtain ⟨⟨q,nb,hq⟩,hp,hO⟩:=hO
  obtain ⟨x,y⟩:=p
  obtain ⟨i,j⟩:=q
  have qS:¬ S (i,j):=fun z=>hq.elim (fun m=>(hL _ (Jg _ m)).2 z) fun g=>g (hS _ z)
  have pS:¬ S (x,y):=(hL _ Jf).2
  -- the exit's side takes what is lacking
  have key:∃ a1 u1,(∀ X Y,AcS S X Y->a1 X Y=a X Y)/\(∀ X Y,UpS S X Y->u1 X Y=u X Y)/\Clo a1 u1 (x,y):=by
   have ne:∀ X Y,S (X,Y)->¬ (X=x/\Y=y)/\¬ (X=i/\Y=j):=fun X Y z=>⟨fun e=>pS (by rw [← e.1,← e.2];exact z),fun e=>qS (by rw [← e.1,← e.2];exact z)⟩
   unfold Nb at nb
   dsimp only at nb
   rcases nb with ⟨e1,e2⟩ | ⟨e1,e2⟩ | ⟨e1,e2⟩ | ⟨e1,e2⟩
   ·refine ⟨a,zdS u (x+1) y (u x y+a x (y+1) - a x y),fun _ _ _=>rfl,fun X Y h=>vj fun e=>?_,?_⟩
    ·unfold UpS at h
     rcases h with h | h
     ·exact (ne _ _ h).2 [12]
     ·exact (ne _ _ h).1 [12]
    ·unfold Clo;dsimp only
     rw [jl,vj [12]];omega
   ·refine ⟨a,zdS u x y (a x y+u (x+1) y - a x (y+1)),fun _ _ _=>rfl,fun X Y h=>vj fun e=>?_,?_⟩
    ·unfold UpS at h
     rcases h with h | h
     ·exact (ne _ _ h).1 [12]
     ·exact (ne _ _ h).2 [12]
    ·unfold Clo;dsimp only
     rw [jl,vj [12]];omega
   ·refine ⟨zdS a x (y+1) (a x y+u (x+1) y - u x y),u,fun X Y h=>vj fun e=>?_,fun _ _ _=>rfl,?_⟩
    ·unfold AcS at h
     rcases h with h | h
     ·exact (ne _ _ h).2 [12]
     ·exact (ne _ _ h).1 [12]
    ·unfold Clo;dsimp only
     rw [jl,vj [12]];omega
   ·refine ⟨zdS a x y (u x y+a x (y+1) - u (x+1) y),u,fun X Y h=>vj fun e=>?_,fun _ _ _=>rfl,?_⟩
    ·unfold AcS at h
     rcases h with h | h
     ·exact (ne _ _ h).1 [12]
     ·exact (ne _ _ h).2 [12]
    ·unfold Clo;dsimp only
     rw [jl,vj [12]];omega
  obtain ⟨a1,u1,k1,k2,k3⟩:=key
  have clo1:∀ r,S r->Clo a1 u1 r:=fun r hr=>by
   obtain ⟨X,Y⟩:=r
   have h1:=hc _ hr
   unfold Clo at h1 ⊢
   dsimp only at h1 ⊢
   rw [k1 X Y (.inl hr),k1 X (Y+1) (.inr (by rw [show Y+1 - 1=Y by omega];exact hr)),k2 X Y (.inl hr),k2 (X+1) Y (.inr (by rw [show X+1 - 1=X by omega];exact hr))]
   exact h1
  obtain ⟨a2,u2,g1,g2,g3⟩:=extend G L (fun r=>S r∨r=(x,y)) a1 u1 (fun r h=>h.elim (hS r) fun e=>by rw [e];exact (hL _ Jf).1)
   (fun r hr=>⟨(hL r (Jg _ hr)).1,fun z=>z.elim (hL r (Jg _ hr)).2 fun e=>hp (e ▸ hr)⟩) hO (fun r h=>h.elim (clo1 r) fun e=>by rw [e];exact k3)
  refine ⟨a2,u2,fun X Y h=>?_,fun X Y h=>?_,fun r h=>?_⟩
  ·rw [g1 X Y (h.elim (fun z=>.inl (.inl z)) fun z=>.inr (.inl z)),k1 X Y h]
  ·rw [g2 X Y (h.elim (fun z=>.inl (.inl z)) fun z=>.inr (.inl z)),k2 X Y h]
  ·refine g3 r ?_
   rcases h with h | h
   ·exact .inl (.inl h)
   ·rcases List.mem_cons.mp h with h | h
    ·exact .inl (.inr h)
    ·exact .inr h
noncomputable def zcY(f:Int->Int):Nat->Int
 | 0=>0
 | n+1=>zcY f n+f n
theorem znM{w h:Nat}{a u:Int->Int->Int}(hc:∀ (x y:Nat),x<w->y<h->Clo a u ((x:Int),(y:Int))):
  ∃ φ:Int->Int->Int,φ 0 0=0/\(∀ x y:Nat,x<w->y≤h->φ (x+1) y=φ x y+a x y)/\(∀ x y:Nat,x≤w->y<h->φ x (y+1)=φ x y+u x y):=by
 refine ⟨fun x y=>zcY (fun i=>a i 0) x.toNat+zcY (fun j=>u x j) y.toNat,rfl,fun x y hx hy=>?_,fun x y hx hy=>?_⟩
 ·dsimp only
  have e1:((x:Int)+1).toNat=x+1:=by omega
  rw [e1,Int.toNat_natCast,Int.toNat_natCast]
  have:∀ n:Nat,n≤h->zcY (fun j=>u ((x:Int)+1) j) n+a x 0=zcY (fun j=>u x j) n+a x n:=by
   intro n
   induction n with
   | zero=>intro _;simp [zcY]
   | succ n ih=>
    intro hn
    have c:=hc x n hx [12]
    unfold Clo at c
    dsimp only at c
    have:=ih [12]
    simp only [zcY]
    have e:((n+1:Nat):Int)=(n:Int)+1:=by omega
    rw [e]
    omega
  have:=this y hy
  simp only [zcY]
  omega
 ·dsimp only
  have e1:((y:Int)+1).toNat=y+1:=by omega
  rw [e1]
  simp only [Int.toNat_natCast,zcY]
  omega
noncomputable def OrdR(R:Int->Int->Prop)(A:Int->Prop):List Int->Prop
 | []=>True
 | p::r=>(A p∨∃ q ∈ r,R q p)/\p ∉ r/\OrdR R A r
theorem OrdR.nodup{R:Int->Int->Prop}{A:Int->Prop}:∀ {L:List Int},OrdR R A L->L.Nodup
 | [],_=>List.nodup_nil
 | _::_,h=>Jy.mpr ⟨h.2.1,OrdR.nodup h.2.2⟩
theorem zel{R:Int->Int->Prop}{A:Int->Prop}{S:Int->Prop}(L:List Int){p:Int}(h:Reach R S A p):p ∈ L∨∃ z,S z/\z ∉ L/\(A z∨∃ q ∈ L,R q z):=by
 induction h with
 | @start p a s=>
  by_cases hp:p ∈ L
  ·exact .inl hp
  ·exact .inr ⟨p,s,hp,.inl a⟩
 | @step p q h r s ih=>
  rcases ih with ih | ih
  ·by_cases hq:q ∈ L
   ·exact .inl hq
   ·exact .inr ⟨q,s,hq,.inr ⟨p,ih,r⟩⟩
  ·exact .inr ih
theorem zlQ{R:Int->Int->Prop}{A:Int->Prop}(N:List Int)(h:∀ p ∈ N,Reach R (· ∈ N) A p):∀ (n:Nat) (L:List Int),N.length - L.length=n->(∀ p ∈ L,p ∈ N)->OrdR R A L->∃ L',(∀ p,p ∈ L' ↔ p ∈ N)/\OrdR R A L':=by
 intro n
 induction n with
 | zero=>
  intro L e hs ho
  refine ⟨L,fun p=>⟨hs p,fun hp=>?_⟩,ho⟩
  rcases zel L (h p hp) with z | ⟨z,h1,h2,h3⟩
  ·exact z
  ·have:(z::L).length≤N.length:=zL _ _ (Jy.mpr ⟨h2,ho.nodup⟩) fun q hq=>by
    rcases List.mem_cons.mp hq with e | hq
    ·rw [e];exact h1
    ·exact hs q hq
   simp only [List.length_cons] at this
   omega
 | succ n ih=>
  intro L e hs ho
  by_cases all:∀ p ∈ N,p ∈ L
  ·exact ⟨L,fun p=>⟨hs p,all p⟩,ho⟩
  ·obtain ⟨p,hp,hpL⟩:∃ p,p ∈ N/\p ∉ L:=JK fun z=>all fun p hp=>JK fun q=>z ⟨p,hp,q⟩
   rcases zel L (h p hp) with z | ⟨z,h1,h2,h3⟩
   ·exact absurd z hpL
   ·refine ih (z::L) [113] (fun q hq=>?_) ⟨h3,h2,ho⟩
    rcases List.mem_cons.mp hq with e | hq
    ·rw [e];exact h1
    ·exact hs q hq
noncomputable def pt(w p:Int):Pt:=(p % w,p / w)
theorem zju{w p q:Int}(h:pt w p=pt w q):p=q:=by
 unfold pt at h
 injection h with h1 h2
 rw [← Int.emod_add_mul_ediv p w,← Int.emod_add_mul_ediv q w,h1,h2]
theorem zjb{w:Int}(w1:1≤w)(p:Int):(p+w) / w=p / w+1/\(p+w) % w=p % w:=by
 have d:(p+w) / w=p / w+1:=(Int.add_ediv_of_dvd_right (Int.dvd_refl w)).trans (by rw [Int.ediv_self [12]])
 refine ⟨d,?_⟩
 have a:=JC p w
 have b:=JC (p+w) w
 rw [d,Int.mul_add,Int.mul_one] at b
 omega
theorem zjc{w p:Int}(e:p / w=(p+1) / w):(p+1) % w=p % w+1:=by
 have a:=JC p w
 have b:=JC (p+1) w
 rw [← e] at b
 omega
theorem zof{w p q:Int}(w1:1≤w)(h:Adj w p q):Nb (pt w p) (pt w q):=by
 unfold Nb pt
 dsimp only
 rcases h with ⟨rfl,e⟩ | ⟨e1,e⟩ | rfl | e
 ·exact .inl ⟨zjc e,e.symm⟩
 ·have:=e1.symm
  obtain rfl:p=q+1:=by omega
  exact .inr (.inl ⟨(zjc e.symm).symm,e.symm⟩)
 ·obtain ⟨a,b⟩:=zjb w1 p
  exact .inr (.inr (.inl ⟨b,a⟩))
 ·subst e
  obtain ⟨a,b⟩:=zjb w1 q
  exact .inr (.inr (.inr ⟨b.symm,a.symm⟩))
theorem zmi{w h x y:Int}(w1:1≤w)(x0:0≤x)(x1:x<w)(y0:0≤y)(y1:y<h):Place w h (y * w+x)/\(y * w+x) % w=x/\(y * w+x) / w=y:=by
 obtain ⟨a,b⟩:=(KU (a:=y * w+x) (b:=w) (q:=y) (r:=x) [12]).mpr ⟨by rw [KQ];omega,x0,x1⟩
 have h1:0≤y * w:=Int.mul_nonneg y0 [12]
 have h2:(y+1) * w≤h * w:=Int.mul_le_mul_of_nonneg_right [12] [12]
 rw [Qc,Int.one_mul] at h2
 have h3:h * w=w * h:=KQ _ _
 exact ⟨⟨by omega,by omega⟩,b,a⟩
theorem zgG{w h:Int}(w1:1≤w)(w6:w≤6)(h1:1≤h):∀ (L:List Int),(∀ p ∈ L,Place w h p)->OrdR (Adj w) (Rim w h) L->Ord (fun q=>0≤q.1/\q.1<w/\0≤q.2/\q.2<h) (L.map (pt w))
 | [],_,_=>trivial
 | p::r,hL,⟨hx,hn,ho⟩=>by
  refine ⟨?_,fun z=>?_,zgG w1 w6 h1 r (fun q hq=>hL q (Jg _ hq)) ho⟩
  ·have hp:=hL p Jf
   rcases hx with hx | ⟨q,hq,ha⟩
   ·unfold Rim at hx
    rcases hx with e | e | e | e
    ·exact ⟨(p % w - 1,p / w),.inr (.inl ⟨by simp only [pt];omega,rfl⟩),.inr fun z=>by have:=z.1;simp only at this;omega⟩
    ·exact ⟨(p % w+1,p / w),.inl ⟨by simp only [pt],rfl⟩,.inr fun z=>by have:=z.2.1;simp only at this;omega⟩
    ·exact ⟨(p % w,p / w - 1),.inr (.inr (.inr ⟨rfl,by simp only [pt];omega⟩)),.inr fun z=>by have:=z.2.2.1;simp only at this;omega⟩
    ·exact ⟨(p % w,p / w+1),.inr (.inr (.inl ⟨rfl,by simp only [pt]⟩)),.inr fun z=>by have:=z.2.2.2;simp only at this;omega⟩
   ·refine ⟨pt w q,?_,.inl (Jx.mpr ⟨q,hq,rfl⟩)⟩
    exact zof w1 ha.symm
  ·obtain ⟨q,hq,e⟩:=Jx.mp z
   exact hn (zju e ▸ hq)
theorem zdw{w h:Int}{F:List Int}(I:IsFloor w h F){a u:Int->Int->Int}(hc:∀ p ∈ F,Clo a u (pt w p)):
  ∃ φ:Int->Int->Int,φ 0 0=0/\∀ p ∈ F,φ [316] (p / w)=φ (p % w) (p / w)+a (p % w) (p / w)/\φ [316] [280]=φ (p % w) [280]+a (p % w) [280]/\
   φ (p % w) [280]=φ (p % w) (p / w)+u (p % w) (p / w)/\φ [316] [280]=φ [316] (p / w)+u [316] (p / w):=by
 have w1:=I.w1
 have w6:=I.w6
 have h1:=I.h1
 -- the bare zj,from the outside inwards
 let N:=[279].filter fun p=>!decide (p ∈ F)
 have memN:∀ p,p ∈ N ↔ Place w h p/\p ∉ F:=fun p=>by
  show p ∈ [279].filter (fun p=>!decide (p ∈ F)) ↔ _
  rw [List.mem_filter,mem_places];simp
 obtain ⟨L,hL,ho⟩:=zlQ N (fun p hp=>(I.noh p ((memN p).mp hp).1 ((memN p).mp hp).2).mono (fun q ri s=>.start ri ((memN q).mpr s)) fun q r=>(memN q).mpr r.inS) (N.length - 0) [] rfl [231] trivial
 have hLp:∀ p ∈ L,Place w h p/\p ∉ F:=fun p hp=>(memN p).mp ((hL p).mp hp)
 have grid:∀ p,Place w h p->0≤p % w/\p % w<w/\0≤p / w/\p / w<h:=fun p hp=>by
  have hr:=qV w1 hp
  exact ⟨JI _ [12],JG _ [12],hr.1,hr.2⟩
 obtain ⟨a',u',ga,gu,gc⟩:=extend (fun q=>0≤q.1/\q.1<w/\0≤q.2/\q.2<h) (L.map (pt w)) (fun q=>∃ p ∈ F,q=pt w p) a u
  (fun q ⟨p,hp,e⟩=>by rw [e];exact grid p (I.inn p hp))
  (fun q hq=>by
   obtain ⟨p,hp,rfl⟩:=Jx.mp hq
   exact ⟨grid p (hLp p hp).1,fun ⟨r,hr,e⟩=>(hLp p hp).2 (zju e ▸ hr)⟩)
  (zgG w1 w6 h1 L (fun p hp=>(hLp p hp).1) ho) (fun q ⟨p,hp,e⟩=>by rw [e];exact hc p hp)
 have all:∀ (x y:Nat),x<w.toNat->y<h.toNat->Clo a' u' ((x:Int),(y:Int)):=fun x y hx hy=>by
  have hp:Place w h ((y:Int) * w+x)/\((y:Int) * w+x) % w=x/\((y:Int) * w+x) / w=y:=zmi w1 (Int.natCast_nonneg _) [12] (Int.natCast_nonneg _) [12]
  have e:((x:Int),(y:Int))=pt w ((y:Int) * w+x):=by unfold pt;rw [hp.2.1,hp.2.2]
  refine gc _ ?_
  rw [e]
  by_cases hF:((y:Int) * w+x) ∈ F
  ·exact .inl ⟨_,hF,rfl⟩
  ·exact .inr (Jx.mpr ⟨_,(hL _).mpr ((memN _).mpr ⟨hp.1,hF⟩),rfl⟩)
 obtain ⟨φ,z,f1,f2⟩:=znM all
 refine ⟨φ,z,fun p hp=>?_⟩
 have hg:=grid p (I.inn p hp)
 have hS:∃ r ∈ F,((p % w,p / w):Pt)=pt w r:=⟨p,hp,rfl⟩
 obtain ⟨x,hx⟩:=Int.eq_ofNat_of_zero_le hg.1
 obtain ⟨y,hy⟩:=Int.eq_ofNat_of_zero_le hg.2.2.1
 have b1:=f1 x y [12] [12]
 have b2:=f1 x (y+1) [12] [12]
 have b3:=f2 x y [12] [12]
 have b4:=f2 (x+1) y [12] [12]
 have c1:=ga (p % w) (p / w) (.inl hS)
 have c2:=ga (p % w) [280] (.inr (by rw [show p / w+1 - 1=p / w by omega];exact hS))
 have c3:=gu (p % w) (p / w) (.inl hS)
 have c4:=gu [316] (p / w) (.inr (by rw [show p % w+1 - 1=p % w by omega];exact hS))
 rw [hx,hy] at c1 c2 c3 c4 ⊢
 have e1:((y+1:Nat):Int)=(y:Int)+1:=by omega
 have e2:((x+1:Nat):Int)=(x:Int)+1:=by omega
 rw [e1] at b2
 rw [e2] at b4
 rw [c1] at b1
 rw [c2] at b2
 rw [c3] at b3
 rw [c4] at b4
 exact ⟨b1,b2,b3,b4⟩
end CB
set_option maxHeartbeats 4000000
namespace CB
noncomputable def zw(d s:Int)(k:Nat):List Int:=(List.range k).map fun (i:Nat)=>s+i * d
theorem mem_chain{d s x:Int}{k:Nat}:x ∈ zw d s k ↔ ∃ i:Nat,i<k/\x=s+i * d:=by
 unfold zw
 rw [Jx]
 exact ⟨fun ⟨i,h,e⟩=>⟨i,JQ.mp h,e.symm⟩,fun ⟨i,h,e⟩=>⟨i,JQ.mpr h,e.symm⟩⟩
theorem xz(d s:Int)(k:Nat):zw d s (k+1)=zw d s k++[s+k * d]:=by
 unfold zw
 rw [List.range_succ,JJ];rfl
theorem zay(d s:Int):zw d s 1=[s]:=by simp [zw]
theorem yX(d s:Int)(k:Nat):(zw d s k).length=k:=by simp [zw]
theorem zaO(i:Nat)(d:Int):((i+1:Nat):Int) * d=i * d+d:=by rw [Int.natCast_succ,Qc,Int.one_mul]
theorem zgI{i j:Nat}{d:Int}(hd:0<d)(h:i<j):(i:Int) * d<j * d:=Int.mul_lt_mul_of_pos_right [12] hd
theorem zjT{i j:Nat}{d:Int}(hd:0<d)(h:(i:Int) * d=j * d):i=j:=by
 rcases Nat.lt_trichotomy i j with z | z | z
 ·have:=zgI hd z;omega
 ·exact z
 ·have:=zgI hd z;omega
theorem wp{d:Int}(hd:0<d)(s:Int)(k:Nat):(zw d s k).Nodup:=by
 unfold zw
 rw [JH,Kc]
 exact List.Pairwise.imp (fun h e=>h (zjT hd [12])) (JH.mp List.nodup_range)
section
variable {F:List Int} {d:Int} {stop:Int->Bool} {pre:List Int} {ps qs:List [46]} {f:Int}
noncomputable def zk(F:List Int)(d:Int)(stop:Int->Bool)(f:Int):Bool:=stop f || !decide (f - d ∈ F)
structure Runs0 (F:List Int) (d:Int) (stop:Int->Bool) (pre:List Int) (ps:List [46]):Prop where
 heads:ps.map (·.1)=pre.filter (zk F d stop)
 pos:∀ x ∈ ps,1≤x.2
 inn:∀ x ∈ ps,∀ i:Nat,i<x.2->x.1+i * d ∈ pre/\(0<i->stop (x.1+i * d)=false)
 mx:∀ x ∈ ps,x.1+x.2 * d ∈ pre->stop (x.1+x.2 * d)=true
structure Runs (F:List Int) (d:Int) (stop:Int->Bool) (pre:List Int) (ps:List [46]):Prop extends Runs0 F d stop pre ps where
 cov:∀ f ∈ pre,∃ x ∈ ps,∃ i:Nat,i<x.2/\f=x.1+i * d
theorem Runs0.uniq(a:Runs0 F d stop pre ps)(b:Runs0 F d stop pre qs):ps=qs:=by
 have hh:=a.heads.trans b.heads.symm
 have hl:ps.length=qs.length:=by have:=congrArg List.length hh;simpa using this
 refine List.ext_getElem hl fun i h1 h2=>?_
 have e1:ps[i].1=qs[i].1:=by
  have:=List.getElem_of_eq hh (by simpa using h1)
  simpa using this
 have m1:ps[i] ∈ ps:=JP h1
 have m2:qs[i] ∈ qs:=JP h2
 have lt:∀ {ps qs:List [46]} {x y:Int × Nat},Runs0 F d stop pre ps->Runs0 F d stop pre qs->x ∈ ps->y ∈ qs->x.1=y.1->¬ x.2<y.2:=by
  intro ps qs x y a b hx hy e h
  obtain ⟨i1,i2⟩:=b.inn y hy x.2 h
  rw [← e] at i1 i2
  have:=a.mx x hx i1
  rw [i2 (a.pos x hx)] at this
  cases this
 have e2:ps[i].2=qs[i].2:=by
  have h3:=lt a b m1 m2 e1
  have h4:=lt b a m2 m1 e1.symm
  omega
 exact Prod.ext e1 e2
theorem Runs.start(r:Runs0 F d stop pre ps){x:Int × Nat}(hx:x ∈ ps):x.1 ∈ pre/\zk F d stop x.1=true:=by
 have:x.1 ∈ ps.map (·.1):=Jx.mpr ⟨x,hx,rfl⟩
 rw [r.heads] at this
 exact Ke.mp this
theorem Runs.same(r:Runs0 F d stop pre ps)(sub:∀ p ∈ pre,p ∈ F){x y:Int × Nat}(hx:x ∈ ps)(hy:y ∈ ps){i j:Nat}(hi:i<x.2)(hj:j<y.2)(e:x.1+i * d=y.1+j * d):x.1=y.1:=by
 have key:∀ {x y:Int × Nat},x ∈ ps->y ∈ ps->∀ {i j:Nat},j<y.2->x.1+i * d=y.1+j * d->i<j->False:=by
  intro x y hx hy i j hj e h
  obtain ⟨m,rfl⟩:∃ m,j=i+(m+1):=⟨j - i - 1,by omega⟩
  have e1:x.1=y.1+((m+1:Nat):Int) * d:=by
   have:((i+(m+1):Nat):Int) * d=i * d+((m+1:Nat):Int) * d:=by rw [Int.natCast_add,Qc]
   omega
  have i1:=r.inn y hy (m+1) [12]
  have i2:=r.inn y hy m [12]
  have e2:x.1 - d=y.1+m * d:=by have:=zaO m d;omega
  have s:=(Runs.start r hx).2
  unfold zk at s
  rw [e2,e1,i1.2 [12]] at s
  simp [sub _ i2.1] at s
 rcases Nat.lt_trichotomy i j with h | h | h
 ·exact (key hx hy hj e h).elim
 ·subst h;omega
 ·exact (key hy hx hi e.symm h).elim
theorem Runs.clash(r:Runs0 F d stop pre ps)(sub:∀ p ∈ pre,p ∈ F){x y:Int × Nat}(hx:x ∈ ps)(hy:y ∈ ps){q:Nat}(e:x.1=y.1+((q+1:Nat):Int) * d)(hq:q+1<y.2):False:=by
 have i1:=r.inn y hy (q+1) hq
 have i2:=r.inn y hy q [12]
 have e2:x.1 - d=y.1+q * d:=by have:=zaO q d;omega
 have s:=(Runs.start r hx).2
 unfold zk at s
 rw [e2,e,i1.2 [12]] at s
 simp [sub _ i2.1] at s
theorem Runs.heads_nd(r:Runs0 F d stop pre ps)(nd:pre.Nodup):(ps.map (·.1)).Nodup:=by rw [r.heads];exact nd.filter _
theorem Runs.ix(r:Runs0 F d stop pre ps)(nd:pre.Nodup){i j:Nat}{x y:Int × Nat}(hi:ps[i]?=some x)(hj:ps[j]?=some y)(e:x.1=y.1):i=j:=by
 have h:=Runs.heads_nd r nd
 obtain ⟨l1,rfl⟩:=Jv.mp hi
 obtain ⟨l2,rfl⟩:=Jv.mp hj
 rcases Nat.lt_trichotomy i j with z | z | z
 ·have:=List.pairwise_iff_getElem.mp h i j (by simpa using l1) (by simpa using l2) z
  exact absurd [151] this
 ·exact z
 ·have:=List.pairwise_iff_getElem.mp h j i (by simpa using l2) (by simpa using l1) z
  exact absurd (by simpa using e.symm) this
theorem Runs.one(r:Runs F d stop pre ps)(sub:∀ p ∈ pre,p ∈ F)(nd:pre.Nodup)(hf:f ∈ pre):∃ k,k<ps.length/\∀ j x,ps[j]?=some x->(f ∈ zw d x.1 x.2 ↔ j=k):=by
 obtain ⟨x,hx,i,hi,e⟩:=r.cov f hf
 obtain ⟨k,hk,rfl⟩:=Qe hx
 refine ⟨k,hk,fun j y hj=>⟨fun h=>?_,fun h=>?_⟩⟩
 ·obtain ⟨i',hi',e'⟩:=mem_chain.mp h
  exact Runs.ix r.toRuns0 nd hj (Ji hk) (Runs.same r.toRuns0 sub (JU hj) hx hi' hi [12])
 ·subst h
  rw [Ji hk] at hj
  cases hj
  exact mem_chain.mpr ⟨i,hi,e⟩
theorem Runs.nil:Runs F d stop [] []:=⟨⟨rfl,by simp,by simp,by simp⟩,by simp⟩
theorem Runs.new(r:Runs F d stop pre ps)(hd:0<d)(sub:∀ p ∈ pre,p ∈ F)(lt:∀ p ∈ pre,p<f)(hs:zk F d stop f=true):Runs F d stop (pre++[f]) (ps++[(f,1)]):=by
 refine ⟨⟨?_,?_,?_,?_⟩,?_⟩
 ·rw [List.map_append,List.filter_append,r.heads];simp [hs]
 ·intro x hx
  rcases List.mem_append.mp hx with hx | hx
  ·exact r.pos x hx
  ·rw [Jc.mp hx];exact Jm _
 ·intro x hx i hi
  rcases List.mem_append.mp hx with hx | hx
  ·have:=r.inn x hx i hi
   exact ⟨Jj _ this.1,this.2⟩
  ·rw [Jc.mp hx] at hi ⊢
   have:i=0:=by simp at hi;exact hi
   subst this
   simp
 ·intro x hx hm
  rcases List.mem_append.mp hx with hx | hx
  ·rcases List.mem_append.mp hm with hm | hm
   ·exact r.mx x hx hm
   ·have e:=Jc.mp hm
    have p:=r.pos x hx
    obtain ⟨m,hm'⟩:∃ m,x.2=m+1:=⟨x.2 - 1,by omega⟩
    have i1:=r.inn x hx m [12]
    have e2:f - d=x.1+m * d:=by rw [← e,hm'];have:=zaO m d;omega
    rw [e]
    unfold zk at hs
    rw [e2] at hs
    simpa [sub _ i1.1] using hs
  ·rw [Jc.mp hx] at hm ⊢
   simp only [Int.natCast_one,Int.one_mul] at hm
   rcases List.mem_append.mp hm with hm | hm
   ·have:=lt _ hm;omega
   ·have:=Jc.mp hm;omega
 ·intro g hg
  rcases List.mem_append.mp hg with hg | hg
  ·obtain ⟨x,hx,i,hi,e⟩:=r.cov g hg
   exact ⟨x,Jj _ hx,i,hi,e⟩
  ·exact ⟨(f,1),by simp,0,by simp,by rw [List.mem_singleton.mp hg];simp⟩
theorem Runs.ext(r:Runs F d stop pre ps)(hd:0<d)(sub:∀ p ∈ pre,p ∈ F)(nd:pre.Nodup)(lt:∀ p ∈ pre,p<f)(hs:zk F d stop f=false){a:Nat}{s:Int}{k:Nat}(ha:ps[a]?=some (s,k))(e:f=s+k * d):Runs F d stop (pre++[f]) (ps.set a (s,k+1)):=by
 obtain ⟨al,ae⟩:=Jv.mp ha
 have hx:(s,k) ∈ ps:=JU ha
 have st:stop f=false:=by unfold zk at hs;rw [Bool.or_eq_false_iff] at hs;exact hs.1
 have cases':∀ x ∈ ps.set a (s,k+1),x=(s,k+1)∨∃ b,b≠a/\ps[b]?=some x:=by
  intro x hx
  obtain ⟨b,hb⟩:=KC.mp hx
  rw [Kb] at hb
  by_cases hba:a=b
  ·rw [if_pos hba] at hb
   exact .inl (by split at hb<;>(cases hb;rfl))
  ·rw [if_neg hba] at hb
   exact .inr ⟨b,fun z=>hba z.symm,hb⟩
 refine ⟨⟨?_,?_,?_,?_⟩,?_⟩
 ·rw [Kq,← r.heads,List.map_set]
  simp only [List.filter_cons,hs,Bool.false_eq_true,if_false,List.filter_nil,List.append_nil]
  refine List.ext_getElem [19] fun i h1 h2=>?_
  rw [List.getElem_set]
  split
  ·rename_i hia
   subst hia
   simp [ae]
  ·rfl
 ·intro x hx'
  rcases cases' x hx' with rfl | ⟨b,_,hb⟩
  ·exact KR _
  ·exact r.pos x (JU hb)
 ·intro x hx' i hi
  rcases cases' x hx' with rfl | ⟨b,_,hb⟩
  ·by_cases h:i<k
   ·have:=r.inn _ hx i h
    exact ⟨Jj _ this.1,this.2⟩
   ·have hik:i=k:=by simp at hi;omega
    subst hik
    refine ⟨by rw [← e];simp,fun _=>by rw [← e];exact st⟩
  ·have:=r.inn x (JU hb) i hi
   exact ⟨Jj _ this.1,this.2⟩
 ·intro x hx' hm
  rcases cases' x hx' with rfl | ⟨b,hba,hb⟩
  ·rw [zaO] at hm ⊢
   have h1:s+(k * d+d)=f+d:=by omega
   rw [h1] at hm ⊢
   rcases List.mem_append.mp hm with hm | hm
   ·have:=lt _ hm;omega
   ·have:=Jc.mp hm;omega
  ·rcases List.mem_append.mp hm with hm | hm
   ·exact r.mx x (JU hb) hm
   ·have e2:=Jc.mp hm
    have hx2:=JU hb
    have p:=r.pos x hx2
    obtain ⟨m,hm'⟩:∃ m,x.2=m+1:=⟨x.2 - 1,by omega⟩
    have pk:=r.pos _ hx
    obtain ⟨n,hn⟩:∃ n,k=n+1:=⟨k - 1,by simp at pk;omega⟩
    -- the last ones of both are f - d
    have e3:x.1+m * d=s+n * d:=by
     rw [hm'] at e2
     rw [hn] at e
     have:=zaO m d
     have:=zaO n d
     omega
    have same:∀ {i j:Nat} {x y:Int × Nat},ps[i]?=some x->ps[j]?=some y->x.1=y.1->i=j:=fun h1 h2 h3=>Runs.ix r.toRuns0 nd h1 h2 h3
    exfalso
    -- both heads begin,so they are one
    rcases Nat.lt_trichotomy m n with z | z | z
    ·obtain ⟨q,rfl⟩:∃ q,n=m+(q+1):=⟨n - m - 1,by omega⟩
     have e4:x.1=s+((q+1:Nat):Int) * d:=by
      have:((m+(q+1):Nat):Int) * d=m * d+((q+1:Nat):Int) * d:=by rw [Int.natCast_add,Qc]
      omega
     exact Runs.clash r.toRuns0 sub hx2 hx e4 (by rw [hn];omega)
    ·subst z
     exact hba (same hb ha (by simp;omega))
    ·obtain ⟨q,rfl⟩:∃ q,m=n+(q+1):=⟨m - n - 1,by omega⟩
     have e4:s=x.1+((q+1:Nat):Int) * d:=by
      have:((n+(q+1):Nat):Int) * d=n * d+((q+1:Nat):Int) * d:=by rw [Int.natCast_add,Qc]
      omega
     exact Runs.clash r.toRuns0 sub hx hx2 e4 (by rw [hm'];omega)
 ·intro g hg
  rcases List.mem_append.mp hg with hg | hg
  ·obtain ⟨x,hx',i,hi,e'⟩:=r.cov g hg
   obtain ⟨b,hb,rfl⟩:=Qe hx'
   by_cases hba:a=b
   ·subst hba
    rw [ae] at hi e'
    exact ⟨(s,k+1),List.mem_iff_getElem?.mpr ⟨a,by rw [List.getElem?_set,if_pos rfl,if_pos al]⟩,i,by simp at hi ⊢;omega,e'⟩
   ·exact ⟨ps[b],KC.mpr ⟨b,by rw [Kb,if_neg hba];exact Ji hb⟩,i,hi,e'⟩
  ·exact ⟨(s,k+1),List.mem_iff_getElem?.mpr ⟨a,by rw [List.getElem?_set,if_pos rfl,if_pos al]⟩,k,by simp,by rw [List.mem_singleton.mp hg];exact e⟩
end
end CB
namespace F
open PySem PySem.Spec PyProof.Rows L2
inductive PV where
 | non | bl (b : Bool) | int (i : Int) | str (x : Str) | ty (n : String)
 | tup (xs : List PV) | lst (xs : List PV)
 | fls (xs : List PV)
 | dct (ks : List Key) (vs : List PV)
 | any
 | pen (a : Addr) (ns : List Int)
 | adr (a : Addr)
noncomputable abbrev En:=List (Option PV)
noncomputable abbrev St:=L2.St
noncomputable abbrev FE:=En->Option PV
noncomputable abbrev FT:=En->Option Bool
noncomputable abbrev FA:=En->Option (List PV)
mutual
noncomputable def z0:PV->Bool
 | .lst _=>false
 | .dct _ _=>false
 | .pen _ _=>false
 | .adr _=>false
 | .tup xs=>isDatas xs
 | .fls xs=>isDatas xs
 | _=>true
noncomputable def isDatas:List PV->Bool
 | []=>true
 | x::r=>z0 x && isDatas r
end
theorem wB:∀ (xs ys:List PV),isDatas (xs++ys)=(isDatas xs && isDatas ys)
 | [],ys=>by simp [isDatas]
 | x::r,ys=>by simp [isDatas,wB r ys,Bool.and_assoc]
theorem vp:∀ (xs:List PV),isDatas xs=true ↔ ∀ x ∈ xs,z0 x=true
 | []=>by simp [isDatas]
 | x::r=>by simp [isDatas,vp r]
theorem wA{α:Type}(f:α->PV)(h:∀ a,z0 (f a)=true)(xs:List α):isDatas (xs.map f)=true:=by
 rw [vp]
 intro x hx
 obtain ⟨a,_,rfl⟩:=Jx.mp hx
 exact h a
theorem zdt(xs:List Int):isDatas [52]=true:=wA _ (fun _=>by simp [z0]) xs
noncomputable def Fz(K:PySem.W.Frag)(H:Hp)(a:Addr)(xs:List V):Prop:=
 (∃ o,H a=some (.frz o [107]))∨∃ (o:Obj) (its:Array Value) (n:Nat),K.lookup a=some o/\o.cls=.type "list"/\o.dict=none/\o.data=.seq its n/\its.size≤sizeLine/\Vals xs its.toList
theorem Fz.seq{K:PySem.W.Frag}{H:Hp}{a:Addr}{xs:List V}(h:Fz K H a xs):SqL K H a xs:=h.elim (fun z=>.inl (.inr z)) .inr
theorem Fz.same{K:PySem.W.Frag}{H H':Hp}{a:Addr}{xs:List V}(e:Same H H')(h:Fz K H a xs):Fz K H' a xs:=h.elim (fun ⟨o,z⟩=>.inl ⟨o,e _ _ z⟩) .inr
mutual
noncomputable def Rp(K:PySem.W.Frag)(H:Hp):PV->V->List Addr->Prop
 | .non,v,A=>v=.non/\A=[]
 | .bl b,v,A=>v=.bl b/\A=[]
 | .int i,v,A=>v=.int i/\A=[]
 | .str x,v,A=>v=.str x/\A=[]
 | .ty n,v,A=>v=.ty n/\A=[]
 | .any,_,A=>A=[]
 | .pen a ns,v,A=>v=.ref a/\A=[a]/\H a=some (.lst [63])
 | .adr a,v,A=>v=.ref a/\A=[]
 | .tup ps,v,A=>∃ a xs,v=.ref a/\SqT K H a xs/\Rps K H ps xs A
 | .lst ps,v,A=>∃ a xs B,v=.ref a/\H a=some [107]/\A=a::B/\Rps K H ps xs B
 | .fls ps,v,A=>∃ a xs,v=.ref a/\Fz K H a xs/\Rps K H ps xs A
 | .dct ks ps,v,A=>∃ a xs B,v=.ref a/\H a=some (.dK [126])/\ks.length=ps.length/\A=a::B/\Rps K H ps xs B
noncomputable def Rps(K:PySem.W.Frag)(H:Hp):List PV->List V->List Addr->Prop
 | [],vs,A=>vs=[]/\A=[]
 | p::ps,vs,A=>∃ v r A1 A2,vs=v::r/\A=A1++A2/\Rp K H p v A1/\Rps K H ps r A2
end
section
variable {K:PySem.W.Frag} {H H':Hp}
mutual
theorem Rp.same(e:Same H H'):∀ (p:PV) {v:V} {A:List Addr},Rp K H p v A->Rp K H' p v A
 | .non,_,_,h=>by unfold Rp at h ⊢;exact h
 | .bl _,_,_,h=>by unfold Rp at h ⊢;exact h
 | .int _,_,_,h=>by unfold Rp at h ⊢;exact h
 | .str _,_,_,h=>by unfold Rp at h ⊢;exact h
 | .ty _,_,_,h=>by unfold Rp at h ⊢;exact h
 | .any,_,_,h=>by unfold Rp at h ⊢;exact h
 | .adr _,_,_,h=>by unfold Rp at h ⊢;exact h
 | .pen _ _,_,_,h=>by unfold Rp at h ⊢;exact ⟨h.1,h.2.1,e _ _ h.2.2⟩
 | .tup ps,_,_,h=>by
  unfold Rp at h ⊢
  obtain ⟨a,xs,h1,h2,h3⟩:=h
  exact ⟨a,xs,h1,e.tup h2,Rps.same e ps h3⟩
 | .lst ps,_,_,h=>by
  unfold Rp at h ⊢
  obtain ⟨a,xs,B,h1,h2,h3,h4⟩:=h
  exact ⟨a,xs,B,h1,e _ _ h2,h3,Rps.same e ps h4⟩
 | .fls ps,_,_,h=>by
  unfold Rp at h ⊢
  obtain ⟨a,xs,h1,h2,h3⟩:=h
  exact ⟨a,xs,h1,h2.same e,Rps.same e ps h3⟩
 | .dct ks ps,_,_,h=>by
  unfold Rp at h ⊢
  obtain ⟨a,xs,B,h1,h2,h3,h4,h5⟩:=h
  exact ⟨a,xs,B,h1,e _ _ h2,h3,h4,Rps.same e ps h5⟩
theorem Rps.same(e:Same H H'):∀ (ps:List PV) {vs:List V} {A:List Addr},Rps K H ps vs A->Rps K H' ps vs A
 | [],_,_,h=>by unfold Rps at h ⊢;exact h
 | p::ps,_,_,h=>by
  unfold Rps at h ⊢
  obtain ⟨v,r,A1,A2,h1,h2,h3,h4⟩:=h
  exact ⟨v,r,A1,A2,h1,h2,Rp.same e p h3,Rps.same e ps h4⟩
end
noncomputable def MutH(H:Hp)(a:Addr):Prop:=(∃ xs,H a=some [107])∨∃ kvs,H a=some [94]
theorem MutH.tup{a b:Addr}{xs:List V}{o:HO}(m:MutH H a)(h:SqT K H b xs):SqT K (upd H a o) b xs:=by
 rcases h with (h | ⟨u,h⟩) | h
 ·have:b≠a:=by rintro rfl;rcases m with ⟨_,m⟩ | ⟨_,m⟩<;>(rw [h] at m;cases m)
  exact .inl (.inl (by rw [zm this];exact h))
 ·have:b≠a:=by rintro rfl;rcases m with ⟨_,m⟩ | ⟨_,m⟩<;>(rw [h] at m;cases m)
  exact .inl (.inr ⟨u,by rw [zm this];exact h⟩)
 ·exact .inr h
theorem MutH.fz{a b:Addr}{xs:List V}{o:HO}(m:MutH H a)(h:Fz K H b xs):Fz K (upd H a o) b xs:=by
 rcases h with ⟨u,h⟩ | h
 ·have:b≠a:=by rintro rfl;rcases m with ⟨_,m⟩ | ⟨_,m⟩<;>(rw [h] at m;cases m)
  exact .inl ⟨u,by rw [zm this];exact h⟩
 ·exact .inr h
mutual
theorem Rp.upd{a:Addr}{o:HO}(m:MutH H a):∀ (p:PV) {v:V} {A:List Addr},a ∉ A->Rp K H p v A->Rp K (L2.upd H a o) p v A
 | .non,_,_,_,h=>by unfold Rp at h ⊢;exact h
 | .bl _,_,_,_,h=>by unfold Rp at h ⊢;exact h
 | .int _,_,_,_,h=>by unfold Rp at h ⊢;exact h
 | .str _,_,_,_,h=>by unfold Rp at h ⊢;exact h
 | .ty _,_,_,_,h=>by unfold Rp at h ⊢;exact h
 | .any,_,_,_,h=>by unfold Rp at h ⊢;exact h
 | .adr _,_,_,_,h=>by unfold Rp at h ⊢;exact h
 | .pen b _,_,_,n,h=>by
  unfold Rp at h ⊢
  refine ⟨h.1,h.2.1,?_⟩
  rw [zm (fun z=>n (by rw [h.2.1,z];exact Jf))]
  exact h.2.2
 | .tup ps,_,_,n,h=>by
  unfold Rp at h ⊢
  obtain ⟨b,xs,h1,h2,h3⟩:=h
  exact ⟨b,xs,h1,m.tup h2,Rps.upd m ps n h3⟩
 | .lst ps,_,_,n,h=>by
  unfold Rp at h ⊢
  obtain ⟨b,xs,B,h1,h2,rfl,h4⟩:=h
  have nb:b≠a:=fun z=>n (z ▸ Jf)
  exact ⟨b,xs,B,h1,by rw [zm nb];exact h2,rfl,Rps.upd m ps (fun z=>n (Jg _ z)) h4⟩
 | .fls ps,_,_,n,h=>by
  unfold Rp at h ⊢
  obtain ⟨b,xs,h1,h2,h3⟩:=h
  exact ⟨b,xs,h1,m.fz h2,Rps.upd m ps n h3⟩
 | .dct ks ps,_,_,n,h=>by
  unfold Rp at h ⊢
  obtain ⟨b,xs,B,h1,h2,h3,rfl,h5⟩:=h
  have nb:b≠a:=fun z=>n (z ▸ Jf)
  exact ⟨b,xs,B,h1,by rw [zm nb];exact h2,h3,rfl,Rps.upd m ps (fun z=>n (Jg _ z)) h5⟩
theorem Rps.upd{a:Addr}{o:HO}(m:MutH H a):∀ (ps:List PV) {vs:List V} {A:List Addr},a ∉ A->Rps K H ps vs A->Rps K (L2.upd H a o) ps vs A
 | [],_,_,_,h=>by unfold Rps at h ⊢;exact h
 | p::ps,_,_,n,h=>by
  unfold Rps at h ⊢
  obtain ⟨v,r,A1,A2,h1,rfl,h3,h4⟩:=h
  exact ⟨v,r,A1,A2,h1,rfl,Rp.upd m p (fun z=>n (Jj _ z)) h3,Rps.upd m ps (fun z=>n (Jr _ z)) h4⟩
end
mutual
theorem Rp.mut:∀ (p:PV) {v:V} {A:List Addr},Rp K H p v A->∀ a ∈ A,MutH H a
 | .non,_,_,h=>by unfold Rp at h;rw [h.2];simp
 | .bl _,_,_,h=>by unfold Rp at h;rw [h.2];simp
 | .int _,_,_,h=>by unfold Rp at h;rw [h.2];simp
 | .str _,_,_,h=>by unfold Rp at h;rw [h.2];simp
 | .ty _,_,_,h=>by unfold Rp at h;rw [h.2];simp
 | .any,_,_,h=>by unfold Rp at h;rw [h];simp
 | .adr _,_,_,h=>by unfold Rp at h;rw [h.2];simp
 | .pen _ _,_,_,h=>by
  unfold Rp at h
  rw [h.2.1]
  intro b hb
  rw [Jc.mp hb]
  exact .inl ⟨_,h.2.2⟩
 | .tup ps,_,_,h=>by
  unfold Rp at h
  obtain ⟨b,xs,h1,h2,h3⟩:=h
  exact Rps.mut ps h3
 | .lst ps,_,_,h=>by
  unfold Rp at h
  obtain ⟨b,xs,B,h1,h2,rfl,h4⟩:=h
  intro a ha
  rcases List.mem_cons.mp ha with rfl | ha
  ·exact .inl ⟨xs,h2⟩
  ·exact Rps.mut ps h4 a ha
 | .fls ps,_,_,h=>by
  unfold Rp at h
  obtain ⟨b,xs,h1,h2,h3⟩:=h
  exact Rps.mut ps h3
 | .dct ks ps,_,_,h=>by
  unfold Rp at h
  obtain ⟨b,xs,B,h1,h2,h3,rfl,h5⟩:=h
  intro a ha
  rcases List.mem_cons.mp ha with rfl | ha
  ·exact .inr ⟨_,h2⟩
  ·exact Rps.mut ps h5 a ha
theorem Rps.mut:∀ (ps:List PV) {vs:List V} {A:List Addr},Rps K H ps vs A->∀ a ∈ A,MutH H a
 | [],_,_,h=>by unfold Rps at h;rw [h.2];simp
 | p::ps,_,_,h=>by
  unfold Rps at h
  obtain ⟨v,r,A1,A2,h1,rfl,h3,h4⟩:=h
  intro a ha
  rcases List.mem_append.mp ha with ha | ha
  ·exact Rp.mut p h3 a ha
  ·exact Rps.mut ps h4 a ha
end
theorem MutH.same{a:Addr}(h:MutH H a)(s:Same H H'):MutH H' a:=h.elim (fun ⟨x,z⟩=>.inl ⟨x,s _ _ z⟩) fun ⟨x,z⟩=>.inr ⟨x,s _ _ z⟩
theorem MutH.some{a:Addr}(h:MutH H a):∃ o,H a=some o:=by
 rcases h with ⟨_,h⟩ | ⟨_,h⟩<;>exact ⟨_,h⟩
theorem Rp.alloc{p:PV}{v:V}{A:List Addr}(h:Rp K H p v A){a:Addr}(ha:a ∈ A):∃ o,H a=some o:=(Rp.mut p h a ha).some
mutual
theorem Rp.data:∀ (p:PV) {v:V} {A:List Addr},z0 p=true->Rp K H p v A->A=[]
 | .non,_,_,_,h=>by unfold Rp at h;exact h.2
 | .bl _,_,_,_,h=>by unfold Rp at h;exact h.2
 | .int _,_,_,_,h=>by unfold Rp at h;exact h.2
 | .str _,_,_,_,h=>by unfold Rp at h;exact h.2
 | .ty _,_,_,_,h=>by unfold Rp at h;exact h.2
 | .any,_,_,_,h=>by unfold Rp at h;exact h
 | .pen _ _,_,_,d,_=>by simp [z0] at d
 | .adr _,_,_,d,_=>by simp [z0] at d
 | .tup ps,_,_,d,h=>by
  unfold Rp at h
  unfold z0 at d
  obtain ⟨b,xs,h1,h2,h3⟩:=h
  exact Rps.data ps d h3
 | .lst ps,_,_,d,h=>by simp [z0] at d
 | .fls ps,_,_,d,h=>by
  unfold Rp at h
  unfold z0 at d
  obtain ⟨b,xs,h1,h2,h3⟩:=h
  exact Rps.data ps d h3
 | .dct ks ps,_,_,d,h=>by simp [z0] at d
theorem Rps.data:∀ (ps:List PV) {vs:List V} {A:List Addr},isDatas ps=true->Rps K H ps vs A->A=[]
 | [],_,_,_,h=>by unfold Rps at h;exact h.2
 | p::ps,_,_,d,h=>by
  unfold Rps at h
  unfold isDatas at d
  rw [JS] at d
  obtain ⟨v,r,A1,A2,h1,h2,h3,h4⟩:=h
  rw [h2,Rp.data p d.1 h3,Rps.data ps d.2 h4];rfl
end
theorem Rps.length:∀ {ps:List PV} {vs:List V} {A:List Addr},Rps K H ps vs A->ps.length=vs.length
 | [],_,_,h=>by unfold Rps at h;rw [h.1];rfl
 | p::ps,_,_,h=>by
  unfold Rps at h
  obtain ⟨v,r,A1,A2,h1,h2,h3,h4⟩:=h
  rw [h1,JF,JF,Rps.length h4]
theorem Rps.get:∀ {ps:List PV} {vs:List V} {A:List Addr} {i:Nat} {p:PV},Rps K H ps vs A->ps[i]?=some p->∃ v C,vs[i]?=some v/\Rp K H p v C/\C.Sublist A
 | [],_,_,_,_,_,e=>by simp at e
 | q::ps,_,_,0,p,h,e=>by
  unfold Rps at h
  obtain ⟨v,r,A1,A2,h1,h2,h3,h4⟩:=h
  simp at e
  subst e
  exact ⟨v,A1,by rw [h1];rfl,h3,by rw [h2];exact List.sublist_append_left _ _⟩
 | q::ps,_,_,i+1,p,h,e=>by
  unfold Rps at h
  obtain ⟨v,r,A1,A2,h1,h2,h3,h4⟩:=h
  obtain ⟨w,C,g1,g2,g3⟩:=Rps.get (i:=i) h4 [151]
  exact ⟨w,C,by rw [h1];simpa using g1,g2,by rw [h2];exact g3.trans (List.sublist_append_right _ _)⟩
theorem Rps.append:∀ {ps qs:List PV} {vs ws:List V} {A B:List Addr},Rps K H ps vs A->Rps K H qs ws B->Rps K H (ps++qs) (vs++ws) (A++B)
 | [],_,_,_,_,_,h,h'=>by unfold Rps at h;rw [h.1,h.2];exact h'
 | p::ps,qs,_,ws,_,B,h,h'=>by
  unfold Rps at h
  obtain ⟨v,r,A1,A2,h1,h2,h3,h4⟩:=h
  show Rps K H (p::(ps++qs)) _ _
  unfold Rps
  exact ⟨v,r++ws,A1,A2++B,by rw [h1];rfl,by rw [h2,JZ],h3,Rps.append h4 h'⟩
theorem Rps.nil:Rps K H [] [] []:=by unfold Rps;exact ⟨rfl,rfl⟩
theorem Rps.cons{p:PV}{ps:List PV}{v:V}{vs:List V}{A B:List Addr}(h:Rp K H p v A)(h':Rps K H ps vs B):Rps K H (p::ps) (v::vs) (A++B):=by
 unfold Rps;exact ⟨v,vs,A,B,rfl,rfl,h,h'⟩
theorem Rps.one{p:PV}{v:V}{A:List Addr}(h:Rp K H p v A):Rps K H [p] [v] A:=by
 have:=Rps.cons h (Rps.nil (K:=K) (H:=H))
 rwa [JO] at this
theorem Rps.inv{p:PV}{ps:List PV}{vs:List V}{A:List Addr}(h:Rps K H (p::ps) vs A):∃ v r A1 A2,vs=v::r/\A=A1++A2/\Rp K H p v A1/\Rps K H ps r A2:=by
 unfold Rps at h;exact h
theorem Rps.inv0{vs:List V}{A:List Addr}(h:Rps K H [] vs A):vs=[]/\A=[]:=by unfold Rps at h;exact h
theorem Rps.split:∀ {ps qs:List PV} {vs:List V} {A:List Addr},Rps K H (ps++qs) vs A->∃ v1 v2 A1 A2,vs=v1++v2/\A=A1++A2/\Rps K H ps v1 A1/\Rps K H qs v2 A2
 | [],qs,vs,A,h=>⟨[],vs,[],A,rfl,rfl,.nil,h⟩
 | p::ps,qs,vs,A,h=>by
  obtain ⟨v,r,A1,A2,h1,h2,h3,h4⟩:=Rps.inv (show Rps K H (p::(ps++qs)) vs A from h)
  obtain ⟨v1,v2,B1,B2,g1,g2,g3,g4⟩:=Rps.split h4
  exact ⟨v::v1,v2,A1++B1,B2,by rw [h1,g1];rfl,by rw [h2,g2,JZ],.cons h3 g3,g4⟩
theorem Rp.mkI(i:Int):Rp K H [88] [88] []:=by unfold Rp;exact ⟨rfl,rfl⟩
theorem Rp.mkB(b:Bool):Rp K H (.bl b) (.bl b) []:=by unfold Rp;exact ⟨rfl,rfl⟩
theorem Rp.mkS(x:Str):Rp K H (.str x) (.str x) []:=by unfold Rp;exact ⟨rfl,rfl⟩
theorem Rp.mkN:Rp K H .non .non []:=by unfold Rp;exact ⟨rfl,rfl⟩
theorem Rp.mkTy(n:String):Rp K H (.ty n) (.ty n) []:=by unfold Rp;exact ⟨rfl,rfl⟩
theorem Rp.mkT{a:Addr}{ps:List PV}{xs:List V}{A:List Addr}(h:SqT K H a xs)(r:Rps K H ps xs A):Rp K H (.tup ps) [84] A:=by unfold Rp;exact ⟨a,xs,rfl,h,r⟩
theorem Rp.mkL{a:Addr}{ps:List PV}{xs:List V}{A:List Addr}(h:H a=some [107])(r:Rps K H ps xs A):Rp K H (.lst ps) [84] (a::A):=by unfold Rp;exact ⟨a,xs,A,rfl,h,rfl,r⟩
theorem Rp.mkD{a:Addr}{ks:List Key}{ps:List PV}{xs:List V}{A:List Addr}(h:H a=some (.dK [126]))(l:ks.length=ps.length)(r:Rps K H ps xs A):Rp K H (.dct ks ps) [84] (a::A):=by unfold Rp;exact ⟨a,xs,A,rfl,h,l,rfl,r⟩
theorem Rp.I{i:Int}{v:V}{A:List Addr}(h:Rp K H [88] v A):v=.int i/\A=[]:=by unfold Rp at h;exact h
theorem Rp.B{i:Bool}{v:V}{A:List Addr}(h:Rp K H (.bl i) v A):v=.bl i/\A=[]:=by unfold Rp at h;exact h
theorem Rp.S{i:Str}{v:V}{A:List Addr}(h:Rp K H (.str i) v A):v=.str i/\A=[]:=by unfold Rp at h;exact h
theorem Rp.N{v:V}{A:List Addr}(h:Rp K H .non v A):v=.non/\A=[]:=by unfold Rp at h;exact h
theorem Rp.Ty{n:String}{v:V}{A:List Addr}(h:Rp K H (.ty n) v A):v=.ty n/\A=[]:=by unfold Rp at h;exact h
theorem Rp.T{ps:List PV}{v:V}{A:List Addr}(h:Rp K H (.tup ps) v A):∃ a xs,v=.ref a/\SqT K H a xs/\Rps K H ps xs A:=by unfold Rp at h;exact h
theorem Rp.L{ps:List PV}{v:V}{A:List Addr}(h:Rp K H (.lst ps) v A):∃ a xs B,v=.ref a/\H a=some [107]/\A=a::B/\Rps K H ps xs B:=by unfold Rp at h;exact h
theorem Rp.Ad{a:Addr}{v:V}{A:List Addr}(h:Rp K H (.adr a) v A):v=.ref a/\A=[]:=by unfold Rp at h;exact h
theorem Rp.P{a:Addr}{ns:List Int}{v:V}{A:List Addr}(h:Rp K H (.pen a ns) v A):v=.ref a/\A=[a]/\H a=some (.lst [63]):=by unfold Rp at h;exact h
theorem Rp.Fl{ps:List PV}{v:V}{A:List Addr}(h:Rp K H (.fls ps) v A):∃ a xs,v=.ref a/\Fz K H a xs/\Rps K H ps xs A:=by unfold Rp at h;exact h
theorem Rp.D{ks:List Key}{ps:List PV}{v:V}{A:List Addr}(h:Rp K H (.dct ks ps) v A):∃ a xs B,v=.ref a/\H a=some (.dK [126])/\ks.length=ps.length/\A=a::B/\Rps K H ps xs B:=by unfold Rp at h;exact h
end
structure VI (K:PySem.W.Frag) (κ:Nat->Option Nat) (G:Hp) (own:Addr->Option Nat) (env:En) (σ:St) (H:Hp):Prop where
 len:env.length=σ.length
 slot:∀ i p,env[i]?=some (some p)->∃ v A,σ[i]?=some (some v)/\Rp K H p v A/\(κ i=none->∀ a ∈ A,own a=none)/\∀ l,κ i=some l->A.Nodup/\∀ a ∈ A,own a=some l
 own:∀ a l,own a=some l->G a=none/\MutH H a
 same:Same G H
theorem VI.grow{K:PySem.W.Frag}{κ:Nat->Option Nat}{G:Hp}{own:Addr->Option Nat}{env:En}{σ:St}{H H':Hp}(I:VI K κ G own env σ H)(s:Same H H'):VI K κ G own env σ H':=
 ⟨I.len,fun i p e=>let ⟨v,A,h1,h2,h3⟩:=I.slot i p e;⟨v,A,h1,Rp.same s p h2,h3⟩,fun a l e=>let ⟨h1,h2⟩:=I.own a l e;⟨h1,h2.same s⟩,I.same.trans s⟩
noncomputable def Ext(own:Addr->Option Nat)(H:Hp)(own':Addr->Option Nat)(H':Hp):Prop:=∀ b o,own b=none->H b=some o->own' b=none/\H' b=some o
theorem Ext.refl(own:Addr->Option Nat)(H:Hp):Ext own H own H:=fun _ _ h e=>⟨h,e⟩
theorem Ext.trans{o1 o2 o3:Addr->Option Nat}{H1 H2 H3:Hp}(a:Ext o1 H1 o2 H2)(b:Ext o2 H2 o3 H3):Ext o1 H1 o3 H3:=fun x o h e=>let ⟨h',e'⟩:=a x o h e;b x o h' e'
theorem Ext.grow{own:Addr->Option Nat}{H H':Hp}(s:Same H H'):Ext own H own H':=fun b o h e=>⟨h,s b o e⟩
inductive Cat where
 | mv (L:List Nat) | sh | bo
noncomputable def Cat.ok:Cat->Hp->(Addr->Option Nat)->List Addr->Prop
 | .mv L,H,own,A=>A.Nodup/\∀ a ∈ A,H a=none∨∃ l ∈ L,own a=some l
 | .sh,_,own,A=>∀ a ∈ A,own a=none
 | .bo,_,_,_=>True
theorem Cat.nil(c:Cat)(H:Hp)(own:Addr->Option Nat):c.ok H own []:=by
 cases c with
 | mv L=>exact ⟨.nil,by simp⟩
 | sh=>show ∀ a ∈ [],own a=none;simp
 | bo=>trivial
noncomputable def tV(K:PySem.W.Frag)(κ:Nat->Option Nat)(G:Hp)(c:Cat)(f:FE):TE:=fun σ H Q=>∃ own env p,VI K κ G own env σ H/\f env=some p/\∀ v H' A,Same H H'->Rp K H' p v A->c.ok H own A->Q v H'
noncomputable def tVT(K:PySem.W.Frag)(κ:Nat->Option Nat)(G:Hp)(f:FT):TT:=fun σ H Q=>∃ own env b,VI K κ G own env σ H/\f env=some b/\∀ H',Same H H'->Q b H'
noncomputable def tVA(K:PySem.W.Frag)(κ:Nat->Option Nat)(G:Hp)(c:Cat)(f:FA):TA:=fun σ H Q=>∃ own env ps,VI K κ G own env σ H/\f env=some ps/\∀ vs H' A,Same H H'->Rps K H' ps vs A->c.ok H own A->Q vs H'
theorem tV.in{K:PySem.W.Frag}{κ:Nat->Option Nat}{G:Hp}{c:Cat}{f:FE}{σ:St}{H:Hp}{Q:VK}{own:Addr->Option Nat}{env:En}{p:PV}(I:VI K κ G own env σ H)(hf:f env=some p)(k:∀ v H' A,Same H H'->Rp K H' p v A->c.ok H own A->Q v H'):tV K κ G c f σ H Q:=⟨own,env,p,I,hf,k⟩
theorem tV.elim{K:PySem.W.Frag}{κ:Nat->Option Nat}{G:Hp}{c:Cat}{f:FE}{σ:St}{H:Hp}{Q:VK}{C:Prop}(h:tV K κ G c f σ H Q)(k:∀ own env (p:PV),VI K κ G own env σ H->f env=some p->(∀ v H' A,Same H H'->Rp K H' p v A->c.ok H own A->Q v H')->C):C:=
 let ⟨own,env,p,I,hf,q⟩:=h
 k own env p I hf q
theorem tVT.in{K:PySem.W.Frag}{κ:Nat->Option Nat}{G:Hp}{f:FT}{σ:St}{H:Hp}{Q:Bool->Hp->Prop}{own:Addr->Option Nat}{env:En}{p:Bool}(I:VI K κ G own env σ H)(hf:f env=some p)(k:∀ H',Same H H'->Q p H'):tVT K κ G f σ H Q:=⟨own,env,p,I,hf,k⟩
theorem tVT.elim{K:PySem.W.Frag}{κ:Nat->Option Nat}{G:Hp}{f:FT}{σ:St}{H:Hp}{Q:Bool->Hp->Prop}{C:Prop}(h:tVT K κ G f σ H Q)(k:∀ own env (p:Bool),VI K κ G own env σ H->f env=some p->(∀ H',Same H H'->Q p H')->C):C:=
 let ⟨own,env,p,I,hf,q⟩:=h
 k own env p I hf q
theorem tVA.in{K:PySem.W.Frag}{κ:Nat->Option Nat}{G:Hp}{c:Cat}{f:FA}{σ:St}{H:Hp}{Q:List V->Hp->Prop}{own:Addr->Option Nat}{env:En}{p:List PV}(I:VI K κ G own env σ H)(hf:f env=some p)(k:∀ vs H' A,Same H H'->Rps K H' p vs A->c.ok H own A->Q vs H'):tVA K κ G c f σ H Q:=⟨own,env,p,I,hf,k⟩
theorem tVA.elim{K:PySem.W.Frag}{κ:Nat->Option Nat}{G:Hp}{c:Cat}{f:FA}{σ:St}{H:Hp}{Q:List V->Hp->Prop}{C:Prop}(h:tVA K κ G c f σ H Q)(k:∀ own env (p:List PV),VI K κ G own env σ H->f env=some p->(∀ vs H' A,Same H H'->Rps K H' p vs A->c.ok H own A->Q vs H')->C):C:=
 let ⟨own,env,p,I,hf,q⟩:=h
 k own env p I hf q
noncomputable def VE(X:Cx)(κ:Nat->Option Nat)(G:Hp)(c:Cat)(e:Expr)(f:FE):Prop:=PE X e (tV X.K κ G c f)
noncomputable def VT(X:Cx)(κ:Nat->Option Nat)(G:Hp)(e:Expr)(f:FT):Prop:=PT X e (tVT X.K κ G f)
noncomputable def VW(X:Cx)(κ:Nat->Option Nat)(G:Hp)(e:Expr)(f:FT):Prop:=PW X e (tVT X.K κ G f)
noncomputable def VA(X:Cx)(κ:Nat->Option Nat)(G:Hp)(c:Cat)(es:List Expr)(f:FA):Prop:=PA X es (tVA X.K κ G c f)/\∀ env ps,f env=some ps->ps.length=es.length
end F
namespace L2
theorem PE.imp{X:Cx}{e:PySem.Expr}{t t':TE}(h:PE X e t)(i:∀ σ H Q,t' σ H Q->t σ H Q):PE X e t':=fun pins s σ H Q I hw=>h pins s σ H Q I (i _ _ _ hw)
theorem PT.imp{X:Cx}{e:PySem.Expr}{t t':TT}(h:PT X e t)(i:∀ σ H Q,t' σ H Q->t σ H Q):PT X e t':=fun pins s σ H Q I hw=>h pins s σ H Q I (i _ _ _ hw)
theorem PW.imp{X:Cx}{e:PySem.Expr}{t t':TT}(h:PW X e t)(i:∀ σ H Q,t' σ H Q->t σ H Q):PW X e t':=fun wh pins s σ H Q I hw=>h wh pins s σ H Q I (i _ _ _ hw)
theorem PA.imp{X:Cx}{e:List PySem.Expr}{t t':TA}(h:PA X e t)(i:∀ σ H Q,t' σ H Q->t σ H Q):PA X e t':=fun pos pins s σ H Q I hw=>h pos pins s σ H Q I (i _ _ _ hw)
theorem PS.imp{X:Cx}{e:PySem.Stmt}{t t':TS}(h:PS X e t)(i:∀ D σ H,t' D σ H->t D σ H):PS X e t':=fun pins s σ H D I hw=>h pins s σ H D I (i _ _ _ hw)
theorem PSs.imp{X:Cx}{e:List PySem.Stmt}{t t':TS}(h:PSs X e t)(i:∀ D σ H,t' D σ H->t D σ H):PSs X e t':=fun pins s σ H D I hw=>h pins s σ H D I (i _ _ _ hw)
end L2
namespace F
open PySem PySem.Spec PyProof.Rows L2
noncomputable def yZ:PV->Option Bool
 | .bl b=>some b
 | _=>none
noncomputable def zA(i:Nat):FE:=fun env=>(env[i]?).join
noncomputable def fC(p:PV):FE:=fun _=>some p
noncomputable def fOp(g:PV->PV->Option PV)(fa fb:FE):FE:=fun env=>(fa env).bind fun x=>(fb env).bind fun y=>g x y
noncomputable def fUn(g:PV->Option PV)(fa:FE):FE:=fun env=>(fa env).bind g
noncomputable def zu(f:FE):FE:=fun env=>[254].bind fun p=>if z0 p=true then some p else none
noncomputable def fT(f:FE):FT:=fun env=>[254].bind yZ
noncomputable def zci(t u:FT):FT:=fun env=>(t env).bind fun b=>if b=true then u env else some false
noncomputable def fOr(t u:FT):FT:=fun env=>(t env).bind fun b=>if b=true then some true else u env
noncomputable def zdx(t:FT):FT:=fun env=>(t env).map fun b=>!b
noncomputable def fIf(t:FT)(a b:FE):FE:=fun env=>(t env).bind fun c=>if c=true then a env else b env
noncomputable def zI:FA:=fun _=>some []
noncomputable def zC(f:FE)(r:FA):FA:=fun env=>[254].bind fun p=>(r env).map fun ps=>p::ps
noncomputable def xW(f:FA):FE:=fun env=>[254].map .tup
noncomputable def xI(f:FA):FE:=fun env=>[254].map .lst
noncomputable def zJ(Φ:List PV->Option PV)(f:FA):FE:=fun env=>[254].bind Φ
section
variable {X:Cx} {κ:Nat->Option Nat} {G:Hp} {c c1 c2:Cat} {a b e:Expr} {es:List Expr} {fa fb f:FE} {t u:FT} {fs:FA} {pos:Pos}
theorem qA{K:PySem.W.Frag}{own:Addr->Option Nat}{env:En}{σ:St}{H:Hp}{A:List Addr}(I:VI K κ G own env σ H)(h:∀ a ∈ A,H a=none):∀ a ∈ A,own a=none:=fun a ha=>by
 cases e:own a with
 | none=>rfl
 | some l=>obtain ⟨_,m⟩:=I.own a l e;obtain ⟨o,h'⟩:=m.some;rw [h a ha] at h';cases h'
theorem VE.sh(h:VE X κ G [33] e f):VE X κ G .sh e f:=PE.imp h fun σ H Q ⟨own,env,p,I,hf,k⟩=>by
 exact (.in I hf fun v H' A s r hc=>k v H' A s r (qA I fun a ha=>(hc.2 a ha).elim id fun ⟨_,hl,_⟩=>nomatch hl))
theorem VE.mvL(L:List Nat)(h:VE X κ G [33] e f):VE X κ G (.mv L) e f:=PE.imp h fun σ H Q ⟨own,env,p,I,hf,k⟩=>by
 exact (.in I hf fun v H' A s r hc=>k v H' A s r ⟨hc.1,fun a ha=>.inl ((hc.2 a ha).elim id fun ⟨_,hl,_⟩=>nomatch hl)⟩)
theorem VE.data(h:VE X κ G c e f)(L:Cat):VE X κ G L e (zu f):=PE.imp h fun σ H Q ⟨own,env,p,I,hf,k⟩=>by
 unfold zu at hf
 cases hq:f env with
 | none=>rw [hq] at hf;cases hf
 | some q=>
  rw [hq] at hf
  dsimp only [Option.bind_some] at hf
  split at hf
  ·rename_i hd
   cases hf
   refine (.in I hq fun v H' A s r hc=>k v H' A s r ?_)
   rw [Rp.data p hd r]
   exact Cat.nil _ _ _
  ·cases hf
theorem zB (i : Nat) {x : Str} (hk : κ i = none) (h : PE X [139] (uV i)) : VE X κ G .sh [139] (zA i) := h.imp fun σ H Q hq_ => by
  refine hq_.elim fun own env p I hf k => ?_
  have e : env[i]? = some (some p) := by
    unfold zA at hf
    cases q : env[i]? with
    | none => rw [q] at hf; cases hf
    | some z => rw [q] at hf; have : z = some p := by simpa using hf
                rw [this]
  obtain ⟨v, A, h1, h2, h3, _⟩ := I.slot i p e
  exact ⟨v, h1, k v H A [31] h2 (h3 hk)⟩
theorem yh (i : Nat) {x : Str} (h : PE X [139] (uV i)) : VE X κ G .bo [139] (zA i) := h.imp fun σ H Q hq_ => by
  refine hq_.elim fun own env p I hf k => ?_
  have e : env[i]? = some (some p) := by
    unfold zA at hf
    cases q : env[i]? with
    | none => rw [q] at hf; cases hf
    | some z => rw [q] at hf; have : z = some p := by simpa using hf
                rw [this]
  obtain ⟨v, A, h1, h2, h3, _⟩ := I.slot i p e
  exact ⟨v, h1, k v H A [31] h2 trivial⟩
theorem uT (i : Nat) {l : Nat} {x : Str} (hk : κ i = some l) (h : PE X [139] (uV i)) : VE X κ G (.mv [l]) [139] (zA i) := h.imp fun σ H Q hq_ => by
  refine hq_.elim fun own env p I hf k => ?_
  have e : env[i]? = some (some p) := by
    unfold zA at hf
    cases q : env[i]? with
    | none => rw [q] at hf; cases hf
    | some z => rw [q] at hf; have : z = some p := by simpa using hf
                rw [this]
  obtain ⟨v, A, h1, h2, _, h3⟩ := I.slot i p e
  exact ⟨v, h1, k v H A [31] h2 ⟨(h3 l hk).1, fun a ha => .inr ⟨l, Jc.mpr rfl, (h3 l hk).2 a ha⟩⟩⟩
theorem zff{p:PV}{v:V}(hp:∀ K H,Rp K H p v [])(h:PE X e (tC v)):VE X κ G c e (fC p):=h.imp fun σ H Q hq_=>by
 refine hq_.elim fun own env q I hf k=>?_
 cases hf
 exact k v H [] [31] (hp _ _) [281]
theorem zF{i j}:VE X κ G [33] (.Constant [88] j pos) (fC [88]):=zff (fun _ _=>.mkI i) zjF
theorem zdO{i j}:VE X κ G [33] (.Constant (.bool i) j pos) (fC (.bl i)):=zff (fun _ _=>.mkB i) zoL
theorem kA{j}:VE X κ G [33] (.Constant .none j pos) (fC .non):=zff (fun _ _=>.mkN) znw
theorem wH{i j}:VE X κ G [33] (.Constant (.str i) j pos) (fC (.str i)):=zff (fun _ _=>.mkS i) znt
noncomputable def OpV(K:PySem.W.Frag)(r:R2)(g:PV->PV->Option PV):Prop:=∀ (H:Hp) (p q:PV) (x y:V) (A B:List Addr) (z:PV) (Q:VK),Rp K H p x A->Rp K H q y B->g p q=some z->
 (∀ v H' C,Same H H'->Rp K H' z v C->C.Nodup->(∀ a ∈ C,H a=none)->Q v H')->r x y H Q
theorem zfn{K:PySem.W.Frag}{r:R2}{g:PV->PV->Option PV}(hv:OpV K r g)(σ:St)(H:Hp)(Q:VK)(h:tV K κ G [33] (fOp g fa fb) σ H Q):tOp r (tV K κ G c1 fa) (tV K κ G c2 fb) σ H Q:=by
 obtain ⟨own,env,z,I,e,k⟩:=h
 unfold fOp at e
 replace e:=Ja.mp e;obtain ⟨p,hp,e⟩:=e
 replace e:=Ja.mp e;obtain ⟨q,hq,e⟩:=e
 refine (.in I hp fun x H1 A s1 r1 _=>(.in (I.grow s1) hq fun y H2 B s2 r2 _=>?_))
 exact hv H2 p q x y A B z Q (Rp.same s2 p r1) r2 e fun v H' C s3 r3 nd fr=>k v H' C (s1.trans (s2.trans s3)) r3 ⟨nd,fun a ha=>.inl ([89].free (fr a ha))⟩
theorem zV{op:Operator}{r:R2}{g:PV->PV->Option PV}(ho:OpR X (binaryOp op) r)(hv:OpV X.K r g)(ha:VE X κ G c1 a fa)(hb:VE X κ G c2 b fb):VE X κ G [33] (.BinOp a op b pos) (fOp g fa fb):=
 (zoJ ho ha hb).imp (zfn hv)
theorem jE{op:CmpOp}{r:R2}{g:PV->PV->Option PV}(ho:OpR X (compareOp op) r)(hv:OpV X.K r g)(ha:VE X κ G c1 a fa)(hb:VE X κ G c2 b fb)(hm:behindInMarks op b=false):VE X κ G [33] [276] (fOp g fa fb):=
 (zlN ho ha hb hm).imp (zfn hv)
theorem ziT{te:TE}(h:∀ σ H Q,tV X.K κ G [33] f σ H Q->te σ H Q)(σ:St)(H:Hp)(Q:Bool->Hp->Prop)(hq:tVT X.K κ G (fT f) σ H Q):zmy te σ H Q:=by
 obtain ⟨own,env,b,I,e,k⟩:=hq
 unfold fT at e
 replace e:=Ja.mp e;obtain ⟨p,hp,e⟩:=e
 cases p<;>first | cases e | skip
 refine h _ _ _ (.in I hp fun v H' A s r _=>?_)
 exact ⟨_,r.B.1,k H' s⟩
theorem za{op:CmpOp}{r:R2}{g:PV->PV->Option PV}(ho:OpR X (compareOp op) r)(hv:OpV X.K r g)(ha:VE X κ G c1 a fa)(hb:VE X κ G c2 b fb)(hm:behindInMarks op b=false):VT X κ G [276] (fT (fOp g fa fb)):=
 (zlB ho ha hb hm).imp (ziT (zfn hv))
noncomputable def qk(g g':PV->PV->Option PV)(fa fb fc:FE):FE:=fun env=>(fa env).bind fun x=>(fb env).bind fun y=>(g x y).bind fun z=>(yZ z).bind fun k=>if k=true then (fc env).bind fun w=>g' y w else some [218]
theorem zhD{K:PySem.W.Frag}{r r':R2}{g g':PV->PV->Option PV}{fc:FE}{c3:Cat}(hv:OpV K r g)(hv':OpV K r' g')(σ:St)(H:Hp)(Q:VK)(h:tV K κ G [33] (qk g g' fa fb fc) σ H Q):ziX r r' (tV K κ G c1 fa) (tV K κ G c2 fb) (tV K κ G c3 fc) σ H Q:=by
 obtain ⟨own,env,z,I,e,k⟩:=h
 unfold qk at e
 replace e:=Ja.mp e;obtain ⟨p,hp,e⟩:=e
 replace e:=Ja.mp e;obtain ⟨q,hq,e⟩:=e
 replace e:=Ja.mp e;obtain ⟨d,hg,e⟩:=e
 cases d<;>first | cases e | skip
 rename_i kb
 rw [show yZ (.bl kb)=some kb from rfl,Jb] at e
 refine (.in I hp fun x H1 A s1 r1 _=>(.in (I.grow s1) hq fun y H2 B s2 r2 _=>?_))
 refine hv H2 p q x y A B _ _ (Rp.same s2 p r1) r2 hg fun v H3 C s3 r3 nd fr=>⟨kb,r3.B.1,?_⟩
 cases kb with
 | false=>
  cases e
  exact ite_ff (k _ _ [] (s1.trans (s2.trans s3)) (.mkB false) [281])
 | true=>
  simp only [if_true] at e
  replace e:=Ja.mp e;obtain ⟨w,hc,e⟩:=e
  refine ite_tt ⟨own,env,w,I.grow (s1.trans (s2.trans s3)),hc,fun y' H4 C' s4 r4 _=>?_⟩
  exact hv' H4 q w y y' B C' z Q (Rp.same (s3.trans s4) q r2) r4 e fun v H' C s5 r5 nd fr=>k v H' C (s1.trans (s2.trans (s3.trans (s4.trans s5)))) r5 ⟨nd,fun a ha=>.inl ((s1.trans (s2.trans (s3.trans s4))).free (fr a ha))⟩
theorem ziN{op op':CmpOp}{r r':R2}{g g':PV->PV->Option PV}{cc:Expr}{fc:FE}{c3:Cat}(ho:OpR X (compareOp op) r)(ho':OpR X (compareOp op') r')(hv:OpV X.K r g)(hv':OpV X.K r' g')(ha:VE X κ G c1 a fa)(hb:VE X κ G c2 b fb)(hc:VE X κ G c3 cc fc)
  (hm:lastMarks [op,op'] [b,cc]=false:=by with_unfolding_all rfl):VE X κ G [33] (.Compare a [op,op'] [b,cc] pos) (qk g g' fa fb fc):=(zjH ho ho' ha hb hc hm).imp (zhD hv hv')
noncomputable def UnV(K:PySem.W.Frag)(r:V->Hp->VK->Prop)(g:PV->Option PV):Prop:=∀ (H:Hp) (p:PV) (x:V) (A:List Addr) (z:PV) (Q:VK),Rp K H p x A->g p=some z->(∀ v H' C,Same H H'->Rp K H' z v C->C.Nodup->(∀ a ∈ C,H a=none)->Q v H')->r x H Q
theorem qu{op:UnaryOp}{r:V->Hp->VK->Prop}{g:PV->Option PV}(ho:UnR X (unaryOp op) r)(hv:UnV X.K r g)(ha:VE X κ G c a fa):VE X κ G [33] (.UnaryOp op a pos) (fUn g fa):=(zoI ho ha).imp fun σ H Q hq_=>by
 refine hq_.elim fun own env z I e k=>?_
 unfold fUn at e
 replace e:=Ja.mp e;obtain ⟨p,hp,e⟩:=e
 exact (.in I hp fun x H1 A s1 r1 _=>hv H1 p x A z Q r1 e fun v H' C s2 r2 nd fr=>k v H' C [89] r2 ⟨nd,fun a ha=>.inl (s1.free (fr a ha))⟩)
theorem zfd(h:VT X κ G a t):VT X κ G (.UnaryOp .Not a pos) (zdx t):=(znj h).imp fun σ H Q hq_=>by
 refine hq_.elim fun own env b I e k=>?_
 unfold zdx at e
 cases hp:t env with
 | none=>rw [hp] at e;cases e
 | some p=>rw [hp] at e;cases e;exact ⟨own,env,p,I,hp,k⟩
theorem zar(h:VT X κ G a t):VW X κ G (.BoolOp .And [a] pos) t:=zlx h
theorem j9(h:VT X κ G a t):VW X κ G (.BoolOp .Or [a] pos) t:=zng h
theorem zcU{wW:List Expr}(h:VT X κ G a t)(h2:VW X κ G [266] u):VW X κ G [238] (zci t u):=(znh h h2).imp fun σ H Q hq_=>by
 refine hq_.elim fun own env z I e k=>?_
 unfold zci at e
 replace e:=Ja.mp e;obtain ⟨p,hp,e⟩:=e
 refine [289]
 cases p with
 | true=>exact ite_tt (.in (I.grow s1) [151] fun H' s2=>k H' [89])
 | false=>cases e;exact ite_ff (k H1 s1)
theorem qr{wW:List Expr}(h:VT X κ G a t)(h2:VW X κ G (.BoolOp .Or (b::wW) pos) u):VW X κ G (.BoolOp .Or (a::b::wW) pos) (fOr t u):=(zoG h h2).imp fun σ H Q hq_=>by
 refine hq_.elim fun own env z I e k=>?_
 unfold fOr at e
 replace e:=Ja.mp e;obtain ⟨p,hp,e⟩:=e
 refine [289]
 cases p with
 | false=>exact ite_ff (.in (I.grow s1) [151] fun H' s2=>k H' [89])
 | true=>cases e;exact ite_tt (k H1 s1)
theorem VW.vt(h:VW X κ G e t):VT X κ G e t:=PW.pt h
theorem zcV{op}(h:VE X κ G c a fa):VE X κ G c (.BoolOp op [a] pos) fa:=znu h
noncomputable def jC(fa fb:FE):FE:=fun env=>(fa env).bind fun x=>(yZ x).bind fun k=>if k=true then fb env else some [218]
noncomputable def zqk(fa fb:FE):FE:=fun env=>(fa env).bind fun x=>(yZ x).bind fun k=>if k=true then some [324] else fb env
noncomputable def zeL(fa:FE):FE:=fun env=>(fa env).bind fun x=>(yZ x).map fun k=>.bl (!k)
theorem zaG{wW:List Expr}(h:VE X κ G c1 a fa)(h2:VE X κ G [33] [266] fb):VE X κ G [33] [238] (jC fa fb):=(znz h h2).imp fun σ H Q hq_=>by
 refine hq_.elim fun own env z I e k=>?_
 unfold jC at e
 replace e:=Ja.mp e;obtain ⟨p,hp,e⟩:=e
 cases p<;>first | cases e | skip
 rename_i kb
 rw [show yZ (.bl kb)=some kb from rfl,Jb] at e
 refine (.in I hp fun x H1 A s1 r1 _=>⟨kb,r1.B.1,?_⟩)
 cases kb with
 | true=>exact ite_tt (.in (I.grow s1) [151] fun v H' A s2 r2 h=>k v H' A [89] r2 ⟨h.1,fun a ha=>(h.2 a ha).elim (fun z=>.inl (s1.free z)) .inr⟩)
 | false=>cases e;exact ite_ff (k _ H1 [] s1 (.mkB false) [281])
theorem zmS(h:VE X κ G c1 a fa):VE X κ G [33] (.UnaryOp .Not a pos) (zeL fa):=(znv h).imp fun σ H Q hq_=>by
 refine hq_.elim fun own env z I e k=>?_
 unfold zeL at e
 replace e:=Ja.mp e;obtain ⟨p,hp,e⟩:=e
 cases p<;>first | cases e | skip
 rename_i kb
 exact (.in I hp fun x H1 A s1 r1 _=>⟨_,r1.B.1,k _ H1 [] s1 (.mkB _) [281]⟩)
theorem Cat.back{L:List Nat}{H H1:Hp}{own:Addr->Option Nat}{A:List Addr}(c:Cat)(s:Same H H1)(h:c.ok H1 own A):c.ok H own A:=by
 cases c with
 | mv L=>exact ⟨h.1,fun a ha=>(h.2 a ha).elim (fun z=>.inl (s.free z)) .inr⟩
 | sh=>exact h
 | bo=>trivial
theorem zgp{cc:Expr}(hc:VT X κ G cc t)(ha:VE X κ G c a fa)(hb:VE X κ G c b fb):VE X κ G c (.IfExp cc a b pos) (fIf t fa fb):=(zjG hc ha hb).imp fun σ H Q hq_=>by
 refine hq_.elim fun own env z I e k=>?_
 unfold fIf at e
 replace e:=Ja.mp e;obtain ⟨p,hp,e⟩:=e
 refine [289]
 cases p with
 | true=>exact ite_tt (.in (I.grow s1) [151] fun v H' A s2 r2 h=>k v H' A [89] r2 (Cat.back (L:=[]) c s1 h))
 | false=>exact ite_ff (.in (I.grow s1) [151] fun v H' A s2 r2 h=>k v H' A [89] r2 (Cat.back (L:=[]) c s1 h))
theorem zE:VA X κ G c [] zI:=⟨pa_nil.imp fun σ H Q hq_=>by
 refine hq_.elim fun own env ps I e k=>?_
 cases e
 exact k [] H [] [31] .nil [281],fun env ps e=>by cases e;rfl⟩
theorem u4{env:En}{ps:List PV}(e:zC f fs env=some ps):∃ p r,f env=some p/\fs env=some r/\ps=p::r:=by
 unfold zC at e
 replace e:=Ja.mp e;obtain ⟨p,hp,e⟩:=e
 cases hr:fs env with
 | none=>rw [hr] at e;cases e
 | some r=>rw [hr] at e;cases e;exact ⟨p,r,hp,rfl,rfl⟩
theorem qj(hr:∀ env ps,fs env=some ps->ps.length=es.length):∀ env ps,zC f fs env=some ps->ps.length=(e::es).length:=fun env ps hf=>by
 obtain ⟨p,r,_,h2,rfl⟩:=u4 hf
 rw [JF,JF,hr env r h2]
theorem zH(h:VE X κ G c1 e f)(hr:VA X κ G .bo es fs)(hs:starEach (e::es) X.env=[54]::starEach es X.env:=by rfl):VA X κ G .bo (e::es) (zC f fs):=⟨(zy h hr.1 hs).imp fun σ H Q hq_=>by
 refine hq_.elim fun own env ps I hf k=>?_
 obtain ⟨p,r,h1,h2,rfl⟩:=u4 hf
 exact (.in I h1 fun v H1 A s1 r1 _=>(.in (I.grow s1) h2 fun vs H2 B s2 r2 _=>k _ H2 (A++B) [89] (.cons (Rp.same s2 p r1) r2) trivial)),qj hr.2⟩
theorem yq(h:VE X κ G .sh e f)(hr:VA X κ G .sh es fs)(hs:starEach (e::es) X.env=[54]::starEach es X.env:=by rfl):VA X κ G .sh (e::es) (zC f fs):=⟨(zy h hr.1 hs).imp fun σ H Q hq_=>by
 refine hq_.elim fun own env ps I hf k=>?_
 obtain ⟨p,r,h1,h2,rfl⟩:=u4 hf
 exact (.in I h1 fun v H1 A s1 r1 c1=>(.in (I.grow s1) h2 fun vs H2 B s2 r2 c2=>k _ H2 (A++B) [89] (.cons (Rp.same s2 p r1) r2) fun a ha=>(JB.mp ha).elim (c1 a) (c2 a))),qj hr.2⟩
theorem z3{L1 L2:List Nat}(h:VE X κ G (.mv L1) e f)(hr:VA X κ G (.mv L2) es fs)(hL:∀ l ∈ L1,l ∉ L2:=by decide)(hs:starEach (e::es) X.env=[54]::starEach es X.env:=by rfl):VA X κ G (.mv (L1++L2)) (e::es) (zC f fs):=⟨(zy h hr.1 hs).imp fun σ H Q hq_=>by
 refine hq_.elim fun own env ps I hf k=>?_
 obtain ⟨p,r,h1,h2,rfl⟩:=u4 hf
 refine (.in I h1 fun v H1 A s1 r1 c1=>(.in (I.grow s1) h2 fun vs H2 B s2 r2 c2=>k _ H2 (A++B) [89] (.cons (Rp.same s2 p r1) r2) ⟨?_,fun a ha=>?_⟩))
 ·refine Jw.mpr ⟨c1.1,c2.1,fun a ha b hb=>?_⟩
  rintro rfl
  obtain ⟨o,ho⟩:=r1.alloc ha
  rcases c2.2 a hb with z | ⟨l,hl,z⟩
  ·rw [ho] at z;cases z
  ·rcases c1.2 a ha with z' | ⟨l',hl',z'⟩
   ·obtain ⟨_,m⟩:=I.own a l z
    obtain ⟨o',h'⟩:=m.some
    rw [z'] at h';cases h'
   ·rw [z] at z';cases z';exact hL _ hl' hl
 ·rcases List.mem_append.mp ha with ha | ha
  ·exact (c1.2 a ha).elim .inl fun ⟨l,hl,z⟩=>.inr ⟨l,Jj _ hl,z⟩
  ·exact (c2.2 a ha).elim (fun z=>.inl (s1.free z)) fun ⟨l,hl,z⟩=>.inr ⟨l,Jr _ hl,z⟩,qj hr.2⟩
theorem Cat.push{L:List Nat}{K:PySem.W.Frag}{own:Addr->Option Nat}{env:En}{σ:St}{H H1:Hp}{A:List Addr}{p:Addr}{vs:List V}{ps:List PV}(c:Cat)(I:VI K κ G own env σ H)(s:Same H H1)(r:Rps K H1 ps vs A)(hp:H1 p=none)(h:c.ok H own A):c.ok H own (p::A):=by
 cases c with
 | mv L=>
  refine ⟨Jy.mpr ⟨fun z=>?_,h.1⟩,fun a ha=>?_⟩
  ·obtain ⟨o,ho⟩:=(Rps.mut ps r p z).some
   rw [hp] at ho;cases ho
  ·rcases List.mem_cons.mp ha with rfl | ha
   ·exact .inl (s.free hp)
   ·exact h.2 a ha
 | sh=>
  intro a ha
  rcases List.mem_cons.mp ha with rfl | ha
  ·exact qA (A:=[a]) I (fun b hb=>by rw [Jc.mp hb];exact s.free hp) a (Jc.mpr rfl)
  ·exact h a ha
 | bo=>trivial
theorem yA{x1}(h:VA X κ G c es fs)(hn:es.length≤100000:=by first | decide | simp):VE X κ G c (.Tuple es x1 pos) (xW fs):=(zns h.1).imp fun σ H Q hq_=>by
 refine hq_.elim fun own env z I e k=>?_
 unfold xW at e
 cases hp:fs env with
 | none=>rw [hp] at e;cases e
 | some ps=>
  rw [hp] at e
  cases e
  have hl:=h.2 env ps hp
  refine (.in I hp fun vs H1 A s1 r1 c1=>⟨by rw [← r1.length,hl,sizeLine_eq];omega,fun p hn=>?_⟩)
  exact k _ _ A (z6 s1 (s1.free hn)) (.mkT (SqT.of zZ) (Rps.same (z6 [31] hn) ps r1)) c1
theorem yM(h:VA X κ G c es fs)(hn:es.length≤100000:=by first | decide | simp):VE X κ G c (.List es pos) (xI fs):=(znx h.1).imp fun σ H Q hq_=>by
 refine hq_.elim fun own env z I e k=>?_
 unfold xI at e
 cases hp:fs env with
 | none=>rw [hp] at e;cases e
 | some ps=>
  rw [hp] at e
  cases e
  have hl:=h.2 env ps hp
  refine (.in I hp fun vs H1 A s1 r1 c1=>⟨by rw [← r1.length,hl,sizeLine_eq];omega,fun p hn=>?_⟩)
  exact k _ _ (p::A) (z6 s1 (s1.free hn)) (.mkL zZ (Rps.same (z6 [31] hn) ps r1)) (Cat.push (L:=[]) c I s1 r1 hn c1)
end
inductive Out where
 | nx (e:En) | rt (p:PV) (e:En) | bk (e:En) | ct (e:En)
noncomputable abbrev FS:=En->Option Out
noncomputable def ko(O:List Nat):Nat->Option Nat:=fun i=>if i ∈ O then some i else none
theorem zcD{O:List Nat}{i:Nat}(h:i ∈ O):ko O i=some i:=if_pos h
theorem zfM{O:List Nat}{i:Nat}(h:i ∉ O):ko O i=none:=if_neg h
theorem zgO{O:List Nat}{i l:Nat}(h:ko O i=some l):l=i:=by
 unfold ko at h
 split at h
 ·cases h;rfl
 ·cases h
noncomputable def OutK(K:PySem.W.Frag)(κ:Nat->Option Nat)(G:Hp)(own:Addr->Option Nat)(H:Hp)(D:Ends):Out->Prop
 | .nx e=>∀ own' σ' H',VI K κ G own' e σ' H'->Ext own H own' H'->D.nx σ' H'
 | .bk e=>∀ own' σ' H',VI K κ G own' e σ' H'->Ext own H own' H'->D.bk σ' H'
 | .ct e=>∀ own' σ' H',VI K κ G own' e σ' H'->Ext own H own' H'->D.ct σ' H'
 | .rt p e=>∀ v H' A own' σ',VI K κ G own' e σ' H'->Rp K H' p v A->A.Nodup->(∀ a ∈ A,G a=none/\own' a≠some 0)->D.rt v H'
theorem OutK.ext{K:PySem.W.Frag}{κ:Nat->Option Nat}{G:Hp}{own own':Addr->Option Nat}{H H':Hp}{D:Ends}{o:Out}(h:OutK K κ G own H D o)(x:Ext own H own' H'):OutK K κ G own' H' D o:=by
 cases o with
 | nx e=>exact fun o2 σ2 H2 I2 x2=>h o2 σ2 H2 I2 (x.trans x2)
 | bk e=>exact fun o2 σ2 H2 I2 x2=>h o2 σ2 H2 I2 (x.trans x2)
 | ct e=>exact fun o2 σ2 H2 I2 x2=>h o2 σ2 H2 I2 (x.trans x2)
 | rt p e=>exact h
noncomputable def tVS(K:PySem.W.Frag)(κ:Nat->Option Nat)(G:Hp)(g:FS):TS:=fun D σ H=>∃ own env o,VI K κ G own env σ H/\g env=some o/\OutK K κ G own H D o
theorem tVS.elim{K:PySem.W.Frag}{κ:Nat->Option Nat}{G:Hp}{g:FS}{D:Ends}{σ:St}{H:Hp}{C:Prop}(h:tVS K κ G g D σ H)(k:∀ own env o,VI K κ G own env σ H->g env=some o->OutK K κ G own H D o->C):C:=
 let ⟨own,env,o,I,hf,q⟩:=h
 k own env o I hf q
noncomputable def VS(X:Cx)(κ:Nat->Option Nat)(G:Hp)(st:Stmt)(g:FS):Prop:=PS X st (tVS X.K κ G g)
noncomputable def VSs(X:Cx)(κ:Nat->Option Nat)(G:Hp)(st:List Stmt)(g:FS):Prop:=PSs X st (tVS X.K κ G g)
noncomputable def fNx:FS:=fun env=>some (.nx env)
noncomputable def fBk:FS:=fun env=>some (.bk env)
noncomputable def fCt:FS:=fun env=>some (.ct env)
noncomputable def zX(g h:FS):FS:=fun env=>(g env).bind fun o=>match o with | .nx e=>h e | o=>some o
noncomputable def yY(f:FE):FS:=fun env=>[254].map fun p=>.rt p env
noncomputable def wC(t:FT)(g h:FS):FS:=fun env=>(t env).bind fun b=>if b=true then g env else h env
noncomputable def zh(i:Nat)(f:FE):FS:=fun env=>[254].map fun p=>.nx [110]
noncomputable def zmo(bnd:PV->En->Option En)(f:FE):FS:=fun env=>[254].bind fun p=>(bnd p env).map .nx
noncomputable def wD(bnd:PV->En->Option En)(body:FS):List PV->En->Option Out
 | [],env=>some (.nx env)
 | p::ps,env=>(bnd p env).bind fun e1=>(body e1).bind fun o=>match o with | .nx e=>wD bnd body ps e | .ct e=>wD bnd body ps e | .bk e=>some (.nx e) | .rt p e=>some (.rt p e)
noncomputable def yx(src:FA)(bnd:PV->En->Option En)(body:FS):FS:=fun env=>(src env).bind fun ps=>wD bnd body ps env
noncomputable def fWh(t:FT)(body:FS):Nat->En->Option Out
 | 0,_=>none
 | n+1,env=>(t env).bind fun b=>if b=true then (body env).bind fun o=>match o with | .nx e=>fWh t body n e | .ct e=>fWh t body n e | .bk e=>some (.nx e) | .rt p e=>some (.rt p e) else some (.nx env)
section
variable {X:Cx} {κ:Nat->Option Nat} {G:Hp} {c c1 c2:Cat} {a b e:Expr} {es:List Expr} {fa fb f:FE} {t u:FT} {fs:FA} {pos:Pos} {g h:FS} {st:Stmt} {wW:List Stmt}
theorem yN:VSs X κ G [] fNx:=pss_nil.imp fun D σ H hq_=>by
 refine hq_.elim fun own env o I hf k=>?_
 cases hf
 exact k own σ H I (Ext.refl _ _)
theorem zD(h1:VS X κ G st g)(h2:VSs X κ G wW h):VSs X κ G (st::wW) (zX g h):=(zeh h1 h2).imp fun D σ H hq_=>by
 refine hq_.elim fun own env o I hf k=>?_
 unfold zX at hf
 replace hf:=Ja.mp hf;obtain ⟨o1,hg,hf⟩:=hf
 refine ⟨own,env,o1,I,hg,?_⟩
 cases o1 with
 | nx e1=>exact fun own' σ' H' I' x=>⟨own',e1,o,I',hf,k.ext x⟩
 | bk e1=>cases hf;exact k
 | ct e1=>cases hf;exact k
 | rt p e1=>cases hf;exact k
theorem zK(h1:VS X κ G st g):VSs X κ G [st] g:=(zeh h1 pss_nil).imp fun D σ H h=>h
theorem ze{L:List Nat}(he:VE X κ G (.mv L) e f)(h0:0 ∉ L:=by decide):VS X κ G (.Return (some e) pos) (yY f):=(znl he).imp fun D σ H hq_=>by
 refine hq_.elim fun own env o I hf k=>?_
 unfold yY at hf
 cases hp:f env with
 | none=>rw [hp] at hf;cases hf
 | some p=>
  rw [hp] at hf;cases hf
  refine (.in I hp fun v H' A s r hc=>k v H' A own σ (I.grow s) r hc.1 fun a ha=>?_)
  rcases hc.2 a ha with z | ⟨l,hl,z⟩
  ·refine ⟨I.same.free z,fun y=>?_⟩
   obtain ⟨o,ho⟩:=(I.own a 0 y).2.some
   rw [z] at ho;cases ho
  ·exact ⟨(I.own a l z).1,fun y=>h0 (by rw [z] at y;cases y;exact hl)⟩
noncomputable def zpf:FS:=fun env=>some (.rt .non env)
theorem yz{cc:Expr}{bs1 bs2:List Stmt}(hc:VT X κ G cc t)(h1:VSs X κ G bs1 g)(h2:VSs X κ G bs2 h):VS X κ G (.If cc bs1 bs2 pos) (wC t g h):=(zoH hc h1 h2).imp fun D σ H hq_=>by
 refine hq_.elim fun own env o I hf k=>?_
 unfold wC at hf
 replace hf:=Ja.mp hf;obtain ⟨p,hp,hf⟩:=hf
 refine [289]
 cases p with
 | true=>exact ite_tt ⟨own,env,o,I.grow s1,by simpa using hf,k.ext (Ext.grow s1)⟩
 | false=>exact ite_ff ⟨own,env,o,I.grow s1,by simpa using hf,k.ext (Ext.grow s1)⟩
theorem VI.set_sh{K:PySem.W.Frag}{own:Addr->Option Nat}{env:En}{σ:St}{H:Hp}{i:Nat}{p:PV}{v:V}{A:List Addr}(I:VI K κ G own env σ H)(hk:κ i=none)(r:Rp K H p v A)(hA:∀ a ∈ A,own a=none):VI K κ G own [110] [290] H:=by
 refine ⟨by simp [I.len],fun j q e=>?_,I.own,I.same⟩
 rw [Kb] at e ⊢
 by_cases hij:i=j
 ·subst hij
  rw [if_pos rfl] at e ⊢
  by_cases hl:i<env.length
  ·rw [if_pos hl] at e
   rw [if_pos (by rw [← I.len];exact hl)]
   cases e
   exact ⟨v,A,rfl,r,fun _=>hA,fun l z=>by rw [hk] at z;cases z⟩
  ·rw [if_neg hl] at e;cases e
 ·rw [if_neg hij] at e ⊢
  exact I.slot j q e
noncomputable def acq(own:Addr->Option Nat)(i:Nat)(A:List Addr):Addr->Option Nat:=fun a=>if a ∈ A then some i else if own a=some i then none else own a
theorem VI.take{O:List Nat}{K:PySem.W.Frag}{own:Addr->Option Nat}{env:En}{σ:St}{H0 H2:Hp}{i:Nat}{p:PV}{v:V}{A:List Addr}(hi:i ∈ O)(I:VI K (ko O) G own env σ H0)
  (keep:∀ j q w B,j≠i->env[j]?=some (some q)->Rp K H0 q w B->(∀ b ∈ B,own b≠some i)->Rp K H2 q w B)
  (hx:∀ b o,own b≠some i->H0 b=some o->H2 b=some o)
  (r:Rp K H2 p v A)(nd:A.Nodup)(hA:∀ a ∈ A,own a=some i∨H0 a=none):
  VI K (ko O) G (acq own i A) [110] [290] H2/\Ext own H0 (acq own i A) H2:=by
 have notin:∀ b o,own b≠some i->H0 b=some o->b ∉ A:=fun b o h1 h2 hb=>by
  rcases hA b hb with z | z
  ·exact h1 z
  ·rw [h2] at z;cases z
 have stay:∀ b o,own b≠some i->H0 b=some o->acq own i A b=own b:=fun b o h1 h2=>by
  unfold acq;rw [if_neg (notin b o h1 h2),if_neg h1]
 refine ⟨⟨by simp [I.len],fun j q e=>?_,fun b l e=>?_,fun b o e=>?_⟩,fun b o h1 h2=>?_⟩
 ·rw [Kb] at e ⊢
  by_cases hij:i=j
  ·subst hij
   rw [if_pos rfl] at e ⊢
   by_cases hl:i<env.length
   ·rw [if_pos hl] at e
    rw [if_pos (by rw [← I.len];exact hl)]
    cases e
    refine ⟨v,A,rfl,r,fun z=>(by rw [zcD hi] at z;cases z),fun l z=>?_⟩
    rw [zcD hi] at z;cases z
    exact ⟨nd,fun a ha=>by unfold acq;rw [if_pos ha]⟩
   ·rw [if_neg hl] at e;cases e
  ·rw [if_neg hij] at e ⊢
   obtain ⟨w,B,h1,h2,h3,h4⟩:=I.slot j q e
   have no:∀ b ∈ B,own b≠some i:=fun b hb z=>by
    cases hk:ko O j with
    | none=>rw [h3 hk b hb] at z;cases z
    | some l=>
     have:=(h4 l hk).2 b hb
     rw [z] at this
     have e1:=zgO hk
     cases this
     exact hij e1
   refine ⟨w,B,h1,keep j q w B (fun z=>hij z.symm) e h2 no,fun hk b hb=>?_,fun l hk=>⟨(h4 l hk).1,fun b hb=>?_⟩⟩
   ·obtain ⟨o,ho⟩:=h2.alloc hb
    rw [stay b o (no b hb) ho];exact h3 hk b hb
   ·obtain ⟨o,ho⟩:=h2.alloc hb
    rw [stay b o (no b hb) ho];exact (h4 l hk).2 b hb
 ·unfold acq at e
  split at e
  ·rename_i hb
   refine ⟨?_,Rp.mut p r b hb⟩
   rcases hA b hb with z | z
   ·exact (I.own b i z).1
   ·exact I.same.free z
  ·split at e
   ·cases e
   ·rename_i hb hn
    obtain ⟨h1,h2⟩:=I.own b l e
    refine ⟨h1,?_⟩
    rcases h2 with ⟨xs,h2⟩ | ⟨xs,h2⟩
    ·exact .inl ⟨xs,hx b _ hn h2⟩
    ·exact .inr ⟨xs,hx b _ hn h2⟩
 ·have h0:=I.same b o e
  refine hx b o (fun z=>?_) h0
  rw [(I.own b i z).1] at e;cases e
 ·have hn:own b≠some i:=by rw [h1];exact fun z=>nomatch z
  exact ⟨by rw [stay b o hn h2];exact h1,hx b o hn h2⟩
theorem zM{i:Nat}(hk:κ i=none)(h:PS X st (zaM (tV X.K κ G .sh f) (j6 i))):VS X κ G st (zh i f):=h.imp fun D σ H hq_=>by
 refine hq_.elim fun own env o I hf k=>?_
 unfold zh at hf
 cases hp:f env with
 | none=>rw [hp] at hf;cases hf
 | some p=>
  rw [hp] at hf;cases hf
  exact (.in I hp fun v H' A s r hc=>k own _ H' ((I.grow s).set_sh hk r hc) (Ext.grow s))
theorem zi{O:List Nat}{i:Nat}(hi:i ∈ O)(h:PS X st (zaM [172] (j6 i))):VS X (ko O) G st (zh i f):=h.imp fun D σ H hq_=>by
 refine hq_.elim fun own env o I hf k=>?_
 unfold zh at hf
 cases hp:f env with
 | none=>rw [hp] at hf;cases hf
 | some p=>
  rw [hp] at hf;cases hf
  refine (.in I hp fun v H' A s r hc=>?_)
  obtain ⟨h1,h2⟩:=I.take hi (fun j q w B _ _ z _=>Rp.same s q z) (fun b o _ z=>s b o z) r hc.1 fun a ha=>.inr ((hc.2 a ha).elim id fun ⟨_,hl,_⟩=>nomatch hl)
  exact k _ _ H' h1 h2
noncomputable def tVG(K:PySem.W.Frag)(κ:Nat->Option Nat)(G:Hp)(Bs:List Nat)(bnd:PV->En->Option En):TG:=fun v σ H Q=>∃ own env p A e,VI K κ G own env σ H/\Rp K H p v A/\(∀ a ∈ A,own a=none)/\bnd p env=some e/\∀ σ',VI K κ G own e σ' H->(∀ i,i ∉ Bs->σ'[i]?=σ[i]?)->σ'.length=σ.length->Q σ' H
noncomputable def VG(X:Cx)(κ:Nat->Option Nat)(G:Hp)(Bs:List Nat)(tg:Expr)(bnd:PV->En->Option En):Prop:=PG X tg (tVG X.K κ G Bs bnd)
noncomputable def zpL(K:PySem.W.Frag)(κ:Nat->Option Nat)(G:Hp)(Bs:List Nat)(bnd:List PV->En->Option En):TGs:=fun vs σ H Q=>∃ own env ps A e,VI K κ G own env σ H/\Rps K H ps vs A/\(∀ a ∈ A,own a=none)/\bnd ps env=some e/\∀ σ',VI K κ G own e σ' H->(∀ i,i ∉ Bs->σ'[i]?=σ[i]?)->σ'.length=σ.length->Q σ' H
noncomputable def VGs(X:Cx)(κ:Nat->Option Nat)(G:Hp)(Bs:List Nat)(tg:List Expr)(bnd:List PV->En->Option En):Prop:=PGs X tg (zpL X.K κ G Bs bnd)
noncomputable def zN(i:Nat):PV->En->Option En:=fun p env=>some [110]
noncomputable def jA:List PV->En->Option En:=fun ps env=>match ps with | []=>some env | _=>none
noncomputable def yO(b1:PV->En->Option En)(b2:List PV->En->Option En):List PV->En->Option En:=fun ps env=>match ps with | p::r=>(b1 p env).bind fun e=>b2 r e | []=>none
noncomputable def u9(n:Nat)(b:List PV->En->Option En):PV->En->Option En:=fun p env=>match p with
 | .tup ps=>if ps.length=n then b ps env else none
 | .lst ps=>if ps.length=n then b ps env else none
 | _=>none
end
end F
namespace L2
theorem PG.imp{X:Cx}{e:PySem.Expr}{t t':TG}(h:PG X e t)(i:∀ v σ H Q,t' v σ H Q->t v σ H Q):PG X e t':=fun pins s σ H v u Q I r hw=>h pins s σ H v u Q I r (i _ _ _ _ hw)
theorem PGs.imp{X:Cx}{e:List PySem.Expr}{t t':TGs}(h:PGs X e t)(i:∀ v σ H Q,t' v σ H Q->t v σ H Q):PGs X e t':=fun pins s σ H v u Q I r hw=>h pins s σ H v u Q I r (i _ _ _ _ hw)
theorem PG.or{X:Cx}{e:PySem.Expr}{t t':TG}(h:PG X e t)(h':PG X e t'):PG X e (fun v σ H Q=>t v σ H Q∨t' v σ H Q):=fun pins s σ H v u Q I r hw=>hw.elim (h pins s σ H v u Q I r) (h' pins s σ H v u Q I r)
theorem PI.imp{X:Cx}{tg e:PySem.Expr}{t t':TI}(h:PI X tg e t)(i:∀ σ H R,t' σ H R->t σ H R):PI X tg e t':=fun pins s σ H R I hw=>h pins s σ H R I (i _ _ _ hw)
end L2
namespace F
open PySem PySem.Spec PyProof.Rows L2
section
variable {X:Cx} {κ:Nat->Option Nat} {G:Hp} {c c1 c2:Cat} {a b e:Expr} {es:List Expr} {fa fb f:FE} {t u:FT} {fs:FA} {pos:Pos} {g h:FS} {st:Stmt} {wW:List Stmt} {bnd:PV->En->Option En} {bnds:List PV->En->Option En}
theorem zW(i:Nat){tg:Expr}(hk:κ i=none)(h:PG X tg (j6 i)):VG X κ G [i] tg (zN i):=h.imp fun v σ H Q hq_=>by
 obtain ⟨own,env,p,A,e,I,r,hA,hb,k⟩:=hq_
 cases hb
 refine k _ (I.set_sh hk r hA) (fun j hj=>?_) [19]
 rw [List.getElem?_set,if_neg (fun z=>hj (by simp [z]))]
theorem jk:VGs X κ G [] [] jA:=pgs_nil.imp fun vs σ H Q hq_=>by
 obtain ⟨own,env,ps,A,e,I,r,hA,hb,k⟩:=hq_
 unfold jA at hb
 cases ps with
 | nil=>cases hb;exact ⟨r.inv0.1,k σ I [17] rfl⟩
 | cons p ps=>cases hb
theorem yg{Bs1 Bs2:List Nat}(h1:VG X κ G Bs1 e bnd)(h2:VGs X κ G Bs2 es bnds)(hs:(assignEach (e::es) X.env).map (·.2)=assign e X.env::[140].map (·.2):=by rfl):VGs X κ G (Bs1++Bs2) (e::es) (yO bnd bnds):=(zjC h1 h2 hs).imp fun vs σ H Q hq_=>by
 obtain ⟨own,env,ps,A,e,I,r,hA,hb,k⟩:=hq_
 unfold yO at hb
 cases ps with
 | nil=>cases hb
 | cons p ps=>
  dsimp only at hb
  obtain ⟨v,r',A1,A2,h1,h2,h3,h4⟩:=r.inv
  replace hb:=Ja.mp hb;obtain ⟨e1,hp,hb⟩:=hb
  subst h2
  refine ⟨v,r',h1,own,env,p,A1,e1,I,h3,fun a ha=>hA a (Jj _ ha),hp,fun σ1 I1 q1 l1=>?_⟩
  exact ⟨own,e1,ps,A2,e,I1,h4,fun a ha=>hA a (Jr _ ha),hb,fun σ2 I2 q2 l2=>k σ2 I2 (fun i hi=>(q2 i fun z=>hi (Jr _ z)).trans (q1 i fun z=>hi (Jj _ z))) (l2.trans l1)⟩
theorem qM{Bs:List Nat}{k:Nat}(n:Nat)(hc:X.calm=true)(h:VGs X κ G Bs es bnds)(hn:[140].length=n:=by rfl)(hst:[140].findIdx? (·.1)=none:=by rfl):VG X κ G Bs [275] (u9 n bnds):=
 ((znp hc h hn hst).or (znq hc h hn hst)).imp fun v σ H Q hq_=>by
 obtain ⟨own,env,p,A,e,I,r,hA,hb,k⟩:=hq_
 unfold u9 at hb
 cases p with
 | tup ps=>
  dsimp only at hb
  split at hb
  ·rename_i hl
   obtain ⟨a,xs,h1,h2,h3⟩:=r.T
   exact .inl ⟨a,xs,h1,h2,by rw [← h3.length];exact hl,own,env,ps,A,e,I,h3,hA,hb,k⟩
  ·cases hb
 | lst ps=>
  dsimp only at hb
  split at hb
  ·rename_i hl
   obtain ⟨a,xs,B,h1,h2,h3,h4⟩:=r.L
   subst h3
   exact .inr ⟨a,xs,h1,SqL.of h2,by rw [← h4.length];exact hl,own,env,ps,B,e,I,h4,fun a ha=>hA a (Jg _ ha),hb,k⟩
  ·cases hb
 | _=>cases hb
theorem zmQ{Bs:List Nat}{tg:Expr}(he:VE X κ G .sh e f)(hg:VG X κ G Bs tg bnd)(hs:swapsWithSole [tg] e pos.line X.env=pure false:=by rfl)(hw:swappedStores [tg] e X.env=pure none:=by rfl)
  (h1:(assignEach [tg] X.env).map (·.2)=[assign tg X.env]:=by rfl):VS X κ G (.Assign [tg] e pos) (zmo bnd f):=(kK he hg hs hw h1).imp fun D σ H hq_=>by
 refine hq_.elim fun own env o I hf k=>?_
 unfold zmo at hf
 replace hf:=Ja.mp hf;obtain ⟨p,hp,hf⟩:=hf
 cases hb:bnd p env with
 | none=>rw [hb] at hf;cases hf
 | some e1=>
  rw [hb] at hf;cases hf
  exact (.in I hp fun v H' A s r hc=>⟨own,env,p,A,e1,I.grow s,r,hc,hb,fun σ' I' _ _=>k own σ' H' I' (Ext.grow s)⟩)
noncomputable def Stay(own:Addr->Option Nat)(H1 H2:Hp):Prop:=∀ b o,own b=none->H1 b=some o->H2 b=some o
theorem Stay.ext{own own':Addr->Option Nat}{H1 H2:Hp}(s:Ext own H1 own' H2):Stay own H1 H2:=fun b o h e=>(s b o h e).2
theorem Stay.tup{K:PySem.W.Frag}{own:Addr->Option Nat}{H1 H2:Hp}{a:Addr}{xs:List V}(s:Stay own H1 H2)(hm:∀ a l,own a=some l->MutH H1 a)(h:SqT K H1 a xs):SqT K H2 a xs:=by
 have no:∀ o,H1 a=some o->(∀ z,o≠.lst z)->(∀ z,o≠.dK z)->own a=none:=fun o e n1 n2=>by
  cases q:own a with
  | none=>rfl
  | some l=>
   rcases hm a l q with ⟨z,m⟩ | ⟨z,m⟩
   ·rw [e] at m;exact absurd (Jq m) (n1 z)
   ·rw [e] at m;exact absurd (Jq m) (n2 z)
 rcases h with (h | ⟨u,h⟩) | h
 ·exact .inl (.inl (s _ _ (no _ h [231] fun _ z=>nomatch z) h))
 ·exact .inl (.inr ⟨u,s _ _ (no _ h [231] fun _ z=>nomatch z) h⟩)
 ·exact .inr h
theorem Stay.fz{K:PySem.W.Frag}{own:Addr->Option Nat}{H1 H2:Hp}{a:Addr}{xs:List V}(s:Stay own H1 H2)(hm:∀ a l,own a=some l->MutH H1 a)(h:Fz K H1 a xs):Fz K H2 a xs:=by
 rcases h with ⟨u,h⟩ | h
 ·refine .inl ⟨u,s _ _ ?_ h⟩
  cases q:own a with
  | none=>rfl
  | some l=>rcases hm a l q with ⟨z,m⟩ | ⟨z,m⟩<;>(rw [h] at m;cases m)
 ·exact .inr h
mutual
theorem Rp.stay{K:PySem.W.Frag}{own:Addr->Option Nat}{H1 H2:Hp}(s:Stay own H1 H2)(hm:∀ a l,own a=some l->MutH H1 a):∀ (p:PV) {v:V} {A:List Addr},(∀ a ∈ A,own a=none)->Rp K H1 p v A->Rp K H2 p v A
 | .non,_,_,_,h=>by unfold Rp at h ⊢;exact h
 | .bl _,_,_,_,h=>by unfold Rp at h ⊢;exact h
 | .int _,_,_,_,h=>by unfold Rp at h ⊢;exact h
 | .str _,_,_,_,h=>by unfold Rp at h ⊢;exact h
 | .ty _,_,_,_,h=>by unfold Rp at h ⊢;exact h
 | .any,_,_,_,h=>by unfold Rp at h ⊢;exact h
 | .adr _,_,_,_,h=>by unfold Rp at h ⊢;exact h
 | .pen a _,_,_,hA,h=>by
  unfold Rp at h ⊢
  exact ⟨h.1,h.2.1,s _ _ (hA a (by rw [h.2.1];exact Jf)) h.2.2⟩
 | .tup ps,_,_,hA,h=>by
  unfold Rp at h ⊢
  obtain ⟨a,xs,h1,h2,h3⟩:=h
  exact ⟨a,xs,h1,s.tup hm h2,Rps.stay s hm ps hA h3⟩
 | .lst ps,_,_,hA,h=>by
  unfold Rp at h ⊢
  obtain ⟨a,xs,B,h1,h2,rfl,h4⟩:=h
  exact ⟨a,xs,B,h1,s _ _ (hA a Jf) h2,rfl,Rps.stay s hm ps [267] h4⟩
 | .fls ps,_,_,hA,h=>by
  unfold Rp at h ⊢
  obtain ⟨a,xs,h1,h2,h3⟩:=h
  exact ⟨a,xs,h1,s.fz hm h2,Rps.stay s hm ps hA h3⟩
 | .dct ks ps,_,_,hA,h=>by
  unfold Rp at h ⊢
  obtain ⟨a,xs,B,h1,h2,h3,rfl,h5⟩:=h
  exact ⟨a,xs,B,h1,s _ _ (hA a Jf) h2,h3,rfl,Rps.stay s hm ps [267] h5⟩
theorem Rps.stay{K:PySem.W.Frag}{own:Addr->Option Nat}{H1 H2:Hp}(s:Stay own H1 H2)(hm:∀ a l,own a=some l->MutH H1 a):∀ (ps:List PV) {vs:List V} {A:List Addr},(∀ a ∈ A,own a=none)->Rps K H1 ps vs A->Rps K H2 ps vs A
 | [],_,_,_,h=>by unfold Rps at h ⊢;exact h
 | p::ps,_,_,hA,h=>by
  unfold Rps at h ⊢
  obtain ⟨v,r,A1,A2,h1,rfl,h3,h4⟩:=h
  exact ⟨v,r,A1,A2,h1,rfl,Rp.stay s hm p (fun a ha=>hA a (Jj _ ha)) h3,Rps.stay s hm ps (fun a ha=>hA a (Jr _ ha)) h4⟩
end
noncomputable def Walks(K:PySem.W.Frag)(own:Addr->Option Nat)(H1:Hp)(R:Hp->Prop)(J:It)(ps:List PV):Prop:=∀ i H2,R H2->
 (∀ p,ps[i]?=some p->J.go i H2/\∀ x H3,J.yld i H2 x H3->Same H2 H3/\∃ A,Rp K H3 p x A/\∀ a ∈ A,own a=none/\∃ o,H1 a=some o)/\(ps.length≤i->J.stop i H2)
noncomputable def tVI(K:PySem.W.Frag)(κ:Nat->Option Nat)(G:Hp)(lp:Bool)(f:FA):TI:=fun σ H R=>∃ own env ps,VI K κ G own env σ H/\f env=some ps/\∀ J H1,Same H H1->Walks K own H1 [154] J ps->R J H1
theorem tVI.in{K:PySem.W.Frag}{κ:Nat->Option Nat}{G:Hp}{lp:Bool}{f:FA}{σ:St}{H:Hp}{R:It->Hp->Prop}{own:Addr->Option Nat}{env:En}{p:List PV}(I:VI K κ G own env σ H)(hf:f env=some p)(k:∀ J H1,Same H H1->Walks K own H1 [154] J p->R J H1):tVI K κ G lp f σ H R:=⟨own,env,p,I,hf,k⟩
theorem tVI.elim{K:PySem.W.Frag}{κ:Nat->Option Nat}{G:Hp}{lp:Bool}{f:FA}{σ:St}{H:Hp}{R:It->Hp->Prop}{C:Prop}(h:tVI K κ G lp f σ H R)(k:∀ own env (p:List PV),VI K κ G own env σ H->f env=some p->(∀ J H1,Same H H1->Walks K own H1 [154] J p->R J H1)->C):C:=
 let ⟨own,env,p,I,hf,q⟩:=h
 k own env p I hf q
noncomputable def VIt(X:Cx)(κ:Nat->Option Nat)(G:Hp)(lp:Bool)(tg iter:Expr)(f:FA):Prop:=PI X tg iter (tVI X.K κ G lp f)
noncomputable def vA:PV->Option (List PV)
 | .lst ps=>some ps
 | .fls ps=>some ps
 | .tup ps=>some ps
 | _=>none
noncomputable def zf(f:FE):FA:=fun env=>[254].bind vA
noncomputable def zpe(f:FE):FA:=fun env=>[254].bind fun p=>(vA p).bind fun ps=>if isDatas ps=true then some ps else none
theorem zmE{X:Cx}{tg iter:Expr}{t t':TI}(h:PI X tg iter t)(h':PI X tg iter t'):PI X tg iter (fun σ H R=>t σ H R∨t' σ H R):=fun pins s σ H R I hw=>hw.elim (h pins s σ H R I) (h' pins s σ H R I)
theorem zgm{K:PySem.W.Frag}{own:Addr->Option Nat}{H1:Hp}{R:Hp->Prop}{a:Addr}{ps:List PV}{xs:List V}{A:List Addr}(h1':Rps K H1 ps xs A)(hA:∀ a ∈ A,own a=none)(hl:∀ H2,R H2->SqL K H2 a xs/\Rps K H2 ps xs A):Walks K own H1 R (Itl K a) ps:=by
 intro i H2 hR
 obtain ⟨hq,hr⟩:=hl H2 hR
 refine ⟨fun p hp=>?_,fun hi=>⟨xs,hq,by rw [← hr.length];exact hi⟩⟩
 obtain ⟨v,C,h1,h2,h3⟩:=hr.get hp
 refine ⟨⟨xs,v,hq,h1⟩,fun x H3 ⟨e,hy⟩=>?_⟩
 subst e
 have:=hy xs hq
 rw [h1] at this;cases this
 exact ⟨Same.refl _,C,h2,fun a ha=>⟨hA a (h3.subset ha),(Rps.mut _ h1' a (h3.subset ha)).some⟩⟩
theorem zld{K:PySem.W.Frag}{own:Addr->Option Nat}{H1:Hp}{R:Hp->Prop}{a:Addr}{ps:List PV}{xs:List V}{A:List Addr}(h1':Rps K H1 ps xs A)(hA:∀ a ∈ A,own a=none)(hl:∀ H2,R H2->SqT K H2 a xs/\Rps K H2 ps xs A):Walks K own H1 R (Itt K a) ps:=by
 intro i H2 hR
 obtain ⟨hq,hr⟩:=hl H2 hR
 refine ⟨fun p hp=>?_,fun hi=>⟨xs,hq,by rw [← hr.length];exact hi⟩⟩
 obtain ⟨v,C,h1,h2,h3⟩:=hr.get hp
 refine ⟨⟨xs,v,hq,h1⟩,fun x H3 ⟨e,hy⟩=>?_⟩
 subst e
 have:=hy xs hq
 rw [h1] at this;cases this
 exact ⟨Same.refl _,C,h2,fun a ha=>⟨hA a (h3.subset ha),(Rps.mut _ h1' a (h3.subset ha)).some⟩⟩
theorem zr{tg l:Expr}(lp:Bool)(hl:VE X κ G .sh l f):VIt X κ G lp tg l (zf f):=(zmE (zlH hl) (zno hl)).imp fun σ H R hq_=>by
 refine hq_.elim fun own env ps I hf k=>?_
 unfold zf at hf
 replace hf:=Ja.mp hf;obtain ⟨p,hp,hf⟩:=hf
 cases p<;>first | cases hf | skip
 ·refine .inr (.in I hp fun v H1 A s r hc=>?_)
  obtain ⟨a,xs,h1,h2,h3⟩:=r.T
  have hm:∀ a l,own a=some l->MutH H1 a:=fun a l e=>[196].2
  refine ⟨a,h1,⟨xs,h2⟩,k _ H1 s (zld (xs:=xs) h3 hc fun H2 hR=>?_)⟩
  cases lp with
  | true=>exact ⟨Stay.tup hR hm h2,Rps.stay hR hm _ hc h3⟩
  | false=>exact ⟨Same.tup hR h2,Rps.same hR _ h3⟩
 ·refine .inl (.in I hp fun v H1 A s r hc=>?_)
  obtain ⟨a,xs,B,h1,h2,rfl,h3⟩:=r.L
  have hm:∀ a l,own a=some l->MutH H1 a:=fun a l e=>[196].2
  refine ⟨a,h1,⟨xs,SqL.of h2⟩,k _ H1 s (zgm (xs:=xs) h3 (fun b hb=>hc b (Jg _ hb)) fun H2 hR=>?_)⟩
  cases lp with
  | true=>exact ⟨SqL.of (hR _ _ (hc a Jf) h2),Rps.stay hR hm _ (fun b hb=>hc b (Jg _ hb)) h3⟩
  | false=>exact ⟨SqL.of (hR _ _ h2),Rps.same hR _ h3⟩
 ·refine .inl (.in I hp fun v H1 A s r hc=>?_)
  obtain ⟨a,xs,h1,h2,h3⟩:=r.Fl
  have hm:∀ a l,own a=some l->MutH H1 a:=fun a l e=>[196].2
  refine ⟨a,h1,⟨xs,h2.seq⟩,k _ H1 s (zgm (xs:=xs) h3 hc fun H2 hR=>?_)⟩
  cases lp with
  | true=>exact ⟨(Stay.fz hR hm h2).seq,Rps.stay hR hm _ hc h3⟩
  | false=>exact ⟨(h2.same hR).seq,Rps.same hR _ h3⟩
noncomputable def uG(lo:Int)(n:Nat):List PV:=[133].map fun (i:Nat)=>PV.int (lo+i)
theorem jN(lo:Int)(n:Nat):(uG lo n).length=n:=by simp [uG]
theorem zle{K:PySem.W.Frag}{own:Addr->Option Nat}{H1:Hp}{R:Hp->Prop}(lo:Int)(n:Nat):Walks K own H1 R (Itr lo n) (uG lo n):=by
 intro i H2 _
 refine ⟨fun p hp=>?_,fun hi=>by rw [jN] at hi;exact hi⟩
 unfold uG at hp
 rw [JM] at hp
 by_cases hi:i<n
 ·rw [Qd hi] at hp
  cases hp
  refine ⟨hi,fun x H3 ⟨e,hx⟩=>?_⟩
  subst e
  exact ⟨Same.refl _,[],by rw [hx];exact .mkI _,by simp⟩
 ·rw [List.getElem?_eq_none [141]] at hp
  cases hp
noncomputable def xl(f:FA):FA:=fun env=>[254].bind fun ps=>match ps with | [.int j]=>if -(2 ^ 62)≤j/\j<2 ^ 62 then some (uG 0 j.toNat) else none | _=>none
theorem jj{tg:Expr}{p:Pos}(lp:Bool)(hg:Gl X "range")(hm:X.mg "range"=none)(ha:VA X κ G c [a] fs)(hs:starEach [a] X.env=[[124]]:=by rfl):VIt X κ G lp tg (.Call (.Name "range" p) [a] [] pos) (xl fs):=(zhN hg hm ha.1 hs).imp fun σ H R hq_=>by
 refine hq_.elim fun own env ps I hf k=>?_
 unfold xl at hf
 replace hf:=Ja.mp hf;obtain ⟨qs,hp,hf⟩:=hf
 refine (.in I hp fun vs H1 A s r _=>?_)
 split at hf
 ·split at hf
  ·rename_i j hj
   cases hf
   obtain ⟨v,r',A1,A2,h1,h2,h3,h4⟩:=r.inv
   exact ⟨j,by rw [h1,h4.inv0.1,h3.I.1],hj.1,hj.2,k _ H1 s (zle 0 j.toNat)⟩
  ·cases hf
 ·cases hf
theorem yf{Bs:List Nat}{tg iter:Expr}{body:List Stmt}(hp:PassesOwn [21] X.A X.env X.xe)(hc:X.calm=true)(hi:VIt X κ G true tg iter fs)(hg:VG X κ G Bs tg bnd)(hb:VSs X κ G body g)
  (hs:∀ x,foldedSetIterable iter X.env x=pure x:=by intro _;rfl):VS X κ G (.For tg iter body [] pos) (yx fs bnd g):=(znm hp hc hi hg hb hs).imp fun D σ H hq_=>by
 refine hq_.elim fun own env o I hf k=>?_
 unfold yx at hf
 replace hf:=Ja.mp hf;obtain ⟨ps,hp,hf⟩:=hf
 refine (.in I hp fun J H1 s hw=>?_)
 have k1:=k.ext (Ext.grow s)
 refine ⟨fun i m σ2 H2=>∃ own2 e2,VI X.K κ G own2 e2 σ2 H2/\Ext own H1 own2 H2/\i≤ps.length/\m=ps.length - i/\wD bnd g (ps.drop i) e2=some o,⟨ps.length,own,env,I.grow s,Ext.refl _ _,Nat.zero_le _,by simp,by simpa using hf⟩,?_⟩
 rintro i m σ2 H2 ⟨own2,e2,I2,x2,hi,rfl,h2⟩
 have W:=hw i H2 (by simpa using Stay.ext x2)
 by_cases hlt:i<ps.length
 ·have hpi:ps[i]?=some ps[i]:=Ji hlt
  obtain ⟨go,yl⟩:=W.1 _ hpi
  rw [List.drop_eq_getElem_cons hlt] at h2
  unfold wD at h2
  replace h2:=Ja.mp h2;obtain ⟨e3,hb1,h2⟩:=h2
  replace h2:=Ja.mp h2;obtain ⟨o1,ho,h2⟩:=h2
  refine .inr ⟨go,fun σ' H'=>∃ own',∃ e',VI X.K κ G own' e' σ' H'/\Ext own H1 own' H'/\wD bnd g (ps.drop (i+1)) e'=some o,?_,?_⟩
  ·rintro σ' H' ⟨own',e',I',x',h'⟩
   exact ⟨ps.length - (i+1),by omega,own',e',I',x',hlt,rfl,h'⟩
  ·intro x H3 hy
   obtain ⟨s3,A,r3,hA⟩:=yl x H3 hy
   have hA2:∀ a ∈ A,own2 a=none:=fun a ha=>let ⟨h1,o,h2⟩:=hA a ha;(x2 a o h1 h2).1
   refine ⟨own2,e2,ps[i],A,e3,I2.grow s3,r3,hA2,hb1,fun σ3 I3 _ _=>⟨own2,e3,o1,I3,ho,?_⟩⟩
   have x3:Ext own H1 own2 H3:=x2.trans (Ext.grow s3)
   cases o1 with
   | nx e4=>exact fun own4 σ4 H4 I4 x4=>⟨own4,e4,I4,x3.trans x4,h2⟩
   | ct e4=>exact fun own4 σ4 H4 I4 x4=>⟨own4,e4,I4,x3.trans x4,h2⟩
   | bk e4=>cases h2;exact k1.ext x3
   | rt p e4=>cases h2;exact k1.ext x3
 ·have e:i=ps.length:=by omega
  subst e
  rw [List.drop_length] at h2
  cases h2
  exact .inl ⟨W.2 (Jm _),k1 own2 σ2 H2 I2 x2⟩
theorem zaE(n:Nat){cc:Expr}{body:List Stmt}(hp:PassesOwn [21] X.A X.env X.xe)(hc:VT X κ G cc t)(hb:VSs X κ G body g):VS X κ G (.While cc body [] pos) (fWh t g n):=(zjv hp hc hb).imp fun D σ H hq_=>by
 refine hq_.elim fun own env o I hf k=>?_
 refine ⟨fun m σ2 H2=>∃ own2 e2,VI X.K κ G own2 e2 σ2 H2/\Ext own H own2 H2/\fWh t g m e2=some o,⟨n,own,env,I,Ext.refl _ _,hf⟩,?_⟩
 rintro m σ2 H2 ⟨own2,e2,I2,x2,h2⟩
 cases m with
 | zero=>cases h2
 | succ m=>
  unfold fWh at h2
  replace h2:=Ja.mp h2;obtain ⟨b,ht,h2⟩:=h2
  refine ⟨own2,e2,b,I2,ht,fun H3 s3=>?_⟩
  have x3:Ext own H own2 H3:=x2.trans (Ext.grow s3)
  cases b with
  | false=>
   simp only [Bool.false_eq_true,if_false] at h2
   cases h2
   exact ite_ff (k own2 σ2 H3 (I2.grow s3) x3)
  | true=>
   simp only [if_true] at h2
   replace h2:=Ja.mp h2;obtain ⟨o1,ho,h2⟩:=h2
   refine ite_tt ⟨fun σ' H'=>∃ own',∃ e',VI X.K κ G own' e' σ' H'/\Ext own H own' H'/\fWh t g m e'=some o,fun σ' H' ⟨own',e',I',x',h'⟩=>⟨m,Nat.lt_succ_self m,own',e',I',x',h'⟩,own2,e2,o1,I2.grow s3,ho,?_⟩
   cases o1 with
   | nx e4=>exact fun own4 σ4 H4 I4 x4=>⟨own4,e4,I4,x3.trans x4,h2⟩
   | ct e4=>exact fun own4 σ4 H4 I4 x4=>⟨own4,e4,I4,x3.trans x4,h2⟩
   | bk e4=>cases h2;exact k.ext x3
   | rt p e4=>cases h2;exact k.ext x3
noncomputable def cE(n:Nat)(js:List Nat)(env:En):En:=List.replicate n none++js.map fun j=>(env[j]?).join
noncomputable def cK(n:Nat)(js:List Nat)(κ:Nat->Option Nat):Nat->Option Nat:=fun i=>if i<n then none else match js[i - n]? with | some j=>κ j | none=>none
noncomputable def ym(bnd:PV->En->Option En)(t:FT)(f:FE):List PV->En->Option (List PV)
 | [],_=>some []
 | p::ps,env=>(bnd p env).bind fun e=>(t e).bind fun b=>if b=true then (f e).bind fun q=>(ym bnd t f ps env).map fun r=>q::r else ym bnd t f ps env
noncomputable def fLC(src:FA)(n:Nat)(js:List Nat)(bnd:PV->En->Option En)(t:FT)(f:FE):FE:=fun env=>(src env).bind fun ps=>if ps.length≤100000 then (ym bnd t f ps (cE n js env)).map .lst else none
theorem VI.block {K : PySem.W.Frag} {own : Addr → Option Nat} {env : En} {σ : St} {H : Hp} {ow : List Str} {js : List Nat} (I : VI K κ G own env σ H) : VI K [85] G own [214] (cS ow js σ) H := by
  refine ⟨by simp [cE, cS], fun i p e => ?_, I.own, I.same⟩
  unfold cE at e
  unfold cS cK
  by_cases hi : i < ow.length
  · rw [List.getElem?_append_left [141], List.getElem?_replicate, if_pos hi] at e
    cases e
  · have hi' : ow.length ≤ i := KS hi
    rw [List.getElem?_append_right (by simpa using hi'), List.getElem?_map, List.length_replicate] at e
    rw [List.getElem?_append_right (by simpa using hi'), List.getElem?_map, List.length_map, if_neg hi]
    cases q : js[i - ow.length]? with
    | none => rw [q] at e; cases e
    | some j =>
      rw [q] at e
      have e' : (env[j]?).join = some p := Jq e
      have e2 : env[j]? = some (some p) := by
        cases z : env[j]? with
        | none => rw [z] at e'; cases e'
        | some w => rw [z] at e'; have : w = some p := by simpa using e'
                    rw [this]
      obtain ⟨v, A, h1, h2, h3⟩ := I.slot j p e2
      exact ⟨v, A, by simp [h1], h2, h3⟩
theorem VI.again{K:PySem.W.Frag}{own:Addr->Option Nat}{env:En}{σ σ':St}{H:Hp}{n:Nat}{js:List Nat}{Bs:List Nat}(I:VI K (cK n js κ) G own (cE n js env) σ H)(hB:∀ i ∈ Bs,i<n)(hs:∀ i,i ∉ Bs->σ'[i]?=σ[i]?)(hl:σ'.length=σ.length):VI K (cK n js κ) G own (cE n js env) σ' H:=by
 refine ⟨I.len.trans hl.symm,fun i p e=>?_,I.own,I.same⟩
 have hi:¬ i<n:=fun hi=>by
  unfold cE at e
  rw [List.getElem?_append_left [141],List.getElem?_replicate,if_pos hi] at e
  cases e
 obtain ⟨v,A,h1,h2⟩:=I.slot i p e
 exact ⟨v,A,(hs i fun z=>hi (hB i z)).trans h1,h2⟩
noncomputable def VTs(X:Cx)(κ:Nat->Option Nat)(G:Hp)(ifs:List Expr)(t:FT):Prop:=PTs X ifs (tVT X.K κ G t)
noncomputable def vg:FT:=fun _=>some true
theorem xb:VTs X κ G [] vg:=fun pins s σ H Q I ⟨own,env,b,I',e,k⟩=>by
 cases e
 exact zlA pins s σ H Q I (k H [31])
theorem xp(h:VT X κ G e t):VTs X κ G [e] t:=zlz h
noncomputable def j4(own:Addr->Option Nat)(D:Addr):Addr->Option Nat:=fun a=>if a=D then some 1000000 else own a
theorem zbo{own:Addr->Option Nat}{D a:Addr}(h:j4 own D a=none):a≠D/\own a=none:=by
 unfold j4 at h
 split at h
 ·cases h
 ·rename_i n;exact ⟨n,h⟩
theorem ky{own:Addr->Option Nat}{D a:Addr}(h:a≠D):j4 own D a=own a:=if_neg h
theorem VI.mark{K:PySem.W.Frag}{own:Addr->Option Nat}{env:En}{σ:St}{H1 H2:Hp}{D:Addr}{ys:List V}(I:VI K κ G own env σ H1)(hD:H1 D=none)(s:Same H1 H2)(hy:H2 D=some [262]):VI K κ G (j4 own D) env σ H2:=by
 have J:=I.grow s
 refine ⟨I.len,fun i p e=>?_,fun a l e=>?_,J.same⟩
 ·obtain ⟨v,A,h1,h2,h3,h4⟩:=I.slot i p e
  have ne:∀ a ∈ A,a≠D:=fun a ha z=>by
   obtain ⟨o,ho⟩:=h2.alloc ha
   rw [z,hD] at ho;cases ho
  exact ⟨v,A,h1,Rp.same s p h2,fun hk a ha=>(ky (ne a ha)).trans (h3 hk a ha),fun l hk=>⟨(h4 l hk).1,fun a ha=>(ky (ne a ha)).trans ((h4 l hk).2 a ha)⟩⟩
 ·unfold j4 at e
  split at e
  ·rename_i z
   rw [z]
   exact ⟨I.same.free hD,.inl ⟨ys,hy⟩⟩
  ·exact J.own a l e
section
variable {ow:List Str} {js Bs:List Nat} {tg elt iter:Expr} {ifs:List Expr} {scope:Scope}
theorem zdY{K:PySem.W.Frag}{cc:Cat}(hcc:cc=.mv []∨cc=.sh)(hB:∀ i ∈ Bs,i<ow.length)(σ:St)(H:Hp)(Q:VK)
  (hq:tV K κ G cc (fLC fs ow.length js bnd t f) σ H Q):
  ziW (tVI K κ G false fs) ow js (fun _ _ _ _=>tVG K [85] G Bs bnd) (fun _ _ _ _=>tVT K [85] G t) (fun _ _ _ _=>tV K [85] G cc f) σ H Q:=by
 refine JK fun hno=>?_
 obtain ⟨own,env,z,I,e,k⟩:=hq
 unfold fLC at e
 replace e:=Ja.mp e;obtain ⟨ps,hp,e⟩:=e
 split at e
 case isFalse=>cases e
 rename_i hlen
 cases hr:ym bnd t f ps [214] with
 | none=>rw [hr] at e;cases e
 | some rs=>
  rw [hr] at e;cases e
  refine hno (.in I hp fun J H1 s1 hw C s₀ H₀ fp D hD=>?_)
  clear hno
  have I1:VI K [85] G own [214] (cS ow js σ) H1:=(I.grow s1).block
  have sD:Same H1 [125]:=z6 [31] hD
  refine ⟨fun i m σ1 H2=>∃ ys qs B r2,VI K [85] G own [214] σ1 H1/\Same H1 H2/\H2 D=some [262]/\Rps K H2 qs ys B/\cc.ok H1 own B/\D ∉ B/\i≤ps.length/\ys.length≤i/\m=ps.length - i/\ym bnd t f (ps.drop i) [214]=some r2/\rs=qs++r2,
   ⟨ps.length,[],[],[],rs,I1,sD,zZ,.nil,Cat.nil _ _ _,by simp,Nat.zero_le _,Nat.le_refl _,by simp,by simpa using hr,rfl⟩,?_⟩
  intro i m σ1 H2 hI
  refine JK fun hno=>?_
  obtain ⟨ys,qs,B,r2,I2,s2,hy,ry,cB,nB,hi,hyl,rfl,h2,hrs⟩:=hI
  have Wk:=hw i H2 (by simpa using s2)
  by_cases hlt:i<ps.length
  ·have hpi:ps[i]?=some ps[i]:=Ji hlt
   obtain ⟨go,yl⟩:=Wk.1 _ hpi
   refine hno (.inr ⟨go,fun x H3 hyl'=>?_⟩)
   clear hno
   refine JK fun hno=>?_
   obtain ⟨s3,A,r3,hA⟩:=yl x H3 hyl'
   rw [List.drop_eq_getElem_cons hlt] at h2
   unfold ym at h2
   replace h2:=Ja.mp h2;obtain ⟨e3,hb1,h2⟩:=h2
   replace h2:=Ja.mp h2;obtain ⟨bb,ht,h2⟩:=h2
   have neA:∀ a ∈ A,a≠D:=fun a ha z=>by
    obtain ⟨_,o,ho⟩:=hA a ha
    rw [z,hD] at ho;cases ho
   refine hno ⟨j4 own D,_,ps[i],A,e3,I2.mark hD (s2.trans s3) (s3 _ _ hy),r3,fun a ha=>(ky (neA a ha)).trans (hA a ha).1,hb1,fun σ3 I3 q3 l3=>?_⟩
   have I3':=I2.again hB q3 l3
   refine ⟨j4 own D,e3,bb,I3,ht,fun H5 s5=>?_⟩
   have s25:Same H2 H5:=s3.trans s5
   have hy5:=s25 _ _ hy
   cases bb with
   | false=>
    simp only [Bool.false_eq_true,if_false] at h2
    refine ite_ff ⟨ps.length - (i+1),by omega,ys,qs,B,r2,I3',s2.trans s25,hy5,Rps.same s25 qs ry,cB,nB,hlt,by omega,rfl,h2,hrs⟩
   | true=>
    simp only [if_true] at h2
    replace h2:=Ja.mp h2;obtain ⟨q,hf,h2⟩:=h2
    cases hr2:ym bnd t f (ps.drop (i+1)) [214] with
    | none=>rw [hr2] at h2;cases h2
    | some r4=>
     rw [hr2] at h2;cases h2
     refine ite_tt ⟨j4 own D,e3,q,I3.grow s5,hf,fun y H6 C6 s6 r6 c6=>?_⟩
     have s26:Same H2 H6:=s25.trans s6
     have hy6:=s26 _ _ hy
     have nC:D ∉ C6:=fun z=>by
      rcases hcc with rfl | rfl
      ·rcases c6.2 D z with w | ⟨_,w,_⟩
       ·rw [hy5] at w;cases w
       ·cases w
      ·exact (zbo (c6 D z)).1 rfl
     refine ⟨ys,hy6,by rw [sizeLine_eq];omega,ps.length - (i+1),by omega,ys++[y],qs++[q],B++C6,r4,I3',z6 (s2.trans s26) hD,zZ,?_,?_,?_,hlt,by rw [Jl,Ko];omega,rfl,hr2,by rw [hrs,JZ];rfl⟩
     ·exact (Rps.upd (.inl ⟨ys,hy6⟩) qs nB (Rps.same s26 qs ry)).append (Rps.one (Rp.upd (.inl ⟨ys,hy6⟩) q nC r6))
     ·rcases hcc with rfl | rfl
      ·refine ⟨Jw.mpr ⟨cB.1,c6.1,fun x hx y' hy' hxy=>?_⟩,fun x hx=>?_⟩
       ·subst hxy
        rcases c6.2 x hy' with w | ⟨_,w,_⟩
        ·obtain ⟨o,ho⟩:=(Rps.mut qs (Rps.same s25 qs ry) x hx).some
         rw [ho] at w;cases w
        ·cases w
       ·rcases List.mem_append.mp hx with hx | hx
        ·exact cB.2 x hx
        ·exact (c6.2 x hx).elim (fun w=>.inl ((s2.trans s25).free w)) fun ⟨_,w,_⟩=>nomatch w
      ·intro x hx
       rcases List.mem_append.mp hx with hx | hx
       ·exact cB x hx
       ·exact (zbo (c6 x hx)).2
     ·exact fun z=>(JB.mp z).elim nB nC
  ·have ei:i=ps.length:=by omega
   subst ei
   rw [List.drop_length] at h2
   cases h2
   refine hno (.inl ⟨Wk.2 (Jm _),?_⟩)
   rw [JO] at hrs
   subst hrs
   refine k (.ref D) H2 (D::B) [89] (.mkL hy ry) ?_
   have hDH:H D=none:=s1.free hD
   rcases hcc with rfl | rfl
   ·refine ⟨Jy.mpr ⟨nB,cB.1⟩,fun a ha=>?_⟩
    rcases List.mem_cons.mp ha with rfl | ha
    ·exact .inl hDH
    ·exact (cB.2 a ha).elim (fun w=>.inl (s1.free w)) .inr
   ·intro a ha
    rcases List.mem_cons.mp ha with rfl | ha
    ·exact qA (A:=[a]) I (fun b hb=>by rw [Jc.mp hb];exact hDH) a (Jc.mpr rfl)
    ·exact cB a ha
variable {wi:TI}
theorem wR(cc:Cat)(hcc:cc=.mv []∨cc=.sh)(hB:∀ i ∈ Bs,i<ow.length)(hc:X.calm=true)(hi:VIt X κ G false tg iter fs)(hg:∀ C s₀ H₀ fp,VG [109] [85] G Bs tg bnd)
  (ht:∀ C s₀ H₀ fp,VTs [109] [85] G ifs t)(he:∀ C s₀ H₀ fp,VE [109] [85] G cc elt f)
  (ok:zbS js scope X.env.kindOf X.N=true:=by first | rfl | decide +kernel)(hs:∀ x,foldedSetIterable iter X.env x=pure x:=by intro _;rfl):
  VE X κ G cc [43] (fLC fs ow.length js bnd t f):=
 (zmF (own:=ow) (js:=js) hc hi hg ht he ok hs).imp fun σ H Q h=>zdY hcc hB σ H Q h
theorem zcv{i:Nat}{y:Str}{py spos:Pos}(cc:Cat)(hN:X.N.Nodup)(hi':X.N[i]?=some y)(hx:Loc X.env.scope y)(hcc:cc=.mv []∨cc=.sh)(hB:∀ i ∈ Bs,i<ow.length)(hc:X.calm=true)(hi:VIt X κ G false tg iter fs)(hg:∀ C s₀ H₀ fp,VG [109] [85] G Bs tg bnd)
  (ht:∀ C s₀ H₀ fp,VTs [109] [85] G ifs t)(he:∀ C s₀ H₀ fp,VE [109] [85] G cc elt f)
  (ok:zbS js scope X.env.kindOf X.N=true:=by first | rfl | decide +kernel)(hs:∀ x,foldedSetIterable iter X.env x=pure x:=by intro _;rfl)
  (hsw:swapsWith [43] (some (.Name y py)) spos.line X.env=pure true:=by rfl)(hf:X.fn y=true∨X.env.scope.names.lookup y=some .local:=by first | exact .inl rfl | exact .inr rfl | assumption):
  PS X (.Assign [.Name y py] [43] spos) (zaM (tV X.K κ G cc (fLC fs ow.length js bnd t f)) (j6 i)):=
 (zlC (own:=ow) (js:=js) hN hi' hx hc hi hg ht he ok hs hsw hf).imp fun D σ H h=>zdY hcc hB σ H _ h
end
theorem zaY{tg:TG}(h:PS X st (zaM (tV X.K κ G [33] f) tg)):PS X st (zaM (tV X.K κ G .sh f) tg):=h.imp fun D σ H hq_=>by
 refine hq_.elim fun own env p I hf k=>?_
 exact (.in I hf fun v H' A s r hc=>k v H' A s r (qA I fun a ha=>(hc.2 a ha).elim id fun ⟨_,hl,_⟩=>nomatch hl))
noncomputable def spV(K:PySem.W.Frag)(n:Nat)(Φ:List PV->Option PV):Sp:=fun vs H Q _=>∃ ps A z,Rps K H ps vs A/\ps.length=n/\Φ ps=some z/\∀ v H' C,Same H H'->Rp K H' z v C->C.Nodup->(∀ a ∈ C,H a=none)->Q v H'
theorem zQ{x:Str}{k n:Nat}{ps:List Str}{Φ:List PV->Option PV}{p:Pos}(hF:Fn X.prog X.w X.K X.mg X.base x k ps (spV X.K n Φ))(hr:Room k X.A)(hg:Gl X x)(ha:VA X κ G c (e::es) fs)(hl:(e::es).length=n:=by rfl)
  (hdb:[50]=false:=by decide)(he:starEach (e::es) X.env=[54]::starEach es X.env:=by rfl)(hpl:[72].any (·.1)=false:=by rfl):
  VE X κ G [33] [81] (zJ Φ fs):=(zoK hF hr hg ha.1 hdb he hpl).imp fun σ H Q hq_=>by
 refine hq_.elim fun own env z I hf k=>?_
 unfold zJ at hf
 replace hf:=Ja.mp hf;obtain ⟨qs,hp,hf⟩:=hf
 refine (.in I hp fun vs H1 A s1 r1 _=>⟨qs,A,z,by rw [JO];exact r1,(ha.2 env qs hp).trans hl,hf,fun v H' C s2 r2 nd fr=>k v H' C [89] r2 ⟨nd,fun a ha=>.inl (s1.free (fr a ha))⟩⟩)
noncomputable def fnV(m:Nat)(g:FS):List PV->Option PV:=fun ps=>(g (ps.map some++List.replicate (m - ps.length) none)).bind fun o=>match o with | .rt p _=>some p | .nx _=>some .non | _=>none
theorem VI.start{K:PySem.W.Frag}{H:Hp}{N:List Str}{ps:List PV}{vs:List V}{A:List Addr}(hk:∀ i,i<ps.length->κ i=none)(r:Rps K H ps vs A):VI K κ H (fun _=>none) (ps.map some++List.replicate (N.length - ps.length) none) (L2.start N vs) H:=by
 have hl:=r.length
 refine ⟨by simp [L2.start,hl],fun i p e=>?_,(fun _ _ z=>nomatch z),Same.refl _⟩
 by_cases hi:i<ps.length
 ·rw [List.getElem?_append_left [141],List.getElem?_map] at e
  cases q:ps[i]? with
  | none=>rw [q] at e;cases e
  | some p'=>
   rw [q] at e
   have:p'=p:=by simpa using e
   subst this
   obtain ⟨v,C,h1,h2,h3⟩:=r.get q
   refine ⟨v,C,?_,h2,fun _ _ _=>rfl,fun l z=>?_⟩
   ·unfold L2.start
    rw [KF (by rw [Jh,← hl];exact hi),JM,h1];rfl
   ·rw [hk i hi] at z;cases z
 ·rw [List.getElem?_append_right [141],List.getElem?_replicate] at e
  split at e<;>cases e
theorem xC{P:Program}{w:World}{K:PySem.W.Frag}{mg:Str->Option Value}{base:Heap}{x qual:Str}{st:Stmt}{f:Addr}{fd:FuncData}{N ps:List Str}{k n m:Nat}(O:List Nat)(hn:ps.length=n)(hm:N.length=m)(hO:∀ i ∈ O,n≤i)(hF:Fun K x qual st f fd)(S:FnScope N ps (zR st))
  (body:∀ (cdv:Value) (A:Around) (outer:List PySem.Env) (s:Shared) (H:Hp) (E:XK),Room k (A.deeper (envOfC qual (zR st) s.heap.objs.size f cdv))->VSs (zfX CX0 P w K mg base N qual (zR st) f cdv A outer s H E).nox (ko O) H (vG st) g):
  FnOk P w K mg base CX0 (k+1) f fd ps (spV K n (fnV m g)):=by
 subst hn hm
 refine hF.ok S (fun vs H Q E ⟨qs,A,z,r,hl,_⟩=>by rw [← r.length,hl]) fun cdv A outer s H vs Q E hr ⟨qs,B,z,r,hl,hΦ,k⟩=>⟨_,body cdv A outer s H E hr,?_⟩
 unfold fnV at hΦ
 replace hΦ:=Ja.mp hΦ;obtain ⟨o,ho,hΦ⟩:=hΦ
 refine ⟨fun _=>none,_,o,VI.start (N:=N) (fun i hi=>zfM fun z=>absurd (hO i z) [12]) r,ho,?_⟩
 cases o with
 | rt p e=>cases hΦ;exact fun v H' C own' σ' I' r' nd fr=>k v H' C I'.same r' nd fun a ha=>(fr a ha).1
 | nx e=>cases hΦ;exact fun own' σ' H' I' _=>k .non H' [] I'.same .mkN .nil [19]
 | bk e=>cases hΦ
 | ct e=>cases hΦ
end
end F
namespace L2
open PySem PySem.Spec PyProof.Rows
noncomputable def zfx(K:PySem.W.Frag):R2:=fun x y H Q=>∃ a b ys,x=.ref a/\y=.ref b/\SqT K H a []/\SqT K H b ys/\Q (.ref b) H
theorem zkP{prog:Program}{w:World}{A:Around}{E:Value->Shared->Prop}{s:Shared}{t b:Addr}{us:List Value}{Q:Value->Shared->Prop}(ht:IsTup s.heap t #[])(hb:IsTup s.heap b us.toArray)(k:Q (.ref b) s):wpAny [35] A (binaryOp .Add (.ref t) (.ref b)) Q E s:=by
 obtain ⟨⟨c1,o1,a1,z1⟩,g1,hc1,n1,hd1⟩:=id ht
 obtain ⟨⟨c2,o2,a2,z2⟩,g2,hc2,n2,hd2⟩:=id hb
 simp only at hc1 hd1 hc2 hd2
 subst hc1 hd1 hc2 hd2
 exact concat_meets ⟨_,g1,rfl⟩ ⟨_,g2,rfl⟩ noFill_tuple_add seq_tuple_add PySem.F.slot_tuple_add PySem.F.entry_tuple_add (PySem.F.args_tuple_add_2 _ _) (tuple_addW0 t b #[] us.toArray n1 n2 o1 o2 z1 z2 rfl) ⟨g1,g2,k⟩
theorem op_catT0{X:Cx}:OpR X [322] (zfx X.K):=by
 intro pins s σ H x y v u Q I rx ry h
 obtain ⟨a,b,ys,rfl,rfl,ha,hb,q⟩:=h
 cases rx
 cases ry
 obtain ⟨its,r1,p1,_⟩:=I.tuple ha
 obtain ⟨its2,r2,p2,_⟩:=I.tuple hb
 have:=r1.nil_iff.mpr rfl
 subst this
 exact zkP p1 p2 ⟨.ref b,H,I,rfl,q⟩
end L2
namespace F
open PySem PySem.Spec PyProof.Rows L2
noncomputable def yE:PV->PV->Option PV
 | .int i,.int j=>some (.int (i+j))
 | .str x,.str y=>if x.length+y.length≤100000 then some (.str (x++y)) else none
 | .tup xs,.tup ys=>if (isDatas xs && isDatas ys && decide (xs.length+ys.length≤100000))=true then some (.tup (xs++ys)) else none
 | .lst xs,.lst ys=>if (isDatas xs && isDatas ys && decide (xs.length+ys.length≤100000))=true then some (.lst (xs++ys)) else none
 | _,_=>none
noncomputable def wI:PV->PV->Option PV
 | .int i,.int j=>some (.int (i - j))
 | _,_=>none
instance (a b:Int):Decidable (IntMulOk a b):=by unfold IntMulOk;infer_instance
noncomputable def wS:PV->PV->Option PV
 | .int i,.int j=>if IntMulOk i j then some (.int (i * j)) else none
 | .lst xs,.int k=>if (isDatas xs=true/\-(2 ^ 63)≤k/\k<2 ^ 63/\xs.length * k.toNat≤100000) then some (.lst (List.replicate k.toNat xs).flatten) else none
 | _,_=>none
noncomputable def wJ:PV->PV->Option PV
 | .int i,.int j=>if 0<j/\j<1073741824 then some (.int (i / j)) else none
 | _,_=>none
noncomputable def xc:PV->PV->Option PV
 | .int i,.int j=>if 0<j then some (.int (i % j)) else none
 | _,_=>none
noncomputable def vLt:PV->PV->Option PV
 | .int i,.int j=>some (.bl (decide (i<j)))
 | _,_=>none
noncomputable def vLe:PV->PV->Option PV
 | .int i,.int j=>some (.bl (decide (i≤j)))
 | _,_=>none
noncomputable def vGt:PV->PV->Option PV
 | .int i,.int j=>some (.bl (decide (j<i)))
 | _,_=>none
noncomputable def vGe:PV->PV->Option PV
 | .int i,.int j=>some (.bl (decide (j≤i)))
 | _,_=>none
noncomputable def ju:PV->Option PV
 | .int i=>some (.int (-i))
 | _=>none
mutual
noncomputable def vC:PV->PyData
 | .non=>.none
 | .bl b=>.bool b
 | .int i=>.int i
 | .str x=>.str x
 | .ty _=>.none
 | .any=>.none
 | .pen _ _=>.none
 | .adr _=>.none
 | .tup xs=>.tuple (toPys xs)
 | .lst xs=>.list (toPys xs)
 | .fls xs=>.list (toPys xs)
 | .dct _ _=>.none
noncomputable def toPys:List PV->List PyData
 | []=>[]
 | x::r=>vC x::toPys r
end
mutual
noncomputable def kM:PV->Bool
 | .ty _=>false
 | .any=>false
 | .pen _ _=>false
 | .adr _=>false
 | .dct _ _=>false
 | .tup xs=>okPys xs
 | .lst xs=>okPys xs
 | .fls xs=>okPys xs
 | _=>true
noncomputable def okPys:List PV->Bool
 | []=>true
 | x::r=>kM x && okPys r
end
noncomputable def kU(p:PV):Bool:=kM p && (vC p).canLay0 && decide ((vC p).depth≤64)
noncomputable def eqP(p q:PV):Bool:=PyData.eqv (vC p) (vC q)
noncomputable def vEq(p q:PV):Option PV:=if (kU p && kU q)=true then some (.bl (eqP p q)) else none
noncomputable def vNe(p q:PV):Option PV:=if (kU p && kU q)=true then some (.bl (!eqP p q)) else none
section
variable {K:PySem.W.Frag} {H:Hp}
mutual
theorem Rp.rep:∀ (p:PV) {v:V} {A:List Addr},kM p=true->Rp K H p v A->Rep K H v (vC p)
 | .non,_,_,_,h=>by rw [h.N.1];unfold vC;exact .non
 | .bl b,_,_,_,h=>by rw [h.B.1];unfold vC;exact .bl b
 | .int i,_,_,_,h=>by rw [h.I.1];unfold vC;exact .int i
 | .str x,_,_,_,h=>by rw [h.S.1];unfold vC;exact .str x
 | .ty _,_,_,d,_=>by simp [kM] at d
 | .any,_,_,d,_=>by simp [kM] at d
 | .pen _ _,_,_,d,_=>by simp [kM] at d
 | .adr _,_,_,d,_=>by simp [kM] at d
 | .dct _ _,_,_,d,_=>by simp [kM] at d
 | .tup ps,_,_,d,h=>by
  unfold kM at d
  obtain ⟨a,xs,rfl,h2,h3⟩:=h.T
  unfold vC
  exact .tuple h2 (Rps.rep ps d h3)
 | .lst ps,_,_,d,h=>by
  unfold kM at d
  obtain ⟨a,xs,B,rfl,h2,rfl,h3⟩:=h.L
  unfold vC
  exact .list (SqL.of h2) (Rps.rep ps d h3)
 | .fls ps,_,_,d,h=>by
  unfold kM at d
  obtain ⟨a,xs,rfl,h2,h3⟩:=h.Fl
  unfold vC
  exact .list h2.seq (Rps.rep ps d h3)
theorem Rps.rep:∀ (ps:List PV) {vs:List V} {A:List Addr},okPys ps=true->Rps K H ps vs A->Reps K H vs (toPys ps)
 | [],_,_,_,h=>by rw [h.inv0.1];unfold toPys;exact .nil
 | p::ps,_,_,d,h=>by
  unfold okPys at d
  rw [JS] at d
  obtain ⟨v,r,A1,A2,rfl,h2,h3,h4⟩:=h.inv
  unfold toPys
  exact .cons (Rp.rep p d.1 h3) (Rps.rep ps d.2 h4)
end
end
noncomputable def vc:PV->Bool
 | .non=>true
 | .bl _=>true
 | .int _=>true
 | .str _=>true
 | _=>false
noncomputable def eqS:PV->PV->Bool
 | .non,.non=>true
 | .bl a,.bl b=>a == b
 | .bl a,.int b=>(if a then 1 else 0) == b
 | .int a,.bl b=>a == (if b then 1 else 0)
 | .int a,.int b=>a == b
 | .str a,.str b=>a == b
 | _,_=>false
noncomputable def inP(p:PV)(xs:List PV):Bool:=xs.any fun y=>eqS y p
noncomputable def ur(ks:List Key)(k:Key):Bool:=ks.any fun x=>decide (x=k)
theorem zkv(ks:List Key)(k:Key):ur ks k=true ↔ k ∈ ks:=by
 unfold ur
 rw [KW]
 constructor
 ·rintro ⟨x,hx,e⟩
  rw [← of_decide_eq_true e];exact hx
 ·intro h;exact ⟨k,h,by simp⟩
noncomputable def vIn(p:PV):PV->Option Bool
 | .lst xs=>if (vc p && xs.all vc)=true then some (inP p xs) else none
 | .fls xs=>if (vc p && xs.all vc)=true then some (inP p xs) else none
 | .tup xs=>if (vc p && xs.all vc)=true then some (inP p xs) else none
 | .dct ks _=>match p with | .non=>some false | .int i=>some (ur ks (.inl i)) | .str x=>some (ur ks (.inr x)) | _=>none
 | _=>none
noncomputable def wT(p q:PV):Option PV:=(vIn p q).map .bl
noncomputable def xP(p q:PV):Option PV:=(vIn p q).map fun b=>.bl (!b)
noncomputable def zmJ:PV->Bool
 | .non=>true
 | _=>false
noncomputable def zhx(p:PV):PV->Option PV
 | .non=>match p with | .any=>none | p=>some (.bl (zmJ p))
 | _=>none
noncomputable def zdQ(p:PV):PV->Option PV
 | .non=>match p with | .any=>none | p=>some (.bl (!zmJ p))
 | _=>none
section
variable {X:Cx} {K:PySem.W.Frag}
theorem OpV.int{r:R2}{g:PV->PV->Option PV}(h:∀ p q z,g p q=some z->∃ i j,p=.int i/\q=.int j/\∃ w,(∀ K H,Rp K H z w [])/\∀ H Q,Q w H->r [88] (.int j) H Q):OpV K r g:=by
 intro H p q x y A B z Q r1 r2 e k
 obtain ⟨i,j,rfl,rfl,w,hw,hr⟩:=h p q z e
 rw [r1.I.1,r2.I.1]
 exact hr H Q (k w H [] [31] (hw _ _) .nil [19])
theorem xT:OpV K (rI0 fun i j=>.int (i - j)) wI:=OpV.int fun p q z e=>by
 unfold wI at e
 split at e
 case h_2=>cases e
 cases e
 exact ⟨_,_,rfl,rfl,_,fun _ _=>.mkI _,fun H Q h=>⟨_,_,rfl,rfl,h⟩⟩
theorem wl:OpV K (rI zpx fun i j=>.int (i / j)) wJ:=OpV.int fun p q z e=>by
 unfold wJ at e
 split at e
 case h_2=>cases e
 split at e
 ·rename_i hc;cases e
  exact ⟨_,_,rfl,rfl,_,fun _ _=>.mkI _,fun H Q h=>⟨_,_,rfl,rfl,hc,h⟩⟩
 ·cases e
theorem yn:OpV K (rI (fun _ j=>0<j) fun i j=>.int (i % j)) xc:=OpV.int fun p q z e=>by
 unfold xc at e
 split at e
 case h_2=>cases e
 split at e
 ·rename_i hc;cases e
  exact ⟨_,_,rfl,rfl,_,fun _ _=>.mkI _,fun H Q h=>⟨_,_,rfl,rfl,hc,h⟩⟩
 ·cases e
theorem zjK:OpV K (rI0 fun i j=>.bl (decide (i<j))) vLt:=OpV.int fun p q z e=>by
 unfold vLt at e
 split at e
 case h_2=>cases e
 cases e
 exact ⟨_,_,rfl,rfl,_,fun _ _=>.mkB _,fun H Q h=>⟨_,_,rfl,rfl,h⟩⟩
theorem zmG:OpV K (rI0 fun i j=>.bl (decide (i≤j))) vLe:=OpV.int fun p q z e=>by
 unfold vLe at e
 split at e
 case h_2=>cases e
 cases e
 exact ⟨_,_,rfl,rfl,_,fun _ _=>.mkB _,fun H Q h=>⟨_,_,rfl,rfl,h⟩⟩
theorem qz:OpV K (rI0 fun i j=>.bl (decide (j<i))) vGt:=OpV.int fun p q z e=>by
 unfold vGt at e
 split at e
 case h_2=>cases e
 cases e
 exact ⟨_,_,rfl,rfl,_,fun _ _=>.mkB _,fun H Q h=>⟨_,_,rfl,rfl,h⟩⟩
theorem zoO:OpV K (rI0 fun i j=>.bl (decide (j≤i))) vGe:=OpV.int fun p q z e=>by
 unfold vGe at e
 split at e
 case h_2=>cases e
 cases e
 exact ⟨_,_,rfl,rfl,_,fun _ _=>.mkB _,fun H Q h=>⟨_,_,rfl,rfl,h⟩⟩
theorem jG:UnV K (rU fun i=>.int (-i)) ju:=by
 intro H p x A z Q r e k
 cases p<;>first | cases e | skip
 exact ⟨_,r.I.1,k _ H [] [31] (.mkI _) .nil [19]⟩
theorem vm{H:Hp}{ps:List PV}{xs:List V}{z:PV}{Q:VK}(hd:isDatas ps=true){A:List Addr}(r:Rps K H ps xs A)(k:∀ v H' C,Same H H'->Rp K H' (.lst ps) v C->C.Nodup->(∀ a ∈ C,H a=none)->Q v H'):∀ p,H p=none->Q (.ref p) (upd H p [107]):=fun p hp=>by
 have e:=Rps.data ps hd r
 subst e
 have s:Same H (upd H p [107]):=z6 [31] hp
 exact k _ _ [p] s (.mkL zZ (Rps.same s ps r)) [19] (by simpa using hp)
theorem zau{H:Hp}{ps:List PV}{xs:List V}{z:PV}{Q:VK}(hd:isDatas ps=true){A:List Addr}(r:Rps K H ps xs A)(k:∀ v H' C,Same H H'->Rp K H' (.tup ps) v C->C.Nodup->(∀ a ∈ C,H a=none)->Q v H'):∀ p,H p=none->Q (.ref p) (upd H p (.tup xs)):=fun p hp=>by
 have e:=Rps.data ps hd r
 subst e
 have s:Same H (upd H p (.tup xs)):=z6 [31] hp
 exact k _ _ [] s (.mkT (SqT.of zZ) (Rps.same s ps r)) [19] [19]
theorem z5:OpR X [322] (fun x y H Q=>(rI0 fun i j=>.int (i+j)) x y H Q∨(znf x y H Q∨(zjr X.K x y H Q∨(zfx X.K x y H Q∨∃ i j,x=.str i/\y=.str j/\i.length+j.length≤sizeLine/\Q (.str (i++j)) H)))):=op_add.or (op_cat.or (op_catT.or (op_catT0.or zfC)))
theorem z4:OpV K (fun x y H Q=>(rI0 fun i j=>.int (i+j)) x y H Q∨(znf x y H Q∨(zjr K x y H Q∨(zfx K x y H Q∨∃ i j,x=.str i/\y=.str j/\i.length+j.length≤sizeLine/\Q (.str (i++j)) H)))) yE:=by
 intro H p q x y A B z Q r1 r2 e k
 unfold yE at e
 split at e
 case h_5=>cases e
 ·cases e
  exact .inl ⟨_,_,r1.I.1,r2.I.1,k _ H [] [31] (.mkI _) .nil [19]⟩
 ·split at e
  ·rename_i hc;cases e
   exact .inr (.inr (.inr (.inr ⟨_,_,r1.S.1,r2.S.1,by rw [sizeLine_eq];omega,k _ H [] [31] (.mkS _) .nil [19]⟩)))
  ·cases e
 ·split at e
  ·rename_i hc;cases e
   simp only [Bool.and_eq_true,decide_eq_true_eq] at hc
   obtain ⟨⟨d1,d2⟩,hl⟩:=hc
   obtain ⟨a,xs,e1,h1,g1⟩:=r1.T
   obtain ⟨b,ys,e2,h2,g2⟩:=r2.T
   have l1:=g1.length
   have l2:=g2.length
   by_cases hx0:xs=[]
   ·subst hx0
    rename_i ps qs
    have:ps=[]:=by cases ps with | nil=>rfl | cons _ _=>simp at l1
    subst this
    rw [List.nil_append] at k
    have e:=Rps.data qs d2 g2
    subst e
    exact .inr (.inr (.inr (.inl ⟨a,b,ys,e1,e2,h1,h2,k _ H [] [31] (.mkT h2 g2) .nil [19]⟩)))
   refine .inr (.inr (.inl ⟨a,b,xs,ys,e1,e2,h1,h2,hx0,by rw [sizeLine_eq];omega,fun z=>?_,fun _=>?_⟩))
   ·subst z
    rename_i ps qs
    have:qs=[]:=by cases qs with | nil=>rfl | cons _ _=>simp at l2
    subst this
    rw [JO] at k
    have e:=Rps.data ps d1 g1
    subst e
    exact k _ H [] [31] (.mkT h1 g1) .nil [19]
   ·exact zau (by rw [wB,d1,d2];rfl) (g1.append g2) k (z:=.non)
  ·cases e
 ·split at e
  ·rename_i hc;cases e
   simp only [Bool.and_eq_true,decide_eq_true_eq] at hc
   obtain ⟨⟨d1,d2⟩,hl⟩:=hc
   obtain ⟨a,xs,B1,e1,h1,_,g1⟩:=r1.L
   obtain ⟨b,ys,B2,e2,h2,_,g2⟩:=r2.L
   have l1:=g1.length
   have l2:=g2.length
   exact .inr (.inl ⟨a,b,xs,ys,e1,e2,h1,h2,by rw [sizeLine_eq];omega,vm (by rw [wB,d1,d2];rfl) (g1.append g2) k (z:=.non)⟩)
  ·cases e
theorem xu:OpR X (binaryOp .Mult) (fun x y H Q=>(rI IntMulOk fun i j=>.int (i * j)) x y H Q∨znd x y H Q):=op_mulB.or znA
theorem Rps.rep_{H:Hp}{ps:List PV}{xs:List V}(r:Rps K H ps xs []):∀ k:Nat,Rps K H (List.replicate k ps).flatten (List.replicate k xs).flatten []
 | 0=>.nil
 | k+1=>by
  rw [Kd,Kd,Kv,Kv]
  exact r.append (Rps.rep_ r k)
theorem zad{ps:List PV}(h:isDatas ps=true):∀ k:Nat,isDatas (List.replicate k ps).flatten=true
 | 0=>rfl
 | k+1=>by rw [Kd,Kv,wB,h,zad h k];rfl
theorem xt:OpV K (fun x y H Q=>(rI IntMulOk fun i j=>.int (i * j)) x y H Q∨znd x y H Q) wS:=by
 intro H p q x y A B z Q r1 r2 e k
 unfold wS at e
 split at e
 case h_3=>cases e
 ·split at e
  ·rename_i hc;cases e
   exact .inl ⟨_,_,r1.I.1,r2.I.1,hc,k _ H [] [31] (.mkI _) .nil [19]⟩
  ·cases e
 ·split at e
  ·rename_i hc;cases e
   obtain ⟨d,h1,h2,h3⟩:=hc
   obtain ⟨a,xs,B1,e1,g0,_,g1⟩:=r1.L
   have e:=Rps.data _ d g1
   subst e
   have l1:=g1.length
   exact .inr ⟨a,_,xs,e1,r2.I.1,g0,h1,h2,by rw [sizeLine_eq,← l1];omega,vm (zad d _) (Rps.rep_ g1 _) k (z:=.non)⟩
  ·cases e
theorem vT:OpV K (fun x y H Q=>∃ d e,Rep K H x d/\Rep K H y e/\d.canLay0=true/\e.canLay0=true/\d.depth≤64/\Q (.bl (PyData.eqv d e)) H) vEq:=by
 intro H p q x y A B z Q r1 r2 e k
 unfold vEq at e
 split at e
 ·rename_i hc;cases e
  unfold kU at hc
  simp only [Bool.and_eq_true,decide_eq_true_eq] at hc
  obtain ⟨⟨⟨a1,a2⟩,a3⟩,⟨b1,b2⟩,b3⟩:=hc
  exact ⟨_,_,Rp.rep p a1 r1,Rp.rep q b1 r2,a2,b2,a3,k _ H [] [31] (.mkB _) .nil [19]⟩
 ·cases e
theorem qy:OpV K (fun x y H Q=>∃ d e,Rep K H x d/\Rep K H y e/\d.canLay0=true/\e.canLay0=true/\d.depth≤64/\Q (.bl (!PyData.eqv d e)) H) vNe:=by
 intro H p q x y A B z Q r1 r2 e k
 unfold vNe at e
 split at e
 ·rename_i hc;cases e
  unfold kU at hc
  simp only [Bool.and_eq_true,decide_eq_true_eq] at hc
  obtain ⟨⟨⟨a1,a2⟩,a3⟩,⟨b1,b2⟩,b3⟩:=hc
  exact ⟨_,_,Rp.rep p a1 r1,Rp.rep q b1 r2,a2,b2,a3,k _ H [] [31] (.mkB _) .nil [19]⟩
 ·cases e
theorem zax{H:Hp}{p:PV}{v:V}{A:List Addr}(h:vc p=true)(r:Rp K H p v A):jB v=true:=by
 cases p<;>first | (simp [vc] at h;done) | skip
 ·rw [r.N.1];rfl
 ·rw [r.B.1];rfl
 ·rw [r.I.1];rfl
 ·rw [r.S.1];rfl
theorem zpg{H:Hp}{p q:PV}{v w:V}{A B:List Addr}(h:vc p=true)(h':vc q=true)(r:Rp K H p v A)(r':Rp K H q w B):eqV v w=eqS p q:=by
 cases p<;>cases q<;>first | (simp [vc] at h;done) | (simp [vc] at h';done) | skip
 all_goals first
  | rw [r.N.1,r'.N.1];rfl
  | rw [r.N.1,r'.B.1];rfl
  | rw [r.N.1,r'.I.1];rfl
  | rw [r.N.1,r'.S.1];rfl
  | rw [r.B.1,r'.N.1];rfl
  | rw [r.B.1,r'.B.1];rfl
  | rw [r.B.1,r'.I.1];rfl
  | rw [r.B.1,r'.S.1];rfl
  | rw [r.I.1,r'.N.1];rfl
  | rw [r.I.1,r'.B.1];rfl
  | rw [r.I.1,r'.I.1];rfl
  | rw [r.I.1,r'.S.1];rfl
  | rw [r.S.1,r'.N.1];rfl
  | rw [r.S.1,r'.B.1];rfl
  | rw [r.S.1,r'.I.1];rfl
  | rw [r.S.1,r'.S.1];rfl
theorem zgR{H:Hp}{p:PV}{v:V}{A:List Addr}(h:vc p=true)(r:Rp K H p v A):∀ {ps:List PV} {xs:List V} {B:List Addr},ps.all vc=true->Rps K H ps xs B->xs.all jB=true/\inV v xs=inP p ps
 | [],_,_,_,g=>by rw [g.inv0.1];exact ⟨rfl,rfl⟩
 | q::ps,_,_,hq,g=>by
  obtain ⟨w,r',A1,A2,rfl,_,h3,h4⟩:=g.inv
  rw [List.all_cons,JS] at hq
  obtain ⟨i1,i2⟩:=zgR h r hq.2 h4
  refine ⟨by rw [List.all_cons,zax hq.1 h3,i1];rfl,?_⟩
  unfold inV inP at i2 ⊢
  rw [Ki,Ki,zpg hq.1 h h3 r,i2]
theorem zaq:∀ {ks:List Key} {xs:List V} (h:ks.length=xs.length) (k:Key),(wP [126] k).isSome=ur ks k
 | [],[],_,_=>rfl
 | [],_::_,h,_=>by simp at h
 | _::_,[],h,_=>by simp at h
 | k'::ks,x::xs,h,k=>by
  have ih:=zaq (ks:=ks) (xs:=xs) [220] k
  rw [← kh] at ih ⊢
  unfold ur at ih ⊢
  rw [Ka,Ki,Ki,ih]
noncomputable def zlw(K:PySem.W.Frag)(neg:Bool):R2:=fun x y H Q=>∃ b,(zmw K H y x b∨∃ a kvs,x=.non/\y=.ref a/\H a=some [94]/\b=false)/\Q (.bl (if neg then !b else b)) H
theorem vV(hu:X.A.units+1<cLine):OpR X (compareOp .In) (zlw X.K false):=by
 intro pins s σ H x y v u Q I rx ry h
 obtain ⟨b,h | ⟨a,kvs,rfl,rfl,h,rfl⟩,q⟩:=h
 ·exact zhP hu pins s σ H x y v u Q I rx ry ⟨b,h,q⟩
 ·exact zek hu pins s σ H _ _ v u Q I rx ry ⟨a,rfl,.inr ⟨kvs,rfl,h,q⟩⟩
theorem vU(hu:X.A.units+1<cLine):OpR X (compareOp .NotIn) (zlw X.K true):=by
 intro pins s σ H x y v u Q I rx ry h
 obtain ⟨b,h | ⟨a,kvs,rfl,rfl,h,rfl⟩,q⟩:=h
 ·exact zdg hu pins s σ H x y v u Q I rx ry ⟨b,h,q⟩
 ·cases ry
  cases rx
  obtain ⟨z,hd,vs,rel,dd⟩:=qE I.hok h
  exact wpAny_notIn_of (knd:=zde X.prog X.w) (k:=none) rfl hd (zex dd.mapOf) ⟨.bl true,H,I.tok _,rfl,q⟩
theorem zmK{H:Hp}{p q:PV}{x y:V}{A B:List Addr}{b:Bool}(r1:Rp K H p x A)(r2:Rp K H q y B)(e:vIn p q=some b):zmw K H y x b∨∃ a kvs,x=.non/\y=.ref a/\H a=some [94]/\b=false:=by
 cases q<;>first | (cases e;done) | skip
 ·simp only [vIn] at e
  split at e
  ·rename_i hc;cases e
   rw [JS] at hc
   obtain ⟨a,xs,e1,g0,g1⟩:=r2.T
   obtain ⟨i1,i2⟩:=zgR hc.1 r1 hc.2 g1
   exact .inl (.inl ⟨a,xs,e1,.inr g0,zax hc.1 r1,i1,i2.symm⟩)
  ·cases e
 ·simp only [vIn] at e
  split at e
  ·rename_i hc;cases e
   rw [JS] at hc
   obtain ⟨a,xs,B1,e1,g0,_,g1⟩:=r2.L
   obtain ⟨i1,i2⟩:=zgR hc.1 r1 hc.2 g1
   exact .inl (.inl ⟨a,xs,e1,.inl (SqL.of g0),zax hc.1 r1,i1,i2.symm⟩)
  ·cases e
 ·simp only [vIn] at e
  split at e
  ·rename_i hc;cases e
   rw [JS] at hc
   obtain ⟨a,xs,e1,g0,g1⟩:=r2.Fl
   obtain ⟨i1,i2⟩:=zgR hc.1 r1 hc.2 g1
   exact .inl (.inl ⟨a,xs,e1,.inl g0.seq,zax hc.1 r1,i1,i2.symm⟩)
  ·cases e
 ·obtain ⟨a,xs,B1,e1,g0,gl,_,g1⟩:=r2.D
  have hl:=g1.length
  cases p<;>first | (cases e;done) | skip
  ·cases e
   exact .inr ⟨a,_,r1.N.1,e1,g0,rfl⟩
  ·cases e
   refine .inl (.inr ⟨a,_,e1,by rw [r1.I.1];exact DGet.k (k:=Sum.inl _) g0,?_⟩)
   rw [zaq [12]]
  ·cases e
   refine .inl (.inr ⟨a,_,e1,by rw [r1.S.1];exact DGet.k (k:=Sum.inr _) g0,?_⟩)
   rw [zaq [12]]
theorem vS:OpV K (zlw K false) wT:=by
 intro H p q x y A B z Q r1 r2 e k
 unfold wT at e
 cases hb:vIn p q with
 | none=>rw [hb] at e;cases e
 | some b=>rw [hb] at e;cases e;exact ⟨b,zmK r1 r2 hb,k _ H [] [31] (.mkB _) .nil [19]⟩
theorem vR:OpV K (zlw K true) xP:=by
 intro H p q x y A B z Q r1 r2 e k
 unfold xP at e
 cases hb:vIn p q with
 | none=>rw [hb] at e;cases e
 | some b=>rw [hb] at e;cases e;exact ⟨b,zmK r1 r2 hb,k _ H [] [31] (.mkB _) .nil [19]⟩
theorem zjL:OpV K (fun x y H Q=>y=.non/\Q (.bl (decide (x=.non))) H) zhx:=by
 intro H p q x y A B z Q r1 r2 e k
 cases q<;>first | (cases e;done) | skip
 refine ⟨r2.N.1,?_⟩
 cases p
 case non=>cases e;rw [r1.N.1];exact k _ H [] [31] (.mkB _) .nil [19]
 case any=>cases e
 all_goals
  cases e
  have hx:¬ x=V.non:=by
   intro hx
   subst hx
   first
    | (have:=r1.B.1;cases this;done)
    | (have:=r1.I.1;cases this;done)
    | (have:=r1.S.1;cases this;done)
    | (have:=r1.Ty.1;cases this;done)
    | (obtain ⟨_,_,z,_⟩:=r1.T;cases z;done)
    | (obtain ⟨_,_,_,z,_⟩:=r1.L;cases z;done)
    | (obtain ⟨_,_,z,_⟩:=r1.Fl;cases z;done)
    | (obtain ⟨_,_,_,z,_⟩:=r1.D;cases z;done)
    | (have:=r1.P.1;cases this;done)
    | (have:=r1.Ad.1;cases this;done)
  rw [decide_eq_false hx]
  exact k _ H [] [31] (.mkB _) .nil [19]
theorem zgF:OpV K (fun x y H Q=>y=.non/\Q (.bl (!decide (x=.non))) H) zdQ:=by
 intro H p q x y A B z Q r1 r2 e k
 cases q<;>first | (cases e;done) | skip
 refine ⟨r2.N.1,?_⟩
 cases p
 case non=>cases e;rw [r1.N.1];exact k _ H [] [31] (.mkB _) .nil [19]
 case any=>cases e
 all_goals
  cases e
  have hx:¬ x=V.non:=by
   intro hx
   subst hx
   first
    | (have:=r1.B.1;cases this;done)
    | (have:=r1.I.1;cases this;done)
    | (have:=r1.S.1;cases this;done)
    | (have:=r1.Ty.1;cases this;done)
    | (obtain ⟨_,_,z,_⟩:=r1.T;cases z;done)
    | (obtain ⟨_,_,_,z,_⟩:=r1.L;cases z;done)
    | (obtain ⟨_,_,z,_⟩:=r1.Fl;cases z;done)
    | (obtain ⟨_,_,_,z,_⟩:=r1.D;cases z;done)
    | (have:=r1.P.1;cases this;done)
    | (have:=r1.Ad.1;cases this;done)
  rw [decide_eq_false hx]
  exact k _ H [] [31] (.mkB _) .nil [19]
end
end F
namespace L2
theorem PE.or{X:Cx}{e:PySem.Expr}{t t':TE}(h:PE X e t)(h':PE X e t'):PE X e (fun σ H Q=>t σ H Q∨t' σ H Q):=fun pins s σ H Q I hw=>hw.elim (h pins s σ H Q I) (h' pins s σ H Q I)
theorem PS.or{X:Cx}{e:PySem.Stmt}{t t':TS}(h:PS X e t)(h':PS X e t'):PS X e (fun D σ H=>t D σ H∨t' D σ H):=fun pins s σ H D I hw=>hw.elim (h pins s σ H D I) (h' pins s σ H D I)
end L2
namespace F
open PySem PySem.Spec PyProof.Rows L2
noncomputable def u6(ks:List Key)(vs:List PV)(k:Key):Option PV:=((ks.zip vs).find? fun kv=>decide (kv.1=k)).map (·.2)
noncomputable def vIx:PV->PV->Option PV
 | .lst xs,.int i=>atI xs i
 | .fls xs,.int i=>atI xs i
 | .tup xs,.int i=>atI xs i
 | .str z,.int i=>if z.length≤100000 then (atI z.cps.toList i).map fun c=>.str ⟨#[c]⟩ else none
 | .dct ks vs,.int i=>u6 ks vs (.inl i)
 | .dct ks vs,.str x=>u6 ks vs (.inr x)
 | _,_=>none
theorem Cat.sub{c:Cat}{H:Hp}{own:Addr->Option Nat}{A C:List Addr}(h:c.ok H own A)(s:C.Sublist A):c.ok H own C:=by
 cases c with
 | mv L=>exact ⟨h.1.sublist s,fun a ha=>h.2 a (s.subset ha)⟩
 | sh=>exact fun a ha=>h a (s.subset ha)
 | bo=>trivial
section
variable {K:PySem.W.Frag} {H:Hp}
theorem Rps.atI{ps:List PV}{xs:List V}{A:List Addr}{i:Int}{p:PV}(r:Rps K H ps xs A)(h:L2.atI ps i=some p):∃ v C,L2.atI xs i=some v/\Rp K H p v C/\C.Sublist A:=by
 unfold L2.atI at h ⊢
 rw [← r.length]
 cases e:ixN ps.length i with
 | none=>rw [e] at h;cases h
 | some j=>
  rw [e] at h
  exact r.get h
theorem kd:∀ {ks:List Key} {ps:List PV} {xs:List V} {A:List Addr} {k:Key} {p:PV},Rps K H ps xs A->u6 ks ps k=some p->∃ v C,wP [126] k=some v/\Rp K H p v C/\C.Sublist A
 | [],_,_,_,_,_,_,h=>by simp [u6] at h
 | k'::ks,[],_,_,_,_,_,h=>by simp [u6] at h
 | k'::ks,q::ps,_,_,k,p,r,h=>by
  obtain ⟨w,r',A1,A2,rfl,rfl,h3,h4⟩:=r.inv
  unfold u6 at h
  rw [Ka,Kt] at h
  by_cases hk:k'=k
  ·subst hk
   simp at h
   subst h
   exact ⟨w,A1,by rw [Ka];exact kg rfl,h3,List.sublist_append_left _ _⟩
  ·have:decide (k'=k)=false:=decide_eq_false hk
   rw [show decide ((k',q).1=k)=false from this] at h
   obtain ⟨v,C,g1,g2,g3⟩:=kd (ks:=ks) h4 h
   refine ⟨v,C,?_,g2,g3.trans (List.sublist_append_right _ _)⟩
   rw [Ka]
   unfold wP at g1 ⊢
   rw [Kt,show decide ((k',w).1=k)=false from this]
   exact g1
end
section
variable {X:Cx} {κ:Nat->Option Nat} {G:Hp} {c c1 c2:Cat} {a b e:Expr} {es:List Expr} {fa fb f:FE} {t u:FT} {fs:FA} {pos:Pos} {g h:FS} {st:Stmt} {wW:List Stmt}
theorem zkF{gg:PV->PV->Option PV}{env:En}{z:PV}(e:fOp gg fa fb env=some z):∃ p q,fa env=some p/\fb env=some q/\gg p q=some z:=by
 unfold fOp at e
 replace e:=Ja.mp e;obtain ⟨p,hp,e⟩:=e
 replace e:=Ja.mp e;obtain ⟨q,hq,e⟩:=e
 exact ⟨p,q,hp,hq,e⟩
theorem zT(hu:X.A.units+1<cLine)(ha:VE X κ G c a fa)(hb:VE X κ G c2 b fb)(hs:zhm b):VE X κ G c (.Subscript a b pos) (fOp vIx fa fb):=
 ((zjE zfN ha hb hs).or (zgE hu ha hb hs)).imp fun σ H Q hq_=>by
 refine hq_.elim fun own env z I e k=>?_
 obtain ⟨p,q,hp,hq,e⟩:=zkF e
 have go:∀ x H1 A,Same H H1->Rp X.K H1 p x A->c.ok H own A->∀ (R:V->Hp->Prop),(∀ y H2 B,Same H1 H2->Rp X.K H2 q y B->R y H2)->tV X.K κ G c2 fb σ H1 R:=fun x H1 A s1 r1 _ R hR=>(.in (I.grow s1) hq fun y H2 B s2 r2 _=>hR y H2 B s2 r2)
 unfold vIx at e
 split at e
 ·refine .inl (.in I hp fun x H1 A s1 r1 c1=>go x H1 A s1 r1 c1 _ fun y H2 B s2 r2=>.inl ?_)
  obtain ⟨ad,xs,B1,e1,h1,rfl,g1⟩:=(Rp.same s2 _ r1).L
  obtain ⟨v,C,h3,h4,h5⟩:=g1.atI e
  exact ⟨ad,xs,_,v,e1,r2.I.1,SqL.of h1,h3,k v H2 C [89] h4 [174]⟩
 ·refine .inl (.in I hp fun x H1 A s1 r1 c1=>go x H1 A s1 r1 c1 _ fun y H2 B s2 r2=>.inl ?_)
  obtain ⟨ad,xs,e1,h1,g1⟩:=(Rp.same s2 _ r1).Fl
  obtain ⟨v,C,h3,h4,h5⟩:=g1.atI e
  exact ⟨ad,xs,_,v,e1,r2.I.1,h1.seq,h3,k v H2 C [89] h4 (Cat.sub c1 h5)⟩
 ·refine .inl (.in I hp fun x H1 A s1 r1 c1=>go x H1 A s1 r1 c1 _ fun y H2 B s2 r2=>.inr (.inl ?_))
  obtain ⟨ad,xs,e1,h1,g1⟩:=(Rp.same s2 _ r1).T
  obtain ⟨v,C,h3,h4,h5⟩:=g1.atI e
  exact ⟨ad,xs,_,v,e1,r2.I.1,h1,h3,k v H2 C [89] h4 (Cat.sub c1 h5)⟩
 ·rename_i zz ii
  split at e
  case isFalse=>cases e
  rename_i hl
  cases hc:atI zz.cps.toList ii with
  | none=>rw [hc] at e;cases e
  | some ch=>
   rw [hc] at e
   have ez:z=.str ⟨#[ch]⟩:=(Jq e).symm
   refine .inl (.in I hp fun x H1 A s1 r1 c1=>go x H1 A s1 r1 c1 _ fun y H2 B s2 r2=>.inr (.inr ?_))
   exact ⟨_,_,ch,r1.S.1,r2.I.1,by rw [sizeLine_eq];omega,hc,k _ H2 [] [89] (by rw [ez];exact .mkS _) [281]⟩
 ·refine .inr (.in I hp fun x H1 A s1 r1 c1=>go x H1 A s1 r1 c1 _ fun y H2 B s2 r2=>?_)
  obtain ⟨ad,xs,B1,e1,h1,hl,rfl,g1⟩:=(Rp.same s2 _ r1).D
  obtain ⟨v,C,h3,h4,h5⟩:=kd g1 e
  exact ⟨ad,v,e1,by rw [r2.I.1,← h3];exact DGet.k (k:=Sum.inl _) h1,k v H2 C [89] h4 [174]⟩
 ·refine .inr (.in I hp fun x H1 A s1 r1 c1=>go x H1 A s1 r1 c1 _ fun y H2 B s2 r2=>?_)
  obtain ⟨ad,xs,B1,e1,h1,hl,rfl,g1⟩:=(Rp.same s2 _ r1).D
  obtain ⟨v,C,h3,h4,h5⟩:=kd g1 e
  exact ⟨ad,v,e1,by rw [r2.S.1,← h3];exact DGet.k (k:=Sum.inr _) h1,k v H2 C [89] h4 [174]⟩
 ·cases e
noncomputable def ve(K:PySem.W.Frag)(r:List V->Hp->VK->Prop)(gg:List PV->Option PV):Prop:=∀ (H:Hp) (ps:List PV) (vs:List V) (A:List Addr) (z:PV) (Q:VK),Rps K H ps vs A->gg ps=some z->
 (∀ v H' C,Same H H'->Rp K H' z v C->C.Nodup->(∀ a ∈ C,H a=none)->Q v H')->r vs H Q
theorem ziY{K:PySem.W.Frag}{r:List V->Hp->VK->Prop}{gg:List PV->Option PV}(hv:ve K r gg)(σ:St)(H:Hp)(Q:VK)(h:tV K κ G [33] (zJ gg fs) σ H Q):tCB r (tVA K κ G c fs) σ H Q:=by
 obtain ⟨own,env,z,I,hf,k⟩:=h
 unfold zJ at hf
 replace hf:=Ja.mp hf;obtain ⟨qs,hp,hf⟩:=hf
 exact (.in I hp fun vs H1 A s1 r1 _=>hv H1 qs vs A z Q r1 hf fun v H' C s2 r2 nd fr=>k v H' C [89] r2 ⟨nd,fun a ha=>.inl (s1.free (fr a ha))⟩)
theorem zo{x:Str}{p:Pos}{id:String}{r:List V->Hp->VK->Prop}{gg:List PV->Option PV}(hv:ve X.K r gg)(hc:CallR X [239] r)(hg:Gl X x)(hm:X.mg x=none)(hb:bootBuiltins x=some [239])(ha:VA X κ G c (e::es) fs)(hn:x≠"__name__":=by decide)(hdb:[50]=false:=by decide)
  (he:starEach (e::es) X.env=[54]::starEach es X.env:=by rfl)(hpl:[72].any (·.1)=false:=by rfl):VE X κ G [33] [81] (zJ gg fs):=(zjI hc hg hm hb ha.1 hn hdb he hpl).imp (ziY hv)
theorem yv{x:Str}{p:Pos}{T:String}{r:List V->Hp->VK->Prop}{gg:List PV->Option PV}(hv:ve X.K r gg)(hc:CallR X (.type T) r)(hg:Gl X x)(hm:X.mg x=none)(hb:bootBuiltins x=some (.type T))(ha:VA X κ G c (e::es) fs)(hn:x≠"__name__":=by decide)(hdb:[50]=false:=by decide)
  (he:starEach (e::es) X.env=[54]::starEach es X.env:=by rfl)(hpl:[72].any (·.1)=false:=by rfl):VE X κ G [33] [81] (zJ gg fs):=(zcw hc hg hm hb ha.1 hn hdb he hpl).imp (ziY hv)
noncomputable def xQ:List PV->Option PV
 | [.lst xs]=>some (.int xs.length)
 | [.fls xs]=>some (.int xs.length)
 | [.tup xs]=>some (.int xs.length)
 | [.dct ks _]=>some (.int ks.length)
 | [.str z]=>if z.length≤100000 then some (.int z.length) else none
 | _=>none
theorem xy:CallR X (.builtin "len") (fun xs H Q=>(∃ p ys,xs=[.ref p]/\[200]/\Q (.int ys.length) H)∨((∃ a kvs,xs=[V.ref a]/\H a=some [94]/\Q (.int kvs.length) H)∨∃ z,xs=[.str z]/\z.length≤sizeLine/\Q (.int z.length) H)):=call_len_seq.or (call_lenD.or zdC)
theorem yS{K:PySem.W.Frag}{H:Hp}{p:PV}{vs:List V}{A:List Addr}(r:Rps K H [p] vs A):∃ v,vs=[v]/\Rp K H p v A:=by
 obtain ⟨v,r',A1,A2,h1,h2,h3,h4⟩:=r.inv
 obtain ⟨h5,h6⟩:=h4.inv0
 exact ⟨v,by rw [h1,h5],by rw [h2,h6,JO];exact h3⟩
theorem ziP{K:PySem.W.Frag}{H:Hp}{p q:PV}{vs:List V}{A:List Addr}(r:Rps K H [p,q] vs A):∃ v w A1 A2,vs=[v,w]/\A=A1++A2/\Rp K H p v A1/\Rp K H q w A2:=by
 obtain ⟨v,r',A1,A2,h1,h2,h3,h4⟩:=r.inv
 obtain ⟨w,h5,h6⟩:=yS h4
 exact ⟨v,w,A1,A2,by rw [h1,h5],h2,h3,h6⟩
theorem xx{K:PySem.W.Frag}:ve K (fun xs H Q=>(∃ p ys,xs=[.ref p]/\(SqL K H p ys∨SqT K H p ys)/\Q (.int ys.length) H)∨((∃ a kvs,xs=[V.ref a]/\H a=some [94]/\Q (.int kvs.length) H)∨∃ z,xs=[.str z]/\z.length≤sizeLine/\Q (.int z.length) H)) xQ:=by
 intro H ps vs A z Q r e k
 have fin:∀ n:Int,z=.int n->Q (.int n) H:=fun n e=>k _ H [] [31] (by rw [e];exact .mkI n) .nil [19]
 unfold xQ at e
 split at e
 ·rename_i xs
  obtain ⟨v,rfl,rr⟩:=yS r
  obtain ⟨a,ys,B,e1,h1,_,g⟩:=rr.L
  exact .inl ⟨a,ys,by rw [e1],.inl (SqL.of h1),fin _ (by rw [← g.length];exact (Jq e).symm)⟩
 ·rename_i xs
  obtain ⟨v,rfl,rr⟩:=yS r
  obtain ⟨a,ys,e1,h1,g⟩:=rr.Fl
  exact .inl ⟨a,ys,by rw [e1],.inl h1.seq,fin _ (by rw [← g.length];exact (Jq e).symm)⟩
 ·rename_i xs
  obtain ⟨v,rfl,rr⟩:=yS r
  obtain ⟨a,ys,e1,h1,g⟩:=rr.T
  exact .inl ⟨a,ys,by rw [e1],.inr h1,fin _ (by rw [← g.length];exact (Jq e).symm)⟩
 ·rename_i ks xs
  obtain ⟨v,rfl,rr⟩:=yS r
  obtain ⟨a,ys,B,e1,h1,hl,_,g⟩:=rr.D
  refine .inr (.inl ⟨a,_,by rw [e1],h1,fin _ ?_⟩)
  rw [Ku,← g.length,← hl,Nat.min_self]
  exact (Jq e).symm
 ·rename_i y
  obtain ⟨v,rfl,rr⟩:=yS r
  split at e
  ·rename_i hl
   exact .inr (.inr ⟨y,by rw [rr.S.1],by rw [sizeLine_eq];omega,fin _ (Jq e).symm⟩)
  ·cases e
 ·cases e
noncomputable def xj:List PV->Option PV
 | [.lst xs]=>if isDatas xs=true then some [107] else none
 | [.fls xs]=>if isDatas xs=true then some [107] else none
 | [.tup xs]=>if isDatas xs=true then some [107] else none
 | [.dct ks _]=>some (.lst (ks.map fun k=>match k with | .inl i=>.int i | .inr x=>.str x))
 | _=>none
noncomputable def kB:List PV->Option PV
 | [.lst xs]=>if isDatas xs=true then some (.tup xs) else none
 | [.fls xs]=>if isDatas xs=true then some (.tup xs) else none
 | [.tup xs]=>if isDatas xs=true then some (.tup xs) else none
 | _=>none
theorem zbr{K:PySem.W.Frag}{H:Hp}:∀ (ks:List Key),Rps K H (ks.map fun k=>match k with | .inl i=>.int i | .inr x=>.str x) (ks.map kV) []
 | []=>.nil
 | .inl i::ks=>by
  have:=Rps.cons (K:=K) (H:=H) (.mkI i) (zbr ks)
  exact this
 | .inr x::ks=>by
  have:=Rps.cons (K:=K) (H:=H) (.mkS x) (zbr ks)
  exact this
theorem vw(hc:X.calm=true):CallR X (.type "list") (fun xs H Q=>(∃ p ys,xs=[.ref p]/\[200]/\∀ l,H l=none->Q [288] (upd H l [262]))∨∃ p kvs,xs=[.ref p]/\H p=some [94]/\∀ l,H l=none->Q [288] (upd H l [209])):=call_list_of.or (zbW hc)
theorem vv{K:PySem.W.Frag}:ve K (fun xs H Q=>(∃ p ys,xs=[.ref p]/\(SqL K H p ys∨SqT K H p ys)/\∀ l,H l=none->Q [288] (upd H l [262]))∨∃ p kvs,xs=[.ref p]/\H p=some [94]/\∀ l,H l=none->Q [288] (upd H l [209])) xj:=by
 intro H ps vs A z Q r e k
 unfold xj at e
 split at e
 ·rename_i xs
  obtain ⟨v,rfl,rr⟩:=yS r
  split at e
  ·rename_i hd;cases e
   obtain ⟨a,ys,B,e1,h1,_,g⟩:=rr.L
   exact .inl ⟨a,ys,by rw [e1],.inl (SqL.of h1),vm hd g k (z:=.non)⟩
  ·cases e
 ·rename_i xs
  obtain ⟨v,rfl,rr⟩:=yS r
  split at e
  ·rename_i hd;cases e
   obtain ⟨a,ys,e1,h1,g⟩:=rr.Fl
   exact .inl ⟨a,ys,by rw [e1],.inl h1.seq,vm hd g k (z:=.non)⟩
  ·cases e
 ·rename_i xs
  obtain ⟨v,rfl,rr⟩:=yS r
  split at e
  ·rename_i hd;cases e
   obtain ⟨a,ys,e1,h1,g⟩:=rr.T
   exact .inl ⟨a,ys,by rw [e1],.inr h1,vm hd g k (z:=.non)⟩
  ·cases e
 ·rename_i ks xs
  obtain ⟨v,rfl,rr⟩:=yS r
  obtain ⟨a,ys,B,e1,h1,hl,_,g⟩:=rr.D
  cases e
  refine .inr ⟨a,_,by rw [e1],h1,?_⟩
  have e2:(ks.zip ys).map (fun kv=>kV kv.1)=ks.map kV:=by
   have:(ks.zip ys).map (fun kv=>kV kv.1)=((ks.zip ys).map Prod.fst).map kV:=by rw [Kj];rfl
   rw [this,KY (by rw [← g.length,hl];exact Jm _)]
  rw [e2]
  exact vm (wA _ (fun k=>by cases k<;>rfl) ks) (zbr ks) k (z:=.non)
 ·cases e
theorem zeT{K:PySem.W.Frag}:ve K (fun xs H Q=>∃ p ys,xs=[.ref p]/\((SqL K H p ys/\∀ l,H l=none->Q [288] (upd H l (.tup ys)))∨(SqT K H p ys/\Q (.ref p) H))) kB:=by
 intro H ps vs A z Q r e k
 unfold kB at e
 split at e
 ·rename_i xs
  obtain ⟨v,rfl,rr⟩:=yS r
  split at e
  ·rename_i hd;cases e
   obtain ⟨a,ys,B,e1,h1,_,g⟩:=rr.L
   exact ⟨a,ys,by rw [e1],.inl ⟨SqL.of h1,zau hd g k (z:=.non)⟩⟩
  ·cases e
 ·rename_i xs
  obtain ⟨v,rfl,rr⟩:=yS r
  split at e
  ·rename_i hd;cases e
   obtain ⟨a,ys,e1,h1,g⟩:=rr.Fl
   exact ⟨a,ys,by rw [e1],.inl ⟨h1.seq,zau hd g k (z:=.non)⟩⟩
  ·cases e
 ·rename_i xs
  obtain ⟨v,rfl,rr⟩:=yS r
  split at e
  ·rename_i hd;cases e
   obtain ⟨a,ys,e1,h1,g⟩:=rr.T
   have:=Rps.data xs hd g
   subst this
   exact ⟨a,ys,by rw [e1],.inr ⟨h1,k _ H [] [31] (.mkT h1 g) .nil [19]⟩⟩
  ·cases e
 ·cases e
noncomputable def zll:List PV->Option PV
 | [.int i]=>some [88]
 | [.bl b]=>some (.int (if b then 1 else 0))
 | _=>none
theorem znY{K:PySem.W.Frag}:ve K (fun xs H Q=>(∃ i,xs=[.int i]/\Q [88] H)∨∃ k,xs=[.bl k]/\Q (.int (if k then 1 else 0)) H) zll:=by
 intro H ps vs A z Q r e k
 unfold zll at e
 split at e
 ·rename_i i
  obtain ⟨v,rfl,rr⟩:=yS r
  cases e
  exact .inl ⟨i,by rw [rr.I.1],k _ H [] [31] (.mkI i) .nil [19]⟩
 ·rename_i b
  obtain ⟨v,rfl,rr⟩:=yS r
  cases e
  exact .inr ⟨b,by rw [rr.B.1],k _ H [] [31] (.mkI _) .nil [19]⟩
 ·cases e
noncomputable def zeU(xs:List PV)(lo hi:Option Int):List PV:=(xs.drop [301]).take [103]
noncomputable def vSl:PV->Option Int->Option Int->Option PV
 | .lst xs,lo,hi=>if isDatas xs=true then some (.lst (zeU xs lo hi)) else none
 | .fls xs,lo,hi=>if isDatas xs=true then some (.lst (zeU xs lo hi)) else none
 | .tup xs,lo,hi=>if isDatas xs=true then some (.tup (zeU xs lo hi)) else none
 | _,_,_=>none
noncomputable abbrev FO:=En->Option (Option Int)
noncomputable def qC:FO:=fun _=>some none
noncomputable def zeK(f:FE):FO:=fun env=>[254].bind fun p=>match p with | .int i=>some (some i) | _=>none
noncomputable def tVO(K:PySem.W.Frag)(κ:Nat->Option Nat)(G:Hp)(f:FO):TO:=fun σ H Q=>∃ own env o,VI K κ G own env σ H/\f env=some o/\∀ H',Same H H'->Q o H'
theorem tVO.in{K:PySem.W.Frag}{κ:Nat->Option Nat}{G:Hp}{f:FO}{σ:St}{H:Hp}{Q:Option Int->Hp->Prop}{own:Addr->Option Nat}{env:En}{p:Option Int}(I:VI K κ G own env σ H)(hf:f env=some p)(k:∀ H',Same H H'->Q p H'):tVO K κ G f σ H Q:=⟨own,env,p,I,hf,k⟩
theorem tVO.elim{K:PySem.W.Frag}{κ:Nat->Option Nat}{G:Hp}{f:FO}{σ:St}{H:Hp}{Q:Option Int->Hp->Prop}{C:Prop}(h:tVO K κ G f σ H Q)(k:∀ own env (p:Option Int),VI K κ G own env σ H->f env=some p->(∀ H',Same H H'->Q p H')->C):C:=
 let ⟨own,env,p,I,hf,q⟩:=h
 k own env p I hf q
noncomputable def VO(X:Cx)(κ:Nat->Option Nat)(G:Hp)(e:Option Expr)(f:FO):Prop:=PO X e (tVO X.K κ G f)
theorem zgo:VO X κ G none qC:=fun pins s σ H Q I ⟨own,env,o,I',e,k⟩=>by
 cases e
 exact zlG pins s σ H Q I (k H [31])
theorem zgn(h:VE X κ G c e f):VO X κ G (some e) (zeK f):=fun pins s σ H Q I ⟨own,env,o,I',hf,k⟩=>by
 refine zlF h pins s σ H Q I ?_
 unfold zeK at hf
 replace hf:=Ja.mp hf;obtain ⟨p,hp,hf⟩:=hf
 refine (.in I' hp fun v H' A s r _=>?_)
 cases p<;>first | (cases hf;done) | skip
 cases hf
 exact ⟨_,r.I.1,k H' s⟩
theorem Rps.take_{K:PySem.W.Frag}{H:Hp}:∀ {ps:List PV} {xs:List V} (n:Nat),Rps K H ps xs []->Rps K H (ps.take n) (xs.take n) []
 | _,_,0,_=>by simpa using Rps.nil
 | [],_,n+1,r=>by rw [r.inv0.1];simpa using Rps.nil
 | p::ps,_,n+1,r=>by
  obtain ⟨v,r',A1,A2,rfl,h2,h3,h4⟩:=r.inv
  obtain ⟨rfl,rfl⟩:=Kk.mp h2.symm
  exact Rps.cons h3 (Rps.take_ n h4)
theorem Rps.drop_{K:PySem.W.Frag}{H:Hp}:∀ {ps:List PV} {xs:List V} (n:Nat),Rps K H ps xs []->Rps K H (ps.drop n) (xs.drop n) []
 | _,_,0,r=>r
 | [],_,n+1,r=>by rw [r.inv0.1];simpa using Rps.nil
 | p::ps,_,n+1,r=>by
  obtain ⟨v,r',A1,A2,rfl,h2,h3,h4⟩:=r.inv
  obtain ⟨rfl,rfl⟩:=Kk.mp h2.symm
  exact Rps.drop_ n h4
theorem Rps.cut{K:PySem.W.Frag}{H:Hp}{ps:List PV}{xs:List V}{lo hi:Option Int}(r:Rps K H ps xs []):Rps K H (zeU ps lo hi) [302] []:=by
 unfold zeU zbN
 rw [r.length]
 exact Rps.take_ _ (Rps.drop_ _ r)
theorem jT{xs ys:List PV}(h:isDatas xs=true)(s:∀ y ∈ ys,y ∈ xs):isDatas ys=true:=by
 rw [vp] at h ⊢
 exact fun y hy=>h y (s y hy)
theorem zbO{xs:List PV}{lo hi:Option Int}:∀ y ∈ zeU xs lo hi,y ∈ xs:=fun y hy=>List.mem_of_mem_drop (List.mem_of_mem_take hy)
noncomputable def fSl(f:FE)(l h:FO):FE:=fun env=>[254].bind fun p=>(l env).bind fun lo=>(h env).bind fun hi=>vSl p lo hi
theorem zdN{lo hi:Option Expr}{fl fh:FO}{p2:Pos}(he:VE X κ G c e f)(hl:VO X κ G lo fl)(hh:VO X κ G hi fh):VE X κ G [33] (.Subscript e (.Slice lo hi none p2) pos) (fSl f fl fh):=
 (zjD (sl_list.or zlu) he hl hh).imp fun σ H Q hq_=>by
 refine hq_.elim fun own env z I e k=>?_
 unfold fSl at e
 replace e:=Ja.mp e;obtain ⟨p,hp,e⟩:=e
 replace e:=Ja.mp e;obtain ⟨l,h1,e⟩:=e
 replace e:=Ja.mp e;obtain ⟨u,h2,e⟩:=e
 refine (.in I hp fun x H1 A s1 r1 _=>(.in (I.grow s1) h1 fun H2 s2=>(.in (I.grow [89]) h2 fun H3 s3=>?_)))
 have sA:=s1.trans (s2.trans s3)
 have k':∀ v H' C,Same H3 H'->Rp X.K H' z v C->C.Nodup->(∀ a ∈ C,H3 a=none)->Q v H':=fun v H' C s r nd fr=>k v H' C (sA.trans s) r ⟨nd,fun a ha=>.inl (sA.free (fr a ha))⟩
 have r3:=Rp.same (s2.trans s3) p r1
 unfold vSl at e
 split at e
 ·split at e
  case isFalse=>cases e
  rename_i hd
  cases e
  obtain ⟨a,xs,B1,e1,g0,_,g1⟩:=r3.L
  have:=Rps.data _ hd g1
  subst this
  exact .inl ⟨a,xs,e1,SqL.of g0,vm (jT hd zbO) g1.cut k' (z:=.non)⟩
 ·split at e
  case isFalse=>cases e
  rename_i hd
  cases e
  obtain ⟨a,xs,e1,g0,g1⟩:=r3.Fl
  have:=Rps.data _ hd g1
  subst this
  exact .inl ⟨a,xs,e1,g0.seq,vm (jT hd zbO) g1.cut k' (z:=.non)⟩
 ·split at e
  case isFalse=>cases e
  rename_i hd
  cases e
  obtain ⟨a,xs,e1,g0,g1⟩:=r3.T
  have:=Rps.data _ hd g1
  subst this
  refine .inr ⟨a,xs,e1,g0,fun hw=>?_,zau (jT hd zbO) g1.cut k' (z:=.non)⟩
  have gc:=g1.cut (lo:=l) (hi:=u)
  rw [hw] at gc
  exact k' _ H3 [] [31] (.mkT g0 gc) .nil [19]
 ·cases e
end
section
variable {X:Cx} {κ:Nat->Option Nat} {G:Hp} {c c1 c2:Cat} {a b e:Expr} {es:List Expr} {fa fb f:FE} {t u:FT} {fs:FA} {pos:Pos} {g h:FS} {st:Stmt} {wW:List Stmt} {O:List Nat}
theorem ub {i : Nat} {env : En} {p : PV} (hf : zA i env = some p) : env[i]? = some (some p) := by
  unfold zA at hf
  cases q : env[i]? with
  | none => rw [q] at hf; cases hf
  | some z => rw [q] at hf; have : z = some p := by simpa using hf
              rw [this]
theorem km{i:Nat}{σ:St}{v:V}(h:σ[i]?=some (some v)):σ.set i (some v)=σ:=by
 apply KO
 intro j
 rw [Kb]
 by_cases hij:i=j
 ·subst hij
  rw [if_pos rfl,if_pos (Jv.mp h).1,h]
 ·rw [if_neg hij]
theorem VI.turn{K:PySem.W.Frag}{own:Addr->Option Nat}{env:En}{σ:St}{H0 H1:Hp}{i:Nat}{p:PV}{a:Addr}{o:HO}{B:List Addr}(hi:i ∈ O)(I:VI K (ko O) G own env σ H0)(s:Same H0 H1)(hσ:σ[i]?=some [304])(ho:own a=some i)
  (hm:MutH H0 a)(r:Rp K (upd H1 a o) p [84] (a::B))(nd:(a::B).Nodup)(hB:∀ b ∈ B,own b=some i∨H0 b=none):
  VI K (ko O) G (acq own i (a::B)) [110] σ (upd H1 a o)/\Ext own H0 (acq own i (a::B)) (upd H1 a o):=by
 have:=I.take (H2:=upd H1 a o) (v:=.ref a) hi (fun j q w C hj _ z hC=>Rp.upd (hm.same s) q (fun z'=>hC a z' ho) (Rp.same s q z)) (fun b u hb z=>by
  rw [zm (by rintro rfl;exact hb ho)];exact s b u z) r nd (fun b hb=>(Kl.mp hb).elim (fun z=>.inl (z ▸ ho)) (hB b))
 rw [km hσ] at this
 exact this
noncomputable def zb(i:Nat)(f:FE):FS:=fun env=>[325].bind fun l=>[254].bind fun q=>match l with | .lst ps=>if ps.length<100000 then some (.nx (env.set i (some (.lst (ps++[q]))))) else none | _=>none
theorem kY{K:PySem.W.Frag}{own:Addr->Option Nat}{env:En}{σ:St}{H:Hp}{i:Nat}{ps:List PV}(hi:i ∈ O)(I:VI K (ko O) G own env σ H)(hf:zA i env=some (.lst ps)):
  ∃ a xs B,σ[i]?=some [304]/\H a=some [107]/\Rps K H ps xs B/\(a::B).Nodup/\own a=some i/\∀ b ∈ B,own b=some i:=by
 obtain ⟨v,A,h1,h2,_,h3⟩:=I.slot i _ (ub hf)
 obtain ⟨nd,ho⟩:=h3 i (zcD hi)
 obtain ⟨a,xs,B,rfl,h4,rfl,h5⟩:=h2.L
 exact ⟨a,xs,B,h1,h4,h5,nd,ho a Jf,fun b hb=>ho b (Jg _ hb)⟩
theorem yC(i:Nat)(hi:i ∈ O)(hp:PS X st (zaL (tBM X.K "list" kr (uV i) (qw [172] zdX)))):VS X (ko O) G st (zb i f):=hp.imp fun D σ H hq_=>by
 refine hq_.elim fun own env o I hf k=>?_
 unfold zb at hf
 replace hf:=Ja.mp hf;obtain ⟨l,hl,hf⟩:=hf
 replace hf:=Ja.mp hf;obtain ⟨q,hq,hf⟩:=hf
 cases l<;>first | (cases hf;done) | skip
 rename_i ps
 dsimp only at hf
 split at hf
 case isFalse=>cases hf
 rename_i hlen
 cases hf
 obtain ⟨a,xs,B,hσ,ha,hr,nd,ho,hB⟩:=kY hi I hl
 refine ⟨.ref a,hσ,.inl ⟨rfl,xs,SqL.of ha⟩,.in I hq fun y H1 C s1 r1 c1=>⟨a,xs,y,rfl,rfl,s1 _ _ ha,by rw [← hr.length,sizeLine_eq];omega,?_⟩⟩
 have fr:∀ b ∈ C,H b=none:=fun b hb=>(c1.2 b hb).elim id fun ⟨_,z,_⟩=>nomatch z
 have nC:a ∉ C:=fun z=>by rw [fr a z] at ha;cases ha
 have nB:a ∉ B:=(Jy.mp nd).1
 have m1:MutH H1 a:=.inl ⟨xs,s1 _ _ ha⟩
 have hnd:(a::(B++C)).Nodup:=by
  rw [← List.cons_append]
  refine Jw.mpr ⟨nd,c1.1,fun x hx y' hy' hxy=>?_⟩
  subst hxy
  have hn:=fr x hy'
  rcases List.mem_cons.mp hx with rfl | hx
  ·exact nC hy'
  ·obtain ⟨o,ho⟩:=(Rps.mut ps hr x hx).some
   rw [hn] at ho;cases ho
 have hBC:∀ b ∈ B++C,own b=some i∨H b=none:=by
  intro b hb
  rcases List.mem_append.mp hb with hb | hb
  ·exact .inl (hB b hb)
  ·exact .inr (fr b hb)
 obtain ⟨h1,h2⟩:=I.turn (p:=.lst (ps++[q])) (o:=.lst (xs++[y])) (B:=B++C) hi s1 hσ ho (.inl ⟨xs,ha⟩)
  (.mkL zZ ((Rps.upd m1 ps nB (Rps.same s1 ps hr)).append (Rps.one (Rp.upd m1 q nC r1)))) hnd hBC
 exact k _ _ _ h1 h2
noncomputable def zkE(k i:Nat):FS:=fun env=>[325].bind fun l=>match l with | .lst ps=>(ps.getLast?).bind fun q=>if isDatas ps=true then some (.nx ((env.set i (some (.lst ps.dropLast))).set k (some q))) else none | _=>none
theorem Rps.dropLast{K:PySem.W.Frag}{H:Hp}:∀ {ps:List PV} {xs:List V},Rps K H ps xs []->Rps K H ps.dropLast xs.dropLast []
 | [],_,r=>by rw [r.inv0.1];exact .nil
 | [p],_,r=>by
  obtain ⟨v,h1,_⟩:=yS r
  rw [h1];exact .nil
 | p::q::ps,_,r=>by
  obtain ⟨v,r',A1,A2,rfl,h2,h3,h4⟩:=r.inv
  obtain ⟨rfl,rfl⟩:=Kk.mp h2.symm
  obtain ⟨w,r'',_,_,rfl,_,_,_⟩:=id h4.inv
  exact Rps.cons h3 (Rps.dropLast h4)
theorem zmP(k i:Nat)(hi:i ∈ O)(hk:k ∉ O)(hp:PS X st (zaM (zou X.K "list" zoC (uV i)) (j6 k))):VS X (ko O) G st (zkE k i):=hp.imp fun D σ H hq_=>by
 refine hq_.elim fun own env o I hf kk=>?_
 unfold zkE at hf
 replace hf:=Ja.mp hf;obtain ⟨l,hl,hf⟩:=hf
 cases l<;>first | (cases hf;done) | skip
 rename_i ps
 dsimp only at hf
 replace hf:=Ja.mp hf;obtain ⟨q,hq,hf⟩:=hf
 split at hf
 case isFalse=>cases hf
 rename_i hd
 cases hf
 obtain ⟨a,xs,B,hσ,ha,hr,nd,ho,hB⟩:=kY hi I hl
 have eB:=Rps.data ps hd hr
 subst eB
 have hq':ps[xs.length - 1]?=some q:=by rw [← hr.length,← hq,Qh]
 obtain ⟨y,C,hy,r1,hC⟩:=hr.get hq'
 have eC:C=[]:=List.sublist_nil.mp hC
 subst eC
 have m1:MutH H a:=.inl ⟨xs,ha⟩
 refine ⟨.ref a,hσ,.inl ⟨rfl,xs,SqL.of ha⟩,a,xs,y,rfl,rfl,ha,hy,?_⟩
 obtain ⟨h1,h2⟩:=I.turn (p:=.lst ps.dropLast) (o:=.lst xs.dropLast) (B:=[]) hi [31] hσ ho m1 (.mkL zZ (Rps.upd m1 _ [19] hr.dropLast)) [19] [19]
 exact kk _ _ _ (h1.set_sh (zfM hk) (Rp.upd m1 q [19] r1) [19]) h2
noncomputable def wv{α:Type}(ks:List Key)(vs:List α)(k:Key)(p:α):List Key × List α:=if ur ks k=true then (ks,List.zipWith (fun k' v=>if k'=k then p else v) ks vs) else (ks++[k],vs++[p])
theorem zbL{ks:List Key}{xs:List V}(hl:ks.length=xs.length)(k:Key)(v:V):wQ [126] k v=(wv ks xs k v).1.zip (wv ks xs k v).2:=by
 have h:=zaq hl k
 rw [← kh] at h
 unfold wQ wv
 by_cases hk:ur ks k=true
 ·rw [if_pos hk,h,hk,if_pos rfl]
  clear h hk
  induction ks generalizing xs with
  | nil=>simp
  | cons k' ks ih=>
   cases xs with
   | nil=>simp at hl
   | cons x xs=>
    simp only [List.zip_cons_cons,List.map_cons,List.zipWith_cons_cons]
    rw [ih [202]]
    by_cases e:k'=k<;>simp [e]
 ·rw [if_neg hk,h,if_neg hk]
  show ks.zip xs++[(k,v)]=(ks++[k]).zip (xs++[v])
  rw [List.zip_append hl]
  rfl
theorem zkJ{α:Type}{ks:List Key}{vs:List α}(hl:ks.length=vs.length)(k:Key)(p:α):(wv ks vs k p).1.length=(wv ks vs k p).2.length:=by
 unfold wv
 split
 ·simp [hl]
 ·simp [hl]
theorem zin{α β:Type}{ks:List Key}{vs:List α}{ws:List β}(k:Key)(p:α)(q:β):(wv ks vs k p).1=(wv ks ws k q).1:=by
 unfold wv
 split<;>rfl
theorem zkI{K:PySem.W.Frag}{H:Hp}{ks:List Key}{k:Key}{p:PV}{v:V}(rp:Rp K H p v []):∀ {ps:List PV} {xs:List V},Rps K H ps xs []->Rps K H (wv ks ps k p).2 (wv ks xs k v).2 []:=by
 intro ps xs r
 unfold wv
 split
 ·rename_i hk
  clear hk
  induction ks generalizing ps xs with
  | nil=>exact .nil
  | cons k' ks ih=>
   cases ps with
   | nil=>rw [r.inv0.1];exact .nil
   | cons q ps=>
    obtain ⟨w,r',A1,A2,rfl,h2,h3,h4⟩:=r.inv
    obtain ⟨rfl,rfl⟩:=Kk.mp h2.symm
    simp only [List.zipWith_cons_cons]
    by_cases e:k'=k
    ·rw [if_pos e,if_pos e];exact Rps.cons rp (ih h4)
    ·rw [if_neg e,if_neg e];exact Rps.cons h3 (ih h4)
 ·exact r.append (Rps.one rp)
noncomputable def zdP(l:PV)(k q:PV):Option PV:=match l,k with
 | .lst ps,.int i=>if (isDatas ps && z0 q)=true then (ixN ps.length i).map fun j=>.lst (ps.set j q) else none
 | .dct ks vs,.int i=>if (isDatas vs && z0 q && decide (ks.length<100000))=true then some (.dct (wv ks vs (.inl i) q).1 (wv ks vs (.inl i) q).2) else none
 | .dct ks vs,.str x=>if (isDatas vs && z0 q && decide (ks.length<100000))=true then some (.dct (wv ks vs (.inr x) q).1 (wv ks vs (.inr x) q).2) else none
 | _,_=>none
noncomputable def vq(i:Nat)(fk f:FE):FS:=fun env=>[254].bind fun q=>[325].bind fun l=>(fk env).bind fun k=>(zdP l k q).map fun l'=>.nx (env.set i (some l'))
theorem Rps.set_{K:PySem.W.Frag}{H:Hp}{q:PV}{y:V}(rq:Rp K H q y []):∀ {ps:List PV} {xs:List V} (j:Nat),Rps K H ps xs []->Rps K H (ps.set j q) (xs.set j y) []
 | [],_,_,r=>by rw [r.inv0.1];exact .nil
 | p::ps,_,0,r=>by
  obtain ⟨v,r',A1,A2,rfl,h2,h3,h4⟩:=r.inv
  obtain ⟨rfl,rfl⟩:=Kk.mp h2.symm
  exact Rps.cons rq h4
 | p::ps,_,j+1,r=>by
  obtain ⟨v,r',A1,A2,rfl,h2,h3,h4⟩:=r.inv
  obtain ⟨rfl,rfl⟩:=Kk.mp h2.symm
  exact Rps.cons h3 (Rps.set_ rq j h4)
theorem qq{K:PySem.W.Frag}{own:Addr->Option Nat}{env:En}{σ:St}{H:Hp}{i:Nat}{ks:List Key}{ps:List PV}(hi:i ∈ O)(I:VI K (ko O) G own env σ H)(hf:zA i env=some (.dct ks ps)):
  ∃ a xs B,σ[i]?=some [304]/\H a=some (.dK [126])/\ks.length=ps.length/\Rps K H ps xs B/\(a::B).Nodup/\own a=some i/\∀ b ∈ B,own b=some i:=by
 obtain ⟨v,A,h1,h2,_,h3⟩:=I.slot i _ (ub hf)
 obtain ⟨nd,ho⟩:=h3 i (zcD hi)
 obtain ⟨a,xs,B,rfl,h4,hl,rfl,h5⟩:=h2.D
 exact ⟨a,xs,B,h1,h4,hl,h5,nd,ho a Jf,fun b hb=>ho b (Jg _ hb)⟩
theorem ji(i:Nat)(hi:i ∈ O){fk:FE}(hp:PS X st (zaM (tV X.K (ko O) G c f) (zpa (uV i) [305] zmD)))(hd:PS X st (zgy (uV i) [305] (tV X.K (ko O) G c f))):VS X (ko O) G st (vq i fk f):=(hp.or hd).imp fun D σ H hq_=>by
 refine hq_.elim fun own env o I hf k=>?_
 unfold vq at hf
 replace hf:=Ja.mp hf;obtain ⟨q,hq,hf⟩:=hf
 replace hf:=Ja.mp hf;obtain ⟨l,hl,hf⟩:=hf
 replace hf:=Ja.mp hf;obtain ⟨kk,hk,hf⟩:=hf
 cases hv:zdP l kk q with
 | none=>rw [hv] at hf;cases hf
 | some l'=>
  rw [hv] at hf;cases hf
  unfold zdP at hv
  have dput:∀ (ks:List Key) (ps:List PV) (key:Key),l=.dct ks ps->(∀ (H2:Hp) (y:V) (B:List Addr),Rp X.K H2 kk y B->y=kV key)->(isDatas ps && z0 q && decide (ks.length<100000))=true->l'=.dct (wv ks ps key q).1 (wv ks ps key q).2->zgy (uV i) [305] (tV X.K (ko O) G c f) D σ H:=by
   rintro ks ps key rfl hy hc rfl
   simp only [Bool.and_eq_true,decide_eq_true_eq] at hc
   obtain ⟨⟨d1,d2⟩,hlen⟩:=hc
   obtain ⟨a,xs,B,hσ,ha,hkl,hr,nd,ho,hB⟩:=qq hi I hl
   have eB:=Rps.data ps d1 hr
   subst eB
   refine (.in I hq fun v H1 A s1 r1 _=>⟨.ref a,hσ,.in (I.grow s1) hk fun y H2 B s2 r2 _=>?_⟩)
   have eA:=Rp.data q d2 r1
   subst eA
   have s12:=s1.trans s2
   have hxl:=hr.length
   refine ⟨a,_,rfl,by rw [hy H2 y B r2];exact DPut.k (s12 _ _ ha) (by rw [Ku,sizeLine_eq];omega),?_⟩
   rw [zbL [12]]
   have m0:MutH H a:=.inr ⟨_,ha⟩
   have m2:=m0.same s12
   have rq:=Rp.same s2 q r1
   obtain ⟨h1,h2⟩:=I.turn (p:=.dct (wv ks ps key q).1 (wv ks ps key q).2) (o:=.dK ((wv ks xs key v).1.zip (wv ks xs key v).2)) (B:=[]) hi s12 hσ ho m0
    (.mkD (by rw [zin (ws:=xs) key q v];exact zZ) (zkJ hkl key q) (Rps.upd m2 _ [19] (zkI rq (Rps.same s12 ps hr)))) [19] [19]
   exact k _ _ _ h1 h2
  split at hv
  ·rename_i ps j
   split at hv
   case isFalse=>cases hv
   rename_i hc
   rw [JS] at hc
   obtain ⟨a,xs,B,hσ,ha,hr,nd,ho,hB⟩:=kY hi I hl
   have eB:=Rps.data ps hc.1 hr
   subst eB
   cases hj:ixN ps.length j with
   | none=>rw [hj] at hv;cases hv
   | some jn=>
    rw [hj] at hv;cases hv
    refine .inl (.in I hq fun v H1 A s1 r1 _=>⟨.ref a,hσ,.in (I.grow s1) hk fun y H2 B s2 r2 _=>?_⟩)
    have eA:=Rp.data q hc.2 r1
    subst eA
    have s12:=s1.trans s2
    refine ⟨a,xs,j,jn,rfl,r2.I.1,s12 _ _ ha,by rw [← hr.length];exact hj,?_⟩
    have m0:MutH H a:=.inl ⟨_,ha⟩
    have m2:=m0.same s12
    obtain ⟨h1,h2⟩:=I.turn (p:=.lst (ps.set jn q)) (o:=.lst (xs.set jn v)) (B:=[]) hi s12 hσ ho m0 (.mkL zZ (Rps.upd m2 _ [19] (Rps.set_ (Rp.same s2 q r1) jn (Rps.same s12 ps hr)))) [19] [19]
    exact k _ _ _ h1 h2
  ·split at hv
   case isFalse=>cases hv
   rename_i hc
   cases hv
   exact .inr (dput _ _ (Sum.inl _) rfl (fun H2 y B r=>r.I.1) hc rfl)
  ·split at hv
   case isFalse=>cases hv
   rename_i hc
   cases hv
   exact .inr (dput _ _ (Sum.inr _) rfl (fun H2 y B r=>r.S.1) hc rfl)
  ·cases hv
noncomputable def jb:FE:=fun _=>some (.dct [] [])
theorem uU(h:PE X e ziV):VE X κ G [33] e jb:=h.imp fun σ H Q hq_=>by
 refine hq_.elim fun own env z I hf k=>?_
 cases hf
 intro p hp
 exact k _ _ [p] (z6 [31] hp) (.mkD (by simpa using zZ) rfl .nil) ⟨by simp,fun a ha=>.inl (by rw [List.mem_singleton.mp ha];exact hp)⟩
noncomputable def zmx:PV->Option Bool
 | .non=>some false
 | .bl b=>some b
 | .int i=>some (i != 0)
 | .str y=>if y.length≤100000 then some ((y.length:Int) != 0) else none
 | .lst xs=>some (!xs.isEmpty)
 | .fls xs=>some (!xs.isEmpty)
 | .tup xs=>some (!xs.isEmpty)
 | .dct ks _=>some (!ks.isEmpty)
 | .ty _=>none
 | .any=>none
 | .pen _ _=>none
 | .adr _=>none
noncomputable def zch(f:FE):FT:=fun env=>[254].bind zmx
theorem zbI{K:PySem.W.Frag}{H:Hp}{ps:List PV}{xs:List V}{A:List Addr}(r:Rps K H ps xs A):(!ps.isEmpty)=!xs.isEmpty:=by
 have:=r.length
 cases ps<;>cases xs<;>simp_all
theorem zaD(ha:VE X κ G c a fa)(he:∀ whole,isTrue a X.env whole=(do let v ← whole;standAt a.pos;holding [v] (truthy v))):VT X κ G a (zch fa):=(zjt ha he).imp fun σ H Q hq_=>by
 refine hq_.elim fun own env z I hf k=>?_
 unfold zch at hf
 replace hf:=Ja.mp hf;obtain ⟨p,hp,hf⟩:=hf
 refine (.in I hp fun x H1 A s1 r1 _=>⟨z,?_,k H1 s1⟩)
 cases p
 case non=>cases hf;rw [r1.N.1];exact rfl
 case bl=>cases hf;rw [r1.B.1];exact rfl
 case int=>cases hf;rw [r1.I.1];exact rfl
 case str=>
  simp only [zmx] at hf
  split at hf
  ·rename_i hl;cases hf;rw [r1.S.1];exact ⟨by rw [sizeLine_eq];omega,rfl⟩
  ·cases hf
 case ty=>cases hf
 case any=>cases hf
 case pen=>cases hf
 case adr=>cases hf
 case tup=>cases hf;obtain ⟨a,xs,e1,h1,g⟩:=r1.T;rw [e1];exact .inr (.inl ⟨xs,h1,zbI g⟩)
 case lst=>cases hf;obtain ⟨a,xs,B,e1,h1,_,g⟩:=r1.L;rw [e1];exact .inl ⟨xs,SqL.of h1,zbI g⟩
 case fls=>cases hf;obtain ⟨a,xs,e1,h1,g⟩:=r1.Fl;rw [e1];exact .inl ⟨xs,h1.seq,zbI g⟩
 case dct ks ps=>
  cases hf;obtain ⟨a,xs,B,e1,h1,hl,_,g⟩:=r1.D;rw [e1];refine .inr (.inr ⟨_,h1,?_⟩)
  have:=g.length
  cases ks<;>cases ps<;>cases xs<;>simp_all
end
end F
namespace L2
open PySem PySem.Spec PyProof.Rows
section
variable {X:Cx}
theorem zmp(l:Addr)(items:Array Value)(n:Nat)(b:Addr)(items2:Array Value)(n2:Nat)(dd:Option Addr)(sl:Array [161])(hs0:¬(!items.isEmpty && Builtin.List.listTooLong (items.size+items2.size))=true)(hs1:items.size≤sizeLine)(hs2:items.size+items2.size≤sizeLine+1):
  Meets (Builtin.«list.extend» ⟨[.ref l,.ref b],[]⟩) (fun _ R s=>s.heap.get? l=some { cls:=.type "list",dict:=none,data:=.seq items n,slots:=#[] }/\s.heap.get? b=some { cls:=.type "tuple",dict:=dd,data:=.seq items2 n2,slots:=sl }/\R (.ok (.ret Value.none)) { s with heap:=s.heap.update l (Obj.mapSeq fun x=>x++items2),toks:=s.toks }):=
 .of_wp fun prog w A R s h=>by
  obtain ⟨hp,g,d,tk,os⟩:=s;obtain ⟨hl,hb,h⟩:=h;have f1:=AutoSeq1.idx_int;have f2:=AutoSeq1.sub_tuple_tuple;have f3:=AutoSeq1.sub_list_list;have f4:=AutoSeq1.sub_tuple_list;have f5:=AutoSeq1.sub_list_tuple;
  have hz':(items++items2).size≤sizeLine+1:=JN (Nat.le_of_eq Array.size_append) hs2
  wp_walk using (wpAny_updateSeq hl rfl (hz:=hs1) (_hz':=hz')),KI hl,KI hb;exact ⟨_,rfl,h⟩
noncomputable def zaX(K:PySem.W.Frag):V->List V->Hp->VK->Prop:=fun x vs H Q=>∃ l b xs zs,x=.ref l/\vs=[.ref b]/\H l=some [107]/\SqT K H b zs/\xs.length+zs.length≤sizeLine/\Q .non (upd H l (.lst (xs++zs)))
theorem zfI:MtM X "list.extend" (zaX X.K):=by
 intro pins s σ H x vs v us Q I rx rv h
 obtain ⟨l,b,xs,zs,rfl,rfl,hH,hB,hz,q⟩:=h
 cases rx
 obtain ⟨u,rfl,ru⟩:=rv.one
 cases ru
 obtain ⟨z,its,n,r,hl,e⟩:=I.lstM hH
 obtain ⟨its2,r2,⟨⟨cls,dd,dat,sl⟩,e2,hc,n2,hd⟩,z2⟩:=I.tuple hB
 simp only at hc hd
 subst hc hd
 have hl2:=r2.length
 have hsz:its.toArray.size+its2.toArray.size≤sizeLine:=by rw [Jz,Jz];omega
 have hlong:¬ (!its.toArray.isEmpty && Builtin.List.listTooLong (its.toArray.size+its2.toArray.size))=true:=by
  rw [zbi hsz,Bool.and_false]
  exact Je
 refine call_meets F.slot_list_extend ⟨_,e,rfl⟩ F.entry_list_extend (F.args_list_extend_2 _ _)
  (zmp l its.toArray n b its2.toArray n2 dd sl hlong [314] [12]) ⟨e,e2,?_⟩
 refine ⟨.non,_,I.lset (its':=its++its2) hH e [19] (r.append r2) ?_,rfl,q⟩
 rw [Jl]
 omega
theorem MtM.or{id:String}{r r':V->List V->Hp->VK->Prop}(h:MtM X id r)(h':MtM X id r'):MtM X id (fun x xs H Q=>r x xs H Q∨r' x xs H Q):=fun pins s σ H x xs v us Q I rx rs q=>q.elim (h pins s σ H x xs v us Q I rx rs) (h' pins s σ H x xs v us Q I rx rs)
theorem zbm:MtM X "list.extend" (fun x xs H Q=>zdd x xs H Q∨zaX X.K x xs H Q):=mt_extend.or zfI
inductive TyR (K:PySem.W.Frag) (H:Hp):V->String->Prop where
 | non:TyR K H .non "NoneType"
 | bl (x:Bool):TyR K H (.bl x) "bool"
 | int (i:Int):TyR K H [88] "int"
 | str (x:Str):TyR K H (.str x) "str"
 | lst {a:Addr} {xs:List V} (e:SqL K H a xs):TyR K H [84] "list"
 | tup {a:Addr} {xs:List V} (e:SqT K H a xs):TyR K H [84] "tuple"
 | dct {a:Addr} {kvs:List [149]} (e:H a=some [94]):TyR K H [84] "dict"
theorem cr_isinst1:CallR X (.builtin "isinstance") (fun xs H Q=>∃ x n t b,xs=[x,.ty n]/\TyR X.K H x t/\PySem.W.kitOne X.K (.type t) (.type n)=some b/\Q (.bl b) H):=by
 intro pins s σ H xs us Q I r h
 obtain ⟨x,n,t,b,rfl,ty,e,q⟩:=h
 obtain ⟨u,w',rfl,rx,r2⟩:=zgs r
 cases r2
 have fin:∀ tk,EP X pins σ Q (.bool b) { s with toks:=tk }:=fun tk=>⟨.bl b,H,I.tok tk,rfl,q⟩
 cases ty with
 | non=>cases (show u=Value.none from rx);exact PySem.W.kia_one PySem.W.kitx_none I.kIn True.intro e [73] fin
 | bl y=>cases (show u=Value.bool y from rx);exact PySem.W.kia_one PySem.W.kitx_bool I.kIn True.intro e [73] fin
 | int i=>obtain ⟨t,q⟩:=(show ∃ t,u=Value.int i t from rx);cases q;exact PySem.W.kia_one PySem.W.kitx_int I.kIn True.intro e [73] fin
 | str y=>obtain ⟨t,q⟩:=(show ∃ t,u=Value.str y t from rx);cases q;exact PySem.W.kia_one PySem.W.kitx_str I.kIn True.intro e [73] fin
 | @lst a xs ea=>
  cases (show u=Value.ref a from rx)
  obtain ⟨its,_,⟨o,n,e1,e2,_,_⟩,_⟩:=I.list ea
  exact PySem.W.kia_one PySem.W.kitx_list I.kIn ⟨o,e1,e2⟩ e [73] fin
 | @tup a xs ea=>
  cases (show u=Value.ref a from rx)
  obtain ⟨its,_,⟨o,e1,e2,_⟩,_⟩:=I.tuple ea
  exact PySem.W.kia_one PySem.W.kitx_tuple I.kIn ⟨o,e1,e2⟩ e [73] fin
 | @dct a kvs ea=>
  cases (show u=Value.ref a from rx)
  obtain ⟨_,_,vs,_,p⟩:=(show ObjOk X.prog X.w H s.heap a [94] from I.hok a _ ea)
  obtain ⟨o,es,ep,h1,h2,_⟩:=p
  exact PySem.W.kia_one PySem.W.kitx_dict I.kIn ⟨o,h1,h2.1⟩ e [73] fin
theorem zfY:CallR X (.builtin "isinstance") (fun xs H Q=>∃ x p,∃ ns:List String,∃ t b,xs=[x,.ref p]/\SqT X.K H p (ns.map V.ty)/\TyR X.K H x t/\PySem.W.kitAny X.K (.type t) (ns.map Value.type)=some b/\Q (.bl b) H):=by
 intro pins s σ H xs us Q I r h
 obtain ⟨x,p,ns,t,b,rfl,hp,ty,e,q⟩:=h
 obtain ⟨u,w',rfl,rx,r2⟩:=zgs r
 cases r2
 obtain ⟨its,rv,⟨⟨cls,dd,dat,sl⟩,h1,h2,n,h3⟩,_⟩:=I.tuple hp
 simp only at h2 h3
 subst h2 h3
 have hi:=zgr rv
 subst hi
 have fin:∀ tk,EP X pins σ Q (.bool b) { s with toks:=tk }:=fun tk=>⟨.bl b,H,I.tok tk,rfl,q⟩
 cases ty with
 | non=>cases (show u=Value.none from rx);exact PySem.W.kia_tup PySem.W.kitx_none I.kIn True.intro h1 e [73] fin
 | bl y=>cases (show u=Value.bool y from rx);exact PySem.W.kia_tup PySem.W.kitx_bool I.kIn True.intro h1 e [73] fin
 | int i=>obtain ⟨t,q⟩:=(show ∃ t,u=Value.int i t from rx);cases q;exact PySem.W.kia_tup PySem.W.kitx_int I.kIn True.intro h1 e [73] fin
 | str y=>obtain ⟨t,q⟩:=(show ∃ t,u=Value.str y t from rx);cases q;exact PySem.W.kia_tup PySem.W.kitx_str I.kIn True.intro h1 e [73] fin
 | @lst a xs ea=>
  cases (show u=Value.ref a from rx)
  obtain ⟨its,_,⟨o,n,e1,e2,_,_⟩,_⟩:=I.list ea
  exact PySem.W.kia_tup PySem.W.kitx_list I.kIn ⟨o,e1,e2⟩ h1 e [73] fin
 | @tup a xs ea=>
  cases (show u=Value.ref a from rx)
  obtain ⟨its,_,⟨o,e1,e2,_⟩,_⟩:=I.tuple ea
  exact PySem.W.kia_tup PySem.W.kitx_tuple I.kIn ⟨o,e1,e2⟩ h1 e [73] fin
 | @dct a kvs ea=>
  cases (show u=Value.ref a from rx)
  obtain ⟨_,_,vs,_,p⟩:=(show ObjOk X.prog X.w H s.heap a [94] from I.hok a _ ea)
  obtain ⟨o,es,ep,h1',h2,_⟩:=p
  exact PySem.W.kia_tup PySem.W.kitx_dict I.kIn ⟨o,h1',h2.1⟩ h1 e [73] fin
end
end L2
namespace F
open PySem PySem.Spec PyProof.Rows L2
noncomputable def zgx:PV->Option (List PV)
 | .lst ps=>some ps
 | .tup ps=>some ps
 | _=>none
noncomputable def uc(i:Nat)(f:FE):FS:=fun env=>[325].bind fun l=>[254].bind fun q=>match l with
 | .lst ps=>(zgx q).bind fun qs=>if (isDatas qs=true/\ps.length+qs.length≤100000) then some (.nx (env.set i (some (.lst (ps++qs))))) else none
 | _=>none
theorem zaF{X:Cx}{G:Hp}{O:List Nat}{st:Stmt}{f:FE}(i:Nat)(hi:i ∈ O)(hp:PS X st (zaL (tBM X.K "list" (fun x xs H Q=>zdd x xs H Q∨zaX X.K x xs H Q) (uV i) (qw [172] zdX)))):VS X (ko O) G st (uc i f):=hp.imp fun D σ H hq_=>by
 refine hq_.elim fun own env o I hf k=>?_
 unfold uc at hf
 replace hf:=Ja.mp hf;obtain ⟨l,hl,hf⟩:=hf
 replace hf:=Ja.mp hf;obtain ⟨q,hq,hf⟩:=hf
 split at hf
 case h_2=>cases hf
 rename_i ps
 replace hf:=Ja.mp hf;obtain ⟨qs,hs,hf⟩:=hf
 split at hf
 case isFalse=>cases hf
 rename_i hc
 have hf:=(Jq hf).symm
 subst hf
 obtain ⟨a,xs,B,hσ,ha,hr,nd,ho,hB⟩:=kY hi I hl
 refine ⟨.ref a,hσ,.inl ⟨rfl,xs,SqL.of ha⟩,.in I hq fun y H1 C s1 r1 c1=>?_⟩
 have nB:a ∉ B:=(Jy.mp nd).1
 have m1:MutH H1 a:=.inl ⟨xs,s1 _ _ ha⟩
 have fin:∀ (zs:List V),Rps X.K H1 qs zs []->D.nx σ (upd H1 a (.lst (xs++zs))):=fun zs g1=>by
  obtain ⟨h1,h2⟩:=I.turn (p:=.lst (ps++qs)) (o:=.lst (xs++zs)) (B:=B++[]) hi s1 hσ ho (.inl ⟨xs,ha⟩)
   (.mkL zZ ((Rps.upd m1 ps nB (Rps.same s1 ps hr)).append (Rps.upd m1 qs [19] g1))) (by simpa using nd) (by simpa using fun b hb=>Or.inl (hB b hb))
  exact k _ _ _ h1 h2
 unfold zgx at hs
 split at hs
 ·have hs:=Jq hs
  subst hs
  obtain ⟨b,zs,C1,rfl,hb,rfl,g1⟩:=r1.L
  have e1:=Rps.data _ hc.1 g1
  subst e1
  exact .inl ⟨a,b,xs,zs,rfl,rfl,s1 _ _ ha,hb,by rw [← hr.length,← g1.length,sizeLine_eq];omega,fin zs g1⟩
 ·have hs:=Jq hs
  subst hs
  obtain ⟨b,zs,rfl,hb,g1⟩:=r1.T
  have e1:=Rps.data _ hc.1 g1
  subst e1
  exact .inr ⟨a,b,xs,zs,rfl,rfl,s1 _ _ ha,hb,by rw [← hr.length,← g1.length,sizeLine_eq];omega,fin zs g1⟩
 ·cases hs
noncomputable def tyP:PV->Option String
 | .non=>some "NoneType"
 | .bl _=>some "bool"
 | .int _=>some "int"
 | .str _=>some "str"
 | .lst _=>some "list"
 | .fls _=>some "list"
 | .tup _=>some "tuple"
 | .dct _ _=>some "dict"
 | .ty _=>none
 | .any=>none
 | .pen _ _=>none
 | .adr _=>none
theorem TyR.of{K:PySem.W.Frag}{H:Hp}{p:PV}{v:V}{A:List Addr}{t:String}(h:tyP p=some t)(r:Rp K H p v A):TyR K H v t:=by
 cases p<;>cases h
 ·rw [r.N.1];exact .non
 ·rw [r.B.1];exact .bl _
 ·rw [r.I.1];exact .int _
 ·rw [r.S.1];exact .str _
 ·obtain ⟨a,xs,rfl,h,_⟩:=r.T;exact .tup h
 ·obtain ⟨a,xs,B,rfl,h,_⟩:=r.L;exact .lst (SqL.of h)
 ·obtain ⟨a,xs,rfl,h,_⟩:=r.Fl;exact .lst h.seq
 ·obtain ⟨a,xs,B,rfl,h,_⟩:=r.D;exact .dct h
noncomputable def zeC:List String:=["NoneType","bool","int","str","list","tuple","dict"]
noncomputable def zbw(t n:String):Bool:=t == n || (t == "bool" && n == "int")
theorem zkh(K:PySem.W.Frag):∀ t ∈ zeC,∀ n ∈ ["int","bool","str","list","tuple","dict"],PySem.W.kitOne K (.type t) (.type n)=some (zbw t n):=by
 intro t ht n hn
 simp only [zeC,List.mem_cons,List.not_mem_nil,or_false] at ht hn
 rcases ht with rfl | rfl | rfl | rfl | rfl | rfl | rfl<;>rcases hn with rfl | rfl | rfl | rfl | rfl | rfl<;>rfl
noncomputable def jm:List PV->Option (List String)
 | []=>some []
 | .ty n::r=>(jm r).map fun ns=>n::ns
 | _::_=>none
noncomputable def zjP(n:String):Bool:=["int","bool","str","list","tuple","dict"].contains n
noncomputable def vi:List PV->Option PV
 | [p,.ty n]=>if zjP n=true then (tyP p).map fun t=>.bl (zbw t n) else none
 | [p,.tup ts]=>(jm ts).bind fun ns=>if ns.all zjP=true then (tyP p).map fun t=>.bl (ns.any fun n=>zbw t n) else none
 | _=>none
theorem zcq{p:PV}{t:String}(h:tyP p=some t):t ∈ zeC:=by
 cases p<;>cases h<;>simp [zeC]
theorem zer{n:String}(h:zjP n=true):n ∈ ["int","bool","str","list","tuple","dict"]:=by
 unfold zjP at h
 exact List.contains_iff_mem.mp h
theorem zcE(K:PySem.W.Frag){t:String}(ht:t ∈ zeC):∀ ns:List String,ns.all zjP=true->PySem.W.kitAny K (.type t) (ns.map Value.type)=some (ns.any fun n=>zbw t n)
 | [],_=>rfl
 | n::ns,h=>by
  rw [List.all_cons,JS] at h
  rw [Ju]
  unfold PySem.W.kitAny
  rw [zkh K t ht n (zer h.1),Ki]
  cases hs:zbw t n with
  | true=>rfl
  | false=>rw [Bool.false_or];exact zcE K ht ns h.2
theorem qv{K:PySem.W.Frag}{H:Hp}:∀ {ts:List PV} {ns:List String} {xs:List V} {A:List Addr},jm ts=some ns->Rps K H ts xs A->xs=ns.map V.ty
 | [],ns,xs,A,h,r=>by
  cases h
  rw [r.inv0.1];rfl
 | p::ts,ns,xs,A,h,r=>by
  obtain ⟨v,r',A1,A2,rfl,h2,h3,h4⟩:=r.inv
  cases p<;>first | (simp [jm] at h;done) | skip
  simp only [jm] at h
  cases hq:jm ts with
  | none=>rw [hq] at h;cases h
  | some ms=>
   rw [hq] at h
   have h:_::ms=ns:=Jq h
   subst h
   rw [Ju,qv hq h4,h3.Ty.1]
section
variable {X:Cx}
theorem qo:CallR X (.builtin "isinstance") (fun xs H Q=>(∃ x n t b,xs=[x,.ty n]/\TyR X.K H x t/\PySem.W.kitOne X.K (.type t) (.type n)=some b/\Q (.bl b) H)∨
  ∃ x p,∃ ns:List String,∃ t b,xs=[x,.ref p]/\SqT X.K H p (ns.map V.ty)/\TyR X.K H x t/\PySem.W.kitAny X.K (.type t) (ns.map Value.type)=some b/\Q (.bl b) H):=cr_isinst1.or zfY
theorem qm{K:PySem.W.Frag}:ve K (fun xs H Q=>(∃ x n t b,xs=[x,.ty n]/\TyR K H x t/\PySem.W.kitOne K (.type t) (.type n)=some b/\Q (.bl b) H)∨
  ∃ x p,∃ ns:List String,∃ t b,xs=[x,.ref p]/\SqT K H p (ns.map V.ty)/\TyR K H x t/\PySem.W.kitAny K (.type t) (ns.map Value.type)=some b/\Q (.bl b) H) vi:=by
 intro H ps vs A z Q r e k
 unfold vi at e
 split at e
 ·rename_i p n
  split at e
  case isFalse=>cases e
  rename_i ho
  obtain ⟨v,w,A1,A2,rfl,_,r1,r2⟩:=ziP r
  cases ht:tyP p with
  | none=>rw [ht] at e;cases e
  | some t=>
   rw [ht] at e
   have e:PV.bl (zbw t n)=z:=Jq e
   subst e
   exact .inl ⟨v,n,t,_,by rw [r2.Ty.1],TyR.of ht r1,zkh K t (zcq ht) n (zer ho),k _ H [] [31] (.mkB _) .nil [19]⟩
 ·rename_i p ts
  obtain ⟨v,w,A1,A2,rfl,_,r1,r2⟩:=ziP r
  replace e:=Ja.mp e;obtain ⟨ns,hn,e⟩:=e
  split at e
  case isFalse=>cases e
  rename_i ho
  cases ht:tyP p with
  | none=>rw [ht] at e;cases e
  | some t=>
   rw [ht] at e
   have e:PV.bl (ns.any fun n=>zbw t n)=z:=Jq e
   subst e
   obtain ⟨a,xs,rfl,h1,g⟩:=r2.T
   have hx:=qv hn g
   subst hx
   exact .inr ⟨v,a,ns,t,_,rfl,h1,TyR.of ht r1,zcE K (zcq ht) ns ho,k _ H [] [31] (.mkB _) .nil [19]⟩
 ·cases e
end
end F
namespace L2
open PySem PySem.Spec PyProof.Rows
section
variable {X:Cx} {pins:List [24]} {σ:List (Option V)} {H:Hp} {s:Shared} {h':Heap}
theorem Inv.turnedL{t':Nat}{L:List Addr}(I:Inv X pins σ H s)(k:∀ b o,b ∉ L->s.heap.get? b=some o->h'.get? b=some o)(hf:∀ b ∈ L,jy X pins H b):Inv X pins σ H { s with heap:=h',toks:=t' }:=by
 have nit:∀ b u,H b=some u->b ∉ L:=fun b u e z=>by have:=(hf b z).1;rw [e] at this;cases this
 refine I.step (g':=s.gens) (d':=s.drawn) (ch:=L) (fun b hb=>⟨[152].2.2.2.1,[152].2.1,[152].2.2.2.2.1,[152].2.2.2.2.2⟩) (fun b o _ _ hc e _=>k b o hc e) (fun b o _ _ hc e _=>⟨o.slots,k b o hc e⟩) (fun _ _ _ _ n=>n)
  (fun b o hc e=>⟨o,k b o hc e⟩) (fun _ _ e=>e) (fun _ _ _ e=>e) (fun b ps e=>⟨#[],by rw [e];simp⟩) (fun m hm=>?_) (fun b u e=>?_) I.bare
 ·obtain ⟨o,es,ep,ho,r⟩:=hm
  exact ⟨o,es,ep,k _ o (fun z=>(hf _ z).2.1 rfl) ho,r⟩
 ·refine (I.hok b u e).stay (fun c v hc q=>k c v ?_ q) (fun _ q=>q) fun _ _ q=>q
  rcases hc with z | z
  ·rw [z];exact nit b u e
  ·exact nit c _ z
theorem Inv.turnedLaid{t':Nat}{L:List Addr}{a:Addr}{o':HO}(I:Inv X pins σ H s)(k:∀ b o,b ∉ L->s.heap.get? b=some o->h'.get? b=some o)(hf:∀ b ∈ L,jy X pins H b)(hp:s.heap.objs.size≤a)(new:ObjOk X.prog X.w (upd H a o') h' a o'):
  Inv X pins σ (upd H a o') { s with heap:=h',toks:=t' }:=by
 have nit:∀ b u,H b=some u->b ∉ L:=fun b u e z=>by have:=(hf b z).1;rw [e] at this;cases this
 have hn:H a=none:=I.hok.fresh hp
 refine I.step (g':=s.gens) (d':=s.drawn) (ch:=L) (fun b hb=>⟨[152].2.2.2.1,[152].2.1,[152].2.2.2.2.1,[152].2.2.2.2.2⟩) (fun b o _ _ hc e _=>k b o hc e) (fun b o _ _ hc e _=>⟨o.slots,k b o hc e⟩)
  (fun b o _ e n=>by rw [zm (JE (JD (Jn e) hp))];exact n)
  (fun b o hc e=>⟨o,k b o hc e⟩) (fun b xs e=>by rw [zm (yi e hn)];exact e) (fun b _ _ e=>by rw [zm (yi e hn)];exact e) (fun b ps e=>⟨#[],by rw [zm (yi e hn),e];simp⟩) (fun m hm=>?_) (fun b u e=>?_) I.bare
 ·obtain ⟨o,es,ep,ho,r⟩:=hm
  exact ⟨o,es,ep,k _ o (fun z=>(hf _ z).2.1 rfl) ho,r⟩
 ·by_cases hb:b=a
  ·subst hb;rw [zZ] at e;cases e;exact new
  ·rw [zm hb] at e
   refine (I.hok b u e).stay (fun c v hc q=>k c v ?_ q) (fun c q=>by rw [zm (yi q hn)];exact q) fun c xs q=>by rw [zm (yi q hn)];exact q
   rcases hc with z | z
   ·rw [z];exact nit b u e
   ·exact nit c _ z
end
noncomputable def ContAt(h:Heap)(b:Bool)(c:Addr)(its:Array Value):Prop:=if b=true then h.IsList c its else h.IsTuple c its
noncomputable def IterAt(h:Heap)(b:Bool)(it c:Addr)(i:Nat):Prop:=if b=true then h.IsListIter it c i else h.IsTupleIter it c i
noncomputable def zbv(b:Bool):String:=if b=true then "list_iterator" else "tuple_iterator"
section
variable {prog:Program} {w:World} {A:Around} {E:Value->Shared->Prop} {s:Shared} {h h₂:Heap} {b:Bool} {it c:Addr} {i:Nat} {its:Array Value}
theorem ContAt.keep(x:ContAt h b c its)(k:∀ o,h.get? c=some o->h₂.get? c=some o):ContAt h₂ b c its:=by
 cases b with
 | true=>obtain ⟨o,ho,r⟩:=x;exact ⟨o,k o ho,r⟩
 | false=>obtain ⟨o,ho,r⟩:=x;exact ⟨o,k o ho,r⟩
theorem IterAt.keep(x:IterAt h b it c i)(k:∀ o,h.get? it=some o->h₂.get? it=some o):IterAt h₂ b it c i:=by
 cases b with
 | true=>obtain ⟨o,ho,r⟩:=x;exact ⟨o,k o ho,r⟩
 | false=>obtain ⟨o,ho,r⟩:=x;exact ⟨o,k o ho,r⟩
theorem IterAt.has(x:IterAt h b it c i):∃ o,h.get? it=some o/\∀ v,o.data≠.cell v:=by
 cases b with
 | true=>obtain ⟨o,ho,_,d⟩:=x;exact ⟨o,ho,fun v z=>by rw [d] at z;cases z⟩
 | false=>obtain ⟨o,ho,_,d⟩:=x;exact ⟨o,ho,fun v z=>by rw [d] at z;cases z⟩
theorem IterAt.lt(x:IterAt h b it c i):it<h.objs.size:=let ⟨_,e,_⟩:=x.has;Jn e
theorem zbj{x:Value}{Q:Value->Shared->Prop}(gi:s.heap.IsTupleIter it c i)(gt:s.heap.IsTuple c its)(gx:its[i]?=some x)
  (k:∀ h',h'.IsTupleIter it c (i+1)->Heap.SameBut it s.heap h'->Q x { s with heap:=h' }):wpAny [35] A [204] Q E s:=by
 obtain ⟨o,go,gc,gd⟩:=id gi
 obtain ⟨ot,got,_,nt,gdt⟩:=gt
 unfold Builtin.SmallTypes.nextOf
 refine wpAny_bind (wpAny_callSpecial?_slot (name:=Str.ofString "__next__") gi.typeIs KD (wpAny_call_entry KD gi.typeIs F.entry_tuple_iterator_next ?_ (F.args_tuple_iterator_next_1 _)))
 show wpAny _ _ (field [158] 0 >>= _) _ _ s
 refine wpAny_bind (wpAny_field go gd (x:=.ref c) rfl ?_)
 show wpAny _ _ (if [257]=true then _ else _) _ _ s
 rw [if_neg (show ¬ ([257]=true) from Je)]
 show wpAny _ _ (field [158] 1 >>= _) _ _ s
 refine wpAny_bind (wpAny_field go gd (x:=.int i 0) rfl ?_)
 show wpAny _ _ (seqItems? (.ref c) >>= _) _ _ s
 refine wpAny_bind (wpAny_seqItems got gdt ?_)
 simp only [Int.toNat_natCast,gx]
 refine wpAny_bind (wpAny_setField go gd [19] (wpAny_pure ⟨x,rfl,wpAny_pure (k _ ?_ (Heap.SameBut.update ..))⟩))
 exact ⟨_,Heap.get?_update_self _ go (Obj.isFreed_of_fields (Obj.data_mapFields gd _)),(Obj.cls_mapFields ..).trans gc,(by rw [Obj.data_mapFields gd];simp [rawInt])⟩
theorem jP{x:Value}{Q:Value->Shared->Prop}(gi:IterAt s.heap b it c i)(gt:ContAt s.heap b c its)(gx:its[i]?=some x)
  (k:∀ h',IterAt h' b it c (i+1)->Heap.SameBut it s.heap h'->Q x { s with heap:=h' }):wpAny [35] A [204] Q E s:=by
 cases b with
 | true=>exact wpAny_nextOf_list_item gi gt gx k
 | false=>exact zbj gi gt gx k
theorem vX{Q:Value->Shared->Prop}(hh:A.handled=none)(gi:s.heap.IsTupleIter it c i)(gt:s.heap.IsTuple c its)(gx:its[i]?=none)
  (k:∀ h' e,Heap.ExtBut it s.heap h'->(∃ o,h'.get? e=some o/\o.cls=.type "StopIteration")->E (.ref e) { s with heap:=h' }):wpAny [35] A [204] Q E s:=by
 obtain ⟨o,go,gc,gd⟩:=id gi
 obtain ⟨ot,got,_,nt,gdt⟩:=gt
 unfold Builtin.SmallTypes.nextOf
 refine wpAny_bind (wpAny_callSpecial?_slot (name:=Str.ofString "__next__") gi.typeIs KD (wpAny_call_entry KD gi.typeIs F.entry_tuple_iterator_next ?_ (F.args_tuple_iterator_next_1 _)))
 show wpAny _ _ (field [158] 0 >>= _) _ _ s
 refine wpAny_bind (wpAny_field go gd (x:=.ref c) rfl ?_)
 show wpAny _ _ (if [257]=true then _ else _) _ _ s
 rw [if_neg (show ¬ ([257]=true) from Je)]
 show wpAny _ _ (field [158] 1 >>= _) _ _ s
 refine wpAny_bind (wpAny_field go gd (x:=.int i 0) rfl ?_)
 show wpAny _ _ (seqItems? (.ref c) >>= _) _ _ s
 refine wpAny_bind (wpAny_seqItems got gdt ?_)
 simp only [Int.toNat_natCast,gx]
 refine wpAny_bind (wpAny_rule (wpAny_bind (wpAny_setField go gd [19] ?_)))
 show wpAny _ _ (newExc (.type "StopIteration") [] >>= _) _ _ _
 refine wpAny_bind ?_
 simp only [newExc,newTuple]
 refine wpAny_bind (wpAny_newObj_type ?_ (by size_fits))
 refine wpAny_bind (m:=firstArgMember _ _) (wpAny_of_eq (a:=Value.none) (by first | rfl | (simp only [firstArgMember];rfl)) ?_)
 refine wpAny_newObj_type ?_ (by size_fits)
 simp only [raiseNew]
 refine wpAny_bind (wpAny_handled ?_)
 first | rw [show A.in1.handled=none from hh] | rw [hh]
 refine wpAny_bind (wpAny_pure (wpAny_throw ?_))
 exact k _ _ (((Qf ..).extBut.push _).push _) ⟨_,Jp _ rfl,rfl⟩
theorem zbk{Q:Value->Shared->Prop}(hh:A.handled=none)(gi:IterAt s.heap b it c i)(gt:ContAt s.heap b c its)(gx:its[i]?=none)
  (k:∀ h' e,Heap.ExtBut it s.heap h'->(∃ o,h'.get? e=some o/\o.cls=.type "StopIteration")->E (.ref e) { s with heap:=h' }):wpAny [35] A [204] Q E s:=by
 cases b with
 | true=>exact wpAny_nextOf_list_end hh gi gt gx k
 | false=>exact vX hh gi gt gx k
end
section
variable {prog:Program} {w:World} {A:Around} {E:Value->Shared->Prop} {s:Shared} {b1 b2:Bool} {z TI TO i1 i2 l1 l2:Addr} {k1 k2:Nat} {xs ys:Array Value} {x y p q:Value}
theorem zhp{Q:Value->Shared->Prop}(D:ZipApart z TI TO i1 i2 l1 l2)(gz:IsZip s.heap z TI TO .none)(gI:IsPair s.heap TI (.ref i1) (.ref i2))(gO:IsPair s.heap TO p q)
  (g1:IterAt s.heap b1 i1 l1 k1)(g2:IterAt s.heap b2 i2 l2 k2)(c1:ContAt s.heap b1 l1 xs)(c2:ContAt s.heap b2 l2 ys)(gx:xs[k1]?=some x)(gy:ys[k2]?=some y)
  (fin:∀ h',IsZip h' z TI TO (rawInt s.heap.objs.size)->IsPair h' TO x y->IterAt h' b1 i1 l1 (k1+1)->IterAt h' b2 i2 l2 (k2+1)->IsPair h' s.heap.objs.size x y->
   (∀ c o,c ∉ [z,TO,i1,i2]->s.heap.get? c=some o->h'.get? c=some o)->Q [64] { s with heap:=h' }):
  wpAny [35] A (Builtin.«zip.__next__» ⟨[.ref z],[]⟩) (fun fin s'=>∃ v,fin=.done (.ret v)/\Q v s') E s:=by
 show wpAny _ _ (field (.ref z) 2 >>= _) _ _ _
 refine wpAny_bind (wpAny_field gz rfl (x:=.bool false) rfl ?_)
 show wpAny _ _ (field (.ref z) 3 >>= _) _ _ _
 refine wpAny_bind (wpAny_field gz rfl (x:=.ref TI) rfl ?_)
 refine wpAny_bind (wpAny_seqItems gI rfl ?_)
 show wpAny _ _ (Builtin.SmallTypes.ownedTupleIsFree (.ref z) >>= _) _ _ _
 refine wpAny_bind ?_
 unfold Builtin.SmallTypes.ownedTupleIsFree
 refine wpAny_bind (wpAny_field gz rfl (x:=.none) rfl [47])
 simp only [if_true]
 refine wpAny_bind (wpAny_rule ?_)
 refine wpAny_bind (wpAny_field gz rfl (x:=.ref TO) rfl ?_)
 refine wpAny_bind (wpAny_setField_rec gz [19] fun h₁ z₁ s₁=>?_)
 replace z₁:IsZip h₁ z TI TO .ellipsis:=z₁
 refine wpAny_bind ?_
 simp only [List.zipIdx_cons,List.zipIdx_nil,List.forIn_cons,List.forIn_nil]
 refine wpAny_bind [221]
 show wpAny _ _ (Builtin.SmallTypes.nextOf (.ref i1) >>= _) _ _ _
 refine wpAny_bind (jP (g1.keep fun o e=>s₁.extBut _ _ D.i1z e) (c1.keep fun o e=>s₁.extBut _ _ D.l1z e) gx fun h₂ e₂ s₂=>wpAny_pure ?_)
 have O₂:IsPair h₂ TO p q:=s₂.extBut _ _ D.TOi1 (s₁.extBut _ _ D.TOz gO)
 refine wpAny_bind (wpAny_seqItems O₂ rfl ?_)
 refine wpAny_bind (wpAny_updateSeq_pair O₂ fun h₃ O₃ s₃=>?_)
 replace O₃:IsPair h₃ TO x q:=O₃
 refine wpAny_bind (wpAny_letGo [47])
 refine wpAny_bind [221]
 show wpAny _ _ (Builtin.SmallTypes.nextOf (.ref i2) >>= _) _ _ _
 refine wpAny_bind (jP (g2.keep fun o e=>s₃.extBut _ _ D.TOi2.symm (s₂.extBut _ _ D.i12.symm (s₁.extBut _ _ D.i2z e))) (c2.keep fun o e=>s₃.extBut _ _ D.l2TO (s₂.extBut _ _ D.l2i1 (s₁.extBut _ _ D.l2z e))) gy fun h₄ e₄ s₄=>wpAny_pure ?_)
 have O₄:IsPair h₄ TO x q:=s₄.extBut _ _ D.TOi2 O₃
 refine wpAny_bind (wpAny_seqItems O₄ rfl ?_)
 refine wpAny_bind (wpAny_updateSeq_pair O₄ fun h₅ O₅ s₅=>?_)
 replace O₅:IsPair h₅ TO x y:=O₅
 refine wpAny_bind (wpAny_letGo (wpAny_pure [47]))
 refine wpAny_bind (wpAny_seqItems O₅ rfl ?_)
 refine wpAny_bind (wpAny_newTuple ?_)
 have sz:h₅.objs.size=s.heap.objs.size:=by rw [s₅.1,s₄.1,s₃.1,s₂.1,s₁.1]
 have z₅:IsZip h₅ z TI TO .ellipsis:=s₅.extBut _ _ D.TOz.symm (s₄.extBut _ _ D.i2z.symm (s₃.extBut _ _ D.TOz.symm (s₂.extBut _ _ D.i1z.symm z₁)))
 have up5:∀ c o,c ∉ [z,TO,i1,i2]->s.heap.get? c=some o->h₅.get? c=some o:=fun c o hc e=>by
  simp only [List.mem_cons,List.not_mem_nil,or_false,not_or] at hc
  exact s₅.extBut _ _ hc.2.1 (s₄.extBut _ _ hc.2.2.2 (s₃.extBut _ _ hc.2.1 (s₂.extBut _ _ hc.2.2.1 (s₁.extBut _ _ hc.1 e))))
 have f1:IterAt h₅ b1 i1 l1 (k1+1):=e₂.keep fun o e=>s₅.extBut _ _ D.TOi1.symm (s₄.extBut _ _ D.i12 (s₃.extBut _ _ D.TOi1.symm e))
 have f2:IterAt h₅ b2 i2 l2 (k2+1):=e₄.keep fun o e=>s₅.extBut _ _ D.TOi2.symm e
 have zlt:z<h₅.objs.size:=Jn z₅
 show wpAny _ _ (Builtin.SmallTypes.ownedTupleHandOut (.ref z) (.ref h₅.objs.size) >>= _) _ _ _
 refine wpAny_bind ?_
 unfold Builtin.SmallTypes.ownedTupleHandOut
 have z₆:IsZip (h₅.push { cls:=.type "tuple",data:=.seq #[x,y] }) z TI TO .ellipsis:=Jd _ z₅
 refine wpAny_bind (wpAny_setField_rec z₆ [19] fun h₇ z₇ s₇=>?_)
 replace z₇:IsZip h₇ z TI TO (rawInt h₅.objs.size):=z₇
 refine wpAny_setField_rec z₇ [19] fun h₈ z₈ s₈=>?_
 replace z₈:IsZip h₈ z TI TO (rawInt h₅.objs.size):=z₈
 have up:∀ c o,c≠z->h₅.get? c=some o->h₈.get? c=some o:=fun c o n e=>s₈.extBut _ _ n (s₇.extBut _ _ n (Jd _ e))
 have T₈:IsPair h₈ h₅.objs.size x y:=s₈.extBut _ _ (Kh zlt) (s₇.extBut _ _ (Kh zlt) (Jp _ rfl))
 rw [sz] at z₈ T₈
 refine wpAny_pure ⟨_,rfl,?_⟩
 show Q (.ref h₅.objs.size) _
 rw [sz]
 exact fin h₈ z₈ (up _ _ D.TOz O₅) (f1.keep fun o e=>up _ o D.i1z e) (f2.keep fun o e=>up _ o D.i2z e) T₈ fun c o hc e=>up c o (fun n=>hc (by simp [n])) (up5 c o hc e)
theorem ziG{Q:PySem.Fin->Shared->Prop}(hh:A.handled=none)(D:ZipApart z TI TO i1 i2 l1 l2)(gz:IsZip s.heap z TI TO .none)(gI:IsPair s.heap TI (.ref i1) (.ref i2))(gO:IsPair s.heap TO p q)
  (g1:IterAt s.heap b1 i1 l1 k1)(g2:IterAt s.heap b2 i2 l2 k2)(c1:ContAt s.heap b1 l1 xs)(c2:ContAt s.heap b2 l2 ys)(ge:xs[k1]?=none∨ys[k2]?=none)
  (fin:∀ h' e,(∀ c o,c ∉ [z,TO,i1,i2]->s.heap.get? c=some o->h'.get? c=some o)->(∃ o,h'.get? e=some o/\o.cls=.type "StopIteration")->E (.ref e) { s with heap:=h' }):
  wpAny [35] A (Builtin.«zip.__next__» ⟨[.ref z],[]⟩) Q E s:=by
 show wpAny _ _ (field (.ref z) 2 >>= _) _ _ _
 refine wpAny_bind (wpAny_field gz rfl (x:=.bool false) rfl ?_)
 show wpAny _ _ (field (.ref z) 3 >>= _) _ _ _
 refine wpAny_bind (wpAny_field gz rfl (x:=.ref TI) rfl ?_)
 refine wpAny_bind (wpAny_seqItems gI rfl ?_)
 show wpAny _ _ (Builtin.SmallTypes.ownedTupleIsFree (.ref z) >>= _) _ _ _
 refine wpAny_bind ?_
 unfold Builtin.SmallTypes.ownedTupleIsFree
 refine wpAny_bind (wpAny_field gz rfl (x:=.none) rfl [47])
 simp only [if_true]
 refine wpAny_bind (wpAny_rule ?_)
 refine wpAny_bind (wpAny_field gz rfl (x:=.ref TO) rfl ?_)
 refine wpAny_bind (wpAny_setField_rec gz [19] fun h₁ z₁ s₁=>?_)
 replace z₁:IsZip h₁ z TI TO .ellipsis:=z₁
 refine wpAny_bind ?_
 simp only [List.zipIdx_cons,List.zipIdx_nil,List.forIn_cons,List.forIn_nil]
 refine wpAny_bind [221]
 show wpAny _ _ (Builtin.SmallTypes.nextOf (.ref i1) >>= _) _ _ _
 have j1:IterAt h₁ b1 i1 l1 k1:=g1.keep fun o e=>s₁.extBut _ _ D.i1z e
 have d1:ContAt h₁ b1 l1 xs:=c1.keep fun o e=>s₁.extBut _ _ D.l1z e
 cases gx:xs[k1]? with
 | none=>
  refine wpAny_bind (zbk hh j1 d1 gx fun h₂ e s₂ he=>?_)
  obtain ⟨oe,hoe,hce⟩:=he
  have z₂:IsZip h₂ z TI TO .ellipsis:=s₂ _ _ D.i1z.symm z₁
  have nez:e≠z:=fun n=>by subst n;rw [z₂] at hoe;cases hoe;simp at hce
  refine wpAny_setField_rec z₂ [19] fun h₃ _ s₃=>fin h₃ e (fun c o hc t=>?_) ⟨oe,s₃.extBut _ _ nez hoe,hce⟩
  simp only [List.mem_cons,List.not_mem_nil,or_false,not_or] at hc
  exact s₃.extBut _ _ hc.1 (s₂ _ _ hc.2.2.1 (s₁.extBut _ _ hc.1 t))
 | some x=>
  have gy:ys[k2]?=none:=by
   rcases ge with g | g
   ·rw [gx] at g;cases g
   ·exact g
  refine wpAny_bind (jP j1 d1 gx fun h₂ e₂ s₂=>wpAny_pure ?_)
  have O₂:IsPair h₂ TO p q:=s₂.extBut _ _ D.TOi1 (s₁.extBut _ _ D.TOz gO)
  refine wpAny_bind (wpAny_seqItems O₂ rfl ?_)
  refine wpAny_bind (wpAny_updateSeq_pair O₂ fun h₃ O₃ s₃=>?_)
  refine wpAny_bind (wpAny_letGo [47])
  refine wpAny_bind [221]
  show wpAny _ _ (Builtin.SmallTypes.nextOf (.ref i2) >>= _) _ _ _
  refine wpAny_bind (zbk hh (g2.keep fun o e=>s₃.extBut _ _ D.TOi2.symm (s₂.extBut _ _ D.i12.symm (s₁.extBut _ _ D.i2z e))) (c2.keep fun o e=>s₃.extBut _ _ D.l2TO (s₂.extBut _ _ D.l2i1 (s₁.extBut _ _ D.l2z e))) gy fun h₄ e s₄ he=>?_)
  obtain ⟨oe,hoe,hce⟩:=he
  have z₄:IsZip h₄ z TI TO .ellipsis:=s₄ _ _ D.i2z.symm (s₃.extBut _ _ D.TOz.symm (s₂.extBut _ _ D.i1z.symm z₁))
  have nez:e≠z:=fun n=>by subst n;rw [z₄] at hoe;cases hoe;simp at hce
  refine wpAny_setField_rec z₄ [19] fun h₅ _ s₅=>fin h₅ e (fun c o hc t=>?_) ⟨oe,s₅.extBut _ _ nez hoe,hce⟩
  simp only [List.mem_cons,List.not_mem_nil,or_false,not_or] at hc
  exact s₅.extBut _ _ hc.1 (s₄ _ _ hc.2.2.2 (s₃.extBut _ _ hc.2.1 (s₂.extBut _ _ hc.2.2.1 (s₁.extBut _ _ hc.1 t))))
theorem zho{Q:Option Value->Shared->Prop}(D:ZipApart z TI TO i1 i2 l1 l2)(gz:IsZip s.heap z TI TO .none)(gI:IsPair s.heap TI (.ref i1) (.ref i2))(gO:IsPair s.heap TO p q)
  (g1:IterAt s.heap b1 i1 l1 k1)(g2:IterAt s.heap b2 i2 l2 k2)(c1:ContAt s.heap b1 l1 xs)(c2:ContAt s.heap b2 l2 ys)(gx:xs[k1]?=some x)(gy:ys[k2]?=some y)
  (fin:∀ h',IsZip h' z TI TO (rawInt s.heap.objs.size)->IsPair h' TO x y->IterAt h' b1 i1 l1 (k1+1)->IterAt h' b2 i2 l2 (k2+1)->IsPair h' s.heap.objs.size x y->
   (∀ c o,c ∉ [z,TO,i1,i2]->s.heap.get? c=some o->h'.get? c=some o)->Q (some [64]) { s with heap:=h' }):wpAny [35] A (pyNext (.ref z)) Q E s:=by
 have hT:s.TypeIs (.ref z) "zip":=⟨_,gz,rfl⟩
 unfold pyNext
 exact wpAny_bind (wpAny_attempt (wpAny_callSpecial?_slot (name:=Str.ofString "__next__") hT F.slot_zip_next
  (wpAny_call_entry F.slot_zip_next hT F.entry_zip_next (zhp D gz gI gO g1 g2 c1 c2 gx gy fun h' a1 a2 a3 a4 a5 a6=>wpAny_pure (fin h' a1 a2 a3 a4 a5 a6)) (F.args_zip_next_1 _))))
theorem zhn{Q:Option Value->Shared->Prop}(hh:A.handled=none)(D:ZipApart z TI TO i1 i2 l1 l2)(gz:IsZip s.heap z TI TO .none)(gI:IsPair s.heap TI (.ref i1) (.ref i2))(gO:IsPair s.heap TO p q)
  (g1:IterAt s.heap b1 i1 l1 k1)(g2:IterAt s.heap b2 i2 l2 k2)(c1:ContAt s.heap b1 l1 xs)(c2:ContAt s.heap b2 l2 ys)(ge:xs[k1]?=none∨ys[k2]?=none)
  (fin:∀ h',(∀ c o,c ∉ [z,TO,i1,i2]->s.heap.get? c=some o->h'.get? c=some o)->Q none { s with heap:=h' }):wpAny [35] A (pyNext (.ref z)) Q E s:=by
 have hT:s.TypeIs (.ref z) "zip":=⟨_,gz,rfl⟩
 unfold pyNext
 refine wpAny_bind (wpAny_attempt (wpAny_callSpecial?_slot (name:=Str.ofString "__next__") hT F.slot_zip_next
  (wpAny_call_entry F.slot_zip_next hT F.entry_zip_next (ziG hh D gz gI gO g1 g2 c1 c2 ge fun h' e hk he=>?_) (F.args_zip_next_1 _))))
 obtain ⟨o,ho,hc⟩:=he
 refine wpAny_bind (wpAny_isInstance (T:="StopIteration") (b:=true) ⟨o,ho,hc⟩ isSubtype_stop ?_)
 exact wpAny_pure (fin _ hk)
theorem qx{b:Bool}{c:Addr}{its:Array Value}{Q:Value->Shared->Prop}(g:ContAt s.heap b c its)(k:Q [64] { s with heap:=s.heap.push { cls:=.type (zbv b),data:=.fields #[.ref c,.int 0 0] } }):
  wpAny [35] A (pyIter (.ref c)) Q E s:=by
 cases b with
 | true=>exact wpAny_pyIter_list g k
 | false=>exact wpAny_pyIter_tuple g k
noncomputable abbrev zg1(h:Heap)(b1:Bool)(l1:Addr):Heap:=h.push { cls:=.type (zbv b1),data:=.fields #[.ref l1,.int 0 0] }
noncomputable abbrev zg2(h:Heap)(b1 b2:Bool)(l1 l2:Addr):Heap:=(zg1 h b1 l1).push { cls:=.type (zbv b2),data:=.fields #[.ref l2,.int 0 0] }
noncomputable abbrev zg3(h:Heap)(b1 b2:Bool)(l1 l2:Addr):Heap:=(zg2 h b1 b2 l1 l2).push { cls:=.type "tuple",data:=.seq #[.ref h.objs.size,.ref (zg1 h b1 l1).objs.size] }
noncomputable abbrev zg4(h:Heap)(b1 b2:Bool)(l1 l2:Addr):Heap:=(zg3 h b1 b2 l1 l2).push { cls:=.type "tuple",data:=.seq #[.none,.none] }
noncomputable abbrev zg5(h:Heap)(b1 b2:Bool)(l1 l2:Addr):Heap:=(zg4 h b1 b2 l1 l2).push { cls:=.type "zip",data:=.fields #[.none,.bool false,.bool false,.ref (zg2 h b1 b2 l1 l2).objs.size,.ref (zg3 h b1 b2 l1 l2).objs.size] }
theorem ziF(b1 b2:Bool)(l1 l2:Addr)(xs ys:Array Value):
  Meets (Builtin.«zip.__new__» ⟨[.type "zip",.ref l1,.ref l2],[]⟩) (fun _ R s=>ContAt s.heap b1 l1 xs/\ContAt s.heap b2 l2 ys/\
   R (.ok (.ret (.ref (zg4 s.heap b1 b2 l1 l2).objs.size))) { s with heap:=zg5 s.heap b1 b2 l1 l2 }):=
 .of_wp fun prog w A R s h=>by
  obtain ⟨hp,g,d,tk,os⟩:=s;obtain ⟨c1,c2,h⟩:=h
  have hsub:=PySem.sub_zip
  have L1:ContAt (Shared.heap ⟨hp,g,d,tk,os⟩) b1 l1 xs:=c1
  have L2':ContAt (Shared.heap ⟨hp.push { cls:=.type (zbv b1),data:=.fields #[.ref l1,.int 0 0] },g,d,tk,os⟩) b2 l2 ys:=c2.keep fun o e=>Jd _ e
  wp_walk using qx L1,qx L2'
  exact ⟨_,rfl,h⟩
theorem ziu{Q:Value->Shared->Prop}(c1:ContAt s.heap b1 l1 xs)(c2:ContAt s.heap b2 l2 ys)
  (k:∀ h',IsZip h' (s.heap.objs.size+4) (s.heap.objs.size+2) (s.heap.objs.size+3) .none->IsPair h' (s.heap.objs.size+2) [64] (.ref [181])->
   IsPair h' (s.heap.objs.size+3) .none .none->IterAt h' b1 s.heap.objs.size l1 0->IterAt h' b2 [181] l2 0->(∀ c o,s.heap.get? c=some o->h'.get? c=some o)->Q (.ref (s.heap.objs.size+4)) { s with heap:=h' }):
  wpAny [35] A (call (.type "zip") [.ref l1,.ref l2]) Q E s:=by
 refine callType_new F.called_zip [10] (F.typeCall_zip_2 _ _) (F.newCall_zip_2 _ _) (fun obj=>F.args_object_init_3 obj _ _) F.entry_zip_new (ziF b1 b2 l1 l2 xs ys) ⟨c1,c2,?_⟩
 have e1:(zg1 s.heap b1 l1).objs.size=s.heap.objs.size+1:=Ky ..
 have e2:(zg2 s.heap b1 b2 l1 l2).objs.size=s.heap.objs.size+2:=by rw [Ky,e1]
 have e3:(zg3 s.heap b1 b2 l1 l2).objs.size=s.heap.objs.size+3:=by rw [Ky,e2]
 have e4:(zg4 s.heap b1 b2 l1 l2).objs.size=s.heap.objs.size+4:=by rw [Ky,e3]
 have g5:[227].get? (zg4 s.heap b1 b2 l1 l2).objs.size=some _:=Jp _ rfl
 have g4:[227].get? (zg3 s.heap b1 b2 l1 l2).objs.size=some _:=Jd _ (Jp _ rfl)
 have g3:[227].get? (zg2 s.heap b1 b2 l1 l2).objs.size=some _:=Jd _ (Jd _ (Jp _ rfl))
 have g2:[227].get? (zg1 s.heap b1 l1).objs.size=some _:=Jd _ (Jd _ (Jd _ (Jp _ rfl)))
 have g1:[227].get? s.heap.objs.size=some _:=Jd _ (Jd _ (Jd _ (Jd _ (Jp _ rfl))))
 show _/\_
 rw [e2,e3,e4] at g5
 rw [e1,e2] at g3
 rw [e3] at g4
 rw [e1] at g2
 rw [e4]
 have mk:∀ (b:Bool) (h:Heap) (it l:Addr),h.get? it=some { cls:=.type (zbv b),data:=.fields #[.ref l,.int 0 0] }->IterAt h b it l 0:=fun b h it l e=>by
  cases b with
  | true=>exact ⟨_,e,rfl,rfl⟩
  | false=>exact ⟨_,e,rfl,rfl⟩
 exact ⟨⟨_,g5,rfl⟩,k _ g5 g3 g4 (mk b1 _ _ _ g1) (mk b2 _ _ _ g2) fun c o e=>Jd _ (Jd _ (Jd _ (Jd _ (Jd _ e))))⟩
end
noncomputable def Sq(K:PySem.W.Frag)(H:Hp)(b:Bool)(a:Addr)(xs:List V):Prop:=if b=true then SqL K H a xs else SqT K H a xs
noncomputable def Itz (K : PySem.W.Frag) (b1 b2 : Bool) (a1 a2 : Addr) : It :=
  ⟨fun i H => ∃ xs ys x y, Sq K H b1 a1 xs ∧ Sq K H b2 a2 ys ∧ xs[i]? = some x ∧ ys[i]? = some y,
   fun i H v H' => ∃ T x y, H T = none ∧ v = .ref T ∧ H' = upd H T (.tup [x, y]) ∧ ∀ xs ys, Sq K H b1 a1 xs → Sq K H b2 a2 ys → xs[i]? = some x ∧ ys[i]? = some y,
   fun i H => ∃ xs ys, Sq K H b1 a1 xs ∧ Sq K H b2 a2 ys ∧ (xs.length ≤ i ∨ ys.length ≤ i)⟩
section
variable {X:Cx} {pins:List [24]} {σ:St} {H:Hp} {s:Shared}
theorem Sq.at{b:Bool}{a:Addr}{xs:List V}(I:Inv X pins σ H s)(h:Sq X.K H b a xs):∃ its:List Value,Vals xs its/\ContAt s.heap b a its.toArray:=by
 cases b with
 | true=>obtain ⟨its,r,p,_⟩:=I.list h;exact ⟨its,r,p.isList⟩
 | false=>obtain ⟨its,r,p,_⟩:=I.tuple h;exact ⟨its,r,p⟩
theorem Sq.inj{b:Bool}{a:Addr}{xs ys:List V}(I:Inv X pins σ H s)(h:Sq X.K H b a xs)(h':Sq X.K H b a ys):xs=ys:=by
 cases b with
 | true=>exact I.list_inj h h'
 | false=>exact I.tuple_inj h h'
theorem Sq.ne{b:Bool}{a it:Addr}{xs:List V}(I:Inv X pins σ H s)(h:Sq X.K H b a xs)(hf:jy X pins H it):a≠it:=by
 rintro rfl
 have nb:∀ o,X.K.lookup a=some o->False:=fun o ho=>by
  obtain ⟨u,hu⟩:=I.ok.mod.kin a o ho |> fun e=>(⟨o,e⟩:∃ u,X.base.get? a=some u)
  rcases hf.2.2.2.1 with z | z
  ·exact I.ok.noex a u hu z
  ·exact absurd (JD (Jn hu) (JN I.ok.bsz z)) (Kx _)
 cases b with
 | true=>
  rcases h with (h | ⟨u,h⟩) | ⟨o,_,_,h,_⟩
  ·rw [hf.1] at h;cases h
  ·rw [hf.1] at h;cases h
  ·exact nb o h
 | false=>
  rcases h with (h | ⟨u,h⟩) | ⟨o,_,_,h,_⟩
  ·rw [hf.1] at h;cases h
  ·rw [hf.1] at h;cases h
  ·exact nb o h
end
structure ZApart (z TI TO i1 i2:Addr):Prop where
 a1:TI≠z
 a2:TO≠z
 a3:i1≠z
 a4:i2≠z
 a5:TI≠TO
 a6:TI≠i1
 a7:TI≠i2
 a8:TO≠i1
 a9:TO≠i2
 a10:i1≠i2
theorem zoU{z TI TO i1 i2 b:Addr}(hb:b ∈ [z,TO,i1,i2]):b ∈ [z,TI,TO,i1,i2]:=by
 simp only [List.mem_cons,List.not_mem_nil,or_false] at hb ⊢
 rcases hb with h | h | h | h
 ·exact .inl h
 ·exact .inr (.inr (.inl h))
 ·exact .inr (.inr (.inr (.inl h)))
 ·exact .inr (.inr (.inr (.inr h)))
theorem ziQ{P:Program}{w:World}{K:PySem.W.Frag}{es:List Expr}{k:Nat}{pos:Pos}(b1 b2:Bool)(a1 a2 z TI TO i1 i2:Addr)(D:ZApart z TI TO i1 i2):
  Turn P w K [275] (Itz K b1 b2 a1 a2) [z,TI,TO,i1,i2] z (fun i h=>IsZip h z TI TO .none/\IsPair h TI (.ref i1) (.ref i2)/\(∃ p q,IsPair h TO p q)/\IterAt h b1 i1 a1 i/\IterAt h b2 i2 a2 i) where
 mem:=by simp
 obj:=by
  rintro i h ⟨gz,gI,⟨p,q,gO⟩,g1,g2⟩ b hb
  simp only [List.mem_cons,List.not_mem_nil,or_false] at hb
  rcases hb with rfl | rfl | rfl | rfl | rfl
  ·exact ⟨_,gz,fun v e=>nomatch e⟩
  ·exact ⟨_,gI,fun v e=>nomatch e⟩
  ·exact ⟨_,gO,fun v e=>nomatch e⟩
  ·exact g1.has
  ·exact g2.has
 keep:=by
  rintro i h h' ⟨gz,gI,⟨p,q,gO⟩,g1,g2⟩ kk
  exact ⟨kk z [19] _ gz,kk TI [19] _ gI,⟨p,q,kk TO [19] _ gO⟩,g1.keep fun o e=>kk i1 [19] o e,g2.keep fun o e=>kk i2 [19] o e⟩
 item:=by
  rintro X hP hw hK hc i pins s σ H E I hf ⟨gz,gI,⟨p,q,gO⟩,g1,g2⟩ ⟨xs,ys,x,y,hx,hy,ex,ey⟩
  subst hP hw hK
  obtain ⟨its1,r1,c1⟩:=hx.at I
  obtain ⟨its2,r2,c2⟩:=hy.at I
  obtain ⟨u,hu,ru⟩:=r1.get ex
  obtain ⟨v,hv,rv⟩:=r2.get ey
  have nf:∀ b ∈ [z,TI,TO,i1,i2],a1≠b/\a2≠b:=fun b hb=>⟨hx.ne I [152],hy.ne I [152]⟩
  have DD:ZipApart z TI TO i1 i2 a1 a2:=⟨D.a1,D.a2,D.a3,D.a4,D.a5,D.a6,D.a7,D.a8,D.a9,D.a10,(nf z [19]).1,(nf TO [19]).1,(nf i1 [19]).1,(nf i2 [19]).1,(nf z [19]).2,(nf TO [19]).2,(nf i1 [19]).2,(nf i2 [19]).2⟩
  refine zho DD gz gI gO g1 g2 c1 c2 (x:=u) (y:=v) [291] (by simpa using hv) fun h' e1 e2 e3 e4 e5 e6=>⟨_,rfl,?_⟩
  refine wpAny_letOwnedTupleGo_zip e1 fun h₂ z₂ s₂=>?_
  have hL:∀ b ∈ [z,TO,i1,i2],jy X pins H b:=fun b hb=>hf b (zoU hb)
  have kk:∀ b o,b ∉ [z,TO,i1,i2]->s.heap.get? b=some o->h₂.get? b=some o:=fun b o hb e=>s₂.extBut _ _ (fun n=>hb (by simp [n])) (e6 b o hb e)
  -- first the records,then the new pair
  have hT:H s.heap.objs.size=none:=I.hok.fresh (Jm _)
  have nz:s.heap.objs.size≠z:=Kh (Jn gz)
  have T2:IsPair h₂ s.heap.objs.size u v:=s₂.extBut _ _ nz e5
  have I2:Inv X pins σ (upd H s.heap.objs.size (.tup [x,y])) { s with heap:=h₂,toks:=s.toks }:=I.turnedLaid (t':=s.toks) kk hL [247] ⟨by simp [sizeLine],[u,v],.cons ru (.cons rv .nil),⟨_,T2,rfl,_,rfl⟩⟩
  refine ⟨.ref s.heap.objs.size,_,I2,rfl,⟨_,x,y,hT,rfl,rfl,fun xs' ys' h1 h2=>⟨by rw [h1.inj I hx];exact ex,by rw [h2.inj I hy];exact ey⟩⟩,⟨z₂,?_,⟨u,v,s₂.extBut _ _ D.a2 e2⟩,e3.keep fun o e=>s₂.extBut _ _ D.a3 e,e4.keep fun o e=>s₂.extBut _ _ D.a4 e⟩,fun b hb=>?_⟩
  ·exact s₂.extBut _ _ D.a1 (e6 _ _ (by simp [D.a1,D.a5,D.a6,D.a7]) gI)
  ·rw [zm (fun n=>?_)]
   ·exact [152].1
   ·have:b<s.heap.objs.size:=by
     simp only [List.mem_cons,List.not_mem_nil,or_false] at hb
     rcases hb with rfl | rfl | rfl | rfl | rfl
     ·exact Jn gz
     ·exact Jn gI
     ·exact Jn gO
     ·exact g1.lt
     ·exact g2.lt
    exact absurd n (JE this)
 done:=by
  rintro X hP hw hK hc i pins s σ H E I hf ⟨gz,gI,⟨p,q,gO⟩,g1,g2⟩ ⟨xs,ys,hx,hy,hl⟩
  subst hP hw hK
  obtain ⟨its1,r1,c1⟩:=hx.at I
  obtain ⟨its2,r2,c2⟩:=hy.at I
  have l1:=r1.length
  have l2:=r2.length
  have nf:∀ b ∈ [z,TI,TO,i1,i2],a1≠b/\a2≠b:=fun b hb=>⟨hx.ne I [152],hy.ne I [152]⟩
  have DD:ZipApart z TI TO i1 i2 a1 a2:=⟨D.a1,D.a2,D.a3,D.a4,D.a5,D.a6,D.a7,D.a8,D.a9,D.a10,(nf z [19]).1,(nf TO [19]).1,(nf i1 [19]).1,(nf i2 [19]).1,(nf z [19]).2,(nf TO [19]).2,(nf i1 [19]).2,(nf i2 [19]).2⟩
  refine zhn [105] DD gz gI gO g1 g2 c1 c2 (hl.imp (fun h=>by simpa [← l1] using h) fun h=>by simpa [← l2] using h) fun h' e6=>⟨rfl,I.turnedL (t':=s.toks) e6 fun b hb=>hf b (zoU hb)⟩
 self:=fun _ _ _ _ _ st h=>wpAny_pyIter_zip st.1 h
theorem zmO(n:Nat):ZApart (n+4) (n+2) (n+3) n (n+1):=by constructor<;>(show ¬ (_:Nat)=_;omega)
theorem zkS:bootBuiltins "zip"=some (.type "zip"):=by decide +kernel
noncomputable def zqf(K:PySem.W.Frag)(ta:TA):TI:=fun σ H R=>ta σ H fun vs H1=>∃ b1 b2 a1 a2,vs=[.ref a1,.ref a2]/\(∃ xs,Sq K H1 b1 a1 xs)/\(∃ ys,Sq K H1 b2 a2 ys)/\R (Itz K b1 b2 a1 a2) H1
theorem znn{X:Cx}{es:List Expr}{k:Nat}{tpos:Pos}{a b:Expr}{ta:TA}{p pos:Pos}(hg:Gl X "zip")(hm:X.mg "zip"=none)(ha:PA X [a,b] ta)(hs:starEach [a,b] X.env=[[124],(false,eval b X.env)]:=by rfl)(hs2:starEach [b] X.env=[(false,eval b X.env)]:=by rfl):
  PI X [317] (.Call (.Name "zip" p) [a,b] [] pos) (zqf X.K ta):=by
 intro pins s σ H R I h
 refine Call_ (uJ I hg hm zkS (JY [55] (by rw [hs,hs2]) (by rw [hs2];rfl)))
 obtain ⟨b1,b2,a1,a2,e,⟨xs,hx⟩,⟨ys,hy⟩,q⟩:=q1
 subst e
 cases r1 with
 | cons r rr=>
  cases rr with
  | cons r' rr=>
   cases rr
   cases r
   cases r'
   obtain ⟨its1,v1,c1⟩:=hx.at I1
   obtain ⟨its2,v2,c2⟩:=hy.at I1
   refine ziu c1 c2 fun h' gz gI gO g1 g2 kk=>?_
   refine wpAny_pyIter_zip gz ?_
   refine ⟨s1.heap.objs.size+4,[s1.heap.objs.size+4,s1.heap.objs.size+2,s1.heap.objs.size+3,s1.heap.objs.size,s1.heap.objs.size+1],_,_,H1,rfl,I1.kept (t':=s1.toks) kk,
    ziQ b1 b2 a1 a2 _ _ _ _ _ (zmO s1.heap.objs.size),⟨gz,gI,⟨_,_,gO⟩,g1,g2⟩,fun c hc=>?_,q⟩
   have hc':s1.heap.objs.size≤c:=by
    simp only [List.mem_cons,List.not_mem_nil,or_false] at hc
    rcases hc with rfl | rfl | rfl | rfl | rfl<;>omega
   exact I1.fpOk hc' (I1.hok.fresh hc')
end L2
namespace F
open PySem L2
noncomputable def zif(f:FA):FA:=fun env=>[254].bind fun ps=>match ps with | [p,q]=>(vA p).bind fun xs=>(vA q).bind fun ys=>some ((List.zip xs ys).map fun z=>PV.tup [z.1,z.2]) | _=>none
theorem zgw{K:PySem.W.Frag}{own:Addr->Option Nat}{H1:Hp}{p:PV}{v:V}{A:List Addr}{ps:List PV}(lp:Bool)(hm:∀ a l,own a=some l->MutH H1 a)(r:Rp K H1 p v A)(hA:(∀ a ∈ A,own a=none)∨(lp=false/\isDatas ps=true))(hs:vA p=some ps):
  ∃ b a xs B,v=.ref a/\Rps K H1 ps xs B/\(∀ a ∈ B,own a=none/\∃ o,H1 a=some o)/\∀ H2,(if lp=true then Stay own H1 H2 else Same H1 H2)->Sq K H2 b a xs/\Rps K H2 ps xs B:=by
 cases p<;>first | cases hs | skip
 ·obtain ⟨a,xs,h1,h2,h3⟩:=r.T
  refine ⟨false,a,xs,A,h1,h3,fun b hb=>⟨?_,[249].some⟩,fun H2 hR=>?_⟩
  ·rcases hA with hA | ⟨_,hd⟩
   ·exact hA b hb
   ·have:=Rps.data _ hd h3;subst this;exact absurd hb [19]
  ·rcases hA with hA | ⟨e,hd⟩
   ·cases lp with
    | true=>exact ⟨Stay.tup hR hm h2,Rps.stay hR hm _ hA h3⟩
    | false=>exact ⟨Same.tup hR h2,Rps.same hR _ h3⟩
   ·subst e
    exact ⟨Same.tup hR h2,Rps.same hR _ h3⟩
 ·obtain ⟨a,xs,B,h1,h2,rfl,h3⟩:=r.L
  refine ⟨true,a,xs,B,h1,h3,fun b hb=>⟨?_,[249].some⟩,fun H2 hR=>?_⟩
  ·rcases hA with hA | ⟨_,hd⟩
   ·exact hA b (Jg _ hb)
   ·have:=Rps.data _ hd h3;subst this;exact absurd hb [19]
  ·rcases hA with hA | ⟨e,hd⟩
   ·cases lp with
    | true=>exact ⟨SqL.of (hR _ _ (hA a Jf) h2),Rps.stay hR hm _ [267] h3⟩
    | false=>exact ⟨SqL.of (hR _ _ h2),Rps.same hR _ h3⟩
   ·subst e
    exact ⟨SqL.of (hR _ _ h2),Rps.same hR _ h3⟩
 ·obtain ⟨a,xs,h1,h2,h3⟩:=r.Fl
  refine ⟨true,a,xs,A,h1,h3,fun b hb=>⟨?_,[249].some⟩,fun H2 hR=>?_⟩
  ·rcases hA with hA | ⟨_,hd⟩
   ·exact hA b hb
   ·have:=Rps.data _ hd h3;subst this;exact absurd hb [19]
  ·rcases hA with hA | ⟨e,hd⟩
   ·cases lp with
    | true=>exact ⟨(Stay.fz hR hm h2).seq,Rps.stay hR hm _ hA h3⟩
    | false=>exact ⟨(h2.same hR).seq,Rps.same hR _ h3⟩
   ·subst e
    exact ⟨(h2.same hR).seq,Rps.same hR _ h3⟩
theorem zlc{K:PySem.W.Frag}{own:Addr->Option Nat}{H1:Hp}{R:Hp->Prop}{b1 b2:Bool}{a1 a2:Addr}{ps qs:List PV}{xs ys:List V}{A B:List Addr}
  (hA:∀ a ∈ A,own a=none/\∃ o,H1 a=some o)(hB:∀ a ∈ B,own a=none/\∃ o,H1 a=some o)(h1:∀ H2,R H2->Sq K H2 b1 a1 xs/\Rps K H2 ps xs A)(h2:∀ H2,R H2->Sq K H2 b2 a2 ys/\Rps K H2 qs ys B):
  Walks K own H1 R (Itz K b1 b2 a1 a2) ((List.zip ps qs).map fun z=>PV.tup [z.1,z.2]):=by
 intro i H2 hR
 obtain ⟨q1,r1⟩:=h1 H2 hR
 obtain ⟨q2,r2⟩:=h2 H2 hR
 refine ⟨fun p hp=>?_,fun hi=>⟨xs,ys,q1,q2,?_⟩⟩
 ·rw [JM] at hp
  obtain ⟨z,hz,hp⟩:=JT.mp hp
  subst hp
  obtain ⟨z1,z2⟩:=List.getElem?_zip_eq_some.mp hz
  obtain ⟨u,C,e1,e2,e3⟩:=r1.get z1
  obtain ⟨v,D,f1,f2,f3⟩:=r2.get z2
  refine ⟨⟨xs,ys,u,v,q1,q2,e1,f1⟩,fun x H3 ⟨T,x',y',hT,ex,eH,hy⟩=>?_⟩
  obtain ⟨g1,g2⟩:=hy xs ys q1 q2
  rw [e1] at g1;cases g1
  rw [f1] at g2;cases g2
  have sm:Same H2 H3:=by rw [eH];exact z6 [31] hT
  refine ⟨sm,C++D,?_,fun a ha=>?_⟩
  ·unfold Rp
   refine ⟨T,[u,v],ex,.inl (.inl (by rw [eH,zZ])),?_⟩
   unfold Rps
   refine ⟨u,[v],C,D,rfl,rfl,Rp.same sm _ e2,?_⟩
   unfold Rps
   exact ⟨v,[],D,[],rfl,by simp,Rp.same sm _ f2,by unfold Rps;exact ⟨rfl,rfl⟩⟩
  ·rcases List.mem_append.mp ha with ha | ha
   ·exact hA a (e3.subset ha)
   ·exact hB a (f3.subset ha)
 ·rw [Jh,Ku] at hi
  rw [← r1.length,← r2.length]
  omega
theorem ziJ{X:Cx}{κ:Nat->Option Nat}{G:Hp}{fs:FA}{a b:Expr}{es:List Expr}{k:Nat}{tpos p pos:Pos}(lp:Bool)(hg:Gl X "zip")(hm:X.mg "zip"=none)(ha:VA X κ G .sh [a,b] fs)(hs:starEach [a,b] X.env=[[124],(false,eval b X.env)]:=by rfl)(hs2:starEach [b] X.env=[(false,eval b X.env)]:=by rfl):
  VIt X κ G lp [317] (.Call (.Name "zip" p) [a,b] [] pos) (zif fs):=(znn hg hm ha.1 hs hs2).imp fun σ H R hq_=>by
 refine hq_.elim fun own env ps I hf k=>?_
 unfold zif at hf
 replace hf:=Ja.mp hf;obtain ⟨qs,hp,hf⟩:=hf
 refine (.in I hp fun vs H1 A s r hc=>?_)
 split at hf
 ·rename_i p q
  cases e1:vA p with
  | none=>rw [e1] at hf;cases hf
  | some xs=>
   cases e2:vA q with
   | none=>rw [e1,e2] at hf;cases hf
   | some ys=>
    rw [e1,e2] at hf
    cases hf
    obtain ⟨v,r',A1,A2,h1,h2,h3,h4⟩:=r.inv
    obtain ⟨v',r'',A1',A2',h1',h2',h3',h4'⟩:=h4.inv
    have hm:∀ a l,own a=some l->MutH H1 a:=fun a l e=>[196].2
    have hcA:∀ a ∈ A,own a=none:=hc
    obtain ⟨b1,a1,vs1,B1,w1,w2,w3,w4⟩:=zgw lp hm h3 (.inl fun a ha=>hcA a (by rw [h2];exact Jj _ ha)) e1
    obtain ⟨b2,a2,vs2,B2,w5,w6,w7,w8⟩:=zgw lp hm h3' (.inl fun a ha=>hcA a (by rw [h2,h2'];exact Jr _ (Jj _ ha))) e2
    have rf:(if lp=true then Stay own H1 H1 else Same H1 H1):=by
     cases lp with
     | true=>exact fun _ _ _ h=>h
     | false=>exact Same.refl _
    exact ⟨b1,b2,a1,a2,by rw [h1,h1',h4'.inv0.1,w1,w5],⟨vs1,(w4 H1 rf).1⟩,⟨vs2,(w8 H1 rf).1⟩,k _ H1 s (zlc w3 w7 w4 w8)⟩
 ·cases hf
end F
namespace F
open PySem PySem.Spec PyProof.Rows L2
section
variable {X:Cx} {κ:Nat->Option Nat} {G:Hp} {c c1 c2:Cat} {a b e:Expr} {es:List Expr} {fa fb f:FE} {t u:FT} {fs:FA} {pos:Pos} {g h:FS} {st:Stmt} {wW:List Stmt} {O:List Nat}
noncomputable def giv(own:Addr->Option Nat)(i:Nat)(C:List Addr):Addr->Option Nat:=fun a=>if a ∈ C then some i else own a
theorem VI.give{K:PySem.W.Frag}{own:Addr->Option Nat}{env:En}{σ:St}{H:Hp}{i j:Nat}{q:PV}(hj:j ∈ O)(I:VI K (ko O) G own env σ H)(hq:zA j env=some q):
  ∃ y C,σ[j]?=some (some y)/\Rp K H q y C/\C.Nodup/\(∀ b ∈ C,own b=some j)/\VI K (ko O) G (giv own i C) (env.set j none) σ H/\Ext own H (giv own i C) H:=by
 obtain ⟨y,C,h1,h2,_,h3⟩:=I.slot j _ (ub hq)
 obtain ⟨nd,ho⟩:=h3 j (zcD hj)
 refine ⟨y,C,h1,h2,nd,ho,⟨by simp [I.len],fun m p e=>?_,fun b l e=>?_,I.same⟩,fun b o hb e=>⟨?_,e⟩⟩
 ·rw [Kb] at e
  by_cases hm:j=m
  ·rw [if_pos hm] at e
   split at e<;>cases e
  ·rw [if_neg hm] at e
   obtain ⟨v,A,g1,g2,g3,g4⟩:=I.slot m p e
   refine ⟨v,A,g1,g2,fun z b hb=>?_,fun l z=>⟨(g4 l z).1,fun b hb=>?_⟩⟩
   ·have n:=g3 z b hb
    unfold giv
    rw [if_neg (fun hc=>by rw [ho b hc] at n;cases n)]
    exact n
   ·have n:=(g4 l z).2 b hb
    unfold giv
    rw [if_neg (fun hc=>by
     rw [ho b hc] at n
     have:=zgO z
     cases n
     exact hm this)]
    exact n
 ·unfold giv at e
  split at e
  ·rename_i hc
   exact I.own b j (ho b hc)
  ·exact I.own b l e
 ·unfold giv
  rw [if_neg (fun hc=>by rw [ho b hc] at hb;cases hb)]
  exact hb
noncomputable def jr(i j:Nat):FS:=fun env=>[325].bind fun l=>(zA j env).bind fun q=>match l with | .lst ps=>if ps.length<100000 then some (.nx ((env.set j none).set i (some (.lst (ps++[q]))))) else none | _=>none
theorem zdL(i j:Nat)(hi:i ∈ O)(hj:j ∈ O)(hij:i≠j)(hp:PS X st (zaL (tBM X.K "list" kr (uV i) (qw (uV j) zdX)))):VS X (ko O) G st (jr i j):=hp.imp fun D σ H hq_=>by
 refine hq_.elim fun own env o I hf k=>?_
 unfold jr at hf
 replace hf:=Ja.mp hf;obtain ⟨l,hl,hf⟩:=hf
 replace hf:=Ja.mp hf;obtain ⟨q,hq,hf⟩:=hf
 cases l<;>first | (cases hf;done) | skip
 rename_i ps
 dsimp only at hf
 split at hf
 case isFalse=>cases hf
 rename_i hlen
 cases hf
 obtain ⟨a,xs,B,hσ,ha,hr,nd,ho,hB⟩:=kY hi I hl
 obtain ⟨y,C,hσj,hrq,ndC,hC,I',ex⟩:=VI.give (i:=i) hj I hq
 refine ⟨.ref a,hσ,.inl ⟨rfl,xs,SqL.of ha⟩,y,hσj,a,xs,y,rfl,rfl,ha,by rw [← hr.length,sizeLine_eq];omega,?_⟩
 have ne:∀ b,own b=some i->b ∉ C:=fun b hb hc=>by rw [hC b hc] at hb;cases hb;exact hij rfl
 have m1:MutH H a:=.inl ⟨xs,ha⟩
 have hnd:(a::(B++C)).Nodup:=by
  rw [← List.cons_append]
  refine Jw.mpr ⟨nd,ndC,fun x hx y' hy' hxy=>?_⟩
  subst hxy
  rcases List.mem_cons.mp hx with rfl | hx
  ·exact ne _ ho hy'
  ·exact ne _ (hB x hx) hy'
 have ho':giv own i C a=some i:=by unfold giv;rw [if_neg (ne a ho)];exact ho
 have hBC:∀ b ∈ B++C,giv own i C b=some i∨H b=none:=by
  intro b hb
  unfold giv
  rcases List.mem_append.mp hb with hb | hb
  ·rw [if_neg (ne b (hB b hb))];exact .inl (hB b hb)
  ·rw [if_pos hb];exact .inl rfl
 obtain ⟨h1,h2⟩:=I'.turn (p:=.lst (ps++[q])) (o:=.lst (xs++[y])) (B:=B++C) hi [31] hσ ho' m1
  (.mkL zZ ((Rps.upd m1 ps (Jy.mp nd).1 hr).append (Rps.one (Rp.upd m1 q (ne a ho) hrq)))) hnd hBC
 exact k _ _ _ h1 (ex.trans h2)
theorem zat{α:Type}:∀ {ps:List α} {j:Nat} {p:α},ps[j]?=some p->∃ l1 l2,ps=l1++p::l2/\l1.length=j
 | [],j,p,h=>by simp at h
 | q::ps,0,p,h=>⟨[],ps,by simp at h;rw [h];rfl,rfl⟩
 | q::ps,j+1,p,h=>by
  obtain ⟨l1,l2,e1,e2⟩:=zat (ps:=ps) (j:=j) (p:=p) [220]
  exact ⟨q::l1,l2,by rw [e1];rfl,by simp [e2]⟩
theorem zdb{α:Type}{l1 l2:List α}{p q:α}:(l1++p::l2).set l1.length q=l1++q::l2:=by
 rw [List.set_append]
 simp
theorem VI.turnIn{K:PySem.W.Frag}{own:Addr->Option Nat}{env:En}{σ:St}{H:Hp}{i j:Nat}{ps qs:List PV}(hi:i ∈ O)(I:VI K (ko O) G own env σ H)(hl:zA i env=some (.lst ps))(hj:ps[j]?=some (.lst qs)):
  ∃ a xs b ys B,σ[i]?=some [304]/\H a=some [107]/\xs[j]?=some (.ref b)/\xs.length=ps.length/\H b=some [262]/\Rps K H qs ys B/\b ∉ B/\B.Nodup/\∀ H1 qs' ys' C,Same H H1->Rps K H1 qs' ys' C->C.Nodup->b ∉ C->(∀ d ∈ C,d ∈ B∨H d=none)->
   ∃ own',VI K (ko O) G own' (env.set i (some (.lst (ps.set j (.lst qs'))))) σ [90]/\Ext own H own' [90]:=by
 obtain ⟨a,xs,B,hσ,ha,hr,nd,ho,hB⟩:=kY hi I hl
 obtain ⟨l1,l2,rfl,rfl⟩:=zat hj
 obtain ⟨v1,v2,A1,A2,rfl,rfl,r1,r2⟩:=hr.split
 obtain ⟨v,r',A3,A4,rfl,rfl,r3,r4⟩:=r2.inv
 obtain ⟨b,ys,B',rfl,hb,rfl,r5⟩:=r3.L
 have n1:=r1.length
 rw [Jy,Jw,Jw,Jy] at nd
 simp only [List.mem_append,List.mem_cons,not_or] at nd hB
 obtain ⟨⟨na1,⟨nab,naB⟩,na4⟩,nd1,⟨⟨nbB,ndB⟩,nd4,d34⟩,d1⟩:=nd
 refine ⟨a,_,b,ys,B',hσ,ha,by rw [n1];simp,hr.length.symm,hb,r5,nbB,ndB,fun H1 qs' ys' C s1 rC ndC nbC hC=>?_⟩
 have mb:MutH H1 b:=.inl ⟨ys,s1 _ _ hb⟩
 have nb1:b ∉ A1:=fun z=>d1 b z b (.inl [76]) rfl
 have nb4:b ∉ A4:=fun z=>d34 b [76] b z rfl
 have hm:∀ d,(d=a∨d ∈ A1∨d=b∨d ∈ A4)->∃ o,H d=some o:=fun d z=>by
  rcases z with rfl | z | rfl | z
  ·exact ⟨_,ha⟩
  ·exact (Rps.mut _ r1 d z).some
  ·exact ⟨_,hb⟩
  ·exact (Rps.mut _ r4 d z).some
 have nC:∀ d ∈ C,d≠a/\d ∉ A1/\d ∉ A4:=fun d hd=>by
  rcases hC d hd with z | z
  ·exact ⟨fun e=>naB (e ▸ z),fun e=>d1 d e d [326] rfl,fun e=>d34 d (.inr z) d e rfl⟩
  ·refine ⟨fun e=>?_,fun e=>?_,fun e=>?_⟩
   ·obtain ⟨o,q⟩:=hm d (.inl e);rw [z] at q;cases q
   ·obtain ⟨o,q⟩:=hm d (.inr (.inl e));rw [z] at q;cases q
   ·obtain ⟨o,q⟩:=hm d (.inr (.inr (.inr e)));rw [z] at q;cases q
 have hob:own b=some i:=hB b (.inr (.inl [76]))
 have hA:(a::[179]).Nodup:=by
  rw [Jy,Jw,Jw,Jy]
  simp only [List.mem_append,List.mem_cons,not_or]
  refine ⟨⟨na1,⟨nab,fun z=>(nC a z).1 rfl⟩,na4⟩,nd1,⟨⟨nbC,ndC⟩,nd4,fun d hd d' hd' e=>?_⟩,fun d hd d' hd' e=>?_⟩
  ·subst e
   rcases hd with rfl | hd
   ·exact nb4 hd'
   ·exact (nC d hd).2.2 hd'
  ·subst e
   rcases hd' with (rfl | hd') | hd'
   ·exact nb1 hd
   ·exact (nC d hd').2.1 hd
   ·exact d1 d hd d (.inr hd') rfl
 have hown:∀ d ∈ a::[179],own d=some i∨H d=none:=fun d hd=>by
  simp only [List.mem_append,List.mem_cons] at hd
  rcases hd with rfl | hd | (rfl | hd) | hd
  ·exact .inl ho
  ·exact .inl (hB d (.inl hd))
  ·exact .inl hob
  ·rcases hC d hd with z | z
   ·exact .inl (hB d (.inr [326]))
   ·exact .inr z
  ·exact .inl (hB d (.inr (.inr hd)))
 rw [zdb]
 have r:Rp K [90] (.lst (l1++.lst qs'::l2)) [84] (a::[179]):=
  .mkL (by rw [zm nab];exact s1 _ _ ha) [58]
 have:=I.take (H2:=upd H1 b (.lst ys')) (v:=.ref a) hi [112] (fun d u hd z=>by
  rw [zm (by rintro rfl;exact hd hob)];exact s1 d u z) r hA hown
 rw [km hσ] at this
 exact ⟨_,this⟩
end
end F
namespace L2
open PySem PySem.Spec PyProof.Rows
theorem Vals.of_get:∀ {xs:List V} {us:List Value},xs.length=us.length->(∀ (i:Nat) x u,xs[i]?=some x->us[i]?=some u->RelV x u)->Vals xs us
 | [],[],_,_=>.nil
 | x::xs,u::us,hl,h=>.cons (h 0 x u [19] [19]) (Vals.of_get [202] fun i y v hy hv=>h (i+1) y v (by simpa using hy) (by simpa using hv))
section
variable {X:Cx}
noncomputable def zop(ta:TA):TE:=fun σ H Q=>ta σ H fun vs H1=>∃ j:Int,vs=[.int j]/\-(2 ^ 62)≤j/\j<2 ^ 62/\∀ r,H1 r=none->Q (.ref r) (upd H1 r (.rng 0 j))
theorem zlJ{a:Expr}{ta:TA}{p pos:Pos}(hg:Gl X "range")(hm:X.mg "range"=none)(ha:PA X [a] ta)(hs:starEach [a] X.env=[[124]]:=by rfl):PE X (.Call (.Name "range" p) [a] [] pos) (zop ta):=by
 intro pins s σ H Q I h
 refine Call_ (uJ I hg hm boot_range (JY [55] hs rfl))
 obtain ⟨j,e,q1,q2,q⟩:=q1
 subst e
 cases r1 with
 | cons r rr=>
  cases rr
  obtain ⟨t,rfl⟩:=r
  exact call_range_1 ⟨.ref s1.heap.objs.size,_,I1.laid (o:=.rng 0 j) (fun b o e=>Jd _ e) (Jm _) ⟨_,_,_,Jp _ rfl⟩,rfl,q _ [261]⟩
noncomputable def zjq:List V->Hp->VK->Prop:=fun xs H Q=>∃ r lo hi,xs=[.ref r]/\H r=some (.rng lo hi)/\(-(2 ^ 62)≤lo/\lo<2 ^ 62/\-(2 ^ 62)≤hi/\hi<2 ^ 62)/\(hi - lo).toNat≤100000/\∀ l,H l=none->Q [288] (upd H l (.lst (zef lo (hi - lo).toNat)))
theorem zkN(hc:X.calm=true):CallR X (.type "list") zjq:=by
 intro pins s σ H vs us Q I r q
 obtain ⟨a,lo,hi,e,ha,⟨h1,h2,h3,h4⟩,h5,q⟩:=q
 subst e
 cases r with
 | cons r rr=>
  cases rr
  cases r
  obtain ⟨t,u,v,e⟩:=I.hok a _ ha
  refine call_list_range (n:=(hi - lo).toNat) [105] (show IsRange s.heap a lo hi 1 t u v from e) (small_one h1 h2 h3 h4) (by rw [rangeSize_one];split<;>omega) [12] fun h' tk acc' c' hk hS hacc=>?_
  refine ⟨.ref s.heap.objs.size,_,I.laid (o:=.lst (zef lo (hi - lo).toNat)) hk [247] ⟨by rw [zee,sizeLine_eq];omega,acc'.toList,c',Vals.of_get (by rw [zee,← hacc.1];simp) fun i x u hx hu=>?_,by simpa using hS⟩,rfl,q _ (I.hok.fresh [247])⟩
  obtain ⟨_,rfl⟩:=zjk hx
  obtain ⟨t,rfl⟩:=hacc.2 i u [291]
  exact ⟨t,by rw [Int.mul_one]⟩
end
end L2
namespace F
open PySem PySem.Spec PyProof.Rows L2
section
variable {X:Cx} {κ:Nat->Option Nat} {G:Hp} {c:Cat} {a b e:Expr} {fs:FA} {pos:Pos}
noncomputable def zgY(f:FA):FE:=fun env=>[254].bind fun ps=>if ps.length≤100000 then some (.lst ps) else none
theorem zjj{K:PySem.W.Frag}{H:Hp}(lo:Int)(n:Nat):Rps K H (uG lo n) (zef lo n) []:=by
 unfold uG zef
 induction (List.range n) with
 | nil=>exact .nil
 | cons x xs ih=>exact Rps.cons (A:=[]) (.mkI _) ih
theorem zmd{K:PySem.W.Frag}{own:Addr->Option Nat}{H H1:Hp}{Q:VK}{lo hi:Int}(s:Same H H1)(hb : -(2 ^ 62)≤lo/\lo<2 ^ 62/\-(2 ^ 62)≤hi/\hi<2 ^ 62)(hl:(hi - lo).toNat≤100000)
  (k:∀ (v:V) (H':Hp) (A:List Addr),Same H H'->Rp K H' (.lst (uG lo (hi - lo).toNat)) v A->(Cat.mv []).ok H own A->Q v H'):∀ r,H1 r=none->zjq [.ref r] (upd H1 r (.rng lo hi)) Q:=fun q hq=>
 ⟨q,lo,hi,rfl,zZ,hb,hl,fun l hl'=>by
  have hn:H l=none:=by
   cases z:H l with
   | none=>rfl
   | some o=>have:=z6 (o:=.rng lo hi) s (s.free hq) l o z;rw [hl'] at this;cases this
  refine k _ _ [l] (z6 (z6 s (s.free hq)) hn) (.mkL zZ (zjj lo _)) ⟨by simp,fun b hb=>?_⟩
  have e:b=l:=by simpa using hb
  subst e
  exact .inl hn⟩
theorem zht{p p2 pos2:Pos}(hc:X.calm=true)(hg:Gl X "list")(hm:X.mg "list"=none)(hg2:Gl X "range")(hm2:X.mg "range"=none)(ha:VA X κ G c [a] fs)(hs:starEach [a] X.env=[[124]]:=by rfl)
  (he:starEach [.Call (.Name "range" p2) [a] [] pos2] X.env=[(false,eval (.Call (.Name "range" p2) [a] [] pos2) X.env)]:=by rfl):
  VE X κ G [33] (.Call (.Name "list" p) [.Call (.Name "range" p2) [a] [] pos2] [] pos) (zgY (xl fs)):=
 (zcw (zkN hc) hg hm Pv.boot_list (zy (zlJ hg2 hm2 ha.1 hs) pa_nil) (he:=he)).imp fun σ H Q hq_=>by
 refine hq_.elim fun own env z I hf k=>?_
 unfold zgY xl at hf
 cases hp:fs env with
 | none=>rw [hp] at hf;cases hf
 | some qs=>
  rw [hp,Jb] at hf
  refine (.in I hp fun vs H1 A s r _=>?_)
  split at hf
  ·split at hf
   ·rename_i j hj
    rw [Jb] at hf
    split at hf
    ·rename_i hl
     cases hf
     obtain ⟨v,r',A1,A2,h1,h2,h3,h4⟩:=r.inv
     rw [jN] at hl
     exact ⟨j,by rw [h1,h4.inv0.1,h3.I.1],hj.1,hj.2,zmd (own:=own) s ⟨by omega,by omega,hj.1,hj.2⟩ [202] (by rw [Int.sub_zero];exact k)⟩
    ·cases hf
   ·cases hf
  ·cases hf
end
theorem VI.free{K:PySem.W.Frag}{κ:Nat->Option Nat}{G:Hp}{own:Addr->Option Nat}{env:En}{σ:St}{H:Hp}(I:VI K κ G own env σ H):VI K (ko []) G (fun _=>none) env σ H:=
 ⟨I.len,fun i p e=>let ⟨v,A,h1,h2,_⟩:=I.slot i p e;⟨v,A,h1,h2,fun _ _ _=>rfl,fun l z=>absurd z (by simp [ko])⟩,fun a l e=>(nomatch e),I.same⟩
theorem zlo{K:PySem.W.Frag}{κ:Nat->Option Nat}{G:Hp}{f:FE}{σ:St}{H:Hp}{Q:VK}(h:tV K κ G [33] f σ H Q):tV K (ko []) G [33] f σ H Q:=by
 obtain ⟨own,env,p,I,hf,k⟩:=h
 exact ⟨fun _=>none,env,p,I.free,hf,fun v H' A s r hc=>k v H' A s r ⟨hc.1,fun a ha=>(hc.2 a ha).imp id fun ⟨_,z,_⟩=>nomatch z⟩⟩
theorem zlj{X:Cx}{κ:Nat->Option Nat}{G:Hp}{e:Expr}{f:FE}(h:VE X (ko []) G [33] e f):VE X κ G [33] e f:=h.imp fun σ H Q q=>zlo q
end F
namespace L2
open PySem PySem.Spec PyProof.Rows
theorem wL:∀ {ns:List Int} {us:List Value},Vals [63] us->IntsAre us ns
 | [],_,h=>by cases h;exact .nil
 | n::ns,_,h=>by
  cases h with
  | cons r rr=>
   obtain ⟨t,rfl⟩:=r
   exact .cons n t (wL rr)
section
variable {X:Cx}
theorem zbu{its:List Value}{ns:List Int}(hi:IntsAre its ns):∃ xs:Array (Int × Tok),its.toArray=intItems xs/\ns=xs.toList.map (·.1):=by
 obtain ⟨xs,e⟩:=hi.allInts.items
 exact ⟨xs,e,by rw [← hi.numsOf,← nums_intItems,← e]⟩
theorem ziw(hc:X.calm=true):CallR X (.builtin "min") (fun xs H Q=>∃ p,∃ ns:List Int,xs=[.ref p]/\SqL X.K H p [63]/\ns≠[]/\∀ M,M ∈ ns->(∀ a,a ∈ ns->M≤a)->Q (.int M) H):=by
 intro pins s σ H vs us Q I r q
 obtain ⟨p,ns,e,hs,hne,q⟩:=q
 subst e
 cases r with
 | cons r rr=>
  cases rr
  cases r
  obtain ⟨its,rv,hl,_⟩:=I.list hs
  obtain ⟨xs,e,hns⟩:=zbu (wL rv)
  have hsz:0<xs.size:=by
   have h3:=KK.mpr hne
   rw [hns,Jh,Jk] at h3;exact h3
  refine min_intList [105] (by rw [← e];exact hl.isList) hsz fun v h' tk hv hk=>?_
  obtain ⟨t,rfl⟩:=intItems_at hv
  obtain ⟨h1,h2⟩:=argBest_lt (numAt xs) (xs.size - 1)
  refine ⟨.int (numAt xs _),_,I.kept hk,⟨t,rfl⟩,q _ ?_ fun a ha=>?_⟩
  ·rw [hns,numAt_eq];exact getD_mem (by rw [Jh,Jk];omega)
  ·rw [hns] at ha
   obtain ⟨j,hj,rfl⟩:=mem_getD ha
   rw [Jh,Jk] at hj
   rw [← numAt_eq];exact h2 j [12]
theorem ziy(hc:X.calm=true):CallR X (.builtin "max") (fun xs H Q=>∃ p,∃ ns:List Int,xs=[.ref p]/\SqL X.K H p [63]/\ns≠[]/\∀ M,M ∈ ns->(∀ a,a ∈ ns->a≤M)->Q (.int M) H):=by
 intro pins s σ H vs us Q I r q
 obtain ⟨p,ns,e,hs,hne,q⟩:=q
 subst e
 cases r with
 | cons r rr=>
  cases rr
  cases r
  obtain ⟨its,rv,hl,_⟩:=I.list hs
  obtain ⟨xs,e,hns⟩:=zbu (wL rv)
  have hsz:0<xs.size:=by
   have h3:=KK.mpr hne
   rw [hns,Jh,Jk] at h3;exact h3
  refine max_intList [105] (by rw [← e];exact hl.isList) hsz fun v h' tk hv hk=>?_
  obtain ⟨t,rfl⟩:=intItems_at hv
  obtain ⟨h1,h2⟩:=argBest_gt (numAt xs) (xs.size - 1)
  refine ⟨.int (numAt xs _),_,I.kept hk,⟨t,rfl⟩,q _ ?_ fun a ha=>?_⟩
  ·rw [hns,numAt_eq];exact getD_mem (by rw [Jh,Jk];omega)
  ·rw [hns] at ha
   obtain ⟨j,hj,rfl⟩:=mem_getD ha
   rw [Jh,Jk] at hj
   rw [← numAt_eq];exact h2 j [12]
theorem zcM(hc:X.calm=true):CallR X (.builtin "sum") (fun xs H Q=>∃ p,∃ ns:List Int,xs=[.ref p]/\SqL X.K H p [63]/\Q (.int ns.sum) H):=by
 intro pins s σ H vs us Q I r q
 obtain ⟨p,ns,e,hs,q⟩:=q
 subst e
 cases r with
 | cons r rr=>
  cases rr
  cases r
  obtain ⟨its,rv,hl,_⟩:=I.list hs
  obtain ⟨xs,e,hns⟩:=zbu (wL rv)
  refine sum_intListG [105] (by rw [← e];exact hl.isList) fun h' tk t' hk=>?_
  refine ⟨.int (preSum (numAt xs) xs.size),_,I.kept hk,⟨t',rfl⟩,?_⟩
  have:preSum (numAt xs) xs.size=ns.sum:=by
   rw [hns,preSum_eq,List.take_of_length_le [19]]
  rw [this];exact q
end
end L2
namespace F
open PySem PySem.Spec PyProof.Rows L2
noncomputable def wZ:List PV->Option [42]
 | []=>some []
 | .int i::r=>(wZ r).map fun ns=>i::ns
 | _=>none
theorem wY:∀ {ps:List PV} {ns:List Int},wZ ps=some ns->ps=ns.map PV.int
 | [],ns,h=>by cases h;rfl
 | p::r,ns,h=>by
  cases p<;>first | (cases h;done) | skip
  rename_i i
  unfold wZ at h
  cases hr:wZ r with
  | none=>rw [hr] at h;cases h
  | some ms=>
   rw [hr] at h;cases h
   rw [wY hr];rfl
@[simp] theorem xw:∀ (ns:List Int),wZ [145]=some ns
 | []=>rfl
 | n::ns=>by rw [Ju,wZ,xw ns];rfl
theorem uX{K:PySem.W.Frag}{H:Hp}:∀ {ns:List Int} {xs:List V} {A:List Addr},Rps K H [145] xs A->xs=ns.map V.int
 | [],_,_,r=>r.inv0.1
 | n::ns,_,_,r=>by
  obtain ⟨v,r',A1,A2,h1,_,h3,h4⟩:=r.inv
  rw [h1,h3.I.1,uX h4];rfl
noncomputable def zdn(x:Int)(r:List Int):Int:=r.foldl (fun m a=>if a<m then a else m) x
noncomputable def zdo(x:Int)(r:List Int):Int:=r.foldl (fun m a=>if m<a then a else m) x
theorem qY:∀ (r:List Int) (x:Int),zdn x r ∈ x::r/\∀ a ∈ x::r,zdn x r≤a
 | [],x=>by simp [zdn]
 | y::r,x=>by
  have h:=qY r (if y<x then y else x)
  have e:zdn x (y::r)=zdn (if y<x then y else x) r:=rfl
  rw [e]
  have h1:=h.2 _ Jf
  refine ⟨?_,fun a ha=>?_⟩
  ·rcases List.mem_cons.mp h.1 with z | z
   ·rw [z];split<;>simp
   ·exact Jg _ (Jg _ z)
  ·rcases List.mem_cons.mp ha with rfl | ha
   ·split at h1<;>split<;>omega
   ·rcases List.mem_cons.mp ha with rfl | ha
    ·split at h1<;>split<;>omega
    ·exact h.2 a (Jg _ ha)
theorem qZ:∀ (r:List Int) (x:Int),zdo x r ∈ x::r/\∀ a ∈ x::r,a≤zdo x r
 | [],x=>by simp [zdo]
 | y::r,x=>by
  have h:=qZ r (if x<y then y else x)
  have e:zdo x (y::r)=zdo (if x<y then y else x) r:=rfl
  rw [e]
  have h1:=h.2 _ Jf
  refine ⟨?_,fun a ha=>?_⟩
  ·rcases List.mem_cons.mp h.1 with z | z
   ·rw [z];split<;>simp
   ·exact Jg _ (Jg _ z)
  ·rcases List.mem_cons.mp ha with rfl | ha
   ·split at h1<;>split<;>omega
   ·rcases List.mem_cons.mp ha with rfl | ha
    ·split at h1<;>split<;>omega
    ·exact h.2 a (Jg _ ha)
noncomputable def zhv:List PV->Option PV
 | [.int a,.int b]=>some (.int (if b<a then b else a))
 | [.lst ps]=>match wZ ps with | some (x::r)=>some (.int (zdn x r)) | _=>none
 | _=>none
noncomputable def zhw:List PV->Option PV
 | [.int a,.int b]=>some (.int (if b > a then b else a))
 | [.lst ps]=>match wZ ps with | some (x::r)=>some (.int (zdo x r)) | _=>none
 | _=>none
noncomputable def zhu:List PV->Option PV
 | [.lst ps]=>match wZ ps with | some ns=>some (.int ns.sum) | _=>none
 | _=>none
noncomputable def zmT:List PV->Option PV
 | [.int a]=>some (.int (if a<0 then -a else a))
 | _=>none
theorem zdU{K:PySem.W.Frag}{H:Hp}{a b:Int}{vs:List V}{A:List Addr}(r:Rps K H [.int a,.int b] vs A):vs=[.int a,.int b]:=by
 obtain ⟨v,r',A1,A2,h1,_,h3,h4⟩:=r.inv
 obtain ⟨v',r'',A1',A2',h1',_,h3',h4'⟩:=h4.inv
 rw [h1,h1',h4'.inv0.1,h3.I.1,h3'.I.1]
theorem znW{K:PySem.W.Frag}:ve K (fun xs H Q=>(∃ i j:Int,xs=[.int i,.int j]/\Q (.int (if j<i then j else i)) H)∨∃ p,∃ ns:List Int,xs=[.ref p]/\SqL K H p [63]/\ns≠[]/\∀ M,M ∈ ns->(∀ a,a ∈ ns->M≤a)->Q (.int M) H) zhv:=by
 intro H ps vs A z Q r e k
 unfold zhv at e
 split at e
 ·cases e
  exact .inl ⟨_,_,zdU r,k _ H [] [31] (.mkI _) .nil [19]⟩
 ·rename_i qs
  split at e
  ·rename_i x rr hi
   cases e
   have:=wY hi
   subst this
   obtain ⟨v,rfl,rv⟩:=yS r
   obtain ⟨a,ys,B,e1,h1,_,g⟩:=rv.L
   have:=uX g
   subst this
   refine .inr ⟨a,x::rr,by rw [e1],SqL.of h1,by simp,fun M hM hle=>?_⟩
   have hp:=qY rr x
   have:M=zdn x rr:=by have h2:=hle _ hp.1;have h3:=hp.2 M hM;omega
   rw [this]
   exact k _ H [] [31] (.mkI _) .nil [19]
  ·cases e
 ·cases e
theorem znX{K:PySem.W.Frag}:ve K (fun xs H Q=>(∃ i j:Int,xs=[.int i,.int j]/\Q (.int (if j > i then j else i)) H)∨∃ p,∃ ns:List Int,xs=[.ref p]/\SqL K H p [63]/\ns≠[]/\∀ M,M ∈ ns->(∀ a,a ∈ ns->a≤M)->Q (.int M) H) zhw:=by
 intro H ps vs A z Q r e k
 unfold zhw at e
 split at e
 ·cases e
  exact .inl ⟨_,_,zdU r,k _ H [] [31] (.mkI _) .nil [19]⟩
 ·rename_i qs
  split at e
  ·rename_i x rr hi
   cases e
   have:=wY hi
   subst this
   obtain ⟨v,rfl,rv⟩:=yS r
   obtain ⟨a,ys,B,e1,h1,_,g⟩:=rv.L
   have:=uX g
   subst this
   refine .inr ⟨a,x::rr,by rw [e1],SqL.of h1,by simp,fun M hM hle=>?_⟩
   have hp:=qZ rr x
   have:M=zdo x rr:=by have h2:=hle _ hp.1;have h3:=hp.2 M hM;omega
   rw [this]
   exact k _ H [] [31] (.mkI _) .nil [19]
  ·cases e
 ·cases e
theorem zkL{K:PySem.W.Frag}:ve K (fun xs H Q=>∃ p,∃ ns:List Int,xs=[.ref p]/\SqL K H p [63]/\Q (.int ns.sum) H) zhu:=by
 intro H ps vs A z Q r e k
 unfold zhu at e
 split at e
 ·split at e
  ·rename_i qs ns hi
   cases e
   have:=wY hi
   subst this
   obtain ⟨v,rfl,rv⟩:=yS r
   obtain ⟨a,ys,B,e1,h1,_,g⟩:=rv.L
   have:=uX g
   subst this
   exact ⟨a,ns,by rw [e1],SqL.of h1,k _ H [] [31] (.mkI _) .nil [19]⟩
  ·cases e
 ·cases e
theorem zoa{K:PySem.W.Frag}:ve K (fun xs H Q=>∃ i:Int,xs=[.int i]/\Q (.int (if i<0 then -i else i)) H) zmT:=by
 intro H ps vs A z Q r e k
 unfold zmT at e
 split at e
 ·cases e
  obtain ⟨v,rfl,rv⟩:=yS r
  exact ⟨_,by rw [rv.I.1],k _ H [] [31] (.mkI _) .nil [19]⟩
 ·cases e
theorem zoc{X:Cx}(hc:X.calm=true):CallR X (.builtin "min") (fun xs H Q=>(∃ i j:Int,xs=[.int i,.int j]/\Q (.int (if j<i then j else i)) H)∨∃ p,∃ ns:List Int,xs=[.ref p]/\SqL X.K H p [63]/\ns≠[]/\∀ M,M ∈ ns->(∀ a,a ∈ ns->M≤a)->Q (.int M) H):=(zix hc).or (ziw hc)
theorem zod{X:Cx}(hc:X.calm=true):CallR X (.builtin "max") (fun xs H Q=>(∃ i j:Int,xs=[.int i,.int j]/\Q (.int (if j > i then j else i)) H)∨∃ p,∃ ns:List Int,xs=[.ref p]/\SqL X.K H p [63]/\ns≠[]/\∀ M,M ∈ ns->(∀ a,a ∈ ns->a≤M)->Q (.int M) H):=(ziz hc).or (ziy hc)
end F
namespace L2
open PySem PySem.Spec PyProof.Rows
theorem zlk{bs:List Bool}{us:List Value}{i:Nat}{u:Value}(h:Vals (bs.map V.bl) us)(hu:us[i]?=some u):u=.bool (bs.getD i false):=by
 have hl:=h.length
 rw [Jh] at hl
 have hi:i<bs.length:=by rw [hl];exact (Jv.mp hu).1
 obtain ⟨u',h1,h2⟩:=h.get (i:=i) (x:=.bl bs[i]) (by simp [List.getElem?_eq_getElem hi])
 rw [hu] at h1;cases h1
 have:u=.bool bs[i]:=h2
 rw [this]
 simp [List.getD,List.getElem?_eq_getElem hi]
theorem ziE(bs:List Bool):(List.range bs.length).all (fun i=>bs.getD i false)=bs.all id:=by
 rw [Bool.eq_iff_iff,KZ,KZ]
 constructor
 ·intro h b hb
  obtain ⟨i,hi,rfl⟩:=List.mem_iff_getElem.mp hb
  have:=h i (JQ.mpr hi)
  simpa [List.getD,List.getElem?_eq_getElem hi] using this
 ·intro h i hi
  have hi:=JQ.mp hi
  have:=h bs[i] (JP hi)
  simpa [List.getD,List.getElem?_eq_getElem hi] using this
section
variable {X:Cx}
theorem ziB(hc:X.calm=true):CallR X (.builtin "all") (fun xs H Q=>∃ p,∃ bs:List Bool,xs=[.ref p]/\SqL X.K H p (bs.map V.bl)/\Q (.bl (bs.all id)) H):=by
 intro pins s σ H vs us Q I r q
 obtain ⟨p,bs,e,hs,q⟩:=q
 subst e
 cases r with
 | cons r rr=>
  cases rr
  cases r
  obtain ⟨its,rv,hl,_⟩:=I.list hs
  have hl:=hl.isList
  have hlt:p<s.heap.objs.size:=by obtain ⟨_,e,_⟩:=hl;exact Jn e
  have hn:its.toArray.size=bs.length:=by have:=rv.length;simpa using this.symm
  refine call_all_walk (wpAny_pyIter_list hl ⟨_,_,_,_,_,_,fun i=>bs.getD i false,rfl,Walks.list (A:=X.A.in1) [105] _ p (JE hlt) its.toArray,⟨⟨_,Jp _ rfl,rfl,rfl⟩,hl.push _⟩,?_,fun h' tk hk=>?_⟩)
  ·intro i v s Q E hP hQ
   have hP':its[i]?=some v:=by simpa using hP
   have:=zlk rv hP'
   subst this
   exact wpAny_truthy_bool hQ
  ·refine ⟨.bl _,_,I.kept (old_kept hk),rfl,?_⟩
   rw [hn,ziE]
   exact q
end
end L2
namespace F
open PySem PySem.Spec PyProof.Rows L2
noncomputable def zbX:List PV->Option (List Bool)
 | []=>some []
 | .bl b::r=>(zbX r).map fun bs=>b::bs
 | _=>none
theorem zeY:∀ {ps:List PV} {bs:List Bool},zbX ps=some bs->ps=bs.map PV.bl
 | [],bs,h=>by cases h;rfl
 | p::r,bs,h=>by
  cases p<;>first | (cases h;done) | skip
  unfold zbX at h
  cases hr:zbX r with
  | none=>rw [hr] at h;cases h
  | some ms=>
   rw [hr] at h;cases h
   rw [zeY hr];rfl
@[simp] theorem zcN:∀ (bs:List Bool),zbX (bs.map PV.bl)=some bs
 | []=>rfl
 | b::bs=>by rw [Ju,zbX,zcN bs];rfl
theorem zcu{K:PySem.W.Frag}{H:Hp}:∀ {bs:List Bool} {xs:List V} {A:List Addr},Rps K H (bs.map PV.bl) xs A->xs=bs.map V.bl
 | [],_,_,r=>r.inv0.1
 | n::ns,_,_,r=>by
  obtain ⟨v,r',A1,A2,h1,_,h3,h4⟩:=r.inv
  rw [h1,h3.B.1,zcu h4];rfl
noncomputable def zln:List PV->Option PV
 | [.lst ps]=>match zbX ps with | some bs=>some (.bl (bs.all id)) | _=>none
 | _=>none
theorem znZ{K:PySem.W.Frag}:ve K (fun xs H Q=>∃ p,∃ bs:List Bool,xs=[.ref p]/\SqL K H p (bs.map V.bl)/\Q (.bl (bs.all id)) H) zln:=by
 intro H ps vs A z Q r e k
 unfold zln at e
 split at e
 ·split at e
  ·rename_i qs bs hi
   cases e
   have:=zeY hi
   subst this
   obtain ⟨v,rfl,rv⟩:=yS r
   obtain ⟨a,ys,B,e1,h1,_,g⟩:=rv.L
   have:=zcu g
   subst this
   exact ⟨a,bs,by rw [e1],SqL.of h1,k _ H [] [31] (.mkB _) .nil [19]⟩
  ·cases e
 ·cases e
noncomputable def zjs(p:PV)(j:Nat)(q:PV):PV:=match p with | .lst ps=>.lst (ps.set j q) | .tup ps=>.tup (ps.set j q) | p=>p
noncomputable def k6:PV->Option (List PV) | .lst ps=>some ps | .tup ps=>some ps | _=>none
section
variable {X:Cx} {κ:Nat->Option Nat} {G:Hp} {c c2:Cat} {f fk fm:FE} {st:Stmt} {O:List Nat}
theorem VI.turnTu{K:PySem.W.Frag}{own:Addr->Option Nat}{env:En}{σ:St}{H:Hp}{i j:Nat}{ps qs:List PV}(hi:i ∈ O)(I:VI K (ko O) G own env σ H)(hl:zA i env=some (.tup ps))(hj:ps[j]?=some (.lst qs)):
  ∃ a xs b ys B,σ[i]?=some [304]/\SqT K H a xs/\xs[j]?=some (.ref b)/\xs.length=ps.length/\H b=some [262]/\Rps K H qs ys B/\b ∉ B/\B.Nodup/\∀ H1 qs' ys' C,Same H H1->Rps K H1 qs' ys' C->C.Nodup->b ∉ C->(∀ d ∈ C,d ∈ B∨H d=none)->
   ∃ own',VI K (ko O) G own' (env.set i (some (.tup (ps.set j (.lst qs'))))) σ [90]/\Ext own H own' [90]:=by
 obtain ⟨v,A,hσ,h2,_,h3⟩:=I.slot i _ (ub hl)
 obtain ⟨nd,hB⟩:=h3 i (zcD hi)
 obtain ⟨a,xs,rfl,ha,hr⟩:=h2.T
 obtain ⟨l1,l2,rfl,rfl⟩:=zat hj
 obtain ⟨v1,v2,A1,A2,rfl,rfl,r1,r2⟩:=hr.split
 obtain ⟨v,r',A3,A4,rfl,rfl,r3,r4⟩:=r2.inv
 obtain ⟨b,ys,B',rfl,hb,rfl,r5⟩:=r3.L
 have n1:=r1.length
 rw [Jw,Jw,Jy] at nd
 simp only [List.mem_append,List.mem_cons] at nd hB
 obtain ⟨nd1,⟨⟨nbB,ndB⟩,nd4,d34⟩,d1⟩:=nd
 refine ⟨a,_,b,ys,B',hσ,ha,by rw [n1];simp,hr.length.symm,hb,r5,nbB,ndB,fun H1 qs' ys' C s1 rC ndC nbC hC=>?_⟩
 have mb:MutH H1 b:=.inl ⟨ys,s1 _ _ hb⟩
 have nb1:b ∉ A1:=fun z=>d1 b z b (.inl [76]) rfl
 have nb4:b ∉ A4:=fun z=>d34 b [76] b z rfl
 have nC:∀ d ∈ C,d ∉ A1/\d ∉ A4:=fun d hd=>by
  rcases hC d hd with z | z
  ·exact ⟨fun e=>d1 d e d [326] rfl,fun e=>d34 d (.inr z) d e rfl⟩
  ·refine ⟨fun e=>?_,fun e=>?_⟩
   ·obtain ⟨o,q⟩:=(Rps.mut _ r1 d e).some;rw [z] at q;cases q
   ·obtain ⟨o,q⟩:=(Rps.mut _ r4 d e).some;rw [z] at q;cases q
 have hob:own b=some i:=hB b (.inr (.inl [76]))
 have hA:[179].Nodup:=by
  rw [Jw,Jw,Jy]
  simp only [List.mem_append,List.mem_cons]
  refine ⟨nd1,⟨⟨nbC,ndC⟩,nd4,fun d hd d' hd' e=>?_⟩,fun d hd d' hd' e=>?_⟩
  ·subst e
   rcases hd with rfl | hd
   ·exact nb4 hd'
   ·exact (nC d hd).2 hd'
  ·subst e
   rcases hd' with (rfl | hd') | hd'
   ·exact nb1 hd
   ·exact (nC d hd').1 hd
   ·exact d1 d hd d (.inr hd') rfl
 have hown:∀ d ∈ A1++((b::C)++A4),own d=some i∨H d=none:=fun d hd=>by
  simp only [List.mem_append,List.mem_cons] at hd
  rcases hd with hd | (rfl | hd) | hd
  ·exact .inl (hB d (.inl hd))
  ·exact .inl hob
  ·rcases hC d hd with z | z
   ·exact .inl (hB d (.inr [326]))
   ·exact .inr z
  ·exact .inl (hB d (.inr (.inr hd)))
 rw [zdb]
 have r:Rp K [90] (.tup (l1++.lst qs'::l2)) [84] [179]:=
  .mkT (mb.tup (Same.tup s1 ha)) [58]
 have:=I.take (H2:=upd H1 b (.lst ys')) (v:=.ref a) hi [112] (fun d u hd z=>by
  rw [zm (by rintro rfl;exact hd hob)];exact s1 d u z) r hA hown
 rw [km hσ] at this
 exact ⟨_,this⟩
theorem VI.inner{K:PySem.W.Frag}{own:Addr->Option Nat}{env:En}{σ:St}{H:Hp}{i j:Nat}{p:PV}{ps qs:List PV}(hi:i ∈ O)(I:VI K (ko O) G own env σ H)(hl:zA i env=some p)(hp:k6 p=some ps)(hj:ps[j]?=some (.lst qs)):
  ∃ a xs b ys B,σ[i]?=some [304]/\(SqL K H a xs∨SqT K H a xs)/\xs[j]?=some (.ref b)/\xs.length=ps.length/\H b=some [262]/\Rps K H qs ys B/\b ∉ B/\B.Nodup/\∀ H1 qs' ys' C,Same H H1->Rps K H1 qs' ys' C->C.Nodup->b ∉ C->(∀ d ∈ C,d ∈ B∨H d=none)->
   ∃ own',VI K (ko O) G own' (env.set i (some (zjs p j (.lst qs')))) σ [90]/\Ext own H own' [90]:=by
 cases p<;>first | (cases hp;done) | skip
 ·cases hp
  obtain ⟨a,xs,b,ys,B,h1,h2,h3⟩:=VI.turnTu hi I hl hj
  exact ⟨a,xs,b,ys,B,h1,.inr h2,h3⟩
 ·cases hp
  obtain ⟨a,xs,b,ys,B,h1,h2,h3⟩:=VI.turnIn hi I hl hj
  exact ⟨a,xs,b,ys,B,h1,.inl (SqL.of h2),h3⟩
noncomputable def zfV(i:Nat)(fk:FE)(m:En->List PV->Option (List PV)):FS:=fun env=>[325].bind fun p=>(fk env).bind fun k=>(k6 p).bind fun ps=>match k with
 | .int z=>(ixN ps.length z).bind fun j=>match ps[j]? with
  | some (.lst qs)=>(m env qs).map fun qs'=>.nx (env.set i (some (zjs p j (.lst qs'))))
  | _=>none
 | _=>none
theorem zig{i:Nat}{m:En->List PV->Option (List PV)}{env:En}{o:Out}(hf:zfV i fk m env=some o):
  ∃ p ps z j qs qs',zA i env=some p/\fk env=some (.int z)/\k6 p=some ps/\ixN ps.length z=some j/\ps[j]?=some (.lst qs)/\m env qs=some qs'/\o=.nx (env.set i (some (zjs p j (.lst qs')))):=by
 unfold zfV at hf
 replace hf:=Ja.mp hf;obtain ⟨p,hl,hf⟩:=hf
 replace hf:=Ja.mp hf;obtain ⟨kk,hk,hf⟩:=hf
 replace hf:=Ja.mp hf;obtain ⟨ps,hp,hf⟩:=hf
 split at hf
 case h_2=>cases hf
 rename_i z
 replace hf:=Ja.mp hf;obtain ⟨j,hj,hf⟩:=hf
 split at hf
 case h_2=>cases hf
 rename_i qs hqs
 cases hm:m env qs with
 | none=>rw [hm] at hf;cases hf
 | some qs'=>
  rw [hm] at hf;cases hf
  exact ⟨p,ps,z,j,qs,qs',hl,hk,hp,hj,hqs,hm,rfl⟩
theorem zne{K:PySem.W.Frag}{H:Hp}{a b:Addr}{xs:List V}{z:Int}{j n:Nat}{Q:VK}(hx:SqL K H a xs∨SqT K H a xs)(hn:xs.length=n)(hj:ixN n z=some j)(hb:xs[j]?=some (.ref b))(q:Q (.ref b) H):rIx K [84] (.int z) H Q:=by
 have:L2.atI xs z=some (.ref b):=by unfold L2.atI;rw [hn,hj];exact hb
 rcases hx with hx | hx
 ·exact .inl ⟨a,xs,z,_,rfl,rfl,hx,this,q⟩
 ·exact .inr (.inl ⟨a,xs,z,_,rfl,rfl,hx,this,q⟩)
theorem zls{K:PySem.W.Frag}{H H1:Hp}{a:Addr}{xs:List V}(s:Same H H1)(hx:SqL K H a xs∨SqT K H a xs):SqL K H1 a xs∨SqT K H1 a xs:=hx.imp (Same.seq s) (Same.tup s)
noncomputable def jq(f:FE):En->List PV->Option (List PV):=fun env qs=>[254].bind fun q=>if qs.length<100000 then some (qs++[q]) else none
theorem qt(i:Nat)(hi:i ∈ O)(hp:PS X st (zaL (tBM X.K "list" kr (tOp (rIx X.K) (uV i) (tV X.K (ko O) G c fk)) (qw [172] zdX)))):VS X (ko O) G st (zfV i fk (jq f)):=hp.imp fun D σ H hq_=>by
 refine hq_.elim fun own env o I hf k=>?_
 obtain ⟨p,ps,z,j,qs,qs',hl,hk,hit,hj,hqs,hm,rfl⟩:=zig hf
 unfold jq at hm
 replace hm:=Ja.mp hm;obtain ⟨q,hq,hm⟩:=hm
 split at hm
 case isFalse=>cases hm
 rename_i hlen
 cases hm
 obtain ⟨a,xs,b,ys,B,hσ,ha,hx,hxl,hb,hr,nb,ndB,turn⟩:=VI.inner hi I hl hit hqs
 refine ⟨.ref a,hσ,.in I hk fun y H1 _ s1 r1 _=>?_⟩
 rw [r1.I.1]
 refine zne (zls s1 ha) hxl hj hx ⟨.inl ⟨rfl,ys,SqL.of (s1 _ _ hb)⟩,.in (I.grow s1) hq fun v H2 C s2 r2 c2=>?_⟩
 have s12:=s1.trans s2
 refine ⟨b,ys,v,rfl,rfl,s12 _ _ hb,by rw [← hr.length,sizeLine_eq];omega,?_⟩
 have fr:∀ d ∈ C,H1 d=none:=fun d hd=>(c2.2 d hd).elim id fun ⟨_,z,_⟩=>nomatch z
 have fr0:∀ d ∈ C,H d=none:=fun d hd=>s1.free (fr d hd)
 obtain ⟨own',h1,h2⟩:=turn H2 (qs++[q]) (ys++[v]) (B++C) s12 ((Rps.same s12 _ hr).append (Rps.one r2)) (Jw.mpr ⟨ndB,c2.1,fun d hd d' hd' e=>by
   subst e
   obtain ⟨o,ho⟩:=(Rps.mut _ hr d hd).some
   rw [fr0 d hd'] at ho;cases ho⟩)
  (fun z=>by
   rcases List.mem_append.mp z with z | z
   ·exact nb z
   ·have:=fr0 b z
    rw [hb] at this;cases this)
  (fun d hd=>(JB.mp hd).imp id (fr0 d))
 exact k _ _ _ h1 h2
end
end F
namespace L2
open PySem PySem.Spec PyProof.Rows
noncomputable def Ite (K : PySem.W.Frag) (a : Addr) : It :=
  ⟨fun i H => ∃ xs x, SqL K H a xs ∧ xs[i]? = some x,
   fun i H v H' => ∃ T x, H T = none ∧ v = .ref T ∧ H' = upd H T (.tup [.int (i : Int), x]) ∧ ∀ xs, SqL K H a xs → xs[i]? = some x,
   fun i H => ∃ xs, SqL K H a xs ∧ xs.length ≤ i⟩
theorem zhC{P:Program}{w:World}{K:PySem.W.Frag}{es:List Expr}{k:Nat}{pos:Pos}(a e it:Addr)(hei:e≠it):
  Turn P w K [275] (Ite K a) [e,it] e (fun i h=>(∃ old,IsEnum h e it (i:Nat) old)/\h.IsListIter it a i) where
 mem:=by simp
 obj:=by
  rintro i h ⟨⟨old,ge⟩,gi⟩ b hb
  simp only [List.mem_cons,List.not_mem_nil,or_false] at hb
  rcases hb with rfl | rfl
  ·exact ⟨_,ge,fun v z=>nomatch z⟩
  ·obtain ⟨o,ho,_,d⟩:=gi
   exact ⟨o,ho,fun v z=>by rw [d] at z;cases z⟩
 keep:=by
  rintro i h h' ⟨⟨old,ge⟩,gi⟩ kk
  obtain ⟨o,ho,r⟩:=gi
  exact ⟨⟨old,kk e [19] _ ge⟩,⟨o,kk it [19] o ho,r⟩⟩
 item:=by
  rintro X hP hw hK hc i pins s σ H E I hf ⟨⟨old,ge⟩,gi⟩ ⟨xs,x,hx,ex⟩
  subst hP hw hK
  obtain ⟨its,r1,c1,_⟩:=I.list hx
  obtain ⟨u,hu,ru⟩:=r1.get ex
  have hsq:Sq X.K H true a xs:=hx
  have ne1:a≠e:=hsq.ne I (hf e [19])
  have ne2:a≠it:=hsq.ne I (hf it [19])
  refine wpAny_pyNext_enum_item ge gi c1.isList (x:=u) [291] hei fun h' ho hit' hT hsz hk=>⟨_,rfl,?_⟩
  refine wpAny_letOwnedTupleGo_enum ho fun h₂ he₂ s₂=>?_
  have hH:H s.heap.objs.size=none:=I.hok.fresh (Jm _)
  have nz:s.heap.objs.size≠e:=Kh (Jn ge)
  have kk:∀ b o,b ∉ [e,it]->s.heap.get? b=some o->h₂.get? b=some o:=fun b o hb q=>by
   simp only [List.mem_cons,List.not_mem_nil,or_false,not_or] at hb
   exact (s₂.2 b hb.1).trans (hk b o hb.1 hb.2 q)
  have T2:h₂.get? s.heap.objs.size=some { cls:=.type "tuple",data:=.seq #[.int (i:Nat) s.toks,u] }:=(s₂.2 _ nz).trans hT
  have I2:=I.turnedLaid (t':=s.toks+1) (h':=h₂) (o':=.tup [.int (i:Int),x]) kk hf [247] ⟨by simp [sizeLine],[.int (i:Nat) s.toks,u],.cons ⟨_,rfl⟩ (.cons ru .nil),⟨_,T2,rfl,_,rfl⟩⟩
  refine ⟨.ref s.heap.objs.size,_,I2,rfl,⟨_,x,hH,rfl,rfl,fun xs' h1=>?_⟩,⟨⟨u,by simpa using he₂⟩,hit'.at fun o q=>(s₂.2 it hei.symm).trans q⟩,fun b hb=>?_⟩
  ·rw [I.list_inj h1 hx];exact ex
  ·rw [zm (fun n=>?_)]
   ·exact [152].1
   ·have:b<s.heap.objs.size:=by
     simp only [List.mem_cons,List.not_mem_nil,or_false] at hb
     rcases hb with rfl | rfl
     ·exact Jn ge
     ·obtain ⟨o,q,_⟩:=gi;exact Jn q
    exact absurd n (JE this)
 done:=by
  rintro X hP hw hK hc i pins s σ H E I hf ⟨⟨old,ge⟩,gi⟩ ⟨xs,hx,hl⟩
  subst hP hw hK
  obtain ⟨its,r1,c1,_⟩:=I.list hx
  have l1:=r1.length
  refine wpAny_pyNext_enum_end [105] ge gi c1.isList (by simpa [← l1] using hl) fun h' hk=>⟨rfl,I.turnedL (t':=s.toks) (L:=[e,it]) (fun b o hb q=>hk b o (fun n=>hb (by simp [n])) q) hf⟩
 self:=fun _ _ _ _ _ st h=>let ⟨⟨_,ge⟩,_⟩:=st;wpAny_pyIter_enum ge h
noncomputable def zmL(K:PySem.W.Frag)(ta:TA):TI:=fun σ H R=>ta σ H fun vs H1=>∃ a,vs=[.ref a]/\(∃ xs,SqL K H1 a xs)/\R (Ite K a) H1
theorem zlI{X:Cx}{es:List Expr}{k:Nat}{tpos:Pos}{a:Expr}{ta:TA}{p pos:Pos}(hg:Gl X "enumerate")(hm:X.mg "enumerate"=none)(ha:PA X [a] ta)(hs:starEach [a] X.env=[[124]]:=by rfl):
  PI X [317] (.Call (.Name "enumerate" p) [a] [] pos) (zmL X.K ta):=by
 intro pins s σ H R I h
 refine Call_ (uJ I hg hm boot_enumerate (JY [55] hs rfl))
 obtain ⟨a1,e,⟨xs,hx⟩,q⟩:=q1
 subst e
 cases r1 with
 | cons r rr=>
  cases rr
  cases r
  obtain ⟨its1,v1,c1,_⟩:=I1.list hx
  refine call_enumerate_list c1.isList fun h' ge gi hsz kk=>?_
  refine wpAny_pyIter_enum ge ?_
  refine ⟨s1.heap.objs.size+1,[s1.heap.objs.size+1,s1.heap.objs.size],_,_,H1,rfl,I1.kept (t':=s1.toks) kk,zhC a1 _ _ (by show ¬ s1.heap.objs.size+1=s1.heap.objs.size;omega),⟨⟨_,ge⟩,gi⟩,fun c hc=>?_,q⟩
  have hc':s1.heap.objs.size≤c:=by
   simp only [List.mem_cons,List.not_mem_nil,or_false] at hc
   rcases hc with rfl | rfl<;>omega
  exact I1.fpOk hc' (I1.hok.fresh hc')
end L2
namespace F
open PySem PySem.Spec PyProof.Rows L2
noncomputable def zox:PV->Option (List PV) | .lst ps=>some ps | .fls ps=>some ps | _=>none
noncomputable def qD(ps:List PV):List PV:=ps.zipIdx.map fun z=>PV.tup [.int (z.2:Int),z.1]
theorem zkb{K:PySem.W.Frag}{own:Addr->Option Nat}{H1:Hp}{p:PV}{v:V}{A:List Addr}{ps:List PV}(lp:Bool)(hm:∀ a l,own a=some l->MutH H1 a)(r:Rp K H1 p v A)(hA:∀ a ∈ A,own a=none)(hs:zox p=some ps):
  ∃ a xs B,v=.ref a/\Rps K H1 ps xs B/\(∀ a ∈ B,own a=none/\∃ o,H1 a=some o)/\∀ H2,(if lp=true then Stay own H1 H2 else Same H1 H2)->SqL K H2 a xs/\Rps K H2 ps xs B:=by
 cases p<;>first | (cases hs;done) | skip
 ·cases hs
  obtain ⟨a,xs,B,h1,h2,rfl,h3⟩:=r.L
  refine ⟨a,xs,B,h1,h3,fun b hb=>⟨hA b (Jg _ hb),[249].some⟩,fun H2 hR=>?_⟩
  cases lp with
  | true=>exact ⟨SqL.of (hR _ _ (hA a Jf) h2),Rps.stay hR hm _ [267] h3⟩
  | false=>exact ⟨SqL.of (hR _ _ h2),Rps.same hR _ h3⟩
 ·cases hs
  obtain ⟨a,xs,h1,h2,h3⟩:=r.Fl
  refine ⟨a,xs,A,h1,h3,fun b hb=>⟨hA b hb,[249].some⟩,fun H2 hR=>?_⟩
  cases lp with
  | true=>exact ⟨(Stay.fz hR hm h2).seq,Rps.stay hR hm _ hA h3⟩
  | false=>exact ⟨(h2.same hR).seq,Rps.same hR _ h3⟩
theorem zlf{K:PySem.W.Frag}{own:Addr->Option Nat}{H1:Hp}{R:Hp->Prop}{a1:Addr}{ps:List PV}{xs:List V}{A:List Addr}
  (hA:∀ a ∈ A,own a=none/\∃ o,H1 a=some o)(h1:∀ H2,R H2->SqL K H2 a1 xs/\Rps K H2 ps xs A):Walks K own H1 R (Ite K a1) (qD ps):=by
 intro i H2 hR
 obtain ⟨q1,r1⟩:=h1 H2 hR
 refine ⟨fun p hp=>?_,fun hi=>⟨xs,q1,by rw [← r1.length];simpa [qD] using hi⟩⟩
 unfold qD at hp
 rw [JM] at hp
 obtain ⟨z,hz,hp⟩:=JT.mp hp
 subst hp
 rw [List.getElem?_zipIdx] at hz
 obtain ⟨p,z1,rfl⟩:=JT.mp hz
 obtain ⟨u,C,e1,e2,e3⟩:=r1.get z1
 refine ⟨⟨xs,u,q1,e1⟩,fun x H3 ⟨T,x',hT,ex,eH,hy⟩=>?_⟩
 have g1:=hy xs q1
 rw [e1] at g1;cases g1
 have sm:Same H2 H3:=by rw [eH];exact z6 [31] hT
 refine ⟨sm,C,?_,fun a ha=>hA a (e3.subset ha)⟩
 rw [ex]
 refine .mkT (.inl (.inl (by rw [eH,zZ]))) ?_
 have:=Rps.cons (K:=K) (H:=H3) (.mkI (((0+i:Nat)):Int)) (Rps.one (Rp.same sm _ e2))
 simpa using this
end F
namespace L2
open PySem PySem.Spec PyProof.Rows
theorem vB:∀ {ns:List Int} {us:List Value},IntsAre us ns->Vals [63] us
 | _,_,.nil=>.nil
 | _,_,.cons n t r=>.cons ⟨t,rfl⟩ (vB r)
section
variable {X:Cx}
theorem call_sortL:CallR X (.builtin "sorted") (fun xs H Q=>∃ p,∃ ns:List Int,xs=[.ref p]/\SqL X.K H p [63]/\ns.length<64/\∀ (ns':List Int) l,ns'.Perm ns->ns'.Pairwise (·≤·)->H l=none->Q [288] [93]):=by
 intro pins s σ H vs us Q I r q
 obtain ⟨p,ns,e,hs,hlen,q⟩:=q
 subst e
 cases r with
 | cons r rr=>
  cases rr
  cases r
  obtain ⟨its,rv,hl,_⟩:=I.list hs
  have hlen':its.length<64:=by rw [← rv.length,Jh];exact hlen
  refine sorted_ints hl.isList (wL rv) hlen' fun out ns' a1 a2 a3=>?_
  obtain ⟨e,he⟩:=sortedAll_at s.heap its out
  have hn:=I.hok.fresh (a:=s.heap.objs.size+1) (Nat.le_succ _)
  exact ⟨.ref [181],_,I.laid (o:=.lst (ns'.map V.int)) (t':=s.toks) (fun _ _=>sortedAll_old) (Nat.le_succ _) ⟨by rw [List.length_map,a2.length_eq,sizeLine_eq];omega,out.toList,e,vB a1,by simpa [seqObj] using he⟩,rfl,q ns' _ a2 a3 hn⟩
end
end L2
namespace F
open PySem PySem.Spec PyProof.Rows L2
noncomputable def zfQ(a:Int):List Int->List Int
 | []=>[a]
 | b::r=>if a≤b then a::b::r else b::zfQ a r
noncomputable def w9(ns:List Int):List Int:=ns.foldr zfQ []
theorem qc(a:Int):∀ l,(zfQ a l).Perm (a::l)
 | []=>.refl _
 | b::r=>by
  unfold zfQ
  split
  ·exact .refl _
  ·exact ((qc a r).cons b).trans (.swap a b r)
theorem zae(a:Int):∀ l,l.Pairwise (·≤·)->(zfQ a l).Pairwise (·≤·)
 | [],_=>by simp [zfQ]
 | b::r,h=>by
  unfold zfQ
  have h':=JX.mp h
  split
  ·rename_i c
   refine JX.mpr ⟨fun x hx=>?_,h⟩
   rcases List.mem_cons.mp hx with rfl | hx
   ·exact c
   ·have:=h'.1 x hx;omega
  ·rename_i c
   refine JX.mpr ⟨fun x hx=>?_,zae a r h'.2⟩
   rcases List.mem_cons.mp ((qc a r).mem_iff.mp hx) with rfl | hx
   ·omega
   ·exact h'.1 x hx
theorem yr:∀ ns:List Int,(w9 ns).Perm ns
 | []=>.refl _
 | n::ns=>(qc n (w9 ns)).trans ((yr ns).cons n)
theorem wK:∀ ns:List Int,(w9 ns).Pairwise (·≤·)
 | []=>.nil
 | n::ns=>zae n _ (wK ns)
theorem jo:∀ {xs ys:List Int},xs.Perm ys->xs.Pairwise (·≤·)->ys.Pairwise (·≤·)->xs=ys
 | [],ys,p,_,_=>(List.nil_perm.mp p).symm
 | x::xs,ys,p,hx,hy=>by
  cases ys with
  | nil=>exact absurd p.length_eq [19]
  | cons y ys=>
   have hx':=JX.mp hx
   have hy':=JX.mp hy
   have e:x=y:=by
    have h1:y≤x:=by
     rcases List.mem_cons.mp (p.mem_iff.mp List.mem_cons_self) with z | z
     ·omega
     ·exact hy'.1 x z
    have h2:x≤y:=by
     rcases List.mem_cons.mp (p.mem_iff.mpr List.mem_cons_self) with z | z
     ·omega
     ·exact hx'.1 y z
    omega
   subst e
   rw [jo (List.Perm.cons_inv p) hx'.2 hy'.2]
noncomputable def ki:List PV->Option PV
 | [.lst ps]=>match wZ ps with | some ns=>if ns.length<64 then some (.lst ((w9 ns).map PV.int)) else none | _=>none
 | _=>none
theorem k7{K:PySem.W.Frag}{H:Hp}:∀ ns:List Int,Rps K H [145] [63] []
 | []=>.nil
 | n::ns=>Rps.cons (A:=[]) (.mkI n) (k7 ns)
theorem zio{K:PySem.W.Frag}:ve K (fun xs H Q=>∃ p,∃ ns:List Int,xs=[.ref p]/\SqL K H p [63]/\ns.length<64/\∀ (ns':List Int) l,ns'.Perm ns->ns'.Pairwise (·≤·)->H l=none->Q [288] [93]) ki:=by
 intro H ps vs A z Q r e k
 unfold ki at e
 split at e
 ·split at e
  ·rename_i qs ns hi
   split at e
   ·rename_i hlen
    cases e
    have:=wY hi
    subst this
    obtain ⟨v,rfl,rv⟩:=yS r
    obtain ⟨a,ys,B,e1,h1,_,g⟩:=rv.L
    have:=uX g
    subst this
    refine ⟨a,ns,by rw [e1],SqL.of h1,hlen,fun ns' l hp hs hl=>?_⟩
    rw [jo (hp.trans (yr ns).symm) hs (wK ns)]
    exact k _ _ [l] (z6 [31] hl) (.mkL zZ (k7 _)) [19] [202]
   ·cases e
  ·cases e
 ·cases e
theorem zaB{K:PySem.W.Frag}{H:Hp}:∀ {ks:List Key} {ps:List PV} {xs:List V} {A:List Addr} {k:Key},Rps K H ps xs A->ks.length=ps.length->u6 ks ps k=none->wP [126] k=none
 | [],_,_,_,_,_,_,_=>by simp [wP]
 | k'::ks,[],_,_,_,_,hl,_=>by simp at hl
 | k'::ks,q::ps,_,_,k,r,hl,h=>by
  obtain ⟨w,r',A1,A2,rfl,rfl,h3,h4⟩:=r.inv
  unfold u6 at h
  rw [Ka,Kt] at h
  by_cases hk:k'=k
  ·subst hk
   simp at h
  ·have:decide (k'=k)=false:=decide_eq_false hk
   rw [show decide ((k',q).1=k)=false from this] at h
   have g1:=zaB (ks:=ks) (k:=k) h4 [202] h
   rw [Ka]
   unfold wP at g1 ⊢
   rw [Kt,show decide ((k',w).1=k)=false from this]
   exact g1
noncomputable def vZ:PV->Option Key | .int i=>some (.inl i) | .str x=>some (.inr x) | _=>none
theorem k4{K:PySem.W.Frag}{H:Hp}{p:PV}{v:V}{A:List Addr}{k:Key}(h:vZ p=some k)(r:Rp K H p v A):v=kV k:=by
 cases p<;>first | (cases h;done) | skip
 ·cases h;exact r.I.1
 ·cases h;exact r.S.1
noncomputable def zlm(d k x:PV):Option PV:=match d with
 | .dct ks ps=>if (isDatas ps && z0 x)=true then (vZ k).map fun key=>(u6 ks ps key).getD x else none
 | _=>none
noncomputable def zmn(fd fk fx:FE):FE:=fun env=>(fd env).bind fun d=>(fk env).bind fun k=>(fx env).bind fun x=>zlm d k x
theorem znN{K:PySem.W.Frag}{H:Hp}{ks:List Key}{ps:List PV}{xs:List V}{a:Addr}{key:Key}{x:PV}{w:V}(hl:ks.length=ps.length)(hd:isDatas ps=true)(ha:H a=some (.dK [126]))(r:Rps K H ps xs [])(rx:Rp K H x w []):
  ∃ o,DGet H a (kV key) o/\Rp K H ((u6 ks ps key).getD x) (o.getD w) []:=by
 refine ⟨_,DGet.k ha,?_⟩
 cases hg:u6 ks ps key with
 | none=>rw [zaB r hl hg];exact rx
 | some p=>
  obtain ⟨v,C,h1,h2,h3⟩:=kd r hg
  have:=List.sublist_nil.mp h3
  subst this
  rw [h1]
  exact h2
section
variable {X:Cx} {κ:Nat->Option Nat} {G:Hp} {c c1 c2:Cat} {o e f:Expr} {fd fk fx:FE} {apos cpos:Pos}
theorem zgq(hu:X.A.units+1<cLine)(ho:VE X κ G c o fd)(he:VE X κ G c1 e fk)(hf:VE X κ G c2 f fx)(m:M2 X o "get" apos e f cpos):VE X κ G [33] (.Call (.Attribute o "get" apos) [e,f] [] cpos) (zmn fd fk fx):=
 (zej hu ho he hf m).imp fun σ H Q hq_=>by
 refine hq_.elim fun own env z I h k=>?_
 unfold zmn at h
 replace h:=Ja.mp h;obtain ⟨d,hd,h⟩:=h
 replace h:=Ja.mp h;obtain ⟨kk,hk,h⟩:=h
 replace h:=Ja.mp h;obtain ⟨x,hx,h⟩:=h
 unfold zlm at h
 split at h
 ·rename_i ks ps
  split at h
  ·rename_i hdat
   rw [JS] at hdat
   cases hkey:vZ kk with
   | none=>rw [hkey] at h;cases h
   | some key=>
    rw [hkey] at h;cases h
    refine (.in I hd fun v H1 A s1 r1 _=>?_)
    obtain ⟨a,ys,B,e1,h1,hl,_,g⟩:=r1.D
    have:=Rps.data _ hdat.1 g
    subst this
    refine ⟨a,e1,.inl ⟨_,.inl h1⟩,.in (I.grow s1) hk fun y H2 _ s2 r2 _=>(.in ((I.grow s1).grow s2) hx fun w H3 A3 s3 r3 _=>?_)⟩
    have eA:=Rp.data x hdat.2 r3
    subst eA
    have s23:=s2.trans s3
    obtain ⟨ov,q1,q2⟩:=znN (key:=key) hl hdat.1 (s23 _ _ h1) (Rps.same s23 _ g) r3
    rw [k4 hkey r2]
    exact ⟨ov,q1,k _ H3 [] (s1.trans s23) q2 ⟨.nil,by simp⟩⟩
  ·cases h
 ·cases h
end
end F
namespace L2
open PySem PySem.Spec PyProof.Rows
noncomputable abbrev itT(h:Heap)(l:Addr):Heap:=h.push { cls:=.type "tuple_iterator",data:=.fields #[.ref l,.int 0 0] }
noncomputable abbrev enT(h:Heap)(l:Addr):Heap:=(itT h l).push { cls:=.type "enumerate",data:=.fields #[.none,.bool false,.ref h.objs.size,rawInt 0,.none,.none] }
theorem zfH(l:Addr)(zs:Array Value)(m:Nat)(dd:Option Addr)(ss:Array [161]):
  Meets (Builtin.«enumerate.__new__» ⟨[.type "enumerate",.ref l],[]⟩) (fun _ R s=>s.heap.get? l=some { cls:=.type "tuple",dict:=dd,data:=.seq zs m,slots:=ss }/\R (.ok (.ret (.ref (itT s.heap l).objs.size))) { s with heap:=enT s.heap l }):=
 .of_wp fun P w A R s hz=>by
  obtain ⟨hp,gg,dr,tk,os⟩:=s
  obtain ⟨hl,hz⟩:=hz
  have sub:=sub_enumerate
  have hT:Heap.IsTuple (Shared.heap ⟨hp,gg,dr,tk,os⟩) l zs:=⟨_,hl,rfl,m,rfl⟩
  wp_walk using KI hl
  refine wpAny_stack_any fun st=>wpAny_pure ?_
  split
  ·rename_i c _ _ _ _ _
   cases (c == Value.type "enumerate")<;>(wp_walk using AutoSeq1.wpAny_loadPart' hl,wpAny_pyIter_tuple hT;exact ⟨_,rfl,hz⟩)
  ·wp_walk using KI hl,wpAny_pyIter_tuple hT
   exact ⟨_,rfl,hz⟩
theorem zge{prog:Program}{w:World}{A:Around}{E:Value->Shared->Prop}{s:Shared}{l:Addr}{zs:Array Value}{Q:Value->Shared->Prop}(hT:s.heap.IsTuple l zs)
  (k:∀ h',IsEnum h' [181] s.heap.objs.size 0 .none->h'.IsTupleIter s.heap.objs.size l 0->(∀ b o,s.heap.get? b=some o->h'.get? b=some o)->Q (.ref [181]) { s with heap:=h' }):
  wpAny [35] A (call (.type "enumerate") [.ref l]) Q E s:=by
 obtain ⟨⟨c,dd,dt,ss⟩,hl,hc,m,hd⟩:=hT
 replace hc:c=.type "tuple":=hc
 replace hd:dt=.seq zs m:=hd
 subst hc hd
 refine callType_new F.called_enumerate [10] (F.typeCall_enumerate_1 _) (F.newCall_enumerate_1 _) (fun o=>F.args_object_init_2 o _) F.entry_enumerate_new (zfH l zs m dd ss) ⟨hl,?_⟩
 have z1:(itT s.heap l).objs.size=s.heap.objs.size+1:=Ky ..
 show _/\_
 rw [z1]
 have he:IsEnum (enT s.heap l) [181] s.heap.objs.size 0 .none:=by
  have e:=Jp (itT s.heap l) (o:={ cls:=.type "enumerate",data:=.fields #[.none,.bool false,.ref s.heap.objs.size,rawInt 0,.none,.none] }) rfl
  rw [z1] at e;exact e
 exact ⟨⟨_,he,rfl⟩,k _ he ⟨_,Jd _ (Jp _ rfl),rfl,rfl⟩ fun b o x=>Jd _ (Jd _ x)⟩
theorem zih{P:Program}{w:World}{A:Around}{it c:Addr}{its:Array Value}(hh:A.handled=none)(hne:c≠it):
  Draws P w A it [it,c] its.size (fun i x=>its[i]?=some x) (fun i h=>h.IsTupleIter it c i/\h.IsTuple c its) where
 live:=fun i h ⟨⟨o,e,_⟩,_⟩=>⟨o,e⟩
 frame:=fun i h h' ⟨⟨o,e,r⟩,⟨o',e',r'⟩⟩ k=>⟨⟨o,k it [19] o e,r⟩,⟨o',k c [19] o' e',r'⟩⟩
 item:=fun i s Q E hi ⟨gi,gt⟩ k=>zbj gi gt (x:=its[i]) (Array.getElem?_eq_getElem hi) fun h' gi' sb=>k _ h' s.toks (Array.getElem?_eq_getElem hi) ⟨gi',let ⟨o,e,r⟩:=gt;⟨o,(sb.2 c hne).trans e,r⟩⟩ sb
 done:=fun s Q E ⟨gi,gt⟩ k=>vX hh gi gt [19] k
theorem zii{P:Program}{w:World}{A:Around}{it c:Addr}{its:Array Value}{n:Nat}(hh:A.handled=none)(hx:its[n]?=none):
  Draws P w A it [it,c] n [190] (fun i h=>i=n/\h.IsTupleIter it c i/\h.IsTuple c its) where
 live:=fun i h ⟨_,⟨o,e,_⟩,_⟩=>⟨o,e⟩
 frame:=fun i h h' ⟨q,⟨o,e,r⟩,⟨o',e',r'⟩⟩ k=>⟨q,⟨o,k it [19] o e,r⟩,⟨o',k c [19] o' e',r'⟩⟩
 item:=fun i s Q E hi ⟨q,_⟩ k=>absurd hi [12]
 done:=fun s Q E ⟨_,gi,gt⟩ k=>vX hh gi gt hx k
noncomputable def zoh (K : PySem.W.Frag) (a : Addr) : It :=
  ⟨fun i H => ∃ xs x, SqT K H a xs ∧ xs[i]? = some x,
   fun i H v H' => ∃ T x, H T = none ∧ v = .ref T ∧ H' = upd H T (.tup [.int (i : Int), x]) ∧ ∀ xs, SqT K H a xs → xs[i]? = some x,
   fun i H => ∃ xs, SqT K H a xs ∧ xs.length ≤ i⟩
theorem zfk{P:Program}{w:World}{K:PySem.W.Frag}{es:List Expr}{k:Nat}{pos:Pos}(a e it:Addr)(hei:e≠it):
  Turn P w K [275] (zoh K a) [e,it] e (fun i h=>(∃ old,IsEnum h e it (i:Nat) old)/\h.IsTupleIter it a i) where
 mem:=by simp
 obj:=by
  rintro i h ⟨⟨old,ge⟩,gi⟩ b hb
  simp only [List.mem_cons,List.not_mem_nil,or_false] at hb
  rcases hb with rfl | rfl
  ·exact ⟨_,ge,fun v z=>nomatch z⟩
  ·obtain ⟨o,ho,_,d⟩:=gi
   exact ⟨o,ho,fun v z=>by rw [d] at z;cases z⟩
 keep:=by
  rintro i h h' ⟨⟨old,ge⟩,gi⟩ kk
  obtain ⟨o,ho,r⟩:=gi
  exact ⟨⟨old,kk e [19] _ ge⟩,⟨o,kk it [19] o ho,r⟩⟩
 item:=by
  rintro X hP hw hK hc i pins s σ H E I hf ⟨⟨old,ge⟩,gi⟩ ⟨xs,x,hx,ex⟩
  subst hP hw hK
  have hsq:Sq X.K H false a xs:=hx
  obtain ⟨its,r1,c1⟩:=hsq.at I
  replace c1:s.heap.IsTuple a its.toArray:=c1
  obtain ⟨u,hu,ru⟩:=r1.get ex
  have ne1:a≠e:=hsq.ne I (hf e [19])
  have ne2:a≠it:=hsq.ne I (hf it [19])
  have hil:i<its.toArray.size:=by
   have:=(Jv.mp hu).1
   simpa using this
  refine wpAny_pyNext_enum_itemD (zih [105] ne2) ge ⟨gi,c1⟩ hil hei (by simp [hei,ne1.symm]) fun x' h' tk hx' ho hit' hT hsz hk=>⟨_,rfl,?_⟩
  have exu:x'=u:=by
   have h1:its[i]?=some x':=by simpa using hx'
   rw [hu] at h1;exact (Jq h1).symm
  subst exu
  refine wpAny_letOwnedTupleGo_enum ho fun h₂ he₂ s₂=>?_
  have hH:H s.heap.objs.size=none:=I.hok.fresh (Jm _)
  have nz:s.heap.objs.size≠e:=Kh (Jn ge)
  have kk:∀ b o,b ∉ [e,it]->s.heap.get? b=some o->h₂.get? b=some o:=fun b o hb q=>by
   simp only [List.mem_cons,List.not_mem_nil,or_false,not_or] at hb
   exact (s₂.2 b hb.1).trans (hk b o hb.1 hb.2 q)
  have T2:h₂.get? s.heap.objs.size=some { cls:=.type "tuple",data:=.seq #[.int (i:Nat) tk,x'] }:=(s₂.2 _ nz).trans hT
  have I2:=I.turnedLaid (t':=tk+1) (h':=h₂) (o':=.tup [.int (i:Int),x]) kk hf [247] ⟨by simp [sizeLine],[.int (i:Nat) tk,x'],.cons ⟨_,rfl⟩ (.cons ru .nil),⟨_,T2,rfl,_,rfl⟩⟩
  refine ⟨.ref s.heap.objs.size,_,I2,rfl,⟨_,x,hH,rfl,rfl,fun xs' h1=>?_⟩,⟨⟨x',by simpa using he₂⟩,?_⟩,fun b hb=>?_⟩
  ·have h1':Sq X.K H false a xs':=h1
   rw [h1'.inj I hsq];exact ex
  ·obtain ⟨o,q,r⟩:=hit'.1
   exact ⟨o,(s₂.2 it hei.symm).trans q,r⟩
  ·rw [zm (fun n=>?_)]
   ·exact [152].1
   ·have:b<s.heap.objs.size:=by
     simp only [List.mem_cons,List.not_mem_nil,or_false] at hb
     rcases hb with rfl | rfl
     ·exact Jn ge
     ·obtain ⟨o,q,_⟩:=gi;exact Jn q
    exact absurd n (JE this)
 done:=by
  rintro X hP hw hK hc i pins s σ H E I hf ⟨⟨old,ge⟩,gi⟩ ⟨xs,hx,hl⟩
  subst hP hw hK
  have hsq:Sq X.K H false a xs:=hx
  obtain ⟨its,r1,c1⟩:=hsq.at I
  replace c1:s.heap.IsTuple a its.toArray:=c1
  have l1:=r1.length
  have ne2:a≠it:=hsq.ne I (hf it [19])
  have nx:its.toArray[i]?=none:=by simpa [← l1] using hl
  refine wpAny_pyNext_enum_endD (zii (c:=a) [105] nx) ge ⟨rfl,gi,c1⟩ fun h' hk=>⟨rfl,I.turnedL (t':=s.toks) (L:=[e,it]) (fun b o hb q=>hk b o (fun n=>hb (by simp [n])) q) hf⟩
 self:=fun _ _ _ _ _ st h=>let ⟨⟨_,ge⟩,_⟩:=st;wpAny_pyIter_enum ge h
noncomputable def znL(K:PySem.W.Frag)(ta:TA):TI:=fun σ H R=>ta σ H fun vs H1=>∃ a,vs=[.ref a]/\(∃ xs,SqT K H1 a xs)/\R (zoh K a) H1
theorem zjB{X:Cx}{es:List Expr}{k:Nat}{tpos:Pos}{a:Expr}{ta:TA}{p pos:Pos}(hg:Gl X "enumerate")(hm:X.mg "enumerate"=none)(ha:PA X [a] ta)(hs:starEach [a] X.env=[[124]]:=by rfl):
  PI X [317] (.Call (.Name "enumerate" p) [a] [] pos) (znL X.K ta):=by
 intro pins s σ H R I h
 refine Call_ (uJ I hg hm boot_enumerate (JY [55] hs rfl))
 obtain ⟨a1,e,⟨xs,hx⟩,q⟩:=q1
 subst e
 cases r1 with
 | cons r rr=>
  cases rr
  cases r
  have hsq:Sq X.K H1 false a1 xs:=hx
  obtain ⟨its1,v1,c1⟩:=hsq.at I1
  refine zge (zs:=its1.toArray) c1 fun h' ge gi kk=>?_
  refine wpAny_pyIter_enum ge ?_
  refine ⟨s1.heap.objs.size+1,[s1.heap.objs.size+1,s1.heap.objs.size],_,_,H1,rfl,I1.kept (t':=s1.toks) kk,zfk a1 _ _ (by show ¬ s1.heap.objs.size+1=s1.heap.objs.size;omega),⟨⟨_,ge⟩,gi⟩,fun c hc=>?_,q⟩
  have hc':s1.heap.objs.size≤c:=by
   simp only [List.mem_cons,List.not_mem_nil,or_false] at hc
   rcases hc with rfl | rfl<;>omega
  exact I1.fpOk hc' (I1.hok.fresh hc')
end L2
namespace F
open PySem PySem.Spec PyProof.Rows L2
noncomputable def zbG(f:FA):FA:=fun env=>[254].bind fun ps=>match ps with | [p]=>(vA p).map qD | _=>none
theorem ziI{K:PySem.W.Frag}{own:Addr->Option Nat}{H1:Hp}{R:Hp->Prop}{a1:Addr}{ps:List PV}{xs:List V}{A:List Addr}
  (hA:∀ a ∈ A,own a=none/\∃ o,H1 a=some o)(h1:∀ H2,R H2->SqT K H2 a1 xs/\Rps K H2 ps xs A):Walks K own H1 R (zoh K a1) (qD ps):=by
 intro i H2 hR
 obtain ⟨q1,r1⟩:=h1 H2 hR
 refine ⟨fun p hp=>?_,fun hi=>⟨xs,q1,by rw [← r1.length];simpa [qD] using hi⟩⟩
 unfold qD at hp
 rw [JM] at hp
 obtain ⟨z,hz,hp⟩:=JT.mp hp
 subst hp
 rw [List.getElem?_zipIdx] at hz
 obtain ⟨p,z1,rfl⟩:=JT.mp hz
 obtain ⟨u,C,e1,e2,e3⟩:=r1.get z1
 refine ⟨⟨xs,u,q1,e1⟩,fun x H3 ⟨T,x',hT,ex,eH,hy⟩=>?_⟩
 have g1:=hy xs q1
 rw [e1] at g1;cases g1
 have sm:Same H2 H3:=by rw [eH];exact z6 [31] hT
 refine ⟨sm,C,?_,fun a ha=>hA a (e3.subset ha)⟩
 rw [ex]
 refine .mkT (.inl (.inl (by rw [eH,zZ]))) ?_
 have:=Rps.cons (K:=K) (H:=H3) (.mkI (((0+i:Nat)):Int)) (Rps.one (Rp.same sm _ e2))
 simpa using this
theorem ziK{X:Cx}{κ:Nat->Option Nat}{G:Hp}{fs:FA}{a:Expr}{es:List Expr}{k:Nat}{tpos p pos:Pos}(lp:Bool)(hg:Gl X "enumerate")(hm:X.mg "enumerate"=none)(ha:VA X κ G .sh [a] fs)(hs:starEach [a] X.env=[[124]]:=by rfl):
  VIt X κ G lp [317] (.Call (.Name "enumerate" p) [a] [] pos) (zbG fs):=(zmE (zlI hg hm ha.1 hs) (zjB hg hm ha.1 hs)).imp fun σ H R hq_=>by
 refine hq_.elim fun own env ps I hf k=>?_
 unfold zbG at hf
 replace hf:=Ja.mp hf;obtain ⟨qs,hp,hf⟩:=hf
 split at hf
 case h_2=>cases hf
 rename_i p
 have rf:∀ (lp:Bool) (H1:Hp),(if lp=true then Stay own H1 H1 else Same H1 H1):=fun lp H1=>by
  cases lp with
  | true=>exact fun _ _ _ h=>h
  | false=>exact Same.refl _
 have lst:∀ xs,zox p=some xs->ps=qD xs->zmL X.K (tVA X.K κ G .sh fs) σ H R:=fun xs e1 e2=>by
  refine (.in I hp fun vs H1 A s r hc=>?_)
  obtain ⟨v,rfl,rv⟩:=yS r
  have hm:∀ a l,own a=some l->MutH H1 a:=fun a l e=>[196].2
  obtain ⟨a1,vs1,B1,w1,w2,w3,w4⟩:=zkb lp hm rv hc e1
  exact ⟨a1,by rw [w1],⟨vs1,(w4 H1 (rf lp H1)).1⟩,k _ H1 s (by rw [e2];exact zlf w3 w4)⟩
 cases p<;>first | cases hf | skip
 ·refine .inr (.in I hp fun vs H1 A s r hc=>?_)
  obtain ⟨v,rfl,rv⟩:=yS r
  have hm:∀ a l,own a=some l->MutH H1 a:=fun a l e=>[196].2
  obtain ⟨a,xs,h1,h2,h3⟩:=rv.T
  refine ⟨a,by rw [h1],⟨xs,h2⟩,k _ H1 s (ziI (xs:=xs) (A:=A) (fun b hb=>⟨hc b hb,[249].some⟩) fun H2 hR=>?_)⟩
  cases lp with
  | true=>exact ⟨Stay.tup hR hm h2,Rps.stay hR hm _ hc h3⟩
  | false=>exact ⟨Same.tup hR h2,Rps.same hR _ h3⟩
 ·exact .inl (lst _ rfl rfl)
 ·exact .inl (lst _ rfl rfl)
end F
namespace L2
open PySem PySem.Spec PyProof.Rows
section
variable {X:Cx} {pins:List [24]} {σ:St} {H:Hp} {s:Shared} {a:Addr} {kvs:List [149]} {k:Key} {z:V} {u r:Value} {A:Around} {E:Value->Shared->Prop}
theorem zkH{Q:Value->Shared->Prop}(I:Inv X pins σ H s)(e:H a=some [94])(ry:RelV (kV k) u)(rz:RelV z r)(hl:kvs.length<sizeLine)
  (h1:∀ v w' s',wP kvs k=some v->Inv X pins σ H s'->RelV v w'->Q w' s')(h2:∀ s',wP kvs k=none->Inv X pins σ (upd H a (.dK (wQ kvs k z))) s'->Q r s'):
  wpAny [21] A (call (.builtin "dict.setdefault") [.ref a,u,r]) Q E s:=by
 obtain ⟨zz,hd,vs,rel,dd⟩:=qE I.hok e
 have lp:(wQ kvs k z).length≤sizeLine:=by have:=vn kvs k z;omega
 refine call_meetsIn PySem.F.slot_dict_setdefault dd.typeIs PySem.F.entry_dict_setdefault (PySem.F.args_dict_setdefault_3 _ _ _) (kt_meets_setdefault [323] a (zac ry) hd r)
  ⟨vs,dd,by rw [← rel.length];exact zz,fun v hv=>?_,fun hn h' dd' hs=>?_⟩
 ·have hr:=rel.val k
  rw [hv] at hr
  cases hq:wP kvs k with
  | none=>rw [hq] at hr;cases hr
  | some y=>rw [hq] at hr;exact h1 y v _ hq (I.tok _) hr
 ·have hr:=rel.val k
  rw [hn] at hr
  have hq:wP kvs k=none:=by
   cases hq:wP kvs k with
   | none=>rfl
   | some y=>rw [hq] at hr;cases hr
  have he:∃ q,h'.get? a=some q:=let ⟨q,_,_,hq,_⟩:=dd';⟨q,hq⟩
  exact h2 _ hq (qF I [250] hs he (zdz lp hd (rel.put k rz) dd'))
end
noncomputable def zmz(td ty tx:TE):TE:=fun σ H Q=>td σ H fun x H1=>∃ a,x=.ref a/\IsD H1 a/\ty σ H1 fun y H2=>tx σ H2 fun z H3=>∃ kvs k,H3 a=some [94]/\y=kV k/\kvs.length<sizeLine/\
 (∀ v,wP kvs k=some v->Q v H3)/\(wP kvs k=none->Q z (upd H3 a (.dK (wQ kvs k z))))
theorem zlL{X:Cx}{o e f:Expr}{apos cpos:Pos}{td ty tx:TE}(ho:PE X o td)(he:PE X e ty)(hf:PE X f tx)(m:M2 X o "setdefault" apos e f cpos):PE X (.Call (.Attribute o "setdefault" apos) [e,f] [] cpos) (zmz td ty tx):=by
 intro pins s σ H Q I h
 refine wpAny_Call_method m.base m.few m.line PySem.F.plainAttrs_dict PySem.F.slot_dict_setdefault PySem.F.type_dict_setdefault (thn [195] fun u s1 hq_=>?_)
 obtain ⟨x,H1,I1,rx,a,ex,d,q1⟩:=hq_
 subst ex
 obtain rfl:u=Value.ref a:=rx
 obtain ⟨t1,t2,_⟩:=zkp I1 d
 refine ⟨t1,t2,?_⟩
 rw [m.trees]
 refine KM rfl (Calls.evalArgs_plain (KB (thn (he pins s1 σ H1 _ I1 q1) fun iv s2 hq_=>?_)))
 obtain ⟨y,H2,I2,ry,q2⟩:=hq_
 refine KB (thn (hf pins s2 σ H2 _ I2 q2) fun fv s3 hq_=>Calls.spliced_nil ?_)
 obtain ⟨z,H3,I3,rz,kvs,k,ea,ey,hl,q3,q4⟩:=hq_
 subst ey
 exact zkH I3 ea ry rz hl (fun v w' s4 hv I4 rw'=>⟨v,H3,I4,rw',q3 v hv⟩) fun s4 hn I4=>⟨z,_,I4,rz,q4 hn⟩
end L2
namespace F
open PySem PySem.Spec PyProof.Rows L2
noncomputable def kIx(ks:List Key)(k:Key):Option Nat:=ks.findIdx? fun x=>decide (x=k)
theorem zav:∀ {ks:List Key} {xs:List V} (_:ks.length=xs.length) (k:Key),wP [126] k=(kIx ks k).bind fun j=>xs[j]?
 | [],[],_,_=>rfl
 | [],_::_,h,_=>by simp at h
 | _::_,[],h,_=>by simp at h
 | k'::ks,x::xs,h,k=>by
  have ih:=zav (ks:=ks) (xs:=xs) [220] k
  unfold wP kIx at ih ⊢
  rw [Ka,Kt,List.findIdx?_cons]
  by_cases e:k'=k
  ·simp [e]
  ·have e1:decide (((k',x):Key × V).1=k)=false:=decide_eq_false e
   have e2:decide (k'=k)=false:=decide_eq_false e
   rw [e1,if_neg Je]
   show Option.map _ (List.find? _ _)=_
   rw [ih]
   cases List.findIdx? (fun x=>decide (x=k)) ks<;>simp
theorem zeD{ks:List Key}{k:Key}(h:kIx ks k=none):ur ks k=false:=by
 unfold kIx at h
 unfold ur
 rw [List.findIdx?_eq_none_iff] at h
 rw [List.any_eq_false]
 exact fun x hx=>by rw [h x hx];exact Je
theorem zkj{ks:List Key}{k:Key}{j:Nat}(h:kIx ks k=some j):j<ks.length:=by
 unfold kIx at h
 obtain ⟨h1,_⟩:=KH.mp h
 exact h1
section
variable {X:Cx} {κ:Nat->Option Nat} {G:Hp} {c c1 c2:Cat} {f fk fx fd:FE} {st:Stmt} {O:List Nat}
theorem VI.turnDi{K:PySem.W.Frag}{own:Addr->Option Nat}{env:En}{σ:St}{H:Hp}{i j:Nat}{ks:List Key}{ps qs:List PV}(hi:i ∈ O)(I:VI K (ko O) G own env σ H)(hl:zA i env=some (.dct ks ps))(hj:ps[j]?=some (.lst qs)):
  ∃ a xs b ys B,σ[i]?=some [304]/\H a=some (.dK [126])/\xs[j]?=some (.ref b)/\xs.length=ps.length/\ks.length=ps.length/\H b=some [262]/\Rps K H qs ys B/\b ∉ B/\B.Nodup/\∀ H1 qs' ys' C,Same H H1->Rps K H1 qs' ys' C->C.Nodup->b ∉ C->(∀ d ∈ C,d ∈ B∨H d=none)->
   ∃ own',VI K (ko O) G own' (env.set i (some (.dct ks (ps.set j (.lst qs'))))) σ [90]/\Ext own H own' [90]:=by
 obtain ⟨a,xs,B,hσ,ha,hkl,hr,nd,ho,hB⟩:=qq hi I hl
 obtain ⟨l1,l2,rfl,rfl⟩:=zat hj
 obtain ⟨v1,v2,A1,A2,rfl,rfl,r1,r2⟩:=hr.split
 obtain ⟨v,r',A3,A4,rfl,rfl,r3,r4⟩:=r2.inv
 obtain ⟨b,ys,B',rfl,hb,rfl,r5⟩:=r3.L
 have n1:=r1.length
 rw [Jy,Jw,Jw,Jy] at nd
 simp only [List.mem_append,List.mem_cons,not_or] at nd hB
 obtain ⟨⟨na1,⟨nab,naB⟩,na4⟩,nd1,⟨⟨nbB,ndB⟩,nd4,d34⟩,d1⟩:=nd
 refine ⟨a,_,b,ys,B',hσ,ha,by rw [n1];simp,hr.length.symm,hkl,hb,r5,nbB,ndB,fun H1 qs' ys' C s1 rC ndC nbC hC=>?_⟩
 have mb:MutH H1 b:=.inl ⟨ys,s1 _ _ hb⟩
 have nb1:b ∉ A1:=fun z=>d1 b z b (.inl [76]) rfl
 have nb4:b ∉ A4:=fun z=>d34 b [76] b z rfl
 have hm:∀ d,(d=a∨d ∈ A1∨d=b∨d ∈ A4)->∃ o,H d=some o:=fun d z=>by
  rcases z with rfl | z | rfl | z
  ·exact ⟨_,ha⟩
  ·exact (Rps.mut _ r1 d z).some
  ·exact ⟨_,hb⟩
  ·exact (Rps.mut _ r4 d z).some
 have nC:∀ d ∈ C,d≠a/\d ∉ A1/\d ∉ A4:=fun d hd=>by
  rcases hC d hd with z | z
  ·exact ⟨fun e=>naB (e ▸ z),fun e=>d1 d e d [326] rfl,fun e=>d34 d (.inr z) d e rfl⟩
  ·refine ⟨fun e=>?_,fun e=>?_,fun e=>?_⟩
   ·obtain ⟨o,q⟩:=hm d (.inl e);rw [z] at q;cases q
   ·obtain ⟨o,q⟩:=hm d (.inr (.inl e));rw [z] at q;cases q
   ·obtain ⟨o,q⟩:=hm d (.inr (.inr (.inr e)));rw [z] at q;cases q
 have hob:own b=some i:=hB b (.inr (.inl [76]))
 have hA:(a::[179]).Nodup:=by
  rw [Jy,Jw,Jw,Jy]
  simp only [List.mem_append,List.mem_cons,not_or]
  refine ⟨⟨na1,⟨nab,fun z=>(nC a z).1 rfl⟩,na4⟩,nd1,⟨⟨nbC,ndC⟩,nd4,fun d hd d' hd' e=>?_⟩,fun d hd d' hd' e=>?_⟩
  ·subst e
   rcases hd with rfl | hd
   ·exact nb4 hd'
   ·exact (nC d hd).2.2 hd'
  ·subst e
   rcases hd' with (rfl | hd') | hd'
   ·exact nb1 hd
   ·exact (nC d hd').2.1 hd
   ·exact d1 d hd d (.inr hd') rfl
 have hown:∀ d ∈ a::[179],own d=some i∨H d=none:=fun d hd=>by
  simp only [List.mem_append,List.mem_cons] at hd
  rcases hd with rfl | hd | (rfl | hd) | hd
  ·exact .inl ho
  ·exact .inl (hB d (.inl hd))
  ·exact .inl hob
  ·rcases hC d hd with z | z
   ·exact .inl (hB d (.inr [326]))
   ·exact .inr z
  ·exact .inl (hB d (.inr (.inr hd)))
 rw [zdb]
 have r:Rp K [90] (.dct ks (l1++.lst qs'::l2)) [84] (a::[179]):=
  .mkD (by rw [zm nab];exact s1 _ _ ha) (by simpa using hkl) [58]
 have:=I.take (H2:=upd H1 b (.lst ys')) (v:=.ref a) hi [112] (fun d u hd z=>by
  rw [zm (by rintro rfl;exact hd hob)];exact s1 d u z) r hA hown
 rw [km hσ] at this
 exact ⟨_,this⟩
theorem VI.newK{K:PySem.W.Frag}{own:Addr->Option Nat}{env:En}{σ:St}{H H1:Hp}{i:Nat}{ks:List Key}{ps:List PV}{key:Key}{p:PV}{v:V}{C:List Addr}(hi:i ∈ O)(I:VI K (ko O) G own env σ H)(hl:zA i env=some (.dct ks ps))(hn:ur ks key=false)
  (s:Same H H1)(r:Rp K H1 p v C)(ndC:C.Nodup)(hC:∀ d ∈ C,H d=none):∃ a xs,σ[i]?=some [304]/\H a=some (.dK [126])/\xs.length=ks.length/\
   ∃ own',VI K (ko O) G own' (env.set i (some (.dct [306] (ps++[p])))) σ (upd H1 a (.dK (wQ [126] key v)))/\Ext own H own' (upd H1 a (.dK (wQ [126] key v))):=by
 obtain ⟨a,xs,B,hσ,ha,hkl,hr,nd,ho,hB⟩:=qq hi I hl
 have hxl:=hr.length
 refine ⟨a,xs,hσ,ha,by omega,?_⟩
 have e:wQ [126] key v=[306].zip (xs++[v]):=by
  rw [zbL [12]]
  unfold wv
  rw [hn,if_neg Je]
 rw [e]
 have nC:a ∉ C:=fun z=>by rw [hC a z] at ha;cases ha
 have nB:a ∉ B:=(Jy.mp nd).1
 have m1:MutH H1 a:=.inr ⟨_,s _ _ ha⟩
 have hnd:(a::(B++C)).Nodup:=by
  rw [← List.cons_append]
  refine Jw.mpr ⟨nd,ndC,fun x hx y' hy' hxy=>?_⟩
  subst hxy
  have hn:=hC x hy'
  rcases List.mem_cons.mp hx with rfl | hx
  ·exact nC hy'
  ·obtain ⟨o,ho⟩:=(Rps.mut ps hr x hx).some
   rw [hn] at ho;cases ho
 have hBC:∀ b ∈ B++C,own b=some i∨H b=none:=by
  intro b hb
  rcases List.mem_append.mp hb with hb | hb
  ·exact .inl (hB b hb)
  ·exact .inr (hC b hb)
 obtain ⟨h1,h2⟩:=I.turn (p:=.dct [306] (ps++[p])) (o:=.dK ([306].zip (xs++[v]))) (B:=B++C) hi s hσ ho (.inr ⟨_,ha⟩)
  (.mkD zZ (by simp [hkl]) ((Rps.upd m1 ps nB (Rps.same s ps hr)).append (Rps.one (Rp.upd m1 p nC r)))) hnd hBC
 exact ⟨_,h1,h2⟩
noncomputable def zeJ(i:Nat)(fk f:FE):FS:=fun env=>[254].bind fun q=>[325].bind fun l=>(fk env).bind fun k=>match l with
 | .dct ks ps=>(vZ k).bind fun key=>if (!ur ks key && decide (ks.length<100000))=true then some (.nx (env.set i (some (.dct [306] (ps++[q]))))) else none
 | _=>none
theorem zlg(i:Nat)(hi:i ∈ O)(hp:PS X st (zgy (uV i) [305] [172])):VS X (ko O) G st (zeJ i fk f):=hp.imp fun D σ H hq_=>by
 refine hq_.elim fun own env o I hf k=>?_
 unfold zeJ at hf
 replace hf:=Ja.mp hf;obtain ⟨q,hq,hf⟩:=hf
 replace hf:=Ja.mp hf;obtain ⟨l,hl,hf⟩:=hf
 replace hf:=Ja.mp hf;obtain ⟨kk,hk,hf⟩:=hf
 cases l<;>first | (cases hf;done) | skip
 rename_i ks ps
 dsimp only at hf
 replace hf:=Ja.mp hf;obtain ⟨key,hkey,hf⟩:=hf
 split at hf
 case isFalse=>cases hf
 rename_i hc
 cases hf
 simp only [Bool.and_eq_true,Bool.not_eq_true',decide_eq_true_eq] at hc
 obtain ⟨a0,xs0,hσ,ha,_,_⟩:=VI.newK (p:=.non) (v:=.non) (C:=[]) hi I hl hc.1 [31] .mkN .nil [19]
 refine (.in I hq fun v H1 A s1 r1 c1=>⟨.ref a0,hσ,.in (I.grow s1) hk fun y H2 B s2 r2 _=>?_⟩)
 have s12:=s1.trans s2
 obtain ⟨a,xs,hσ',ha',hxl,own',g1,g2⟩:=VI.newK (p:=q) (v:=v) (C:=A) hi I hl hc.1 s12 (Rp.same s2 q r1) c1.1 fun d hd=>(c1.2 d hd).elim id fun ⟨_,z,_⟩=>nomatch z
 rw [hσ] at hσ'
 cases hσ'
 refine ⟨a0,_,rfl,by rw [k4 hkey r2];exact DPut.k (s12 _ _ ha') (by rw [Ku,sizeLine_eq];omega),k _ _ _ g1 g2⟩
noncomputable def u0(i:Nat)(fk f:FE):FS:=fun env=>[325].bind fun l=>(fk env).bind fun k=>match l with
 | .dct ks ps=>if ks.length<100000 then (vZ k).bind fun key=>match kIx ks key with
   | some j=>match ps[j]? with
    | some (.lst qs)=>[254].bind fun q=>if qs.length<100000 then some (.nx (env.set i (some (.dct ks (ps.set j (.lst (qs++[q]))))))) else none
    | _=>none
   | none=>(f (env.set i (some [175]))).bind fun q=>some (.nx ((env.set i (some [175])).set i (some (.dct [306] ((ps++[PV.lst []]).set ps.length (.lst [q])))))) else none
 | _=>none
theorem zhs(i:Nat)(hi:i ∈ O)(hp:PS X st (zaL (tBM X.K "list" kr (zmz (uV i) (tV X.K (ko O) G c fk) (tV X.K (ko O) G [33] (xI zI))) (qw [172] zdX)))):VS X (ko O) G st (u0 i fk f):=hp.imp fun D σ H hq_=>by
 refine hq_.elim fun own env o I hf k=>?_
 unfold u0 at hf
 replace hf:=Ja.mp hf;obtain ⟨l,hl,hf⟩:=hf
 replace hf:=Ja.mp hf;obtain ⟨kk,hk,hf⟩:=hf
 cases l<;>first | (cases hf;done) | skip
 rename_i ks ps
 dsimp only at hf
 split at hf
 case isFalse=>cases hf
 rename_i hkl
 replace hf:=Ja.mp hf;obtain ⟨key,hkey,hf⟩:=hf
 -- the arguments of setdefault
 obtain ⟨a,xs,B,hσ,ha,hkps,hr,nd,ho,hB⟩:=qq hi I hl
 have hxl:=hr.length
 refine ⟨.ref a,hσ,a,rfl,.inl ⟨_,.inl ha⟩,.in I hk fun y H1 A1 s1 r1 _=>(.in (I.grow s1) rfl fun z H2 A2 s2 r2 c2=>?_)⟩
 have s12:=s1.trans s2
 have hy:=k4 hkey r1
 refine ⟨ks.zip xs,key,s12 _ _ ha,hy,by rw [Ku,sizeLine_eq];omega,fun v hv=>?_,fun hv=>?_⟩
 ·-- it is there
  rw [zav [12]] at hv
  replace hv:=Ja.mp hv;obtain ⟨j,hj,hv⟩:=hv
  rw [hj] at hf
  dsimp only at hf
  split at hf
  case h_2=>cases hf
  rename_i qs hqs
  replace hf:=Ja.mp hf;obtain ⟨q,hq,hf⟩:=hf
  split at hf
  case isFalse=>cases hf
  rename_i hlen
  cases hf
  obtain ⟨a',xs',b,ys,B',hσ',ha',hx,hxl',_,hb,hr',nb,ndB,turn⟩:=VI.turnDi hi I hl hqs
  rw [hσ] at hσ'
  cases hσ'
  rw [ha] at ha'
  have ez:xs=xs':=by
   have e:ks.zip xs=ks.zip xs':=HO.dK.inj (Jq ha')
   have h1:=congrArg (List.map Prod.snd) e
   rwa [List.map_snd_zip [12],List.map_snd_zip [12]] at h1
  subst ez
  rw [hx] at hv
  cases hv
  refine ⟨.inl ⟨rfl,ys,SqL.of (s12 _ _ hb)⟩,.in (I.grow s12) hq fun v H3 C s3 r3 c3=>?_⟩
  have s13:=s12.trans s3
  refine ⟨b,ys,v,rfl,rfl,s13 _ _ hb,by rw [← hr'.length,sizeLine_eq];omega,?_⟩
  have fr0:∀ d ∈ C,H d=none:=fun d hd=>s12.free ((c3.2 d hd).elim id fun ⟨_,z,_⟩=>nomatch z)
  obtain ⟨own',h1,h2⟩:=turn H3 (qs++[q]) (ys++[v]) (B'++C) s13 ((Rps.same s13 _ hr').append (Rps.one r3)) (Jw.mpr ⟨ndB,c3.1,fun d hd d' hd' e=>by
    subst e
    obtain ⟨o,ho⟩:=(Rps.mut _ hr' d hd).some
    rw [fr0 d hd'] at ho;cases ho⟩)
   (fun z=>by
    rcases List.mem_append.mp z with z | z
    ·exact nb z
    ·have:=fr0 b z
     rw [hb] at this;cases this)
   (fun d hd=>(JB.mp hd).imp id (fr0 d))
  exact k _ _ _ h1 h2
 ·-- it is new
  have hj:kIx ks key=none:=by
   cases hj:kIx ks key with
   | none=>rfl
   | some j=>
    rw [zav [12],hj,Jb] at hv
    have:=zkj hj
    rw [List.getElem?_eq_none_iff] at hv
    omega
  rw [hj] at hf
  dsimp only at hf
  have hn:=zeD hj
  have fr2:∀ d ∈ A2,H d=none:=fun d hd=>s1.free ((c2.2 d hd).elim id fun ⟨_,z,_⟩=>nomatch z)
  obtain ⟨a',xs',hσ',ha',hxl',own1,I1,x1⟩:=VI.newK (p:=.lst []) (v:=z) (C:=A2) hi I hl hn s12 r2 c2.1 fr2
  rw [hσ] at hσ'
  cases hσ'
  rw [ha] at ha'
  have ez:xs=xs':=by
   have e:ks.zip xs=ks.zip xs':=HO.dK.inj (Jq ha')
   have h1:=congrArg (List.map Prod.snd) e
   rwa [List.map_snd_zip [12],List.map_snd_zip [12]] at h1
  subst ez
  generalize hH3:upd H2 a (HO.dK (wQ [126] key z))=H3 at I1 x1
  generalize he1:env.set i (some [175])=env1 at I1 hf
  replace hf:=Ja.mp hf;obtain ⟨q,hq,hf⟩:=hf
  cases hf
  have il:i<env.length:=(Jv.mp (ub hl)).1
  have hl1:zA i env1=some [175]:=by
   rw [← he1];unfold zA;rw [List.getElem?_set,if_pos rfl,if_pos il];rfl
  have hqs:(ps++[PV.lst []])[ps.length]?=some (.lst []):=by simp
  obtain ⟨a'',xs'',b,ys,B',hσ'',ha'',hx,hxl'',_,hb,hr',nb,ndB,turn⟩:=VI.turnDi hi I1 hl1 hqs
  rw [hσ] at hσ''
  cases hσ''
  -- the list just made
  have e0:wQ [126] key z=[306].zip (xs++[z]):=by
   rw [zbL [12]]
   unfold wv
   rw [hn,if_neg Je]
  have ha3:H3 a=some (.dK ([306].zip (xs++[z]))):=by rw [← hH3,zZ,e0]
  rw [ha3] at ha''
  have ez:xs++[z]=xs'':=by
   have e:[306].zip (xs++[z])=[306].zip xs'':=HO.dK.inj (Jq ha'')
   have h1:=congrArg (List.map Prod.snd) e
   rwa [List.map_snd_zip (by simp;omega),List.map_snd_zip (by rw [hxl''];simp;omega)] at h1
  subst ez
  have hzb:z=.ref b:=by
   rw [hxl,List.getElem?_concat_length] at hx
   exact Jq hx
  subst hzb
  have hq0:ys=[]:=by have:=hr'.length;cases ys with | nil=>rfl | cons _ _=>simp at this
  subst hq0
  have eB:=hr'.inv0.2
  subst eB
  refine ⟨.inl ⟨rfl,[],SqL.of hb⟩,own1,env1,q,I1,hq,fun v H4 C s4 r4 c4=>?_⟩
  refine ⟨b,[],v,rfl,rfl,s4 _ _ hb,by rw [sizeLine_eq];simp,?_⟩
  have fr4:∀ d ∈ C,H3 d=none:=fun d hd=>(c4.2 d hd).elim id fun ⟨_,z,_⟩=>nomatch z
  obtain ⟨own',h1,h2⟩:=turn H4 [q] [v] C s4 (Rps.one r4) c4.1 (fun z=>by have:=fr4 b z;rw [hb] at this;cases this) (fun d hd=>.inr (fr4 d hd))
  exact k _ _ _ h1 (x1.trans h2)
noncomputable def zdy(fk f:FE):FE:=fun env=>(fk env).bind fun k=>[254].bind fun q=>(vZ k).map fun key=>.dct [key] [q]
theorem ziM{ek ev:Expr}{pos:Pos}(hk:VE X κ G c ek fk)(hv:VE X κ G [33] ev f):VE X κ G [33] (.Dict [some ek] [ev] pos) (zdy fk f):=
 (zlM (zjx hk hv zlD) rfl rfl [19] [19]).imp fun σ H Q hq_=>by
 refine hq_.elim fun own env p I hf k=>?_
 unfold zdy at hf
 replace hf:=Ja.mp hf;obtain ⟨kk,hkk,hf⟩:=hf
 replace hf:=Ja.mp hf;obtain ⟨q,hq,hf⟩:=hf
 cases hkey:vZ kk with
 | none=>rw [hkey] at hf;cases hf
 | some key=>
  rw [hkey] at hf
  cases hf
  intro a ha
  have s0:Same H (upd H a (.dK [])):=z6 [31] ha
  refine (.in (I.grow s0) hkk fun y H1 A1 s1 r1 _=>(.in ((I.grow s0).grow s1) hq fun v H2 A2 s2 r2 c2=>?_))
  have h2a:H2 a=some (.dK []):=s2 _ _ (s1 _ _ zZ)
  have hy:=k4 hkey r1
  refine ⟨h2a,[(key,v)],by rw [hy];rfl,by simp,?_⟩
  have e:vY [] [(key,v)]=[key].zip [v]:=rfl
  rw [e]
  have fr:∀ d ∈ A2,H1 d=none:=fun d hd=>(c2.2 d hd).elim id fun ⟨_,z,_⟩=>nomatch z
  have nA:a ∉ A2:=fun z=>by have:=fr a z;rw [s1 _ _ zZ] at this;cases this
  have m2:MutH H2 a:=.inr ⟨_,h2a⟩
  have sH:Same H (upd H2 a (.dK ([key].zip [v]))):=fun b o hb=>by
   rw [zm (by rintro rfl;rw [ha] at hb;cases hb)]
   exact s2 _ _ (s1 _ _ (s0 _ _ hb))
  refine k _ _ (a::A2) sH (.mkD zZ rfl (Rps.one (Rp.upd m2 q nA r2))) ⟨Jy.mpr ⟨nA,c2.1⟩,fun d hd=>.inl ?_⟩
  rcases List.mem_cons.mp hd with rfl | hd
  ·exact ha
  ·exact s0.free (s1.free (fr d hd))
noncomputable def zgX(k i:Nat):FS:=fun env=>[325].bind fun l=>match l with | .lst (q::ps)=>if (z0 q && isDatas ps)=true then some (.nx ((env.set i (some (.lst ps))).set k (some q))) else none | _=>none
theorem zlh(k i:Nat)(hi:i ∈ O)(hk:k ∉ O)(hp:PS X st (zaM (tBM X.K "list" zjp (uV i) (qw (tC (.int 0)) zdX)) (j6 k))):VS X (ko O) G st (zgX k i):=hp.imp fun D σ H hq_=>by
 refine hq_.elim fun own env o I hf kk=>?_
 unfold zgX at hf
 replace hf:=Ja.mp hf;obtain ⟨l,hl,hf⟩:=hf
 split at hf
 case h_2=>cases hf
 rename_i q ps
 split at hf
 case isFalse=>cases hf
 rename_i hd
 cases hf
 rw [JS] at hd
 obtain ⟨a,xs,B,hσ,ha,hr,nd,ho,hB⟩:=kY hi I hl
 obtain ⟨y,ys,A1,A2,rfl,rfl,r1,r2⟩:=hr.inv
 have e1:=Rp.data q hd.1 r1
 have e2:=Rps.data ps hd.2 r2
 subst e1 e2
 have m1:MutH H a:=.inl ⟨_,ha⟩
 refine ⟨.ref a,hσ,.inl ⟨rfl,y::ys,SqL.of ha⟩,a,y::ys,0,0,y,rfl,rfl,ha,by decide,by decide,by simp [seqIndex?],rfl,?_⟩
 obtain ⟨h1,h2⟩:=I.turn (p:=.lst ps) (o:=.lst ys) (B:=[]) hi [31] hσ ho m1 (.mkL zZ (Rps.upd m1 _ [19] r2)) [19] [19]
 exact kk _ _ _ (h1.set_sh (zfM hk) (Rp.upd m1 q [19] r1) [19]) h2
noncomputable def zdR(d k x:PV):Option PV:=match d with
 | .dct ks ps=>(vZ k).map fun key=>(u6 ks ps key).getD x
 | _=>none
noncomputable def zgZ(fd fk fx:FE):FE:=fun env=>(fd env).bind fun d=>(fk env).bind fun k=>(fx env).bind fun x=>zdR d k x
theorem zli{o e f':Expr}{apos cpos:Pos}(hu:X.A.units+1<cLine)(ho:VE X κ G .sh o fd)(he:VE X κ G c1 e fk)(hf:VE X κ G .sh f' fx)(m:M2 X o "get" apos e f' cpos):VE X κ G .sh (.Call (.Attribute o "get" apos) [e,f'] [] cpos) (zgZ fd fk fx):=
 (zej hu ho he hf m).imp fun σ H Q hq_=>by
 refine hq_.elim fun own env z I h k=>?_
 unfold zgZ at h
 replace h:=Ja.mp h;obtain ⟨d,hd,h⟩:=h
 replace h:=Ja.mp h;obtain ⟨kk,hk,h⟩:=h
 replace h:=Ja.mp h;obtain ⟨x,hx,h⟩:=h
 unfold zdR at h
 split at h
 case h_2=>cases h
 rename_i ks ps
 cases hkey:vZ kk with
 | none=>rw [hkey] at h;cases h
 | some key=>
  rw [hkey] at h;cases h
  refine (.in I hd fun v H1 A s1 r1 cA=>?_)
  obtain ⟨a,ys,B,e1,h1,hl,rfl,g⟩:=r1.D
  refine ⟨a,e1,.inl ⟨_,.inl h1⟩,.in (I.grow s1) hk fun y H2 _ s2 r2 _=>(.in ((I.grow s1).grow s2) hx fun w H3 A3 s3 r3 c3=>?_)⟩
  have s23:=s2.trans s3
  have hy:=k4 hkey r2
  rw [hy]
  refine ⟨_,DGet.k (s23 _ _ h1),?_⟩
  cases hg:u6 ks ps key with
  | none=>
   rw [zaB g hl hg]
   refine k _ _ A3 (s1.trans s23) ?_ c3
   show Rp X.K H3 ((u6 ks ps key).getD x) w A3
   rw [hg];exact r3
  | some p=>
   obtain ⟨v,C,h3,h4,h5⟩:=kd g hg
   rw [h3]
   refine k _ _ C (s1.trans s23) ?_ fun d hd=>cA d (Jg _ (h5.subset hd))
   show Rp X.K H3 ((u6 ks ps key).getD x) v C
   rw [hg];exact Rp.same s23 p h4
end
noncomputable def kt(ks:List Key)(ps:List PV):List Int->Option (List PV)
 | []=>some []
 | n::r=>(kIx ks (.inl n)).bind fun j=>(ps[j]?).bind fun p=>(kt ks ps r).map fun qs=>p::qs
noncomputable def zbF(i:Nat)(src:FA):FE:=fun env=>[325].bind fun d=>(src env).bind fun qs=>match d with
 | .dct ks ps=>(wZ qs).bind fun ns=>if (decide ns.Nodup && decide (ns.length≤100000))=true then (kt ks ps ns).map .lst else none
 | _=>none
section
variable {K:PySem.W.Frag} {H:Hp}
theorem Rps.segs:∀ {ps:List PV} {xs:List V} {B:List Addr},Rps K H ps xs B->B.Nodup->∃ seg:Nat->List Addr,(∀ j p,ps[j]?=some p->∃ v,xs[j]?=some v/\Rp K H p v (seg j)/\(seg j).Nodup/\∀ a ∈ seg j,a ∈ B)/\(∀ j,ps.length≤j->seg j=[])/\∀ j j' a,a ∈ seg j->a ∈ seg j'->j=j'
 | [],_,_,r,_=>⟨fun _=>[],fun j p e=>by simp at e,fun _ _=>rfl,fun j j' a h=>nomatch h⟩
 | p::ps,_,_,r,nd=>by
  obtain ⟨v,r',A1,A2,rfl,rfl,h3,h4⟩:=r.inv
  rw [Jw] at nd
  obtain ⟨seg,s1,s2,s3⟩:=Rps.segs h4 nd.2.1
  have sub:∀ j a,a ∈ seg j->a ∈ A2:=fun j a ha=>by
   by_cases hj:j<ps.length
   ·obtain ⟨_,_,_,_,h⟩:=s1 j ps[j] (Ji hj)
    exact h a ha
   ·rw [s2 j [12]] at ha;cases ha
  refine ⟨fun j=>match j with | 0=>A1 | j+1=>seg j,fun j q e=>?_,fun j hj=>?_,fun j j' a h h'=>?_⟩
  ·cases j with
   | zero=>
    cases e
    exact ⟨v,rfl,h3,nd.1,fun a ha=>Jj _ ha⟩
   | succ j=>
    obtain ⟨w,e1,e2,e3,e4⟩:=s1 j q [151]
    exact ⟨w,by simpa using e1,e2,e3,fun a ha=>List.mem_append_right _ (e4 a ha)⟩
  ·cases j with
   | zero=>simp at hj
   | succ j=>exact s2 j (by simpa using hj)
  ·cases j with
   | zero=>
    cases j' with
    | zero=>rfl
    | succ j'=>exact absurd rfl (nd.2.2 a h a (sub _ _ h'))
   | succ j=>
    cases j' with
    | zero=>exact absurd rfl (nd.2.2 a h' a (sub _ _ h))
    | succ j'=>rw [s3 j j' a h h']
theorem zaw{ks:List Key}{k:Key}{j:Nat}(h:kIx ks k=some j):ks[j]?=some k:=by
 unfold kIx at h
 obtain ⟨h1,h2,_⟩:=KH.mp h
 rw [Ji h1,of_decide_eq_true h2]
theorem zjz{ks:List Key}{ps:List PV}{xs:List V}{B:List Addr}(r:Rps K H ps xs B)(nd:B.Nodup)(hl:ks.length=ps.length):∀ {ns:List Int} {qs:List PV},ns.Nodup->kt ks ps ns=some qs->
  ∃ (ys:List V) (A:List Addr),ys.length=ns.length/\(∀ (t:Nat) (n:Int),ns[t]?=some n->wP [126] (.inl n)=ys[t]?)/\Rps K H qs ys A/\A.Nodup/\∀ a ∈ A,a ∈ B:=by
 obtain ⟨seg,s1,_,s3⟩:=r.segs nd
 have hxl:=r.length
 have go:∀ {ns:List Int} {qs:List PV},ns.Nodup->kt ks ps ns=some qs->∃ (ys:List V) (A:List Addr),ys.length=ns.length/\(∀ (t:Nat) (n:Int),ns[t]?=some n->wP [126] (.inl n)=ys[t]?)/\Rps K H qs ys A/\A.Nodup/\(∀ a ∈ A,a ∈ B)/\∀ a ∈ A,∃ n ∈ ns,∃ j,kIx ks (.inl n)=some j/\a ∈ seg j:=by
  intro ns
  induction ns with
  | nil=>intro qs _ h;cases h;exact ⟨[],[],rfl,by simp,.nil,.nil,by simp,by simp⟩
  | cons n ns ih=>
   intro qs hn h
   rw [Jy] at hn
   unfold kt at h
   replace h:=Ja.mp h;obtain ⟨j,hj,h⟩:=h
   replace h:=Ja.mp h;obtain ⟨p,hp,h⟩:=h
   cases hq:kt ks ps ns with
   | none=>rw [hq] at h;cases h
   | some qs'=>
    rw [hq] at h;cases h
    obtain ⟨ys,A,h1,h2,h3,h4,h5,h6⟩:=ih hn.2 hq
    obtain ⟨v,e1,e2,e3,e4⟩:=s1 j p hp
    refine ⟨v::ys,seg j++A,by simp [h1],fun t m ht=>?_,.cons e2 h3,List.nodup_append.mpr ⟨e3,h4,fun a ha b hb e=>?_⟩,fun a ha=>(List.mem_append.mp ha).elim (e4 a) (h5 a),fun a ha=>?_⟩
    ·cases t with
     | zero=>
      cases ht
      rw [zav [12],hj,Jb,e1];rfl
     | succ t=>simpa using h2 t m (by simpa using ht)
    ·subst e
     obtain ⟨m,hm,j',hj',ha'⟩:=h6 a hb
     have:=s3 j j' a ha ha'
     subst this
     have k1:=zaw hj
     rw [zaw hj'] at k1
     cases k1
     exact hn.1 hm
    ·rcases List.mem_append.mp ha with ha | ha
     ·exact ⟨n,Jf,j,hj,ha⟩
     ·obtain ⟨m,hm,z⟩:=h6 a ha
      exact ⟨m,Jg _ hm,z⟩
 intro ns qs hn h
 obtain ⟨ys,A,h1,h2,h3,h4,h5,_⟩:=go hn h
 exact ⟨ys,A,h1,h2,h3,h4,h5⟩
end
section
variable {X:Cx} {G:Hp} {c:Cat} {fs:FA} {fk:FE} {O:List Nat} {pos:Pos} {tg elt iter:Expr} {scope:Scope} {xn:Str} {st:Stmt}
theorem ziL(i:Nat)(hi:i ∈ O)(hc:X.calm=true)(hs':VIt X (ko O) G false tg iter fs)(hg:∀ C s₀ H₀ fp,VG (yt X [xn] [i] scope C s₀ H₀ fp) (cK 1 [i] (ko O)) G [0] tg (zN 0))
  (he:∀ C s₀ H₀ fp,PE (yt X [xn] [i] scope C s₀ H₀ fp) elt (zmA (uV 1) (uV 0)))(ok:zbS [i] scope X.env.kindOf X.N=true:=by first | rfl | decide +kernel)(hs:∀ x,foldedSetIterable iter X.env x=pure x:=by intro _;rfl):
  VE X (ko O) G (.mv [i]) (.ListComp elt [⟨tg,iter,[],0⟩] scope pos) (zbF i fs):=
 (zmF (own:=[xn]) (js:=[i]) hc hs' hg (fun C s₀ H₀ fp=>xb (X:=yt X [xn] [i] scope C s₀ H₀ fp) (κ:=cK 1 [i] (ko O)) (G:=G)) he ok hs).imp fun σ H Q hq_=>by
 refine hq_.elim fun own env z I hf k=>?_
 unfold zbF at hf
 replace hf:=Ja.mp hf;obtain ⟨d,hl,hf⟩:=hf
 replace hf:=Ja.mp hf;obtain ⟨ps,hp,hf⟩:=hf
 cases d<;>first | (cases hf;done) | skip
 rename_i ks vs
 dsimp only at hf
 replace hf:=Ja.mp hf;obtain ⟨ns,hn,hf⟩:=hf
 split at hf
 case isFalse=>cases hf
 rename_i hcond
 simp only [Bool.and_eq_true,decide_eq_true_eq] at hcond
 cases hq:kt ks vs ns with
 | none=>rw [hq] at hf;cases hf
 | some qs=>
  rw [hq] at hf;cases hf
  have hps:=wY hn
  subst hps
  obtain ⟨a,xs,B,hσ,ha,hkl,hr,nd,ho,hB⟩:=qq hi I hl
  have ndB:=(Jy.mp nd).2
  obtain ⟨ys,A,y1,y2,y3,y4,y5⟩:=zjz hr ndB hkl hcond.1 hq
  refine (.in I hp fun J H1 s1 hw C s₀ H₀ fp D hD=>?_)
  have I1:VI X.K (cK 1 [i] (ko O)) G own (cE 1 [i] env) (cS [xn] [i] σ) H1:=(I.grow s1).block (ow:=[xn])
  have sD:Same H1 [125]:=z6 [31] hD
  have hj:(env[i]?).join=some (.dct ks vs):=hl
  refine ⟨fun t m σ1 H2=>VI X.K (cK 1 [i] (ko O)) G own (cE 1 [i] env) σ1 H1/\Same H1 H2/\H2 D=some (.lst (ys.take t))/\t≤ns.length/\m=ns.length - t/\σ1[1]?=some [304],
   ⟨ns.length,I1,sD,zZ,Nat.zero_le _,by simp,by simp [cS,hσ]⟩,?_⟩
  rintro t m σ1 H2 ⟨I2,s2,hy,ht,rfl,hσ1⟩
  have Wk:=hw t H2 (by simpa using s2)
  by_cases hlt:t<ns.length
  ·have hpi:[145][t]?=some (.int ns[t]):=by simp [hlt]
   obtain ⟨go,yl⟩:=Wk.1 _ hpi
   refine .inr ⟨go,fun x H3 hyl'=>?_⟩
   obtain ⟨s3,A3,r3,hA⟩:=yl x H3 hyl'
   have neA:∀ d ∈ A3,d≠D:=fun d hd z=>by
    obtain ⟨_,o,ho⟩:=hA d hd
    rw [z,hD] at ho;cases ho
   refine ⟨j4 own D,_,.int ns[t],A3,(cE 1 [i] env).set 0 (some (.int ns[t])),I2.mark hD (s2.trans s3) (s3 _ _ hy),r3,fun d hd=>(ky (neA d hd)).trans (hA d hd).1,rfl,fun σ3 I3 q3 l3=>?_⟩
   have I3':=I2.again (Bs:=[0]) [19] q3 l3
   refine ⟨j4 own D,_,true,I3,rfl,fun H5 s5=>?_⟩
   have s25:Same H2 H5:=s3.trans s5
   have hy5:=s25 _ _ hy
   have hσ3:σ3[1]?=some [304]:=(q3 1 [19]).trans hσ1
   obtain ⟨v0,A0,hv0,rv0,_⟩:=I3.slot 0 (.int ns[t]) (by simp [cE])
   have hv0':=rv0.I.1
   subst hv0'
   have hyt:∃ v,ys[t]?=some v:=⟨ys[t],Ji [12]⟩
   obtain ⟨v,hv⟩:=hyt
   have hval:=y2 t ns[t] (Ji hlt)
   rw [hv] at hval
   have ha5:H5 a=some (.dK [126]):=s25 _ _ (s2 _ _ (s1 _ _ ha))
   refine ite_tt ⟨.ref a,hσ3,.int ns[t],hv0,a,v,rfl,?_,ys.take t,hy5,by rw [List.length_take,sizeLine_eq];omega,ns.length - (t+1),by omega,I3',z6 (s2.trans s25) hD,?_,hlt,rfl,hσ3⟩
   ·have:=DGet.k (k:=Sum.inl ns[t]) ha5
    rw [hval] at this
    exact this
   ·rw [zZ]
    congr 2
    rw [List.take_add_one,hv];rfl
  ·have ei:t=ns.length:=by omega
   subst ei
   refine .inl ⟨Wk.2 [19],?_⟩
   rw [List.take_of_length_le [12]] at hy
   have s12:=s1.trans s2
   refine k (.ref D) H2 (D::A) s12 (.mkL hy (Rps.same s12 qs y3)) ⟨Jy.mpr ⟨fun z=>?_,y4⟩,fun d hd=>?_⟩
   ·obtain ⟨o,ho'⟩:=(Rps.mut vs hr D (y5 D z)).some
    rw [s1.free hD] at ho';cases ho'
   ·rcases List.mem_cons.mp hd with rfl | hd
    ·exact .inl (s1.free hD)
    ·exact .inr ⟨i,by simp,hB d (y5 d hd)⟩
end
end F
namespace L2
open PySem PySem.Spec PyProof.Rows
theorem zkT:bootBuiltins "set"=some (.type "set"):=by decide +kernel
noncomputable def yH:List Int->Nat
 | []=>0
 | n::r=>if n ∈ r then yH r else yH r+1
theorem zij(ns:List Int):∀ i,i≤ns.length->∀ k,k ∈ firstMet [282] i ↔ k ∈ ns.take i:=by
 intro i hi k
 have h:=firstMet_any [282] i k
 have e1:((firstMet [282] i).any (· == k)=true) ↔ k ∈ firstMet [282] i:=by
  rw [KW]
  exact ⟨fun ⟨x,hx,e⟩=>by rw [← (beq_iff_eq.mp e)];exact hx,fun hx=>⟨k,hx,beq_self_eq_true k⟩⟩
 have e2:(((List.range i).map fun j=>ns.getD j 0).any (· == k)=true) ↔ k ∈ ns.take i:=by
  have:((List.range i).map fun j=>ns.getD j 0)=ns.take i:=by
   apply KO
   intro t
   rw [JM,List.getElem?_take]
   by_cases ht:t<i
   ·rw [Qd ht,if_pos ht,Ji [12]]
    simp [List.getD,show t<ns.length by omega]
   ·rw [List.getElem?_eq_none (by simpa using ht),if_neg ht];rfl
  rw [this,KW]
  exact ⟨fun ⟨x,hx,e⟩=>by rw [← (beq_iff_eq.mp e)];exact hx,fun hx=>⟨k,hx,beq_self_eq_true k⟩⟩
 rw [← e1,← e2,h]
theorem jZ(val:Nat->Int):∀ i,(firstMet val i).Nodup
 | 0=>by rw [firstMet_zero];exact .nil
 | i+1=>by
  rw [firstMet_succ]
  have ih:=jZ val i
  unfold step_dedup
  split
  ·exact ih
  ·rename_i h
   refine List.nodup_append.mpr ⟨ih,by simp,fun a ha b hb e=>?_⟩
   rw [Jc.mp hb] at e
   subst e
   exact h (by rw [KW];exact ⟨_,ha,beq_self_eq_true _⟩)
theorem vK:∀ ns:List Int,∃ l:List Int,l.Nodup/\(∀ k,k ∈ l ↔ k ∈ ns)/\l.length=yH ns
 | []=>⟨[],.nil,by simp,rfl⟩
 | n::r=>by
  obtain ⟨l,h1,h2,h3⟩:=vK r
  unfold yH
  by_cases h:n ∈ r
  ·rw [if_pos h]
   refine ⟨l,h1,fun k=>?_,h3⟩
   rw [h2 k,Kl]
   exact ⟨.inr,fun z=>z.elim (fun e=>e ▸ h) id⟩
  ·rw [if_neg h]
   refine ⟨n::l,List.nodup_cons.mpr ⟨fun z=>h ((h2 n).mp z),h1⟩,fun k=>?_,by simp [h3]⟩
   rw [Kl,Kl,h2 k]
theorem len_le_of(xs:List Int):∀ ys:List Int,xs.Nodup->(∀ x ∈ xs,x ∈ ys)->xs.length≤ys.length:=by
 induction xs with
 | nil=>intro ys _ _;exact KG _
 | cons x xs ih=>
  intro ys nd h
  rw [Jy] at nd
  have hx:=h x Jf
  have:=ih (ys.erase x) nd.2 fun y hy=>by
   have hne:y≠x:=fun e=>nd.1 (e ▸ hy)
   exact (List.mem_erase_of_ne hne).mpr (h y (Jg _ hy))
  rw [Ks hx] at this
  have hp:0<ys.length:=KA hx
  simp only [List.length_cons]
  omega
end L2
namespace F
open PySem PySem.Spec PyProof.Rows L2
end F
namespace L2
open PySem PySem.Spec PyProof.Rows
theorem zki{P:Program}{w:World}:∀ (l:List [149]) (m:List (Key × Value)) (us:List Value) (ns:List Int),KV l m->l.map (·.1)=ns.map Sum.inl->us.length=m.length->(∀ (j:Nat) (v:Value),us[j]?=some v->∃ k x,m[j]?=some (k,x)/\(zl P w).is k v=true)->IntsAre us ns:=by
 intro l m us ns hr
 unfold KV at hr
 induction hr generalizing us ns with
 | nil=>
  intro hn hl _
  cases ns with
  | nil=>
   cases us with
   | nil=>exact .nil
   | cons _ _=>simp at hl
  | cons _ _=>simp at hn
 | @cons a b l m hab t ih=>
  intro hn hl hv
  cases ns with
  | nil=>simp at hn
  | cons n ns=>
   cases us with
   | nil=>simp at hl
   | cons u us=>
    simp only [List.map_cons,List.cons.injEq] at hn
    obtain ⟨k,x,e,hk⟩:=hv 0 u rfl
    simp only [List.getElem?_cons_zero,Option.some.injEq] at e
    have e1:b.1=k:=by rw [e]
    have e2:k=Sum.inl n:=by rw [← e1,← hab.1];exact hn.1
    rw [zbn] at hk
    have r:=ih us ns hn.2 [202] fun j v hj=>by simpa using hv (j+1) v (by simpa using hj)
    rcases zx hk with ⟨i,t,h1,h2⟩ | ⟨y,t,h1,h2⟩
    ·subst h2
     rw [e2] at h1
     cases h1
     exact .cons n t r
    ·rw [e2] at h1;cases h1
theorem zgd{X:Cx}(hc:X.calm=true):CallR X (.builtin "sorted") (fun xs H Q=>∃ p kvs,∃ ns:List Int,xs=[.ref p]/\H p=some [94]/\kvs.map (·.1)=ns.map Sum.inl/\ns.length<64/\∀ (ns':List Int) l,ns'.Perm ns->ns'.Pairwise (·≤·)->H l=none->Q [288] [93]):=by
 intro pins s σ H vs us Q I r q
 obtain ⟨p,kvs,ns,e,hs,hns,hlen,q⟩:=q
 subst e
 cases r with
 | cons r rr=>
  cases rr
  cases r
  obtain ⟨hz,hS,ws,rel,o,es,ep,h1,h2,h3,h4⟩:=qE I.hok hs
  have hkl:kvs.length=ws.length:=rel.length
  have hnl:kvs.length=ns.length:=by have:=congrArg List.length hns;simpa using this
  refine Calls.call_function_entry kind_sorted plain_sorted entry_sorted (args_sorted1 _) ?_
  unfold Builtin.«sorted»
  refine wpAny_bind (m:=checkCount "sorted" 1 1 _) [47]
  refine wpAny_bind (PySem.W.kdu_collect (A:=X.A.in1) (PySem.W.kdl_dict (kvs:=ws) (ep:=ep) hS) [105] ⟨o,es,h1,h2,h3,h4⟩ [12] fun h' tk acc hk hi=>?_)
  have hia:IntsAre acc.toList ns:=zki kvs ws acc.toList ns rel hns (by rw [Jk];exact hi.1) fun j v hj=>hi.2 j v (by rw [← JL];exact hj)
  have hal:acc.toList.length=ns.length:=by rw [Jk,hi.1];omega
  refine wpAny_bind (wpAny_newList ?_ (by rw [hal,sizeLine_eq];omega))
  have hoL:(h'.push [49]).get? h'.objs.size=some [49]:=Jp _ rfl
  refine wpAny_bind (wpAny_holding (wpAny_call_entry slot_list_sort (s:={ s with heap:=h'.push [49],toks:=tk }) ⟨_,hoL,rfl⟩ entry_list_sort (list_sort_tree hoL hia [12] fun out ns' a1 a2 a3=>⟨_,rfl,?_⟩) (args_list_sort _)))
  refine wpAny_pure ⟨_,rfl,?_⟩
  obtain ⟨e',he⟩:∃ e',(sortedHeap (h'.push [49]) h'.objs.size acc.toList out).get? h'.objs.size=some (seqObj "list" out e'):=sortedHeap_at hoL
  have I1:Inv X pins σ H { s with heap:=h',toks:=tk }:=I.kept (t':=tk) hk
  have hn:=I1.hok.fresh (a:=h'.objs.size) (Jm _)
  refine ⟨.ref h'.objs.size,_,I1.laid (h':=sortedHeap (h'.push [49]) h'.objs.size acc.toList out) (o:=.lst (ns'.map V.int)) (t':=tk) (fun b u hb=>?_) [247] ⟨by rw [List.length_map,a2.length_eq,sizeLine_eq];omega,out.toList,e',vB a1,by simpa [seqObj] using he⟩,rfl,q ns' _ a2 a3 hn⟩
  have hlt:=Jn hb
  rw [sortedHeap_old (JE hlt) (by rw [size_push'];exact KN hlt)]
  exact Jd _ hb
noncomputable def zgB:V->List V->Hp->VK->Prop:=fun x vs H Q=>∃ a b kvs more,x=.ref a/\vs=[.ref b]/\H a=some [94]/\H b=some (.dK more)/\a≠b/\kvs.length+more.length≤sizeLine/\Q .non (upd H a (.dK (vY kvs more)))
theorem zhW{X:Cx}:MtM X "dict.update" zgB:=by
 intro pins s σ H x vs v us Q I rx rv h
 obtain ⟨a,b,kvs,more,rfl,rfl,ha,hb,hab,hl,q⟩:=h
 cases rx
 obtain ⟨u,rfl,ru⟩:=rv.one
 cases ru
 obtain ⟨z,hd,ws,rel,dd⟩:=qE I.hok ha
 obtain ⟨z2,hd2,ws2,rel2,dd2⟩:=qE I.hok hb
 refine call_meetsIn PySem.F.slot_dict_update dd.typeIs PySem.F.entry_dict_update (PySem.F.args_dict_update_2 _ _) (meets_dict_update [323] a b hab hd2) ⟨ws,ws2,dd,dd2,by rw [← rel.length,← rel2.length];exact hl,fun h' dd' _ hs=>?_⟩
 have he:∃ q,h'.get? a=some q:=let ⟨q,_,_,hq,_⟩:=dd';⟨q,hq⟩
 have hz:(vY kvs more).length≤sizeLine:=by have:=uH more kvs;omega
 exact ⟨.non,_,qF (t':=s.toks) I (by rw [ha];exact True.intro) hs he (zdz hz hd (rel2.merge rel) dd'),rfl,q⟩
end L2
namespace F
open PySem PySem.Spec PyProof.Rows L2
noncomputable def uq:List Key->Option [42]
 | []=>some []
 | .inl n::r=>(uq r).map fun ns=>n::ns
 | _=>none
theorem zbt:∀ {ks:List Key} {ns:List Int},uq ks=some ns->ks=ns.map Sum.inl
 | [],ns,h=>by cases h;rfl
 | k::r,ns,h=>by
  cases k with
  | inr x=>cases h
  | inl n=>
   unfold uq at h
   cases hr:uq r with
   | none=>rw [hr] at h;cases h
   | some ms=>rw [hr] at h;cases h;rw [zbt hr];rfl
@[simp] theorem zab:∀ ns:List Int,uq (ns.map Sum.inl)=some ns
 | []=>rfl
 | n::ns=>by rw [Ju,uq,zab ns];rfl
noncomputable def vO:List PV->Option PV
 | [.dct ks _]=>match uq ks with | some ns=>if ns.length<64 then some (.lst ((w9 ns).map PV.int)) else none | _=>none
 | ps=>ki ps
theorem zbM{K:PySem.W.Frag}:ve K (fun xs H Q=>(∃ p,∃ ns:List Int,xs=[.ref p]/\SqL K H p [63]/\ns.length<64/\∀ (ns':List Int) l,ns'.Perm ns->ns'.Pairwise (·≤·)->H l=none->Q [288] [93])∨
  ∃ p kvs,∃ ns:List Int,xs=[.ref p]/\H p=some [94]/\kvs.map (·.1)=ns.map Sum.inl/\ns.length<64/\∀ (ns':List Int) l,ns'.Perm ns->ns'.Pairwise (·≤·)->H l=none->Q [288] [93]) vO:=by
 intro H ps vs A z Q r e k
 unfold vO at e
 split at e
 ·rename_i ks qs
  split at e
  case h_2=>cases e
  rename_i ns hns
  split at e
  case isFalse=>cases e
  rename_i hlen
  cases e
  obtain ⟨v,rfl,rv⟩:=yS r
  obtain ⟨a,xs,B,rfl,h1,hl,_,g⟩:=rv.D
  have hk:=zbt hns
  have hxl:=g.length
  refine .inr ⟨a,_,ns,rfl,h1,by rw [KY [12]];exact hk,hlen,fun ns' l p1 p2 hn=>?_⟩
  have es:ns'=w9 ns:=jo (p1.trans (yr ns).symm) p2 (wK ns)
  subst es
  exact k _ _ [l] (z6 [31] hn) (.mkL zZ (k7 _)) [19] (by simpa using hn)
 ·exact .inl (zio H ps vs A z Q r e k)
theorem zbP{X:Cx}(hc:X.calm=true):CallR X (.builtin "sorted") (fun xs H Q=>(∃ p,∃ ns:List Int,xs=[.ref p]/\SqL X.K H p [63]/\ns.length<64/\∀ (ns':List Int) l,ns'.Perm ns->ns'.Pairwise (·≤·)->H l=none->Q [288] [93])∨
  ∃ p kvs,∃ ns:List Int,xs=[.ref p]/\H p=some [94]/\kvs.map (·.1)=ns.map Sum.inl/\ns.length<64/\∀ (ns':List Int) l,ns'.Perm ns->ns'.Pairwise (·≤·)->H l=none->Q [288] [93]):=call_sortL.or (zgd hc)
noncomputable def j5(ks ms:List Key):List Key:=ms.foldl (fun acc k=>if ur acc k=true then acc else acc++[k]) ks
theorem zhI(kvs:List [149])(k:Key)(v:V):(wQ kvs k v).map (·.1)=if ur (kvs.map (·.1)) k=true then kvs.map (·.1) else kvs.map (·.1)++[k]:=by
 have e:ur (kvs.map (·.1)) k=kvs.any fun kv=>decide (kv.1=k):=by unfold ur;rw [List.any_map];rfl
 unfold wQ
 rw [e]
 split
 ·rw [Kj]
  refine KL fun kv _=>?_
  show (if kv.1=k then (kv.1,v) else kv).1=kv.1
  split<;>rfl
 ·simp
theorem q9:∀ (more kvs:List [149]),(vY kvs more).map (·.1)=j5 (kvs.map (·.1)) (more.map (·.1))
 | [],kvs=>rfl
 | p::r,kvs=>by
  show (vY (wQ kvs p.1 p.2) r).map (·.1)=_
  rw [q9 r,zhI]
  rfl
theorem zdK:∀ kvs:List [149],(kvs.map (·.1)).zip (kvs.map (·.2))=kvs
 | []=>rfl
 | p::r=>by rw [Ju,Ju,Ka,zdK r]
noncomputable def qB(i:Nat)(f:FE):FS:=fun env=>[254].bind fun q=>[325].bind fun l=>match l,q with
 | .dct ks vs,.dct ms _=>if (isDatas vs && decide (ks.length+ms.length≤100000))=true then some (.nx (env.set i (some (.dct (j5 ks ms) ((j5 ks ms).map fun _=>PV.any))))) else none
 | _,_=>none
theorem zgA{K:PySem.W.Frag}{H:Hp}:∀ (xs:List V),Rps K H (xs.map fun _=>PV.any) xs []
 | []=>.nil
 | x::xs=>Rps.cons (A:=[]) (by unfold Rp;rfl) (zgA xs)
section
variable {X:Cx} {G:Hp} {f:FE} {st:Stmt} {O:List Nat}
theorem zhr(i:Nat)(hi:i ∈ O)(hp:PS X st (zaL (tBM X.K "dict" zgB (uV i) (qw (tV X.K (ko O) G .sh f) zdX)))):VS X (ko O) G st (qB i f):=hp.imp fun D σ H hq_=>by
 refine hq_.elim fun own env o I hf k=>?_
 unfold qB at hf
 replace hf:=Ja.mp hf;obtain ⟨q,hq,hf⟩:=hf
 replace hf:=Ja.mp hf;obtain ⟨l,hl,hf⟩:=hf
 split at hf
 case h_2=>cases hf
 rename_i ks vs ms ws
 split at hf
 case isFalse=>cases hf
 rename_i hc
 cases hf
 simp only [Bool.and_eq_true,decide_eq_true_eq] at hc
 obtain ⟨a,xs,B,hσ,ha,hkl,hr,nd,ho,hB⟩:=qq hi I hl
 have eB:=Rps.data vs hc.1 hr
 subst eB
 refine ⟨.ref a,hσ,.inr (.inr (.inl ⟨rfl,.inl ⟨_,ha⟩⟩)),.in I hq fun v H1 A s1 r1 c1=>?_⟩
 obtain ⟨b,ys,B',rfl,hb,hml,rfl,g⟩:=r1.D
 have hab:a≠b:=fun z=>by
  have:=c1 b Jf
  rw [← z,ho] at this;cases this
 have hxl:=hr.length
 have hyl:=g.length
 refine ⟨a,b,_,_,rfl,rfl,s1 _ _ ha,hb,hab,by rw [Ku,Ku,sizeLine_eq];omega,?_⟩
 have m0:MutH H a:=.inr ⟨_,ha⟩
 generalize hm:vY [126] (ms.zip ys)=kvs
 have hks:kvs.map (·.1)=j5 ks ms:=by
  rw [← hm,q9,KY [12],KY [12]]
 have hz:kvs=(j5 ks ms).zip (kvs.map (·.2)):=by
  rw [← hks]
  exact (zdK kvs).symm
 have hR:Rp X.K (upd H1 a [94]) (.dct (j5 ks ms) ((j5 ks ms).map fun _=>PV.any)) [84] [a]:=by
  refine .mkD (xs:=kvs.map (·.2)) (by rw [zZ,← hz]) [19] ?_
  have e:((j5 ks ms).map fun _=>PV.any)=(kvs.map (·.2)).map fun _=>PV.any:=by rw [← hks,Kj,Kj];rfl
  rw [e]
  exact zgA _
 obtain ⟨h1,h2⟩:=I.turn (B:=[]) hi s1 hσ ho m0 hR [19] [19]
 exact k _ _ _ h1 h2
end
end F
namespace L2
open PySem PySem.Spec PyProof.Rows
end L2
namespace F
open PySem PySem.Spec PyProof.Rows L2
section
variable {X:Cx} {κ:Nat->Option Nat} {G:Hp} {O:List Nat} {st:Stmt} {c c1 c2:Cat} {f fk fa fb:FE} {a b e:Expr} {es:List Expr} {pos:Pos}
noncomputable def zoi(l:Nat)(own:Addr->Option Nat)(H:Hp)(own':Addr->Option Nat)(H':Hp):Prop:=∀ b o,own b≠some l->H b=some o->own' b=own b/\H' b=some o
open Classical in
noncomputable abbrev FI:=En->Option (Int × En)
noncomputable def tVi(K:PySem.W.Frag)(κ:Nat->Option Nat)(G:Hp)(l:Nat)(f:FI):TE:=fun σ H Q=>∃ own env i e',VI K κ G own env σ H/\f env=some (i,e')/\∀ H' own',VI K κ G own' e' σ H'->zoi l own H own' H'->Q [88] H'
theorem tVi.in{K:PySem.W.Frag}{l:Nat}{σ:St}{H:Hp}{Q:VK}{f:FI}{own:Addr->Option Nat}{env e':En}{i:Int}(I:VI K κ G own env σ H)(hf:f env=some (i,e'))(k:∀ H' own',VI K κ G own' e' σ H'->zoi l own H own' H'->Q [88] H'):tVi K κ G l f σ H Q:=⟨own,env,i,e',I,hf,k⟩
theorem tVi.elim{K:PySem.W.Frag}{l:Nat}{σ:St}{H:Hp}{Q:VK}{f:FI}{C:Prop}(h:tVi K κ G l f σ H Q)(k:∀ own env i e',VI K κ G own env σ H->f env=some (i,e')->(∀ H' own',VI K κ G own' e' σ H'->zoi l own H own' H'->Q [88] H')->C):C:=
 let ⟨own,env,i,e',I,hf,q⟩:=h
 k own env i e' I hf q
noncomputable abbrev FB:=En->Option (Bool × En)
end
end F
namespace F
open PySem
namespace Tab
noncomputable def leaps(mask:Nat):Nat->Nat × Nat->Nat × Nat
 | 0,z=>z
 | n+1,z=>leaps mask n (SetTable.leap mask z.1 z.2)
theorem zcA(mask:Nat):∀ (a b:Nat) (z:Nat × Nat),leaps mask (a+b) z=leaps mask b (leaps mask a z)
 | 0,b,z=>by rw [Nat.zero_add];rfl
 | a+1,b,z=>by rw [Nat.succ_add];exact zcA mask a b _
theorem zcz(mask:Nat):∀ (n:Nat) (z:Nat × Nat),(leaps mask n z).2=z.2 / 32 ^ n
 | 0,z=>by simp [leaps]
 | n+1,z=>by
  unfold leaps
  rw [zcz mask n]
  show z.2 / 32 / 32 ^ n=_
  rw [Nat.div_div_eq_div_mul,Nat.pow_succ,Nat.mul_comm]
theorem zeA(mask:Nat):∀ (n:Nat) (z:Nat × Nat),z.1≤mask->(leaps mask n z).1≤mask
 | 0,z,h=>h
 | n+1,z,h=>zeA mask n _ (Kw [263])
noncomputable def j3(mask:Nat):Nat->Nat->Nat
 | 0,i=>i
 | n+1,i=>j3 mask n ((i * 5+1) % (mask+1))
theorem zed(mask:Nat):∀ (n i:Nat),leaps mask n (i,0)=(j3 mask n i,0)
 | 0,i=>rfl
 | n+1,i=>by
  show leaps mask n ((i * 5+1+0 / 32) % (mask+1),0 / 32)=_
  rw [Nat.zero_div,Nat.add_zero,zed mask n];rfl
theorem jp(mask:Nat):∀ (a b i:Nat),j3 mask (a+b) i=j3 mask b (j3 mask a i)
 | 0,b,i=>by rw [Nat.zero_add];rfl
 | a+1,b,i=>by rw [Nat.succ_add];exact jp mask a b _
noncomputable def Full(mask:Nat):Prop:=j3 mask (mask+1) 0=0/\∀ j,j≤mask->∃ a,a≤mask/\j3 mask a 0=j
noncomputable def zjM(mask:Nat):Nat->Nat->List Nat
 | 0,_=>[]
 | n+1,i=>i::zjM mask n ((i * 5+1) % (mask+1))
theorem zcx(mask:Nat):∀ (n i j:Nat),j ∈ zjM mask n i->∃ a,a<n/\j3 mask a i=j
 | 0,i,j,h=>by cases h
 | n+1,i,j,h=>by
  rcases List.mem_cons.mp h with rfl | h
  ·exact ⟨0,KR _,rfl⟩
  ·obtain ⟨a,ha,e⟩:=zcx mask n _ j h
   exact ⟨a+1,Nat.succ_lt_succ ha,e⟩
theorem zdv{mask:Nat}(h1:j3 mask (mask+1) 0=0)(h2:([264].all fun j=>(zjM mask (mask+1) 0).contains j)=true):Full mask:=by
 refine ⟨h1,fun j hj=>?_⟩
 have:=KZ.mp h2 j (JQ.mpr (Nat.lt_succ_of_le hj))
 obtain ⟨a,ha,e⟩:=zcx mask (mask+1) 0 j (List.contains_iff_mem.mp this)
 exact ⟨a,Kw ha,e⟩
theorem full7:Full 7:=zdv [40] [40]
theorem full31:Full 31:=zdv [40] [40]
theorem full127:Full 127:=zdv [40] [40]
theorem Full.to{mask:Nat}(F:Full mask){i j:Nat}(hi:i≤mask)(hj:j≤mask):∃ m,m≤mask/\j3 mask m i=j:=by
 obtain ⟨a,ha,ea⟩:=F.2 i hi
 obtain ⟨b,hb,eb⟩:=F.2 j hj
 by_cases h:a≤b
 ·refine ⟨b - a,by omega,?_⟩
  rw [← ea,← jp,show a+(b - a)=b by omega,eb]
 ·refine ⟨mask+1+b - a,by omega,?_⟩
  rw [← ea,← jp,show a+(mask+1+b - a)=mask+1+b by omega,jp,F.1,eb]
theorem Full.leaps{mask:Nat}(F:Full mask){i p j:Nat}(hi:i≤mask)(hp:p<2 ^ 64)(hj:j≤mask):∃ n,n<SetTable.turns mask/\(Tab.leaps mask n (i,p)).1=j:=by
 have hz:(Tab.leaps mask 13 (i,p)).2=0:=by
  rw [zcz]
  exact Nat.div_eq_of_lt (JD hp [10])
 obtain ⟨m,hm,e⟩:=F.to (zeA mask 13 (i,p) hi) hj
 refine ⟨13+m,by show _<mask+15;omega,?_⟩
 rw [zcA]
 have:Tab.leaps mask 13 (i,p)=((Tab.leaps mask 13 (i,p)).1,0):=Prod.ext rfl hz
 rw [this,zed,e]
theorem zhh(h:Int):SetTable.bits h<2 ^ 64:=by
 unfold SetTable.bits
 have:=JG h (show (0:Int)<2 ^ 64 by decide)
 have:=JI h (show (2 ^ 64:Int)≠0 by decide)
 omega
theorem qT{mask i:Nat}(hi:i≤mask):i≤SetTable.runEnd mask i/\SetTable.runEnd mask i≤mask/\SetTable.runEnd mask i≤i+9:=by
 unfold SetTable.runEnd
 split<;>omega
theorem zmk{mask:Nat}{owner:Array (Option Nat)}{j:Nat}(hj:owner.getD j (some 0)=none):∀ (n fuel i p:Nat),n<fuel->i≤mask->(leaps mask n (i,p)).1=j->∃ j',SetTable.layClean.free mask owner fuel i p=some j'/\j'≤mask/\owner.getD j' (some 0)=none:=by
 intro n
 induction n with
 | zero=>
  intro fuel i p hf hi e
  obtain ⟨f,rfl⟩:=Kg (Kh hf)
  have e':i=j:=e
  subst e'
  have hr:=qT hi
  unfold SetTable.layClean.free
  cases h:(List.range (SetTable.runEnd mask i+1 - i)).find? fun k=>(owner.getD (i+k) (some 0)).isNone with
  | none=>
   have:=List.find?_eq_none.mp h 0 (JQ.mpr [12])
   rw [Nat.add_zero,hj] at this
   exact absurd rfl this
  | some k=>
   have h1:=JQ.mp (List.mem_of_find?_eq_some h)
   have h2:=List.find?_some h
   exact ⟨i+k,rfl,by omega,Option.isNone_iff_eq_none.mp h2⟩
 | succ n ih=>
  intro fuel i p hf hi e
  obtain ⟨f,rfl⟩:=Kg (Kh (Qi (KG _) hf))
  have hr:=qT hi
  unfold SetTable.layClean.free
  cases h:(List.range (SetTable.runEnd mask i+1 - i)).find? fun k=>(owner.getD (i+k) (some 0)).isNone with
  | some k=>
   have h1:=JQ.mp (List.mem_of_find?_eq_some h)
   have h2:=List.find?_some h
   exact ⟨i+k,rfl,by omega,Option.isNone_iff_eq_none.mp h2⟩
  | none=>exact ih f _ _ [12] (Kw [263]) e
theorem zkA:∀ (l:List (Option Nat)) (j k:Nat),l[j]?=some none->((l.set j (some k)).filterMap id).Perm (k::l.filterMap id)
 | [],j,k,h=>by simp at h
 | x::l,0,k,h=>by
  have:x=none:=by simpa using h
  subst this
  exact .refl _
 | x::l,j+1,k,h=>by
  have ih:=zkA l j k [220]
  rw [List.set_cons_succ]
  cases x with
  | none=>simpa using ih
  | some y=>
   simp only [List.filterMap_cons,id]
   exact (ih.cons y).trans (.swap _ _ _)
theorem zgV:∀ (l:List (Option Nat)),(l.filterMap id).length<l.length->∃ j,j<l.length/\l[j]?=some none
 | [],h=>by simp at h
 | none::l,h=>⟨0,by simp,rfl⟩
 | some y::l,h=>by
  obtain ⟨j,h1,h2⟩:=zgV l [220]
  exact ⟨j+1,by simpa using h1,by simpa using h2⟩
structure Laid (mask:Nat) (owner:Array (Option Nat)) (k:Nat):Prop where
 size:owner.size=mask+1
 perm:(owner.toList.filterMap id).Perm (List.range k).reverse
theorem jU{owner:Array (Option Nat)}{j:Nat}{d:Option Nat}:owner.getD j d=owner.toList[j]?.getD d:=by
 rw [Array.getD_eq_getD_getElem?,JL]
theorem zkc {mask : Nat} (F : Full mask) : ∀ (hs : List Int) (owner : Array (Option Nat)) (k : Nat), Laid mask owner k → k + hs.length ≤ mask → ∃ owner', hs.foldl (fun acc h => do
      let (owner, k) ← acc
      let j ← SetTable.layClean.free mask owner (SetTable.turns mask) (SetTable.bits h % (mask + 1)) (SetTable.bits h)
      pure (owner.setIfInBounds j (some k), k + 1)) (some (owner, k)) = some (owner', k + hs.length) ∧ Laid mask owner' (k + hs.length)
  | [], owner, k, L, hk => ⟨owner, rfl, L⟩
  | h :: hs, owner, k, L, hk => by
    rw [JF] at hk
    have hlen : (owner.toList.filterMap id).length = k := by rw [L.perm.length_eq]; simp
    obtain ⟨j0, hj0, hj1⟩ := zgV owner.toList (by rw [hlen, Jk, L.size]; omega)
    rw [Jk, L.size] at hj0
    have hi : SetTable.bits h % (mask + 1) ≤ mask := Kw [263]
    obtain ⟨n, hn, e⟩ := F.leaps (j := j0) hi (zhh h) [12]
    obtain ⟨j, f1, f2, f3⟩ := zmk (mask := mask) (owner := owner) (j := j0) (by rw [jU, hj1]; rfl) n _ _ _ hn hi e
    have hjs : j < owner.size := by rw [L.size]; omega
    have hjn : owner.toList[j]? = some none := by
      rw [jU] at f3
      cases q : owner.toList[j]? with
      | none => rw [q] at f3; cases f3
      | some x => rw [q] at f3; exact congrArg some f3
    have L' : Laid mask (owner.setIfInBounds j (some k)) (k + 1) := by
      refine ⟨by rw [Array.size_setIfInBounds]; exact L.size, ?_⟩
      rw [Array.toList_setIfInBounds, List.range_succ, List.reverse_append]
      exact (zkA _ j k hjn).trans (L.perm.cons k)
    obtain ⟨owner', g1, g2⟩ := zkc F hs _ (k + 1) L' [12]
    refine ⟨owner', ?_, by rw [JF, show k + (hs.length + 1) = k + 1 + hs.length by omega]; exact g2⟩
    rw [List.foldl_cons, JF, show k + (hs.length + 1) = k + 1 + hs.length by omega, ← g1]
    congr 1
    show (do let j ← SetTable.layClean.free mask owner _ _ _; pure (owner.setIfInBounds j (some k), k + 1)) = _
    rw [f1]; rfl
theorem zeB{mask:Nat}(F:Full mask){hashes:Array Int}(hn:hashes.size≤mask):∃ owner,SetTable.layClean mask hashes=some owner/\Laid mask owner hashes.size:=by
 have L0:Laid mask (Array.replicate (mask+1) none) 0:=⟨by simp,by
  have:(Array.replicate (mask+1) (none:Option Nat)).toList.filterMap id=[]:=by
   rw [Array.toList_replicate,List.filterMap_eq_nil_iff]
   intro a ha
   rw [List.eq_of_mem_replicate ha];rfl
  rw [this];exact .refl _⟩
 obtain ⟨owner,h1,h2⟩:=zkc F hashes.toList _ 0 L0 (by rw [Jk];omega)
 rw [Nat.zero_add,Jk] at h1 h2
 refine ⟨owner,?_,h2⟩
 unfold SetTable.layClean
 rw [← Array.foldl_toList,h1];rfl
noncomputable def zgk(xs:Array Nat):Prop:=xs.toList.Pairwise (·<·)
structure Good (t:SetTable) (n:Nat) (led:Bool):Prop where
 full:Full t.mask
 size:t.place.size=n
 room:n≤t.mask
 dm:t.dummies=#[]
 rise:zgk t.place
 le:∀ j ∈ t.place.toList,j≤t.mask
 led:t.led=led
 plain:t.plain=true
theorem Good.fits{t:SetTable}{n:Nat}{led:Bool}(g:Good t n led):t.fits n=true:=by
 unfold SetTable.fits SetTable.fill
 rw [g.dm,g.size]
 simp [g.room]
theorem laid_ok{mask finger moves:Nat}{led plain:Bool}{hashes:Array Int}(F:Full mask)(hn:hashes.size≤mask)(hp:plain=true):∃ t order,SetTable.laid mask finger moves led plain hashes=some (t,order)/\order.toList.Perm (List.range hashes.size)/\Good t hashes.size led/\t.mask=mask:=by
 obtain ⟨owner,h1,L⟩:=zeB F hn
 let live:=[264].filterMap fun j=>(owner.getD j none).map (j,·)
 have hs:live.map (·.2)=owner.toList.filterMap id:=by
  have e1:live.map (·.2)=[264].filterMap fun j=>owner.getD j none:=by
   rw [List.map_filterMap]
   congr 1
   funext j
   cases owner.getD j none<;>rfl
  have e2:owner.toList=[264].map fun j=>owner.getD j none:=by
   apply KO
   intro j
   rw [JM]
   by_cases hj:j<mask+1
   ·rw [Qd hj,Option.map_some,jU]
    have:j<owner.toList.length:=by rw [Jk,L.size];exact hj
    rw [Ji this];rfl
   ·rw [List.getElem?_eq_none (by rw [Jk,L.size];omega),List.getElem?_eq_none (by rw [List.length_range];omega)];rfl
  rw [e1]
  conv=>rhs;rw [e2,List.filterMap_map]
  rfl
 have hp2:(live.map (·.2)).Perm (List.range hashes.size):=by rw [hs];exact L.perm.trans (List.reverse_perm _)
 have hl:live.length=hashes.size:=by have:=hp2.length_eq;simpa using this
 have hr:(live.map (·.1)).Pairwise (·<·):=by
  rw [Kc]
  refine List.Pairwise.filterMap _ (fun a a' hlt b hb b' hb'=>?_) List.pairwise_lt_range
  obtain ⟨x,_,rfl⟩:=JT.mp hb
  obtain ⟨y,_,rfl⟩:=JT.mp hb'
  exact hlt
 have hle:∀ j ∈ live.map (·.1),j≤mask:=fun j hj=>by
  obtain ⟨z,hz,rfl⟩:=Jx.mp hj
  obtain ⟨a,ha,hb⟩:=List.mem_filterMap.mp hz
  obtain ⟨x,_,rfl⟩:=JT.mp hb
  have:=JQ.mp ha
  show a≤mask
  omega
 refine ⟨{ mask,place:=(live.map (·.1)).toArray,dummies:=#[],finger,led,moves,plain },(live.map (·.2)).toArray,?_,by simpa using hp2,⟨F,by simpa using hl,hn,rfl,by unfold zgk;simpa using hr,by simpa using hle,rfl,hp⟩,rfl⟩
 unfold SetTable.laid
 rw [h1];rfl
theorem zkU{xs:Array Nat}{j:Nat}(hr:zgk xs):∀ (fuel lo hi:Nat),lo≤hi->hi≤xs.size->hi - lo≤fuel->(∀ i x,i<lo->xs[i]?=some x->x<j)->(∀ i x,hi≤i->xs[i]?=some x->j≤x)->
  SetTable.below.go xs j fuel lo hi≤xs.size/\(∀ i x,i<SetTable.below.go xs j fuel lo hi->xs[i]?=some x->x<j)/\∀ i x,SetTable.below.go xs j fuel lo hi≤i->xs[i]?=some x->j≤x:=by
 have mono:∀ a b x y,a<b->xs[a]?=some x->xs[b]?=some y->x<y:=fun a b x y hab ha hb=>by
  rw [← JL] at ha hb
  obtain ⟨h1,e1⟩:=Jv.mp ha
  obtain ⟨h2,e2⟩:=Jv.mp hb
  rw [← e1,← e2]
  exact Kf.mp hr a b h1 h2 hab
 intro fuel
 induction fuel with
 | zero=>
  intro lo hi h1 h2 h3 h4 h5
  unfold SetTable.below.go
  obtain rfl:lo=hi:=by omega
  exact ⟨h2,h4,h5⟩
 | succ fuel ih=>
  intro lo hi h1 h2 h3 h4 h5
  unfold SetTable.below.go
  by_cases hlt:lo<hi
  ·rw [if_pos hlt]
   dsimp only
   have hm:(lo+hi) / 2<xs.size:=by omega
   have hg:xs[(lo+hi) / 2]?=some (xs.getD ((lo+hi) / 2) j):=by
    rw [Array.getD_eq_getD_getElem?,getElem?_pos xs _ hm];rfl
   generalize hx:xs.getD ((lo+hi) / 2) j=x at hg
   split
   ·rename_i hc
    exact ih _ _ [12] h2 [12] (fun i y hi' hy=>by
     by_cases e:i=(lo+hi) / 2
     ·rw [e,hg] at hy;cases hy;exact hc
     ·exact Nat.lt_trans (mono i _ y x [12] hy hg) hc) h5
   ·rename_i hc
    exact ih _ _ [12] [12] [12] h4 (fun i y hi' hy=>by
     by_cases e:i=(lo+hi) / 2
     ·rw [e,hg] at hy;cases hy;omega
     ·have:=mono _ i x y [12] hg hy;omega)
  ·rw [if_neg hlt]
   obtain rfl:lo=hi:=by omega
   exact ⟨h2,h4,h5⟩
theorem below_ok{xs:Array Nat}(hr:zgk xs)(j:Nat):SetTable.below xs j≤xs.size/\(∀ i x,i<SetTable.below xs j->xs[i]?=some x->x<j)/\∀ i x,SetTable.below xs j≤i->xs[i]?=some x->j≤x:=
 zkU hr _ 0 xs.size (KG _) (Jm _) [12] (fun i x h=>absurd h (Nat.not_lt_zero _)) fun i x h e=>by
  rw [getElem?_neg xs i [12]] at e;cases e
theorem zeE{xs:Array Nat}{j:Nat}(hr:zgk xs)(hj:xs[SetTable.below xs j]?≠some j):zgk (SetTable.insertAt xs (SetTable.below xs j) j):=by
 obtain ⟨b1,b2,b3⟩:=below_ok hr j
 unfold zgk
 rw [SetTable.toList_insertAt,JW,JX]
 refine ⟨hr.sublist (List.take_sublist _ _),⟨fun y hy=>?_,hr.sublist (List.drop_sublist _ _)⟩,fun x hx y hy=>?_⟩
 ·obtain ⟨i,hi⟩:=KC.mp hy
  rw [List.getElem?_drop,JL] at hi
  have h1:=b3 _ _ (Nat.le_add_right _ _) hi
  by_cases e:y=j
  ·subst e
   cases i with
   | zero=>exact absurd hi hj
   | succ i=>
    have hb:SetTable.below xs y<xs.size:=by
     have:=(Km.mp hi).1;omega
    have h2:=b3 _ _ (Jm _) (getElem?_pos xs _ hb)
    have h3:=Kf.mp hr (SetTable.below xs y) (SetTable.below xs y+(i+1)) (by rw [Jk];exact hb) (by rw [Jk];exact (Km.mp hi).1) [12]
    rw [Qa,Qa] at h3
    have h4:=(Km.mp hi).2
    omega
  ·omega
 ·have hxj:x<j:=by
   obtain ⟨i,hi⟩:=KC.mp hx
   rw [List.getElem?_take] at hi
   split at hi
   ·rename_i h;rw [JL] at hi;exact b2 i x h hi
   ·cases hi
  rcases List.mem_cons.mp hy with rfl | hy
  ·exact hxj
  ·obtain ⟨i,hi⟩:=KC.mp hy
   rw [List.getElem?_drop,JL] at hi
   have h1:=b3 _ _ (Nat.le_add_right _ _) hi
   omega
theorem zfq{t:SetTable}(hd:t.dummies=#[]){j:Nat}(h:j ∉ t.place.toList):t.slot j=.empty:=by
 unfold SetTable.slot
 dsimp only
 rw [if_neg,hd]
 ·rfl
 ·intro e
  have:=beq_iff_eq.mp e
  rw [← JL] at this
  exact h (JU this)
theorem zjd{t:SetTable}{j:Nat}(h:t.slot j=.empty):t.place[SetTable.below t.place j]?≠some j:=fun e=>by
 unfold SetTable.slot at h
 dsimp only at h
 rw [if_pos (beq_iff_eq.mpr e)] at h
 cases h
theorem zaP{t:SetTable}(hd:t.dummies=#[])(j:Nat):t.slot j≠.dummy:=fun h=>by
 unfold SetTable.slot at h
 dsimp only at h
 split at h
 ·cases h
 ·rw [hd] at h;cases h
noncomputable def zdm(t:SetTable)(P:SetTable.Probe):SetTable.Probe:={ P with j:=[122].1,more:=SetTable.runEnd t.mask [122].1 - [122].1,i:=[122].1,perturb:=[122].2 }
section
variable {t:SetTable} {hashAt:Nat->Int} {h:Int}
theorem zgT(f:Nat)(P:SetTable.Probe):SetTable.probe.go t hashAt h (f+1) P=match t.slot P.j with
  | .empty=>some (.empty P.j P.dummy)
  | .dummy=>SetTable.probe.go t hashAt h f (t.advance { P with dummy:=some P.j })
  | .live i=>if hashAt i == h then some (.candidate P.j i (t.advance P)) else SetTable.probe.go t hashAt h f (t.advance P):=rfl
theorem znb(hd:t.dummies=#[])(hA:∀ i,(hashAt i == h)=false):∀ (m fuel:Nat) (P:SetTable.Probe),P.more=m->m<fuel->P.j+m≤t.mask->
  (∃ j,SetTable.probe.go t hashAt h fuel P=some (.empty j P.dummy)/\t.slot j=.empty/\j≤t.mask)∨SetTable.probe.go t hashAt h fuel P=SetTable.probe.go t hashAt h (fuel - (m+1)) (zdm t P):=by
 intro m
 induction m with
 | zero=>
  intro fuel P hm hf hj
  obtain ⟨f,rfl⟩:=Kg (Kh hf)
  rw [Nat.succ_eq_add_one,zgT]
  cases hs:t.slot P.j with
  | empty=>exact .inl ⟨P.j,rfl,hs,by omega⟩
  | dummy=>exact absurd hs (zaP hd _)
  | live i=>
   right
   dsimp only
   rw [hA i,if_neg Je]
   have:t.advance P=zdm t P:=by
    unfold SetTable.advance
    rw [if_neg [12]];rfl
   rw [this];rfl
 | succ m ih=>
  intro fuel P hm hf hj
  obtain ⟨f,rfl⟩:=Kg (Kh (Qi (KG _) hf))
  rw [Nat.succ_eq_add_one,zgT]
  cases hs:t.slot P.j with
  | empty=>exact .inl ⟨P.j,rfl,hs,by omega⟩
  | dummy=>exact absurd hs (zaP hd _)
  | live i=>
   dsimp only
   rw [hA i,if_neg Je]
   have:t.advance P={ P with j:=P.j+1,more:=m }:=by
    unfold SetTable.advance
    rw [if_pos [12],hm];rfl
   rw [this]
   rcases ih f { P with j:=P.j+1,more:=m } rfl [12] (by show P.j+1+m≤t.mask;omega) with h1 | h1
   ·exact .inl h1
   ·right
    rw [h1,show f+1 - (m+1+1)=f - (m+1) by omega];rfl
theorem zjw(hd:t.dummies=#[])(hA:∀ i,(hashAt i == h)=false){j0:Nat}(h0:t.slot j0=.empty):∀ (n fuel:Nat) (P:SetTable.Probe),P.j=P.i->P.more=SetTable.runEnd t.mask P.i - P.i->P.i≤t.mask->10 * n+10≤fuel->(leaps t.mask n (P.i,P.perturb)).1=j0->
  ∃ j,SetTable.probe.go t hashAt h fuel P=some (.empty j P.dummy)/\t.slot j=.empty/\j≤t.mask:=by
 intro n
 induction n with
 | zero=>
  intro fuel P h1 h2 h3 h4 h5
  obtain ⟨f,rfl⟩:=Kg (show fuel≠0 by omega)
  have e:P.j=j0:=h1.trans h5
  unfold SetTable.probe.go
  rw [e,h0]
  exact ⟨j0,rfl,h0,by omega⟩
 | succ n ih=>
  intro fuel P h1 h2 h3 h4 h5
  have hr:=qT h3
  rcases znb hd hA P.more fuel P rfl [12] [12] with h6 | h6
  ·exact h6
  ·rw [h6]
   exact ih _ (zdm t P) rfl rfl (Kw [263]) [12] h5
end
theorem zpY:∀ (mask:Nat) (l:List Nat),l.Pairwise (·<·)->l.length≤mask->∃ j,j≤mask/\j ∉ l:=by
 intro mask l hr hl
 refine JK fun hn=>?_
 have sub:∀ j ∈ List.range (mask+1),j ∈ l:=fun j hj=>JK fun h=>hn ⟨j,Kw (JQ.mp hj),h⟩
 have nd:([264].map Int.ofNat).Nodup:=by
  rw [JH,Kc]
  exact List.pairwise_lt_range.imp fun h e=>by have:=Int.ofNat.inj e;omega
 have:=L2.len_le_of _ (l.map Int.ofNat) nd fun x hx=>by
  obtain ⟨j,hj,rfl⟩:=Jx.mp hx
  exact Jx.mpr ⟨j,sub j hj,rfl⟩
 rw [Jh,Jh,List.length_range] at this
 omega
theorem zeG{t:SetTable}{n:Nat}{led:Bool}(g:Good t n led)(h:Int):∃ j,t.freeSlot h=some (j,false)/\t.slot j=.empty/\j≤t.mask:=by
 obtain ⟨j0,h0,h1⟩:=zpY t.mask t.place.toList g.rise (by rw [Jk,g.size];exact g.room)
 have hi:SetTable.bits h % (t.mask+1)≤t.mask:=Kw [263]
 obtain ⟨m,hm,e⟩:=g.full.leaps (j:=j0) hi (zhh h) h0
 obtain ⟨j,e1,e2,e3⟩:=zjw (t:=t) (hashAt:=fun _=>h+1) (h:=h) g.dm (fun _=>beq_eq_false_iff_ne.mpr [12]) (zfq g.dm h1) m (10 * SetTable.turns t.mask) (t.probeStart h) rfl rfl hi [12] e
 refine ⟨j,?_,e2,e3⟩
 unfold SetTable.freeSlot SetTable.probe
 rw [e1];rfl
theorem zni{t:SetTable}{n:Nat}{led:Bool}(g:Good t n led)(hn:n+1≤t.mask){j:Nat}(hs:t.slot j=.empty)(hj:j≤t.mask):Good (t.put j).1 (n+1) led/\(t.put j).1.mask=t.mask:=by
 have hd:(t.put j).1.dummies=#[]:=by
  unfold SetTable.put
  dsimp only
  rw [g.dm];rfl
 refine ⟨⟨g.full,?_,hn,hd,zeE g.rise (zjd hs),fun k hk=>?_,g.led,g.plain⟩,rfl⟩
 ·show (SetTable.insertAt t.place [268] j).size=n+1
  have:=(SetTable.insertAt_perm t.place [268] j).length_eq
  rw [Jk,Jk,Array.size_push,g.size] at this
  exact this
 ·have hk':k ∈ (SetTable.insertAt t.place [268] j).toList:=hk
  rw [(SetTable.insertAt_perm t.place [268] j).mem_iff,Array.toList_push] at hk'
  rcases List.mem_append.mp hk' with h | h
  ·exact g.le k h
  ·rw [Jc.mp h];exact hj
theorem layNew_ok{t:SetTable}{n:Nat}{led:Bool}{es:Array [134]}(g:Good t n led)(hn:n+1≤t.mask)(he:es.size=n)(h:Int)(x:Value):∃ es' t',layNew t es h x=(es',t',false,false)/\Good t' (n+1) led/\t'.mask=t.mask/\es'.toList.Perm (es.push (h,x)).toList:=by
 obtain ⟨j,e1,e2,e3⟩:=zeG g h
 obtain ⟨g',hm⟩:=zni g hn e2 e3
 have hp:=layNew_perm t es h x
 have hsz:(SetTable.insertAt es (t.put j).2 (h,x)).size=n+1:=by
  have:=(SetTable.insertAt_perm es (t.put j).2 (h,x)).length_eq
  rw [Jk,Jk,Array.size_push,he] at this
  exact this
 have hf:=g'.fits
 rw [← hsz] at hf
 have hl:layNew t es h x=(SetTable.insertAt es (t.put j).2 (h,x),(t.put j).1,false,false):=by
  unfold layNew
  rw [e1]
  show (_,SetTable.orStandIn (t.put j).1 (SetTable.insertAt es (t.put j).2 (h,x)).size,false,!(t.put j).1.fits (SetTable.insertAt es (t.put j).2 (h,x)).size)=_
  unfold SetTable.orStandIn
  rw [hf];rfl
 rw [hl] at hp
 exact ⟨_,_,hl,g',hm,hp⟩
theorem relay_ok{t:SetTable}{n wanted:Nat}{led:Bool}{es:Array [134]}(g:Good t n led)(F:Full (SetTable.sizeAbove wanted - 1))(he:es.size=n)(hn:n≤SetTable.sizeAbove wanted - 1):∃ es' t',relayAll t es wanted=(es',t',false)/\Good t' n led/\t'.mask=SetTable.sizeAbove wanted - 1/\es'.toList.Perm es.toList:=by
 obtain ⟨t',order,h1,h2,h3,h4⟩:=laid_ok (finger:=t.finger) (moves:=t.movedTo (SetTable.sizeAbove wanted - 1)) (led:=t.led) (plain:=t.plain) (hashes:=es.map (·.1)) F (by rw [Array.size_map,he];exact hn) g.plain
 rw [Array.size_map,he] at h2 h3
 rw [g.led] at h3
 have hp:=relayAll_perm t es wanted
 have hz:(order.filterMap (es[·]?)).size=n:=by
  have e:=(h2.filterMap (es[·]?))
  rw [← he,filterMap_getElem?_range] at e
  have:=e.length_eq
  rw [← he,← Jk,Array.toList_filterMap,this,Jk]
 have hl:relayAll t es wanted=(order.filterMap (es[·]?),t',false):=by
  unfold relayAll SetTable.relaid
  rw [h1]
  dsimp only
  rw [if_pos]
  rw [hz,h3.fits]
  unfold coversAll
  rw [he,List.isPerm_iff.mpr h2];rfl
 rw [hl] at hp
 exact ⟨_,_,hl,h3,h4,hp⟩
end Tab
end F
namespace F
open PySem PySem.Spec PyProof.Rows
noncomputable def elN(e:Int × Value):Int:=numOf e.2
structure SetTb (prog:Program) (w:World) (es:Array [134]) (t:SetTable) (L:List Int) (led:Bool):Prop where
 el:ElemsOf [100] es.toList
 perm:(es.toList.map elN).Perm L
 good:Tab.Good t es.size led
 mask:t.mask=7∨t.mask=31∨t.mask=127
 nf:es.size * 5<t.mask * 3
noncomputable def SetI(prog:Program)(w:World)(h:Heap)(a:Addr)(L:List Int)(led:Bool):Prop:=∃ o es ep t,h.get? a=some o/\o.ExactSet/\o.data=.set es ep t/\SetTb prog w es t L led
section
variable {prog:Program} {w:World} {A:Around} {E:Value->Shared->Prop} {s:Shared}
theorem zko{k:Int}{e:Int × Value}(h:(∃ k,[100].is k e.2=true/\e.1=[100].hash k)/\e.2.scannable=true):[100].is k e.2=true ↔ elN e=k:=by
 obtain ⟨⟨k',h1,_⟩,_⟩:=h
 obtain ⟨t,e1⟩:=Value.isInt_shape h1
 constructor
 ·intro h2
  obtain ⟨t',e2⟩:=Value.isInt_shape h2
  unfold elN;rw [e2];rfl
 ·intro h2
  unfold elN at h2
  rw [e1] at h2 ⊢
  have:k'=k:=h2
  subst this
  exact intKind_is _ _ _ _
theorem SetTb.size{es:Array [134]}{t:SetTable}{L:List Int}{led:Bool}(b:SetTb prog w es t L led):es.size=L.length:=by
 have:=b.perm.length_eq
 rw [Jh,Jk] at this
 exact this
theorem SetTb.mem{es:Array [134]}{t:SetTable}{L:List Int}{led:Bool}(b:SetTb prog w es t L led)(k:Int):k ∈ L ↔ ∃ e ∈ es.toList,[100].is k e.2=true:=by
 rw [← b.perm.mem_iff,Jx]
 exact ⟨fun ⟨e,h1,h2⟩=>⟨e,h1,(zko (b.el e h1)).mpr h2⟩,fun ⟨e,h1,h2⟩=>⟨e,h1,(zko (b.el e h1)).mp h2⟩⟩
theorem zcr{h:Heap}{a:Addr}{o:Obj}{es es':Array [134]}{ep:Nat}{t t':SetTable}(ho:h.get? a=some o)(hd:o.data=.set es ep t):(h.update a (Obj.putSet es' t')).get? a=some { o with data:=.set es' (ep+1) t' }:=by
 have:=KP (Obj.putSet es' t') ho (by rw [putSet_of es' t' hd];rfl)
 rw [putSet_of es' t' hd] at this;exact this
theorem zfc{a:Addr}{L:List Int}{led:Bool}{n:Int}{tk:Tok}{Q:Bool->Shared->Prop}(hS:SetI prog w s.heap a L led)(hl:L.length<63)
  (h:∀ h' b,Heap.SameBut a s.heap h'->SetI prog w h' a (if n ∈ L then L else L++[n]) led->Q b { s with heap:=h' }):wpAny [35] A (setAddHashed a (.int n tk) ([100].hash n)) Q E s:=by
 obtain ⟨o,es,ep,t,ho,hex,hd,B⟩:=hS
 have hf:=B.good.fits
 have hsz:=B.size
 have hb:es.size<scanBound:=by show es.size<4096;omega
 have hkey:=intKind_is prog w n tk
 unfold setAddHashed setAddHashedIn
 refine wpAny_holding (wpAny_bind (wpAny_setState_of ho hd hf ?_))
 dsimp only
 rw [byScan_of (knd:=intKind prog w) rfl hb B.el]
 simp only [↓reduceIte]
 unfold setAddByScan
 refine wpAny_bind ?_
 refine wpAny_bind (wpAny_rule ?_)
 refine wpAny_bind (wpAny_setScan_of hkey ho hd hf B.el ?_)
 cases hr:List.findIdx? (fun e=>[100].is n e.2) es.toList with
 | some j=>
  dsimp only
  obtain ⟨hj,hpj,_⟩:=KH.mp hr
  have hn:n ∈ L:=(B.mem n).mpr ⟨_,JP hj,hpj⟩
  refine wpAny_pure [47]
  have:=h s.heap false (Heap.SameBut.refl a s.heap) (by rw [if_pos hn];exact ⟨o,es,ep,t,ho,hex,hd,B⟩)
  exact this
 | none=>
  dsimp only
  have hn:n ∉ L:=fun z=>by
   obtain ⟨e,he,hp⟩:=(B.mem n).mp z
   have:=List.findIdx?_eq_none_iff.mp hr e he
   rw [hp] at this;exact Bool.noConfusion this
  obtain ⟨es1,t1,e1,g1,m1,p1⟩:=Tab.layNew_ok (es:=es) B.good (by have:=B.nf;rcases B.mask with h | h | h<;>omega) rfl ([100].hash n) (.int n tk)
  rw [e1]
  dsimp only
  refine wpAny_bind [47]
  rw [g1.plain,if_pos rfl]
  refine wpAny_bind ?_
  rw [hashByValue_scannable 8 (show (Value.int n tk).scannable=true from rfl)]
  refine wpAny_pure ?_
  simp only [show plainKind (Value.int n tk)=true from rfl,if_true]
  rw [Array.toList_push] at p1
  have hz1:es1.size=es.size+1:=by
   have:=p1.length_eq
   rw [Jk,Jl,Jk,Ko] at this
   exact this
  have el1:ElemsOf [100] es1.toList:=(B.el.push hkey rfl).perm p1
  have pm1:(es1.toList.map elN).Perm (L++[n]):=(p1.map elN).trans (by rw [JJ];exact B.perm.append_right _)
  have hb1:es1.size<scanBound:=by show es1.size<4096;omega
  show wpAny _ _ (storeSet a es1 t1 >>= _) _ _ _
  refine wpAny_bind (wpAny_storeSet_of ho hd ?_ (fits_of_scanBound hb1))
  have ho1:=zcr (es':=es1) (t':=t1) ho hd
  have hsb1:=Qf s.heap a (Obj.putSet es1 t1)
  have hfill:t1.fill=es.size+1:=by unfold SetTable.fill;rw [g1.size,g1.dm];rfl
  have good1:Tab.Good t1 es1.size led:=by rw [hz1];exact g1
  by_cases hT:t1.tooFull=true
  ·have hT':(es.size+1) * 5 ≥ t.mask * 3:=by
    unfold SetTable.tooFull at hT
    rw [hfill,m1] at hT
    exact of_decide_eq_true hT
   have hnf:=B.nf
   obtain ⟨hF,hmk,hn5⟩:Tab.Full (SetTable.sizeAbove [215] - 1)/\(SetTable.sizeAbove [215] - 1=7∨SetTable.sizeAbove [215] - 1=31∨SetTable.sizeAbove [215] - 1=127)/\es1.size * 5<(SetTable.sizeAbove [215] - 1) * 3:=by
    rcases B.mask with h7 | h7 | h7
    ·have:es1.size=5:=by omega
     rw [this]
     have e:SetTable.sizeAbove (SetTable.grown 5) - 1=31:=by decide
     rw [e]
     exact ⟨Tab.full31,.inr [76],by decide⟩
    ·have:es1.size=19:=by omega
     rw [this]
     have e:SetTable.sizeAbove (SetTable.grown 19) - 1=127:=by decide
     rw [e]
     exact ⟨Tab.full127,.inr (.inr rfl),by decide⟩
    ·omega
   obtain ⟨es2,t2,e2,g2,m2,p2⟩:=Tab.relay_ok good1 hF rfl [12]
   rw [hT,e2]
   simp only [Bool.not_false,Bool.and_self,if_true]
   refine wpAny_bind [47]
   have hz2:es2.size=es1.size:=by
    have:=p2.length_eq
    rw [Jk,Jk] at this
    exact this
   refine wpAny_bind (wpAny_storeSet_of ho1 rfl ?_ (fits_of_scanBound (by rw [hz2];exact hb1)))
   refine wpAny_pure ?_
   refine wpAny_pure (h _ true (hsb1.trans (Qf _ a _)) ?_)
   rw [if_neg hn]
   exact ⟨_,es2,_,t2,zcr ho1 rfl,hex,rfl,el1.perm p2,(p2.map elN).trans pm1,by rw [hz2];exact g2,by rw [m2];exact hmk,by rw [hz2,m2];exact hn5⟩
  ·have hT':¬ (es.size+1) * 5 ≥ t.mask * 3:=fun z=>hT (by
    unfold SetTable.tooFull
    rw [hfill,m1]
    exact decide_eq_true z)
   rw [Bool.eq_false_iff.mpr hT]
   simp only [Bool.not_false,Bool.and_false,Bool.false_eq_true,if_false]
   refine wpAny_pure ?_
   refine wpAny_pure (h _ true hsb1 ?_)
   rw [if_neg hn]
   exact ⟨_,es1,_,t1,ho1,hex,rfl,el1,pm1,good1,by rw [m1];exact B.mask,by rw [hz1,m1];omega⟩
theorem SetI.keep{h h':Heap}{a:Addr}{L:List Int}{led:Bool}(x:SetI prog w h a L led)(k:∀ o,h.get? a=some o->h'.get? a=some o):SetI prog w h' a L led:=by
 obtain ⟨o,es,ep,t,ho,r⟩:=x
 exact ⟨o,es,ep,t,k o ho,r⟩
theorem SetI.fresh{h:Heap}{a:Addr}{led:Bool}(ho:h.get? a=some { cls:=.type "set",dict:=none,data:=.set #[] 0 (.fresh 0 0 led) }):SetI prog w h a [] led:=
 ⟨_,#[],0,_,ho,⟨rfl,rfl,rfl⟩,rfl,fun e he=>by simp at he,.refl _,⟨Tab.full7,rfl,Nat.zero_le _,rfl,List.Pairwise.nil,fun j hj=>by simp [SetTable.fresh] at hj,rfl,rfl⟩,.inl rfl,by show 0 * 5<7 * 3;decide⟩
theorem zjZ(val:Nat->Int):∀ (n i:Nat),i≤n->(firstMet val i).length≤(firstMet val n).length:=by
 intro n
 induction n with
 | zero=>intro i hi;rw [Nat.le_zero.mp hi];exact Jm _
 | succ n ih=>
  intro i hi
  by_cases e:i=n+1
  ·rw [e];exact Jm _
  ·refine JN (ih i [12]) ?_
   rw [firstMet_succ,step_length]
   split<;>omega
theorem zcX{R:Result->Shared->Prop}{I:Addr}{fp wr:List Addr}{G:Array GenState->Array GenState->Prop}{n:Nat}{P:Nat->Value->Prop}{St:Nat->Shared->Prop}{led:Bool}(W:WalksS prog w A.in1 I fp wr G n P St)(S:Addr)(hSf:S ∉ fp)
  (val:Nat->Int)(hval:∀ i v,P i v->∃ t,v=.int (val i) t)(hb:(firstMet val n).length<63):
  ∀ (k i:Nat) (s:Shared),n - i=k->i≤n->St i s->SetI prog w s.heap S (firstMet val i) led->
   (∀ s',Moved (S::wr) G s s'->SetI prog w s'.heap S (firstMet val n) led->R (.ok (.ret .none)) s')->
   codeAny [35] A (.builtin "set.update.loop" ⟨[.ref S,.ref I],[]⟩) R s:=by
 have hSw:S ∉ wr:=fun h=>hSf (W.sub _ h)
 have hsub:∀ b ∈ wr,b ∈ S::wr:=fun b hb=>Jg _ hb
 intro k
 induction k with
 | zero=>
  intro i s hk hi hst hS hR
  have hin:i=n:=by omega
  subst hin
  refine codeAny_builtin F.entry_set_update_loop ?_
  rw [Around.under_plainId F.plain_set_update_loop _]
  show wpAny _ A.in1 (pyNext (.ref I) >>= _) _ _ s
  refine wpAny_bind (W.done s _ _ hst fun s' hm=>?_)
  show wpAny _ A.in1 (ret Value.none) _ _ s'
  exact wpAny_pure (hR s' (hm.mono hsub) (hS.keep fun o ho=>hm.heap S o hSw ho))
 | succ k ih=>
  intro i s hk hi hst hS hR
  have hlt:i<n:=by omega
  refine codeAny_builtin F.entry_set_update_loop ?_
  rw [Around.under_plainId F.plain_set_update_loop _]
  show wpAny _ A.in1 (pyNext (.ref I) >>= _) _ _ s
  refine wpAny_bind (W.item i s _ _ hlt hst fun v s' hP hst' hm=>?_)
  obtain ⟨t,rfl⟩:=hval i v hP
  have hS':=hS.keep fun o ho=>hm.heap S o hSw ho
  show wpAny _ A.in1 (holding [Value.int (val i) t] (setAdd S (.int (val i) t)) >>= _) _ _ s'
  refine wpAny_bind (wpAny_holding ?_)
  unfold setAdd
  refine wpAny_holding ?_
  refine wpAny_bind ([100].pyHash (k:=val i) (intKind_is _ _ _ _) ?_)
  have hstep:firstMet val (i+1)=if val i ∈ firstMet val i then firstMet val i else firstMet val i++[val i]:=by
   rw [firstMet_succ]
   unfold step_dedup
   have e:((firstMet val i).any (· == val i)=true) ↔ val i ∈ firstMet val i:=by
    rw [KW]
    exact ⟨fun ⟨x,hx,e⟩=>by rw [← (beq_iff_eq.mp e)];exact hx,fun hx=>⟨_,hx,beq_self_eq_true _⟩⟩
   by_cases c:val i ∈ firstMet val i
   ·rw [if_pos (e.mpr c),if_pos c]
   ·rw [if_neg (fun z=>c (e.mp z)),if_neg c]
  have hroom:=zjZ val n i hi
  refine zfc (s:={ s' with toks:=s'.toks+1 }) hS' [12] fun h' _ hsb hS2=>?_
  rw [← hstep] at hS2
  refine wpAny_pure ⟨plainId_quiet F.plain_set_update_loop _,ih (i+1) _ [12] hlt (W.frame _ s' _ _ hst' (Nat.le_succ _) fun b hb o e=>?_) hS2 fun s'' hm'' hS''=>?_⟩
  ·rw [hsb.2 b (fun h:b=S=>hSf (by rw [← h];exact hb))];exact e
  ·refine hR s'' (Moved.trans W.gtrans ((hm.mono hsub).then_heap (Nat.le_succ _) fun b o hb e=>?_) hm'') hS''
   rw [hsb.2 b (fun h:b=S=>hb (by rw [h];exact Jf))];exact e
theorem zjR(a:Value){Q₁:Value->Shared->Prop}
  (h:Q₁ [64] { s with heap:=s.heap.push { cls:=.type "set",dict:=none,data:=.set #[] 0 (.fresh 0 0 (!w.params.followText "set-order")) } }):
  codeAny [35] A (.call (.builtin "set.__new__") ⟨[.type "set",a],[]⟩) (wants Q₁ E) s:=by
 refine codeAny_of_tree ?_
 show wpAny _ A.in1 (do checkBuiltinCall "set.__new__" ⟨[.type "set",a],[]⟩;again (.builtin "set.__new__" ⟨[.type "set",a],[]⟩)) _ _ s
 refine wpAny_bind (wpAny_of_eq (PySem.F.newCall_set_1 a) (wpAny_pure ⟨plainId_quiet PySem.F.plain_set_new _,codeAny_builtin PySem.F.entry_set_new ?_⟩))
 rw [Around.under_plainId PySem.F.plain_set_new _]
 unfold Builtin.«set.__new__» Builtin.Frozenset.newClass
 have hsub:=sub_set_self
 obtain ⟨hp,g,d,tk,os⟩:=s
 dsimp only
 wp_walk
 refine wpAny_askSetting [47]
 dsimp only
 simp only [newObj]
 refine wpAny_bind (wpAny_alloc [47])
 exact wpAny_pure h
theorem ziv{l:Addr}{items:Array Value}{ns:List Int}{Q:Value->Shared->Prop}
  (hh:A.handled=none)(hl:s.heap.IsList l items)(hi:IntsAre items.toList ns)(hb:[235].length<63)
  (h:∀ (h':Heap) (tk:Nat),SetI prog w h' s.heap.objs.size [235] (!w.params.followText "set-order")->
   (∀ b o,b<s.heap.objs.size->s.heap.get? b=some o->h'.get? b=some o)->Q [64] { s with heap:=h',toks:=tk }):
  wpAny [35] A (call (.type "set") [.ref l]) Q E s:=by
 generalize hled:(!w.params.followText "set-order")=led at h
 let o0:Obj:={ cls:=.type "set",dict:=none,data:=.set #[] 0 (.fresh 0 0 led) }
 obtain ⟨c,tl,hmro⟩:=PySem.F.called_set.mro
 have hmade:=PySem.F.called_set.made
 have hsub:=PySem.F.called_set.sub
 refine wpAny_call (codeAny_of_tree ?_)
 show wpAny _ _ (callAny (.type "set") _) _ _ _
 refine wpAny_pure ⟨Code.quiet_builtin _ [40],codeAny_builtin PySem.F.entry_type_call ?_⟩
 rw [Around.under_plain (weight_type_call_type "set" [.ref l] []) rfl]
 have h1:=PySem.F.called_set.notType
 have h2:=PySem.F.called_set.canCreate
 have hct:=PySem.F.typeCall_set_1 [288]
 repeat (any_goals (first | assumption | wp_step))
 refine codeAny_mono (zjR [288] (E:=E) (Q₁:=fun obj s₁=>obj=.ref s.heap.objs.size/\s₁={ s with heap:=s.heap.push o0 }) ⟨rfl,by rw [hled]⟩) fun r s₁ hr=>?_
 cases r with
 | error e=>exact hr
 | ok fl=>
  cases fl with
  | ret obj=>
   obtain ⟨rfl,rfl⟩:=hr
   have hS:[299].get? s.heap.objs.size=some o0:=Jp _ rfl
   have hT:Shared.TypeIs { s with heap:=s.heap.push o0 } [64] "set":=⟨_,hS,rfl⟩
   have hli:=PySem.F.called_set.init.lookup
   have hbi:=PySem.F.called_set.init.bind [64]
   repeat (any_goals (first | assumption | wp_step))
   refine codeAny_mono (codeAny_call_builtin (R:=wants (fun r s₂=>r=.none/\∃ h' tk,s₂={ s with heap:=h',toks:=tk }/\
     SetI prog w h' s.heap.objs.size [235] led/\(∀ b o,b<s.heap.objs.size->s.heap.get? b=some o->h'.get? b=some o)) E) PySem.F.called_set.init.plain PySem.F.entry_set_init (check_set_init_1 hT ?_)) fun r₂ s₂ hr₂=>?_
   ·obtain ⟨ol,hol,hcl,nl,hdl⟩:=hl
    obtain ⟨ocls,odict,odata,oslots⟩:=ol
    simp only at hcl hdl
    subst hcl;subst hdl
    have hol':[299].get? l=some { cls:=.type "list",dict:=odict,data:=.seq items nl,slots:=oslots }:=Jd _ hol
    have hsls:=PySem.F.sub_list_set
    have hslf:=PySem.F.sub_list_frozenset
    have hne:(Value.type "list" == Value.type "dict")=false:=by decide
    have hl1:[299].IsList l items:=⟨_,hol',rfl,nl,rfl⟩
    unfold Builtin.«set.__init__» noKeywords Builtin.Frozenset.updateFrom
    generalize hPI:pyIter=PI
    wp_walk
    subst hPI
    refine wpAny_pyIter_list hl1 ?_
    refine wpAny_bind (wpAny_runValue ?_)
    have hlS:l<s.heap.objs.size:=Jn hol
    have hh3:A.in1.in1.in1.handled=none:=by simp [hh]
    have hneI:l≠[299].objs.size:=by
     rw [Ky];exact JE (KN hlS)
    have hSf:s.heap.objs.size ∉ [[299].objs.size,l]:=by
     rw [Heap.size_push];simp only [List.mem_cons,List.mem_singleton,List.not_mem_nil,or_false,not_or]
     exact ⟨JE (Nat.lt_succ_self _),Kh hlS⟩
    have hval:∀ (i:Nat) (v:Value),items[i]?=some v->∃ t,v=.int ((fun i=>ns.getD i 0) i) t:=fun i v hv=>
     IntsAre.int_at hi i v (by rw [JL];exact hv)
    refine zcX ((Walks.list hh3 _ l hneI items).toS) s.heap.objs.size hSf (fun i=>ns.getD i 0) hval hb (items.size - 0) 0 _ [12] (KG _)
     ⟨⟨_,Jp _ rfl,rfl,rfl⟩,(hl1.push _)⟩ (SetI.fresh (Jd _ hS)) ?hR
    case hR=>
     intro s' hm hS'
     obtain ⟨h',g',d',tk',os'⟩:=s'
     have eg:g'=s.gens:=hm.gens
     have ed:d'=s.drawn:=hm.drawn
     have eo:os'=s.os:=hm.os
     subst eg;subst ed;subst eo
     show wpAny _ _ _ _ _ _
     refine wpAny_pure ?_
     show wpAny _ _ (ret Value.none) _ _ _
     refine wpAny_pure ⟨rfl,h',tk',rfl,hS',fun b o hb e=>?_⟩
     have hb1:b≠s.heap.objs.size:=JE hb
     have hb2:b≠[299].objs.size:=by
      rw [Ky];exact JE (KN hb)
     exact hm.heap b o (by simp only [List.mem_cons,List.mem_singleton,List.not_mem_nil,or_false,not_or];exact ⟨hb1,hb2⟩) (Heap.get?_push_of_some _ (Heap.get?_push_of_some _ e))
   ·cases r₂ with
    | error e=>exact hr₂
    | ok fl₂=>
     cases fl₂ with
     | ret r=>
      obtain ⟨rfl,h',tk,rfl,hS',hk'⟩:=hr₂
      repeat (any_goals (first | assumption | wp_step))
      exact h _ _ hS' hk'
     | _=>exact hr₂.elim
  | _=>exact hr.elim
end
end F
namespace F
open PySem PySem.Spec PyProof.Rows PySem.W
theorem j2:Slot "set" "__iter__" "set.__iter__":=
 .of (owner:="set") (n:="__iter__") [148] [40] [40] [40]
  (by first | exact .inl [40] | exact .inr [40]) [182]
theorem zbH:entryFor table "set.__iter__"=some Builtin.«frozenset.__iter__»:=entryFor_alias (id':="frozenset.__iter__") (by kernel_rfl) rfl [40] (by kernel_rfl)
theorem zcl(a:Value):argsOk "set.__iter__" ⟨[a],[]⟩:=by unfold argsOk;kernel_rfl
theorem slot_si_next:Slot "set_iterator" "__next__" "set_iterator.__next__":=
 .of (owner:="set_iterator") (n:="__next__") [148] [40] [40] [40]
  (by first | exact .inl [40] | exact .inr [40]) [182]
theorem j7:entryFor table "set_iterator.__next__"=some Builtin.«set_iterator.__next__»:=entryFor_of_tree (by kernel_rfl)
theorem qJ(a:Value):argsOk "set_iterator.__next__" ⟨[a],[]⟩:=by unfold argsOk;kernel_rfl
theorem kj:Slot "set_iterator" "__iter__" "set_iterator.__iter__":=
 .of (owner:="set_iterator") (n:="__iter__") [148] [40] [40] [40]
  (by first | exact .inl [40] | exact .inr [40]) [182]
theorem zcj:entryFor table "set_iterator.__iter__"=some Builtin.«dict_keyiterator.__iter__»:=entryFor_alias (id':="dict_keyiterator.__iter__") (by kernel_rfl) rfl [40] (by kernel_rfl)
theorem zdG(a:Value):argsOk "set_iterator.__iter__" ⟨[a],[]⟩:=by unfold argsOk;kernel_rfl
noncomputable def IsSI(h:Heap)(it a:Addr)(slot i n ep:Nat):Prop:=∃ o,h.get? it=some o/\o.cls=.type "set_iterator"/\o.data=.fields #[.int slot 0,.int i 0,.ref a,.int n 0,.int ep 0]
noncomputable def SetAt(h:Heap)(a:Addr)(es:Array [134])(ep:Nat)(t:SetTable):Prop:=∃ o,h.get? a=some o/\o.ExactSet/\o.data=.set es ep t
theorem zcH{α:Type}:∀ (l:List α) (k:Nat) (h:k<l.length),(l[k]::l.eraseIdx k).Perm l
 | x::l,0,_=>.refl _
 | x::l,k+1,h=>by
  rw [List.eraseIdx_cons_succ,List.getElem_cons_succ]
  exact (List.Perm.swap x _ _).trans (List.Perm.cons x (zcH l k (Nat.lt_of_succ_lt_succ h)))
theorem zgC{α:Type}(next:Nat->Nat):∀ (fuel k:Nat) (left:List α) (out:Array α),left.length=fuel->(pickOrder.go next fuel k left out).toList.Perm (out.toList++left)
 | 0,k,left,out,h=>by
  rw [List.length_eq_zero_iff.mp h,JO]
  exact .refl _
 | fuel+1,k,left,out,h=>by
  have hlt:next k % left.length<left.length:=Nat.mod_lt _ [12]
  unfold pickOrder.go
  rw [Ji hlt]
  dsimp only
  refine (zgC next fuel (k+1) _ _ (by rw [List.length_eraseIdx_of_lt hlt];omega)).trans ?_
  rw [Array.toList_push,JZ]
  refine List.Perm.append_left _ ?_
  rw [List.singleton_append]
  exact zcH _ _ hlt
theorem zhM{α:Type}(next:Nat->Nat)(xs:Array α):(pickOrder next xs).toList.Perm xs.toList:=by
 have:=zgC next xs.size 0 xs.toList #[] (by rw [Jk])
 simpa [pickOrder] using this
section
variable {prog:Program} {w:World} {A:Around} {E:Value->Shared->Prop} {s:Shared} {a:Addr} {es:Array [134]} {ep:Nat} {t:SetTable}
noncomputable def va(w:World)(a:Addr)(es:Array [134])(ep:Nat):Array [134]:=if w.params.followText "set-order"=true then pickOrder (w.params.setOrder a ep) es else es
theorem its_perm:[307].toList.Perm es.toList:=by
 unfold va
 split
 ·exact zhM _ _
 ·exact .refl _
theorem k5:[307].size=es.size:=by
 have:=(its_perm (w:=w) (a:=a) (es:=es) (ep:=ep)).length_eq
 rw [Jk,Jk] at this
 exact this
noncomputable def xS(w:World)(t:SetTable):Nat->Nat
 | 0=>0
 | i+1=>if w.params.followText "set-order"=true then 0 else t.place.getD i 0+1
theorem zgf{n:Nat}{led:Bool}(g:Tab.Good t n led)(hw:¬ w.params.followText "set-order"=true){i:Nat}(hi:i≤n):SetTable.below t.place (xS w t i)=i:=by
 obtain ⟨b1,b2,b3⟩:=Tab.below_ok g.rise (xS w t i)
 have hsz:=g.size
 cases i with
 | zero=>
  refine Nat.le_zero.mp (KS fun h=>?_)
  have h0:0<t.place.size:=by omega
  have:=b2 0 _ h (getElem?_pos t.place 0 h0)
  exact Nat.not_lt_zero _ this
 | succ i=>
  have e:xS w t (i+1)=t.place.getD i 0+1:=if_neg hw
  have hi':i<t.place.size:=by omega
  have eg:t.place.getD i 0=t.place[i]:=by simp [Array.getD,hi']
  rw [e,eg] at b1 b2 b3 ⊢
  generalize hb:SetTable.below t.place (t.place[i]+1)=b at b1 b2 b3 ⊢
  have h1:i<b:=Nat.lt_of_not_le fun h=>by
   have:=b3 i _ h (getElem?_pos t.place i hi')
   omega
  refine Nat.le_antisymm (KS fun h=>?_) h1
  have hi2:i+1<t.place.size:=by omega
  have h2:=b2 (i+1) _ h (getElem?_pos t.place (i+1) hi2)
  have h3:=Kf.mp g.rise i (i+1) (by rw [Jk];exact hi') (by rw [Jk];exact hi2) (Nat.lt_succ_self i)
  rw [Qa,Qa] at h3
  omega
theorem zet{led:Bool}{Q:Option (Value × Nat)->Shared->Prop}(hl:led=!w.params.followText "set-order")(hA:SetAt s.heap a es ep t)(g:Tab.Good t es.size led){i:Nat}(hi:i≤es.size)
  (h:Q ([307][i]?.map fun e=>(e.2,xS w t (i+1))) s):wpAny [35] A (setNext a (xS w t i) i ep) Q E s:=by
 obtain ⟨o,ho,hex,hd⟩:=hA
 unfold setNext
 refine wpAny_bind (wpAny_setState_of ho hd g.fits ?_)
 dsimp only
 unfold setsByText
 refine wpAny_bind (wpAny_bind (wpAny_askSetting [47]))
 show wpAny _ _ (if w.params.followText "set-order"=true then _ else _) _ _ _
 by_cases hw:w.params.followText "set-order"=true
 ·rw [if_pos hw]
  rw [if_neg [19]]
  unfold setWalk
  refine wpAny_bind (wpAny_bind (wpAny_setState_of ho hd g.fits ?_))
  dsimp only
  unfold setsByText
  refine wpAny_bind (wpAny_bind (wpAny_askSetting [47]))
  show wpAny _ _ (if w.params.followText "set-order"=true then _ else _) _ _ _
  rw [if_pos hw]
  refine wpAny_bind (wpAny_askSetting (wpAny_pure [47]))
  have e1:va w a es ep=pickOrder (w.params.setOrder a ep) es:=if_pos hw
  have e2:xS w t i=xS w t (i+1):=by
   have e3:∀ j,xS w t (j+1)=0:=fun j=>if_pos hw
   cases i with
   | zero=>rw [e3];rfl
   | succ i=>rw [e3,e3]
  rw [e1,← e2] at h
  exact h
 ·rw [if_neg hw]
  have hp:=g.plain
  have hled:t.led=true:=by rw [g.led,hl,Bool.eq_false_iff.mpr hw];rfl
  refine wpAny_ite_split (fun hc=>?_) (fun _=>?_)
  ·have:(!t.plain && decide (es.size > 1))=true:=hc
   rw [hp] at this
   cases this
  ·refine wpAny_bind ?_
   show wpAny _ _ (if (!t.led && !es.isEmpty)=true then unsupported "set:maker-not-led" else pure ()) _ _ _
   rw [hled]
   refine wpAny_pure [47]
   have e1:va w a es ep=es:=if_neg hw
   rw [e1] at h
   rw [zgf g hw hi]
   by_cases hlt:i<es.size
   ·have hlt':i<t.place.size:=by rw [g.size];exact hlt
    have e2:xS w t (i+1)=t.place[i]+1:=by
     refine (if_neg hw).trans ?_
     simp [Array.getD,hlt']
    rw [e2] at h
    rw [getElem?_pos es i hlt] at h ⊢
    rw [getElem?_pos t.place i hlt']
    exact h
   ·rw [getElem?_neg es i hlt] at h ⊢
    exact h
theorem IsSI.typeIs{it:Addr}{slot i n:Nat}(x:IsSI s.heap it a slot i n ep):s.TypeIs [158] "set_iterator":=let ⟨o,ho,hc,_⟩:=x;⟨o,ho,hc⟩
theorem zkm{led:Bool}{Q:Value->Shared->Prop}(hl:led=!w.params.followText "set-order")(hA:SetAt s.heap a es ep t)(g:Tab.Good t es.size led)
  (hQ:Q [64] { s with heap:=s.heap.push { cls:=.type "set_iterator",data:=.fields #[.int 0 0,.int 0 0,.ref a,.int es.size 0,.int ep 0] } }):
  wpAny [35] A (pyIter [84]) Q E s:=by
 obtain ⟨o,ho,hex,hd⟩:=id hA
 have hT:s.TypeIs [84] "set":=⟨o,ho,hex.1⟩
 refine wpAny_pyIter_slot hT j2 (wpAny_call_entry j2 hT zbH ?_ (zcl _))
 unfold Builtin.«frozenset.__iter__» Builtin.Frozenset.slot0 slotArgs
 simp only [List.isEmpty_nil,Bool.not_true,Bool.false_eq_true,↓reduceIte,bind_assoc,List.length_nil,bne_self_eq_false]
 unfold Builtin.Frozenset.addrOf Builtin.Frozenset.sizeOf setEntries setDrawn setsByText
 refine wpAny_bind [47]
 refine wpAny_bind [47]
 refine wpAny_bind (wpAny_bind (wpAny_bind (wpAny_setState_of ho hd g.fits (wpAny_pure [47]))))
 refine wpAny_bind (wpAny_bind (wpAny_setState_of ho hd g.fits ?_))
 dsimp only
 refine wpAny_bind (wpAny_bind (wpAny_askSetting (wpAny_pure [47])))
 refine wpAny_ite_split (fun hc=>?_) (fun _=>?_)
 ·have h2:=(Bool.and_eq_true_iff.mp hc).2
  have h3:(!t.plain && decide (es.size > 1))=true:=h2
  rw [g.plain] at h3
  cases h3
 ·refine wpAny_bind [47]
  refine wpAny_bind (wpAny_setEpoch_of ho hd g.fits ?_)
  refine wpAny_bind (wpAny_newObj_type (wpAny_pure ⟨_,rfl,"set_iterator",_,⟨_,Jp _ rfl,rfl⟩,slot_si_next.lookup,?_⟩))
  exact hQ
theorem zjh{it:Addr}{slot i n:Nat}{Q:Value->Shared->Prop}(hit:IsSI s.heap it a slot i n ep)(h:Q [158] s):wpAny [35] A (pyIter [158]) Q E s:=by
 refine wpAny_pyIter_slot hit.typeIs kj (wpAny_call_entry kj hit.typeIs zcj ?_ (zdG _))
 show wpAny _ _ (ret [158]) _ _ s
 exact wpAny_pure ⟨_,rfl,"set_iterator",_,hit.typeIs,slot_si_next.lookup,h⟩
theorem zkn{it:Addr}{i:Nat}{led:Bool}{Q:Option Value->Shared->Prop}(hl:led=!w.params.followText "set-order")(hit:IsSI s.heap it a (xS w t i) i es.size ep)(hA:SetAt s.heap a es ep t)(g:Tab.Good t es.size led){x:Int × Value}(hx:[307][i]?=some x)
  (hQ:∀ h',IsSI h' it a (xS w t (i+1)) (i+1) es.size ep->Heap.SameBut it s.heap h'->Q (some x.2) { s with heap:=h' }):wpAny [35] A (pyNext [158]) Q E s:=by
 obtain ⟨o,ho,hc,hd⟩:=id hit
 obtain ⟨oa,hoa,hexa,hda⟩:=id hA
 have hlt:i<es.size:=by
  rw [← k5 (w:=w) (a:=a) (ep:=ep)]
  exact (Km.mp hx).1
 unfold pyNext
 refine wpAny_bind (wpAny_attempt (wpAny_callSpecial?_slot (name:=Str.ofString "__next__") hit.typeIs slot_si_next
  (wpAny_call_entry slot_si_next hit.typeIs j7 ?_ (qJ _))))
 unfold Builtin.«set_iterator.__next__»
 refine wpAny_bind [47]
 refine wpAny_bind (wpAny_fieldsOf ho hd ?_)
 dsimp only
 unfold setEntries
 refine wpAny_bind (wpAny_bind (wpAny_setState_of hoa hda g.fits [47]))
 refine wpAny_ite_split (fun hcc=>?_) (fun _=>?_)
 ·simp at hcc
 ·simp only [Int.toNat_natCast]
  refine wpAny_bind (zet hl hA g (Nat.le_of_lt hlt) ?_)
  rw [hx]
  show wpAny _ _ (setField [158] 0 (rawInt (xS w t (i+1):Nat)) >>= _) _ _ _
  refine wpAny_bind (wpAny_setField ho hd [19] ?_)
  have ho1:=KP (Obj.mapFields [193]) ho (Obj.isFreed_of_fields (Obj.data_mapFields hd _))
  have hd1:=Obj.data_mapFields hd [193]
  refine wpAny_bind (wpAny_setField (s:={ s with heap:=s.heap.update it (Obj.mapFields [193]) }) ho1 hd1 [19] ?_)
  have ho2:=KP (Obj.mapFields (·.setIfInBounds 1 (rawInt ((i:Int)+1)))) ho1 (Obj.isFreed_of_fields (Obj.data_mapFields hd1 _))
  refine wpAny_pure ⟨_,rfl,wpAny_pure (hQ _ ⟨_,ho2,(Obj.cls_mapFields ..).trans ((Obj.cls_mapFields ..).trans hc),by rw [Obj.data_mapFields hd1];simp [rawInt]⟩ ((Heap.SameBut.update ..).trans (Heap.SameBut.update ..)))⟩
theorem zmq{it:Addr}{i:Nat}{led:Bool}{Q:Option Value->Shared->Prop}(hh:A.handled=none)(hl:led=!w.params.followText "set-order")(hit:IsSI s.heap it a (xS w t i) i es.size ep)(hA:SetAt s.heap a es ep t)(g:Tab.Good t es.size led)(hi:i=es.size)
  (hQ:∀ h',Heap.ExtBut it s.heap h'->Q none { s with heap:=h' }):wpAny [35] A (pyNext [158]) Q E s:=by
 obtain ⟨o,ho,hc,hd⟩:=id hit
 obtain ⟨oa,hoa,hexa,hda⟩:=id hA
 unfold pyNext
 refine wpAny_bind (wpAny_attempt (wpAny_callSpecial?_slot (name:=Str.ofString "__next__") hit.typeIs slot_si_next
  (wpAny_call_entry slot_si_next hit.typeIs j7 ?_ (qJ _))))
 unfold Builtin.«set_iterator.__next__»
 refine wpAny_bind [47]
 refine wpAny_bind (wpAny_fieldsOf ho hd ?_)
 dsimp only
 unfold setEntries
 refine wpAny_bind (wpAny_bind (wpAny_setState_of hoa hda g.fits [47]))
 refine wpAny_ite_split (fun hcc=>?_) (fun _=>?_)
 ·simp at hcc
 ·simp only [Int.toNat_natCast]
  refine wpAny_bind (zet hl hA g (Nat.le_of_eq hi) ?_)
  rw [getElem?_neg _ i (by rw [k5];omega)]
  show wpAny _ _ (setField [158] 2 .none >>= _) _ _ _
  refine wpAny_bind (wpAny_setField ho hd [19] ?_)
  show wpAny _ _ (newExc (.type "StopIteration") [] >>= _) _ _ _
  refine wpAny_bind ?_
  simp only [newExc,newTuple]
  refine wpAny_bind (wpAny_newObj_type ?_ (by size_fits))
  refine wpAny_bind (m:=firstArgMember _ _) (wpAny_of_eq (a:=Value.none) (by first | rfl | (simp only [firstArgMember];rfl)) ?_)
  refine wpAny_newObj_type ?_ (by size_fits)
  simp only [raiseNew]
  refine wpAny_bind (wpAny_handled ?_)
  rw [show A.in1.handled=none from hh]
  refine wpAny_bind (wpAny_pure (wpAny_throw ?_))
  refine wpAny_bind (wpAny_isInstance (T:="StopIteration") (b:=true) ⟨_,Jp _ rfl,rfl⟩ isSubtype_stop ?_)
  exact wpAny_pure (hQ _ (((Qf ..).extBut.push _).push _))
theorem SetAt.at{h h':Heap}(x:SetAt h a es ep t)(e:∀ o,h.get? a=some o->h'.get? a=some o):SetAt h' a es ep t:=let ⟨o,ho,r⟩:=x;⟨o,e _ ho,r⟩
theorem IsSI.at{h h':Heap}{it:Addr}{slot i n:Nat}(x:IsSI h it a slot i n ep)(e:∀ o,h.get? it=some o->h'.get? it=some o):IsSI h' it a slot i n ep:=let ⟨o,ho,r⟩:=x;⟨o,e _ ho,r⟩
theorem zhq{led:Bool}(hh:A.handled=none)(hl:led=!w.params.followText "set-order")(g:Tab.Good t es.size led)(I:Addr)(hne:a≠I):
  PySem.Walks prog w A I [I,a] [I] es.size (fun i v=>∃ x,[307][i]?=some x/\v=x.2) (fun i h=>IsSI h I a (xS w t i) i es.size ep/\SetAt h a es ep t) where
 sub:=fun b hb=>by simp at hb;simp [hb]
 frame:=fun _ _ _ st hk=>⟨st.1.at fun o e=>hk I [19] o e,st.2.at fun o e=>hk a [19] o e⟩
 item:=fun i s Q E hi st hQ=>by
  have hi':i<[307].size:=by rw [k5];exact hi
  refine zkn hl st.1 st.2 g (getElem?_pos _ i hi') fun h' hit' hs'=>?_
  exact hQ _ h' s.toks ⟨_,getElem?_pos _ i hi',rfl⟩ ⟨hit',st.2.at fun o e=>by rw [hs'.2 a hne];exact e⟩ fun b o hb e=>hs'.extBut b o (fun h=>hb (by simp [h])) e
 done:=fun s Q E st hQ=>zmq hh hl st.1 st.2 g rfl fun h' he'=>hQ h' s.toks fun b o hb e=>he' b o (fun h=>hb (by simp [h])) e
 self:=fun _ _ _ _ st hQ=>zjh st.1 hQ
theorem zks{Q:Bool->Shared->Prop}{r:Addr}(hT:s.TypeIs (.ref r) "set")(h:Q false s):wpAny [35] A (Builtin.List.listLengthHint (.ref r)) Q E s:=by
 unfold Builtin.List.listLengthHint
 refine wpAny_bind (wpAny_specialOf hT PySem.F.slot_set_len.lookup ?_)
 generalize hid:("set.__len__":String)=id0
 wp_delta
 rw [show splitId id0=some ("set","__len__") from by subst hid;decide +kernel]
 subst hid
 refine wpAny_bind (wpAny_isInstance (T:="set") (b:=true) hT [182] ?_)
 refine wpAny_ite_split (fun hab=>absurd hab [10]) (fun _=>?_)
 refine wpAny_ite_split (fun _=>?_) (fun hab=>absurd [40] hab)
 refine wpAny_bind (wpAny_typeOf hT ?_)
 exact wpAny_pure h
theorem zlr{led:Bool}(hl:led=!w.params.followText "set-order")(g:Tab.Good t es.size led):KdlSrc prog w "set" a a es.size (fun i v=>∃ x,[307][i]?=some x/\v=x.2) (fun h=>SetAt h a es ep t) where
 type:=fun _ ⟨o,ho,hex,_⟩=>⟨o,ho,hex.1⟩
 there:=fun _ ⟨o,ho,_⟩=>⟨Jn ho,Jn ho⟩
 keep:=fun _ _ hm hk=>hm.at fun o e=>hk a [76] o e
 notList:=by decide
 notTuple:=by decide
 hint:=fun _ _ _ _ ⟨o,ho,hex,_⟩ hq=>zks ⟨o,ho,hex.1⟩ hq
 iter:=fun _ s hh hm=>⟨_,_,(fun _ _ hq=>zkm hl hm g hq),zhq hh hl g _ (JE (let ⟨o,ho,_⟩:=hm;Jn ho)),⟨⟨_,Jp _ rfl,rfl,rfl⟩,hm.at fun o e=>Jd _ e⟩⟩
end
end F
namespace L2
open PySem PySem.Spec PyProof.Rows F
noncomputable def xX:List Int->List Int
 | []=>[]
 | n::r=>if n ∈ r then xX r else n::xX r
theorem mem_dedupL:∀ {ns:List Int} {k:Int},k ∈ xX ns ↔ k ∈ ns
 | [],k=>.rfl
 | n::r,k=>by
  unfold xX
  by_cases h:n ∈ r
  ·rw [if_pos h,mem_dedupL,Kl]
   exact ⟨.inr,fun z=>z.elim (fun e=>e ▸ h) id⟩
  ·rw [if_neg h,Kl,Kl,mem_dedupL]
theorem wM:∀ ns:List Int,(xX ns).Nodup
 | []=>.nil
 | n::r=>by
  unfold xX
  by_cases h:n ∈ r
  ·rw [if_pos h];exact wM r
  ·rw [if_neg h];exact Jy.mpr ⟨fun z=>h (mem_dedupL.mp z),wM r⟩
theorem zjY(ns:List Int):(firstMet [282] ns.length).Perm (xX ns):=by
 refine (List.perm_ext_iff_of_nodup (jZ _ _) (wM ns)).mpr fun k=>?_
 have:=zij ns ns.length (Jm _) k
 rw [List.take_length] at this
 rw [this,mem_dedupL]
noncomputable def ziU(K:PySem.W.Frag)(ta:TA):TE:=fun σ H Q=>ta σ H fun vs H1=>∃ p,∃ ns:List Int,vs=[.ref p]/\SqL K H1 p [63]/\(xX ns).length<63/\∀ (ns':List Int) l,ns'.Perm (xX ns)->ns'.Pairwise (·≤·)->H1 l=none->Q [288] (upd H1 l (.lst (ns'.map V.int)))
theorem zgQ{prog:Program}{w:World}:∀ {its:List [134]},ElemsOf [100] its->IntsAre (its.map (·.2)) (its.map elN)
 | [],_=>.nil
 | e::r,h=>by
  obtain ⟨⟨k,h1,_⟩,_⟩:=h.head
  obtain ⟨t,e1⟩:=Value.isInt_shape h1
  have e2:elN e=k:=by unfold elN;rw [e1];rfl
  rw [Ju,Ju,e1,e2]
  exact .cons k t (zgQ h.tail)
theorem zfA{X:Cx}{e:Expr}{ta:TA}{p1 p2 pos pos2:Pos}(hc:X.calm=true)(hg:Gl X "sorted")(hm:X.mg "sorted"=none)(hg2:Gl X "set")(hm2:X.mg "set"=none)(ha:PA X [e] ta)
  (he:starEach [.Call (.Name "set" p2) [e] [] pos2] X.env=[[160]]:=by rfl)(he2:starEach [e] X.env=[[54]]:=by rfl):
  PE X (.Call (.Name "sorted" p1) [.Call (.Name "set" p2) [e] [] pos2] [] pos) (ziU X.K ta):=by
 intro pins s σ H Q I h
 refine wpAny_Call_Name_kw (uJ I hg hm boot_sorted ?_)
 refine PyProof.Rows.callWith_builtin1 ?_ he rfl
 rw [he]
 show wpAny _ _ (spliced ([160]::[])) _ _ s
 refine KB ?_
 refine wpAny_Call_Name_kw (uJ I hg2 hm2 zkT ?_)
 refine JY (thn (ha pos2 pins s σ H _ I h) fun us s1 ⟨vs,H1,I1,r1,p,ns,ev,hx,hl,q⟩=>?_) he2 rfl
 subst ev
 cases r1 with
 | cons r rr=>
  cases rr
  cases r
  obtain ⟨its,v1,c1,_⟩:=I1.list hx
  have hia:IntsAre its.toArray.toList ns:=by simpa using zfP v1
  have hlen:its.length=ns.length:=by have:=v1.length;simpa using this.symm
  have hmp:=zjY ns
  refine ziv (I1.ok.hd hc) c1.isList hia (by rw [Jz,hlen,hmp.length_eq];exact hl) fun h' tk hS kk=>?_
  have esz:its.toArray.size=ns.length:=by rw [Jz,hlen]
  rw [esz] at hS
  refine Calls.spliced_nil ?_
  obtain ⟨o,es,ep,tb,ho,hex,hd,B⟩:=hS
  have I2:Inv X pins σ H1 { s1 with heap:=h',toks:=tk }:=I1.kept (t':=tk) fun b u q=>kk b u (Heap.lt_size q) q
  have hsz:es.size<63:=by rw [B.size,hmp.length_eq];exact hl
  refine Calls.call_function_entry kind_sorted plain_sorted entry_sorted (args_sorted1 _) ?_
  unfold Builtin.«sorted»
  refine wpAny_bind (m:=checkCount "sorted" 1 1 _) [47]
  refine wpAny_bind (PySem.W.kdu_collect (A:=X.A.in1) (s:={ s1 with heap:=h',toks:=tk }) (zlr (ep:=ep) rfl B.good) [105] ⟨o,ho,hex,hd⟩ (by rw [sizeLine_eq];omega) fun h2 tk2 acc hk hi=>?_)
  have hacc:acc.toList=[146].toList.map (·.2):=by
   apply KO
   intro j
   rw [JM,JL,JL]
   by_cases hj:j<es.size
   ·have hj':j<acc.size:=by rw [hi.1];exact hj
    obtain ⟨x,hx1,hx2⟩:=hi.2 j acc[j] (getElem?_pos acc j hj')
    rw [getElem?_pos acc j hj',hx1,hx2];rfl
   ·rw [getElem?_neg acc j (by rw [hi.1];exact hj),getElem?_neg _ j (by rw [k5];exact hj)];rfl
  have hel:ElemsOf (intKind X.prog X.w) [146].toList:=B.el.perm its_perm
  have hia2:IntsAre acc.toList ([146].toList.map elN):=by rw [hacc];exact zgQ hel
  have hpm:([146].toList.map elN).Perm (xX ns):=(its_perm.map elN).trans (B.perm.trans hmp)
  generalize ([146].toList.map elN)=ms at hia2 hpm
  have hal:acc.toList.length<63:=by rw [Jk,hi.1];exact hsz
  refine wpAny_bind (wpAny_newList ?_ (by rw [sizeLine_eq];omega))
  have hoL:(h2.push [49]).get? h2.objs.size=some [49]:=Jp _ rfl
  refine wpAny_bind (wpAny_holding (wpAny_call_entry PyProof.Rows.slot_list_sort (s:={ s1 with heap:=h2.push [49],toks:=tk2 }) ⟨_,hoL,rfl⟩ PyProof.Rows.entry_list_sort (list_sort_tree hoL hia2 [12] fun out ns' a1 a2 a3=>⟨_,rfl,?_⟩) (PyProof.Rows.args_list_sort _)))
  refine wpAny_pure ⟨_,rfl,?_⟩
  obtain ⟨e',he'⟩:∃ e',(sortedHeap (h2.push [49]) h2.objs.size acc.toList out).get? h2.objs.size=some (seqObj "list" out e'):=sortedHeap_at hoL
  have I3:Inv X pins σ H1 { s1 with heap:=h2,toks:=tk2 }:=I2.kept (t':=tk2) hk
  have hn:=I3.hok.fresh (a:=h2.objs.size) (Jm _)
  have hns':ns'.length<63:=by rw [a2.length_eq,hpm.length_eq];exact hl
  refine ⟨.ref h2.objs.size,_,I3.laid (h':=sortedHeap (h2.push [49]) h2.objs.size acc.toList out) (o:=.lst (ns'.map V.int)) (t':=tk2) (fun b u hb=>?_) [247] ⟨by rw [List.length_map,sizeLine_eq];omega,out.toList,e',vB a1,by simpa [seqObj] using he'⟩,rfl,q ns' _ (a2.trans hpm) a3 hn⟩
  have hlt:=Jn hb
  rw [sortedHeap_old (JE hlt) (by rw [size_push'];exact KN hlt)]
  exact Jd _ hb
end L2
namespace F
open PySem PySem.Spec PyProof.Rows L2
noncomputable def ja(f:FA):FE:=fun env=>[254].bind fun ps=>match ps with | [.lst qs]=>(wZ qs).bind fun ns=>if (xX ns).length<63 then some (.lst ((w9 (xX ns)).map .int)) else none | _=>none
theorem zfe{X:Cx}{κ:Nat->Option Nat}{G:Hp}{c:Cat}{e:Expr}{fs:FA}{p1 p2 pos pos2:Pos}(hc:X.calm=true)(hg:Gl X "sorted")(hm:X.mg "sorted"=none)(hg2:Gl X "set")(hm2:X.mg "set"=none)(ha:VA X κ G c [e] fs)
  (he:starEach [.Call (.Name "set" p2) [e] [] pos2] X.env=[[160]]:=by rfl)(he2:starEach [e] X.env=[[54]]:=by rfl):
  VE X κ G [33] (.Call (.Name "sorted" p1) [.Call (.Name "set" p2) [e] [] pos2] [] pos) (ja fs):=(zfA hc hg hm hg2 hm2 ha.1 he he2).imp fun σ H Q hq_=>by
 refine hq_.elim fun own env z I hf k=>?_
 unfold ja at hf
 replace hf:=Ja.mp hf;obtain ⟨qs,hp,hf⟩:=hf
 split at hf
 case h_2=>cases hf
 rename_i ps
 replace hf:=Ja.mp hf;obtain ⟨ns,hn,hf⟩:=hf
 split at hf
 case isFalse=>cases hf
 rename_i hl
 cases hf
 have hps:=wY hn
 subst hps
 refine (.in I hp fun vs H1 A s1 r1 _=>?_)
 obtain ⟨v,rfl,rv⟩:=yS r1
 obtain ⟨a,xs,B,rfl,h2,_,h4⟩:=rv.L
 have:=uX h4
 subst this
 refine ⟨a,ns,rfl,SqL.of h2,hl,fun ns' l p1 p2 hn'=>?_⟩
 have es:ns'=w9 (xX ns):=jo (p1.trans (yr _).symm) p2 (wK _)
 subst es
 have hl0:H l=none:=by
  cases hq:H l with
  | none=>rfl
  | some o=>rw [s1 _ _ hq] at hn';cases hn'
 exact k _ _ [l] (s1.trans (z6 [31] hn')) (.mkL zZ (k7 _)) ⟨by simp,by simpa using hl0⟩
end F
namespace L2
open PySem PySem.Spec PyProof.Rows PySem.W
end L2
namespace F
open PySem PySem.Spec PyProof.Rows L2
noncomputable def GC(K:PySem.W.Frag)(mg:Str->Option Value)(x:Str)(p:PV):Prop:=∃ a,mg x=some [84]/\∀ H,Rp K H p [84] []
theorem zoo{X:Cx}{κ:Nat->Option Nat}{G:Hp}{x:Str}{p:PV}{pos:Pos}(hg:Gl X x)(h:GC X.K X.mg x p)(hd:[50]=false:=by decide):VE X κ G [33] [139] (fC p):=by
 obtain ⟨a,hm,hr⟩:=h
 refine (zlK hg hm (v:=.ref a) rfl hd).imp fun σ H Q hq_=>?_
 refine hq_.elim fun own env q I hf k=>?_
 cases hf
 exact k _ H [] [31] (hr H) [281]
theorem Rp.modT{K:PySem.W.Frag}{H:Hp}{a:Addr}{d:Option Addr}{its:Array Value}{n:Nat}{sl:Array [161]}{xs:List V}{ps:List PV}(e:K.lookup a=some ⟨.type "tuple",d,.seq its n,sl⟩)(hz:its.size≤sizeLine)(hv:Vals xs its.toList)(hr:Rps K H ps xs []):Rp K H (.tup ps) [84] []:=by
 unfold Rp
 exact ⟨a,xs,rfl,.inr ⟨_,its,n,e,rfl,rfl,hz,hv⟩,hr⟩
theorem Rps.cons0{K:PySem.W.Frag}{H:Hp}{p:PV}{ps:List PV}{v:V}{vs:List V}(h:Rp K H p v [])(hs:Rps K H ps vs []):Rps K H (p::ps) (v::vs) []:=by
 unfold Rps
 exact ⟨v,vs,[],[],rfl,rfl,h,hs⟩
theorem Rps.nil0{K:PySem.W.Frag}{H:Hp}:Rps K H [] [] []:=by unfold Rps;exact ⟨rfl,rfl⟩
theorem jF{i:Int}{t:Tok}{xs:List V}{us:List Value}(h:Vals xs us):Vals (.int i::xs) (.int i t::us):=.cons ⟨t,rfl⟩ h
theorem zcW{a:Addr}{xs:List V}{us:List Value}(h:Vals xs us):Vals (.ref a::xs) (.ref a::us):=.cons rfl h
end F
namespace HT
open PySem PySem.Spec PyProof.Rows
end HT
namespace L2
open PySem PySem.Spec PyProof.Rows
end L2
namespace F
open PySem PySem.Spec PyProof.Rows L2
section
variable {X:Cx} {κ:Nat->Option Nat} {G:Hp} {O:List Nat} {st:Stmt} {es:List Expr} {pos:Pos}
noncomputable def zqz(O':List Nat)(own:Addr->Option Nat):Addr->Option Nat:=fun a=>(own a).bind fun l=>if l ∈ O' then some l else none
end
end F
namespace F
open PySem PySem.Spec PyProof.Rows L2 PySem.W
inductive Df (K:PySem.W.Frag) (x:Str) (st:Stmt):Prop
 | mk {f:Addr} {oc:Value} {od:Option Addr} {kV dc pm:Value} {an:Option Addr} {cd ct:Value} {sl:Array [161]} (a:nsIn K mainGlobals x=some (some [318])) (l:K.lookup f=some ⟨oc,od,.func (fnOf x x (u5 st) (vG st) (zR st) .none kV dc pm an cd ct),sl⟩) (c:codeIn K cd x=true) (k:keepIn K [318]=true):Df K x st
theorem Df.fn{P:Program}{w:World}{K:PySem.W.Frag}{h:Heap}{mg:Str->Option Value}{base:Heap}{x:Str}{st:Stmt}{k:Nat}{ps:List Str}{sp:Sp}(d:Df K x st)(X:K.In h)(G:h.Ns mainGlobals mg)(ok:∀ f fd,Fun K x x st f fd->FnOk P w K mg base CX0 k f fd ps sp)
  (hb:∀ (kV doc pm:Value) (an:Option Addr) (cdv ct:Value) (us:List Value),us.length=ps.length->bindArgs (PySem.W.fnOf x x (u5 st) (vG st) (zR st) .none kV doc pm an cdv ct) ⟨us,[]⟩=pure (ps.zip us)):Fn P w K mg base x k ps sp:=by
 obtain ⟨a,l,c,k⟩:=d
 have F:=zkz (st:=st) l c k
 exact ⟨_,_,ok _ _ F,mg_of X G a,k,F.binds hb⟩
end F
namespace L2
open PySem PySem.Spec PyProof.Rows
end L2
namespace F
open PySem PySem.Spec PyProof.Rows L2
end F
namespace F
open PySem PySem.W PyProof.Rows
section
variable {O:KeyOrd} {key:Nat->O.α} {n:Nat} {α β:Type}
noncomputable def Ans(key:Nat->O.α)(n:Nat):KasT α->(α->Prop)->Prop
 | .ret a,P=>P a
 | .ask i j k,P=>(i<n/\j<n/\i≠j)/\Ans key n (k (O.blt (key i) (key j))) P
noncomputable def Kp(key:Nat->O.α)(p:Array Nat)(i:Nat):O.α:=key (p.getD i 0)
noncomputable def Up(key:Nat->O.α)(p:Array Nat)(k:Nat):Prop:=∀ i j,i≤j->j<k->O.kle (Kp key p i) (Kp key p j)
noncomputable def Dn(key:Nat->O.α)(p:Array Nat)(k:Nat):Prop:=∀ i j,i≤j->j<k->O.kle (Kp key p j) (Kp key p i)
structure Pm (n:Nat) (p:Array Nat):Prop where
 sz:p.size=n
 pm:p.toList.Perm [133]
structure Fall (key:Nat->O.α) (n r:Nat) (x:Array Nat × Nat × Nat):Prop where
 pm:Pm n x.1
 lo:1≤x.2.1
 hi:x.2.1≤r
 dn:Dn key x.1 x.2.1
 q:x.2.2+1≤x.2.1
 eq:∀ i,x.2.1 - (x.2.2+1)≤i->i<x.2.1->Kp key x.1 i=Kp key x.1 (x.2.1 - 1)
end
end F
namespace HT
open PySem PySem.Spec PyProof.Rows
open PySem.AutoSeq1 (wpAny_loadPart')
open PySem.MeetsSeq PySem.MeetsSeq2 PySem.MeetsSeq3
end HT
namespace F
open PySem PySem.Spec PySem.W PyProof.Rows
structure Heads (h:Heap) (a:Addr) (vs:List Value) (hs:List Int):Prop where
 len:vs.length=hs.length
 at':∀ i,i<vs.length->∃ l items t m,vs.getD i Value.none=.ref l/\l≠a/\h.get? l=some { cls:=.type "list",dict:=none,data:=.seq items m,slots:=#[] }/\items[0]?=some (.int (hs.getD i 0) t)
 nd:hs.Nodup
end F
namespace L2
open PySem PySem.Spec PySem.W PyProof.Rows
structure HeadsV (H:Hp) (xs:List V) (hs:List Int):Prop where
 len:xs.length=hs.length
 at':∀ i,i<xs.length->∃ l r,xs[i]?=some [288]/\H l=some (.lst (.int (hs.getD i 0)::r))
 nd:hs.Nodup
end L2
namespace F
open PySem PySem.Spec PyProof.Rows L2
end F
namespace HT
open PySem PySem.Spec PySem.W PyProof.Rows
open PySem.AutoSeq1 (wpAny_loadPart')
end HT
namespace L2
open PySem PySem.Spec PySem.W PyProof.Rows
end L2
namespace F
open PySem PySem.Spec PyProof.Rows L2
end F
namespace L2
open PySem PySem.Spec PySem.W PyProof.Rows
end L2
namespace F
open PySem PySem.Spec PyProof.Rows L2
end F
namespace F
open PySem PySem.Spec PyProof.Rows
namespace Tab
noncomputable def adv(t:SetTable):Nat->SetTable.Probe->SetTable.Probe
 | 0,P=>P
 | n+1,P=>adv t n (t.advance P)
noncomputable def In(t:SetTable)(P:SetTable.Probe):Prop:=P.j+P.more≤t.mask/\P.dummy=none
section
variable {t:SetTable} {h:Int}
inductive Meet (t:SetTable) (m:Nat) (P:SetTable.Probe):Option SetTable.Met->Prop
 | empty (j:Nat):t.slot j=.empty->j≤t.mask->Meet t m P (some (.empty j none))
 | cand (j i k:Nat) (next:SetTable.Probe):t.slot j=.live i->k<m->In t next->t.slot (adv t k next).j=.empty->Meet t m P (some (.candidate j i next))
theorem zok{j i:Nat}{n:Nat}{led:Bool}(g:Good t n led)(h:t.slot j=.live i):i<n:=by
 unfold SetTable.slot at h
 dsimp only at h
 split at h
 ·rename_i hc
  cases h
  have e:=beq_iff_eq.mp hc
  obtain ⟨h1,_⟩:=Km.mp e
  rw [← g.size];exact h1
 ·split at h<;>cases h
end
end Tab
noncomputable def ElT(prog:Program)(w:World)(h:Heap)(e:Int × Value):Prop:=∃ b k,e.2=.ref b/\IsTupleKey [100] h k b/\e.1=tupleKeyHash [100] k
structure SetTt (prog:Program) (w:World) (h:Heap) (es:Array [134]) (t:SetTable) (L:List Value) (led:Bool):Prop where
 el:∀ e ∈ es.toList,ElT prog w h e
 perm:(es.toList.map (·.2)).Perm L
 good:Tab.Good t es.size led
 mask:t.mask=7∨t.mask=31∨t.mask=127
 nf:es.size * 5<t.mask * 3
noncomputable def zqH(prog:Program)(w:World)(h:Heap)(a:Addr)(L:List Value)(led:Bool):Prop:=∃ o es ep t,h.get? a=some o/\o.ExactSet/\o.data=.set es ep t/\SetTt prog w h es t L led
section
variable {prog:Program} {w:World} {A:Around} {E:Value->Shared->Prop} {s:Shared}
structure Tups (prog:Program) (w:World) (h0:Heap) (n:Nat) (ad:Nat->Addr) (key:Nat->List Int) (wr:List Addr):Prop where
 at':∀ i,i<n->IsTupleKey [100] h0 (key i) (ad i)
 out:∀ i,i<n->ad i ∉ wr
 ne:∀ i j,i<j->j<n->key i≠key j
noncomputable def tl(ad:Nat->Addr)(n:Nat):List Value:=[133].map fun j=>.ref (ad j)
end
end F
namespace F
open PySem PySem.Spec PySem.W PyProof.Rows
noncomputable def plt(a b:Int × Int):Prop:=a.1<b.1∨a.1=b.1/\a.2<b.2
instance (a b:Int × Int):Decidable (plt a b):=by unfold plt;infer_instance
structure PairsAt (h:Heap) (a:Addr) (vs:List Value) (ks:List [226]):Prop where
 len:vs.length=ks.length
 at':∀ i,i<vs.length->∃ l o items m t u,vs.getD i Value.none=.ref l/\l≠a/\h.get? l=some o/\o.cls=.type "tuple"/\o.data=.seq items m/\items.toList=[.int (ks.getD i (0,0)).1 t,.int (ks.getD i (0,0)).2 u]
 nd:ks.Nodup
end F
namespace F
end F
namespace L2
open PySem PySem.Spec PySem.W PyProof.Rows F
end L2
namespace F
open PySem PySem.Spec PyProof.Rows L2
namespace Tab
noncomputable def GoodN(t:SetTable)(n:Nat)(led:Bool):Prop:=Good { t with plain:=true } n led
end Tab
noncomputable def ElM(prog:Program)(w:World)(h:Heap)(e:Int × Value):Prop:=∃ b k,e.2=.ref b/\IsTupleKey [273] h k b/\e.1=tupleKeyHash [273] k
section
variable {prog:Program} {w:World} {A:Around} {E:Value->Shared->Prop} {s:Shared}
structure SetTm (prog:Program) (w:World) (h:Heap) (es:Array [134]) (t:SetTable) (L:List Value) (led:Bool):Prop where
 el:∀ e ∈ es.toList,ElM prog w h e
 perm:(es.toList.map (·.2)).Perm L
 good:Tab.GoodN t es.size led
 mask:t.mask=7∨t.mask=31∨t.mask=127
 nf:es.size * 5<t.mask * 3
noncomputable def zqI(prog:Program)(w:World)(h:Heap)(a:Addr)(L:List Value)(led:Bool):Prop:=∃ o es ep t,h.get? a=some o/\o.ExactSet/\o.data=.set es ep t/\SetTm prog w h es t L led
structure TupsM (prog:Program) (w:World) (h0:Heap) (n:Nat) (ad:Nat->Addr) (key:Nat->List Key) (wr:List Addr):Prop where
 at':∀ i,i<n->IsTupleKey [273] h0 (key i) (ad i)
 out:∀ i,i<n->ad i ∉ wr
 ne:∀ i j,i<j->j<n->key i≠key j
end
end F
namespace F
open PySem PySem.Spec PyProof.Rows PySem.W
section
variable {prog:Program} {w:World} {A:Around} {E:Value->Shared->Prop} {s:Shared} {a:Addr} {es:Array [134]} {ep:Nat} {t:SetTable}
noncomputable def zqJ(h:Heap)(it tp a:Addr)(i n ep:Nat):Prop:=∃ o,h.get? it=some o/\o.cls=.type "set_iterator"/\o.data=.fields #[.ref tp,.int i 0,.ref a,.int n 0,.int ep 0]
noncomputable def zqF(h:Heap)(tp:Addr)(ord:List Nat):Prop:=∃ o k,h.get? tp=some o/\o.data=.seq (ord.map fun (i:Nat)=>rawInt i).toArray k
end
end F
namespace F
open PySem PySem.Spec PySem.W PyProof.Rows
noncomputable def dS:Str:=⟨#[]⟩
noncomputable def qlt(a b:Int × Str):Prop:=a.1<b.1∨a.1=b.1/\a.2.cps.toList<b.2.cps.toList
instance (a b:Int × Str):Decidable (qlt a b):=by unfold qlt;infer_instance
structure PairsQ (h:Heap) (a:Addr) (vs:List Value) (ks:List (Int × Str)):Prop where
 len:vs.length=ks.length
 at':∀ i,i<vs.length->∃ l o items m t u,vs.getD i Value.none=.ref l/\l≠a/\h.get? l=some o/\o.cls=.type "tuple"/\o.data=.seq items m/\items.toList=[.int (ks.getD i (0,dS)).1 t,.str (ks.getD i (0,dS)).2 u]
 nd:ks.Nodup
end F
namespace F
open PySem PySem.Spec PyProof.Rows L2
end F
namespace F
open PySem PySem.Spec PyProof.Rows PySem.W
end F
namespace F
end F
namespace L2
open PySem PySem.Spec PySem.W PyProof.Rows F
end L2
namespace F
open PySem PySem.Spec PyProof.Rows L2
end F
namespace L2
open PySem PySem.Spec PySem.W PyProof.Rows F
end L2
namespace F
open PySem PySem.Spec PyProof.Rows L2
end F
namespace F
open PySem L2
section
variable {env:En} {f fa fb fc:FE} {t u:FT} {fs:FA} {g h:FS} {p q:PV}
@[simp] theorem wz(i:Nat):zA i env=(env[i]?).join:=rfl
@[simp] theorem ziD(p:PV):fC p env=some p:=rfl
@[simp] theorem yP(k:PV->PV->Option PV):fOp k fa fb env=(fa env).bind fun x=>(fb env).bind fun y=>k x y:=rfl
@[simp] theorem zhk(k:PV->Option PV):fUn k fa env=(fa env).bind k:=rfl
@[simp] theorem zdI:zu f env=[254].bind fun p=>if z0 p=true then some p else none:=rfl
@[simp] theorem qK:fT f env=[254].bind yZ:=rfl
@[simp] theorem zgh:zci t u env=(t env).bind fun b=>if b=true then u env else some false:=rfl
@[simp] theorem zak:fOr t u env=(t env).bind fun b=>if b=true then some true else u env:=rfl
@[simp] theorem zkX:zdx t env=(t env).map fun b=>!b:=rfl
@[simp] theorem zmN:fIf t fa fb env=(t env).bind fun c=>if c=true then fa env else fb env:=rfl
@[simp] theorem zgg:zI env=some []:=rfl
@[simp] theorem zS:zC f fs env=[254].bind fun p=>(fs env).map fun ps=>p::ps:=rfl
@[simp] theorem jg:xW fs env=(fs env).map .tup:=rfl
@[simp] theorem zkY:xI fs env=(fs env).map .lst:=rfl
@[simp] theorem zdJ(Φ:List PV->Option PV):zJ Φ fs env=(fs env).bind Φ:=rfl
@[simp] theorem zps(k k':PV->PV->Option PV):qk k k' fa fb fc env=(fa env).bind fun x=>(fb env).bind fun y=>(k x y).bind fun z=>(yZ z).bind fun b=>if b=true then (fc env).bind fun w=>k' y w else some [218]:=rfl
@[simp] theorem zhl:jC fa fb env=(fa env).bind fun x=>(yZ x).bind fun k=>if k=true then fb env else some [218]:=rfl
@[simp] theorem zqq:zqk fa fb env=(fa env).bind fun x=>(yZ x).bind fun k=>if k=true then some [324] else fb env:=rfl
@[simp] theorem zpH:zeL fa env=(fa env).bind fun x=>(yZ x).map fun k=>.bl (!k):=rfl
@[simp] theorem zpq:fNx env=some (.nx env):=rfl
@[simp] theorem zqE:fBk env=some (.bk env):=rfl
@[simp] theorem zqD:fCt env=some (.ct env):=rfl
@[simp] theorem xJ:yY f env=[254].map fun p=>.rt p env:=rfl
@[simp] theorem zpG:zpf env=some (.rt .non env):=rfl
@[simp] theorem yB:wC t g h env=(t env).bind fun b=>if b=true then g env else h env:=rfl
@[simp] theorem zbY(i:Nat):zh i f env=[254].map fun p=>.nx [110]:=rfl
@[simp] theorem zqr(b:PV->En->Option En):zmo b f env=[254].bind fun p=>(b p env).map .nx:=rfl
@[simp] theorem yJ(b:PV->En->Option En):yx fs b g env=(fs env).bind fun ps=>wD b g ps env:=rfl
@[simp] theorem yw:zf f env=[254].bind vA:=rfl
@[simp] theorem zpF:zpe f env=[254].bind fun p=>(vA p).bind fun ps=>if isDatas ps=true then some ps else none:=rfl
@[simp] theorem zfa(i:Nat):zN i p env=some [110]:=rfl
@[simp] theorem zqp:vg env=some true:=rfl
@[simp] theorem zpr:jb env=some (.dct [] []):=rfl
@[simp] theorem zon:qC env=some none:=rfl
@[simp] theorem zcS(n:Nat)(js:List Nat)(b:PV->En->Option En):fLC fs n js b t f env=(fs env).bind fun ps=>if ps.length≤100000 then (ym b t f ps (cE n js env)).map .lst else none:=rfl
theorem zG{e:En}(hg:g env=some (.nx e)):zX g h env=h e:=by unfold zX;rw [hg];rfl
theorem zgW{e:En}(hg:g env=some (.rt p e)):zX g h env=some (.rt p e):=by unfold zX;rw [hg];rfl
@[simp] theorem zmm:zX g h env=(g env).bind fun o=>match o with | .nx e=>h e | o=>some o:=rfl
end
section
variable {i j:Int} {xs ys:List Int} {ps qs:List PV}
@[simp] theorem zeS:z0 [88]=true:=rfl
@[simp] theorem zpE{b:Bool}:z0 (.bl b)=true:=rfl
@[simp] theorem zpk{x:Str}:z0 (.str x)=true:=rfl
@[simp] theorem zpl:z0 .non=true:=rfl
@[simp] theorem zeR:z0 (.tup ps)=isDatas ps:=by simp [z0]
@[simp] theorem zol:isDatas []=true:=rfl
@[simp] theorem znU{p:PV}:isDatas (p::ps)=(z0 p && isDatas ps):=by simp [isDatas]
@[simp] theorem wc:isDatas [52]=true:=zdt xs
@[simp] theorem zom:isDatas (ps++qs)=(isDatas ps && isDatas qs):=wB ps qs
@[simp] theorem zhj{b:Bool}:yZ (.bl b)=some b:=rfl
@[simp] theorem zla:yE [88] (.int j)=some (.int (i+j)):=rfl
@[simp] theorem zpU:wI [88] (.int j)=some (.int (i - j)):=rfl
@[simp] theorem zoV:vLt [88] (.int j)=some (.bl (decide (i<j))):=rfl
@[simp] theorem zqv:vLe [88] (.int j)=some (.bl (decide (i≤j))):=rfl
@[simp] theorem zqx:vGt [88] (.int j)=some (.bl (decide (j<i))):=rfl
@[simp] theorem zqy:vGe [88] (.int j)=some (.bl (decide (j≤i))):=rfl
@[simp] theorem zoR:ju [88]=some (.int (-i)):=rfl
theorem zjU(h:IntMulOk i j):wS [88] (.int j)=some (.int (i * j)):=by simp [wS,h]
theorem zlY(h : -(2 ^ 64)<i/\i<2 ^ 64):IntMulOk i j:=.of_left (intBits_le_64 h.1 h.2)
theorem zlX(h : -(2 ^ 64)<j/\j<2 ^ 64):IntMulOk i j:=.of_right (intBits_le_64 h.1 h.2)
theorem uZ(h : -(2 ^ 64)<i/\i<2 ^ 64):wS [88] (.int j)=some (.int (i * j)):=zjU (zlY h)
theorem zoT(h : -(2 ^ 64)<j/\j<2 ^ 64):wS [88] (.int j)=some (.int (i * j)):=zjU (zlX h)
theorem vF(h:0<j/\j<1073741824):wJ [88] (.int j)=some (.int (i / j)):=by simp [wJ,h]
theorem yj(h:0<j):xc [88] (.int j)=some (.int (i % j)):=by simp [xc,h]
@[simp] theorem zlv:vA (.lst ps)=some ps:=rfl
@[simp] theorem zpy:vA (.fls ps)=some ps:=rfl
@[simp] theorem zgv:vA (.tup ps)=some ps:=rfl
@[simp] theorem zjg:zgx (.lst ps)=some ps:=rfl
@[simp] theorem zjf:zgx (.tup ps)=some ps:=rfl
@[simp] theorem zdq:xQ [.lst ps]=some (.int ps.length):=rfl
@[simp] theorem zpA:xQ [.fls ps]=some (.int ps.length):=rfl
@[simp] theorem zpz:xQ [.tup ps]=some (.int ps.length):=rfl
@[simp] theorem zpB{ks:List Key}:xQ [.dct ks ps]=some (.int ks.length):=rfl
@[simp] theorem zoj:kB [.lst ps]=if isDatas ps=true then some (.tup ps) else none:=rfl
@[simp] theorem zoW:xj [.tup ps]=if isDatas ps=true then some (.lst ps) else none:=rfl
@[simp] theorem zez:xj [.lst ps]=if isDatas ps=true then some (.lst ps) else none:=rfl
@[simp] theorem zqa{b:Bool}:zll [.bl b]=some (.int (if b then 1 else 0)):=rfl
@[simp] theorem zkl:vIx (.lst ps) [88]=atI ps i:=rfl
@[simp] theorem zpZ:vIx (.fls ps) [88]=atI ps i:=rfl
@[simp] theorem ix_tup:vIx (.tup ps) [88]=atI ps i:=rfl
theorem zdE{α β:Type}(f:α->β)(l:List α)(i:Int):atI (l.map f) i=(atI l i).map f:=by
 unfold atI
 rw [Jh]
 cases ixN l.length i with
 | none=>rfl
 | some j=>simp
theorem wq{α:Type}{l:List α}{i:Int}(h0:0≤i)(h1:i<l.length):atI l i=l[i.toNat]?:=by
 unfold atI ixN
 rw [if_pos h0,if_pos h1];rfl
@[simp] theorem zhi{α:Type}{a:α}{l:List α}:atI (a::l) 0=some a:=by
 rw [wq [10] [113]];rfl
@[simp] theorem zmM{α:Type}{a b:α}{l:List α}:atI (a::b::l) 1=some b:=by
 rw [wq [10] [113]];rfl
@[simp] theorem zpp{α:Type}{a b c:α}{l:List α}:atI (a::b::c::l) 2=some c:=by
 rw [wq [10] [113]];rfl
@[simp] theorem zqC{α:Type}{a b c d:α}{l:List α}:atI (a::b::c::d::l) 3=some d:=by
 rw [wq [10] [113]];rfl
theorem k8(n:Int):∀ xs:List Int,inP (.int n) [52]=decide (n ∈ xs)
 | []=>rfl
 | m::r=>by
  have ih:=k8 n r
  unfold inP at ih ⊢
  rw [Ju,Ki,ih]
  by_cases e:m=n
  ·subst e;simp [eqS]
  ·have e':¬ n=m:=fun z=>e z.symm
   simp [eqS,e,e']
theorem qh(xs:List Int):[52].all vc=true:=by
 rw [List.all_map];exact KZ.mpr fun _ _=>rfl
@[simp] theorem zqc:vIn [88] (.lst (xs.map .int))=some (decide (i ∈ xs)):=by simp only [vIn,qh,k8];rfl
@[simp] theorem zqd:vIn [88] (.fls (xs.map .int))=some (decide (i ∈ xs)):=by simp only [vIn,qh,k8];rfl
@[simp] theorem zkq:vIn [88] (.tup (xs.map .int))=some (decide (i ∈ xs)):=by simp only [vIn,qh,k8];rfl
@[simp] theorem zpC:vIn [88] (.tup [.int j,.int k])=some (decide (i=j∨i=k)):=by
 have:=zkq (i:=i) (xs:=[j,k])
 simpa using this
@[simp] theorem inE{p q:PV}:wT p q=(vIn p q).map .bl:=rfl
@[simp] theorem zpX{p q:PV}:xP p q=(vIn p q).map fun b=>.bl (!b):=rfl
@[simp] theorem zql:eqP [88] (.int j)=decide (i=j):=by
 unfold eqP vC PyData.eqv
 simp [Bool.beq_eq_decide_eq]
@[simp] theorem zqm:kU [88]=true:=by simp [kU,kM,vC,PyData.canLay0,PyData.depth]
@[simp] theorem zeM:vEq [88] (.int j)=some (.bl (decide (i=j))):=by simp [vEq]
@[simp] theorem zmI:vNe [88] (.int j)=some (.bl (!decide (i=j))):=by simp [vNe]
end
section
variable {b:PV->En->Option En} {g:FS} {t:FT} {f:FE}
theorem zml{ps:List PV}{env:En}(P:List PV->En->Prop)(h0:P [] env)
  (step:∀ pre p post e,ps=pre++p::post->P pre e->∃ e1 e2,b p e=some e1/\(g e1=some (.nx e2)∨g e1=some (.ct e2))/\P (pre++[p]) e2):∃ e,wD b g ps env=some (.nx e)/\P ps e:=by
 have go:∀ (post pre:List PV) (e:En),ps=pre++post->P pre e->∃ e',wD b g post e=some (.nx e')/\P ps e':=by
  intro post
  induction post with
  | nil=>intro pre e hp h;exact ⟨e,rfl,by rw [hp,JO];exact h⟩
  | cons p post ih=>
   intro pre e hp h
   obtain ⟨e1,e2,h1,h2,h3⟩:=step pre p post e hp h
   obtain ⟨e',h4,h5⟩:=ih (pre++[p]) e2 (by rw [hp,JZ];rfl) h3
   refine ⟨e',?_,h5⟩
   unfold wD
   rw [h1,Jb]
   rcases h2 with h2 | h2<;>(rw [h2,Option.bind_some];exact h4)
 exact go ps [] env rfl h0
theorem zcT(P:En->Prop)(μ:En->Nat)(step:∀ e,P e->t e=some false∨(t e=some true/\∃ e',(g e=some (.nx e')∨g e=some (.ct e'))/\P e'/\μ e'<μ e)):
  ∀ (n:Nat) (env:En),P env->μ env<n->∃ e,fWh t g n env=some (.nx e)/\P e/\t e=some false
 | 0,_,_,h=>absurd h (Nat.not_lt_zero _)
 | n+1,env,hp,hm=>by
  unfold fWh
  rcases step env hp with h | ⟨h,e',h2,h3,h4⟩
  ·refine ⟨env,?_,hp,h⟩
   rw [h];rfl
  ·obtain ⟨e,h5,h6,h7⟩:=zcT P μ step n e' h3 [12]
   refine ⟨e,?_,h6,h7⟩
   rw [h,Jb,if_pos rfl]
   rcases h2 with h2 | h2<;>(rw [h2,Option.bind_some];exact h5)
theorem zhc{env:En}(T:PV->Bool)(W:PV->PV):∀ (ps:List PV),(∀ p ∈ ps,∃ e,b p env=some e/\t e=some (T p)/\(T p=true->f e=some (W p)))->ym b t f ps env=some ((ps.filter T).map W)
 | [],_=>rfl
 | p::ps,h=>by
  obtain ⟨e,h1,h2,h3⟩:=h p Jf
  have ih:=zhc T W ps fun q hq=>h q (Jg _ hq)
  unfold ym
  rw [h1,Jb,h2,Jb,ih]
  cases hT:T p with
  | true=>rw [if_pos rfl,h3 hT,Jb,Kz,if_pos hT];rfl
  | false=>rw [if_neg Je,Kz,if_neg (by rw [hT];exact Je)]
theorem vL{env:En}(T:Int->Bool)(W:Int->PV)(xs:List Int)(h:∀ n ∈ xs,∃ e,b (.int n) env=some e/\t e=some (T n)/\(T n=true->f e=some (W n))):ym b t f [52] env=some ((xs.filter T).map W):=by
 have:=zhc (env:=env) (b:=b) (t:=t) (f:=f) (fun p=>match p with | .int n=>T n | _=>false) (fun p=>match p with | .int n=>W n | p=>p) [52] (by
  intro p hp
  obtain ⟨n,hn,rfl⟩:=Jx.mp hp
  exact h n hn)
 rw [this,List.filter_map,Kj]
 rfl
theorem zjl(lo:Int)(n:Nat):uG lo n=([133].map fun (i:Nat)=>lo+(i:Int)).map PV.int:=by
 unfold uG;rw [List.map_map];rfl
theorem zjm(n:Nat):uG 0 n=([133].map fun (i:Nat)=>(i:Int)).map PV.int:=by
 rw [zjl];simp
end
theorem kS{t:FT}(i v:Nat)(mk:List Int->Option PV->En)(T:Int->Bool)
  (h1:∀ acc x y,(mk acc x).set v (some y)=mk acc (some y))(h2:∀ acc acc' x,(mk acc x).set i (some (.lst (acc'.map PV.int)))=mk acc' x)
  (h3:∀ acc x,(mk acc x)[i]?=some (some (.lst (acc.map PV.int))))(h4:∀ acc x,(mk acc x)[v]?=some x):
  ∀ (xs acc:List Int) (x:Option PV),(∀ n ∈ xs,∀ acc,t (mk acc [119])=some (T n))->acc.length+xs.length≤1000->
   ∃ x',wD (zN v) (wC t (zb i (zu (zA v))) fNx) [52] (mk acc x)=some (.nx (mk (acc++xs.filter T) x'))
 | [],acc,x,_,_=>⟨x,by simp [wD]⟩
 | n::xs,acc,x,ht,hl=>by
  simp only [List.length_cons] at hl
  have hn:=ht n Jf acc
  have hL:acc.length<100000:=by omega
  rw [Ju]
  unfold wD
  rw [zfa,Jb,h1,yB,hn,Jb]
  cases hT:T n with
  | true=>
   obtain ⟨x',e⟩:=kS i v mk T h1 h2 h3 h4 xs (acc++[n]) [119] (fun m hm=>ht m (List.mem_cons_of_mem _ hm)) (by simp only [List.length_append,List.length_singleton];omega)
   refine ⟨x',?_⟩
   have ha:zb i (zu (zA v)) (mk acc [119])=some (.nx (mk (acc++[n]) [119])):=by
    have:(acc.map PV.int++[PV.int n])=(acc++[n]).map PV.int:=by simp
    have hd:zu (zA v) (mk acc [119])=some (.int n):=by simp [h4]
    have hv:zA i (mk acc [119])=some (.lst (acc.map PV.int)):=by simp [h3]
    unfold zb
    rw [hv,Jb,hd,Jb]
    dsimp only
    rw [if_pos (by rw [Jh];exact hL),this,h2]
   rw [if_pos rfl,ha,Jb]
   dsimp only
   rw [e,Kz,if_pos hT,JZ]
   rfl
  | false=>
   obtain ⟨x',e⟩:=kS i v mk T h1 h2 h3 h4 xs acc [119] (fun m hm=>ht m (Jg _ hm)) [12]
   refine ⟨x',?_⟩
   rw [if_neg Je,zpq,Jb]
   dsimp only
   rw [e,Kz,if_neg (by rw [hT];exact Je)]
noncomputable abbrev zpJ(L:List Int):PV:=.dct [127] (L.map fun _=>.bl true)
theorem ua(L:List Int)(p:Int):ur [127] (.inl p)=decide (p ∈ L):=by
 rw [Bool.eq_iff_iff,zkv,decide_eq_true_eq]
 constructor
 ·intro h;obtain ⟨q,hq,e⟩:=List.mem_map.mp h;cases e;exact hq
 ·intro h;exact Jx.mpr ⟨p,h,rfl⟩
@[simp] theorem zqb{L:List Int}{p:Int}:vIn (.int p) (zpJ L)=some (decide (p ∈ L)):=by simp only [vIn,ua]
theorem vP:∀ xs:List Int,toPys [52]=xs.map PyData.int
 | []=>rfl
 | x::r=>by rw [Ju,toPys,vP r];rfl
theorem kL:∀ xs:List Int,okPys [52]=true
 | []=>rfl
 | x::r=>by rw [Ju,okPys,kL r];rfl
theorem jc:∀ xs ys:List Int,PyData.eqvAll [296] (ys.map PyData.int)=decide (xs=ys)
 | [],[]=>rfl
 | [],_::_=>rfl
 | _::_,[]=>rfl
 | x::r,y::t=>by
  simp only [List.map_cons,PyData.eqvAll,PyData.eqv,jc r t]
  by_cases h:x=y<;>by_cases h':r=t<;>simp [h,h']
theorem zbq:∀ xs:List Int,PyData.canLayAll0 [296]=true
 | []=>rfl
 | x::r=>by rw [Ju,PyData.canLayAll0,zbq r];rfl
theorem kW:∀ xs:List Int,PyData.depthAll [296]≤1
 | []=>by simp [PyData.depthAll]
 | x::r=>by
  have:=kW r
  rw [Ju,PyData.depthAll,PyData.depth]
  omega
@[simp] theorem zeN{xs:List Int}:kU (.lst [52])=true:=by
 have h1:=kW xs
 have h2:PyData.depth (.list [296])≤64:=by rw [PyData.depth];omega
 simp only [kU,kM,kL,vC,vP,PyData.canLay0,zbq,h2,decide_true,Bool.and_self]
@[simp] theorem zpi{xs:List Int}:kU (.tup [52])=true:=by
 have h1:=kW xs
 have h2:PyData.depth (.tuple [296])≤64:=by rw [PyData.depth];omega
 simp only [kU,kM,kL,vC,vP,PyData.canLay0,zbq,h2,decide_true,Bool.and_self]
@[simp] theorem zha{xs ys:List Int}:eqP (.lst [52]) (.lst (ys.map PV.int))=decide (xs=ys):=by
 simp only [eqP,vC,vP,PyData.eqv,jc]
@[simp] theorem zpD{xs ys:List Int}:eqP (.tup [52]) (.tup (ys.map PV.int))=decide (xs=ys):=by
 simp only [eqP,vC,vP,PyData.eqv,jc]
theorem znR{xs ys:List Int}:vEq (.lst [52]) (.lst (ys.map PV.int))=some (.bl (decide (xs=ys))):=by simp only [vEq,zeN,zha];rfl
theorem zjS{xs ys:List Int}:vNe (.lst [52]) (.lst (ys.map PV.int))=some (.bl (!decide (xs=ys))):=by simp only [vNe,zeN,zha];rfl
theorem znQ{xs:List Int}:vEq (.lst [52]) (.lst [])=some (.bl (decide (xs=[]))):=znR (ys:=[])
theorem zpn(xs:List Int):zeU [52] none (some 1)=(xs.take 1).map PV.int:=by
 unfold zeU HT.sIx
 cases xs with
 | nil=>rfl
 | cons x r=>simp
end F
namespace F
open PySem PySem.Spec PyProof.Rows L2
theorem zct{K:PySem.W.Frag}{H:Hp}:∀ ns:List Int,Rps K H [145] [63] []
 | []=>.nil
 | n::ns=>by
  have:=Rps.cons (K:=K) (H:=H) (Rp.mkI n) (zct ns)
  exact this
theorem znF{K:PySem.W.Frag}{Φ:List PV->Option PV}{H:Hp}{a:Addr}{ns:List Int}(ho:zmv H)(hs:SqL K H a [63])(h:Φ [.fls [145]]=some [324]):spV K 1 Φ [.ref a] H (fun v _=>v=.bl true) (fun _ _ _=>False):=by
 have fz:Fz K H a [63]:=by
  rcases hs with (hs | hs) | hs
  ·rcases ho a with z | ⟨o,xs,z⟩
   ·rw [hs] at z;cases z
   ·rw [hs] at z;cases z
  ·exact .inl hs
  ·exact .inr hs
 refine ⟨[.fls [145]],[],.bl true,Rps.one (by unfold Rp;exact ⟨a,_,rfl,fz,zct ns⟩),rfl,h,fun v H' C _ r _ _=>r.B.1⟩
end F
namespace F
open PySem L2
section
variable {env:En} {f fk:FE} {fs:FA}
@[simp] theorem zmt:zgY fs env=(fs env).bind fun ps=>if ps.length≤100000 then some (.lst ps) else none:=rfl
@[simp] theorem zkW:zif fs env=(fs env).bind fun ps=>match ps with | [p,q]=>(vA p).bind fun xs=>(vA q).bind fun ys=>some ((List.zip xs ys).map fun z=>PV.tup [z.1,z.2]) | _=>none:=rfl
end
noncomputable def dF(L:List Int)(G:Int->PV):PV:=.dct [127] (L.map G)
section
variable {L:List Int} {G:Int->PV} {p:Int} {q x:PV}
@[simp] theorem zqw:vIn (.int p) [232]=some (decide (p ∈ L)):=by simp only [dF,vIn,ua]
@[simp] theorem zqe:vIn .non [232]=some false:=rfl
@[simp] theorem znE:xQ [dF L G]=some (.int L.length):=by simp [dF]
theorem zdA(h:p ∈ L):u6 [127] (L.map G) (.inl p)=some (G p):=by
 unfold u6
 induction L with
 | nil=>cases h
 | cons a r ih=>
  rw [Ju,Ju,Ka,Kt]
  by_cases e:a=p
  ·subst e;simp
  ·have:decide ((((Sum.inl a:Key),G a):Key × PV).1=Sum.inl p)=false:=decide_eq_false fun z=>e (Sum.inl.inj z)
   rw [this]
   exact ih ((Kl.mp h).resolve_left fun z=>e z.symm)
theorem zcK(h:p ∉ L):u6 [127] (L.map G) (.inl p)=none:=by
 unfold u6
 induction L with
 | nil=>rfl
 | cons a r ih=>
  rw [Ju,Ju,Ka,Kt]
  have e:¬ a=p:=fun z=>h (z ▸ Jf)
  have:decide ((((Sum.inl a:Key),G a):Key × PV).1=Sum.inl p)=false:=decide_eq_false fun z=>e (Sum.inl.inj z)
  rw [this]
  exact ih fun z=>h (Jg _ z)
theorem vo(h:p ∈ L):vIx [232] (.int p)=some (G p):=zdA h
noncomputable def jh(L:List Int)(G:Int->PV):Prop:=∀ p ∈ L,z0 (G p)=true
theorem zeQ(h:jh L G):isDatas (L.map G)=true:=by
 rw [vp]
 intro y hy
 obtain ⟨a,ha,rfl⟩:=Jx.mp hy
 exact h a ha
theorem znO(hd:jh L G)(hx:z0 x=true):zlm [232] (.int p) x=some (if p ∈ L then G p else x):=by
 simp only [dF,zlm,zeQ hd,hx,Bool.and_self,if_true,vZ,Option.map_some]
 by_cases h:p ∈ L
 ·rw [if_pos h,zdA h];rfl
 ·rw [if_neg h,zcK h];rfl
noncomputable def upF(G:Int->PV)(p:Int)(q:PV):Int->PV:=fun y=>if y=p then q else G y
@[simp] theorem upF_self:upF G p q p=q:=if_pos rfl
theorem v7{y:Int}(h:y≠p):upF G p q y=G y:=if_neg h
theorem qU(hd:jh L G)(hq:z0 q=true)(hl:L.length<100000):zdP [232] (.int p) q=some (dF (if p ∈ L then L else L++[p]) (upF G p q)):=by
 simp only [dF,zdP,zeQ hd,hq,List.length_map,hl,decide_true,Bool.and_self,if_true]
 unfold wv
 rw [ua]
 by_cases h:p ∈ L
 ·rw [decide_eq_true h,if_pos rfl,if_pos h]
  congr 2
  clear h hl hd
  induction L with
  | nil=>rfl
  | cons a r ih=>
   simp only [List.map_cons,List.zipWith_cons_cons,ih]
   congr 1
   unfold upF
   by_cases e:a=p
   ·simp [e]
   ·simp [e]
 ·rw [decide_eq_false h,if_neg Je,if_neg h]
  simp only [List.map_append,List.map_cons,List.map_nil,upF_self]
  congr 3
  exact KL fun a ha=>(v7 (show a≠p from fun z=>h (by rw [← z];exact ha))).symm
end
@[simp] theorem zqo(G:Int->PV):PV.dct [] []=dF [] G:=rfl
noncomputable def okB(d:Nat)(p:PV):Prop:=kM p=true/\(vC p).canLay0=true/\(vC p).depth≤d
theorem okB.ok{d:Nat}{p:PV}(h:okB d p)(hd:d≤64):kU p=true:=by
 have h3:(vC p).depth≤64:=JN h.2.2 hd
 simp [kU,h.1,h.2.1,h3]
theorem zjQ(b:Bool):okB 0 (.bl b):=⟨rfl,rfl,by simp [vC,PyData.depth]⟩
theorem zlV{x:Str}(h:PyData.canLay0 (.str x)=true):okB 0 (.str x):=⟨rfl,h,by simp [vC,PyData.depth]⟩
section
variable {b:PV->En->Option En} {g:FS} {t:FT} {f:FE}
theorem yk{α:Type}{xs:List α}{hh:α->PV}{env:En}(P:List α->En->Prop)(h0:P [] env)
  (step:∀ pre a post e,xs=pre++a::post->P pre e->∃ e1 e2,b (hh a) e=some e1/\(g e1=some (.nx e2)∨g e1=some (.ct e2))/\P (pre++[a]) e2):∃ e,wD b g (xs.map hh) env=some (.nx e)/\P xs e:=by
 have go:∀ (post pre:List α) (e:En),xs=pre++post->P pre e->∃ e',wD b g (post.map hh) e=some (.nx e')/\P xs e':=by
  intro post
  induction post with
  | nil=>intro pre e hp h;exact ⟨e,rfl,by rw [hp,JO];exact h⟩
  | cons p post ih=>
   intro pre e hp h
   obtain ⟨e1,e2,h1,h2,h3⟩:=step pre p post e hp h
   obtain ⟨e',h4,h5⟩:=ih (pre++[p]) e2 (by rw [hp,JZ];rfl) h3
   refine ⟨e',?_,h5⟩
   rw [Ju]
   unfold wD
   rw [h1,Jb]
   rcases h2 with h2 | h2<;>(rw [h2,Option.bind_some];exact h4)
 exact go xs [] env rfl h0
theorem zeH{α:Type}{hh:α->PV}(c:α->Bool)(W:α->PV)(P:En->Prop):∀ (xs:List α) (env:En),P env->
  (∀ a ∈ xs,∀ e,P e->∃ e1,b (hh a) e=some e1/\(c a=true->∃ e2,g e1=some (.rt (W a) e2))/\(c a=false->∃ e2,g e1=some (.nx e2)/\P e2))->
  match xs.find? c with
  | some a=>∃ e,wD b g (xs.map hh) env=some (.rt (W a) e)
  | none=>∃ e,wD b g (xs.map hh) env=some (.nx e)/\P e
 | [],env,h,_=>⟨env,rfl,h⟩
 | a::xs,env,h,step=>by
  obtain ⟨e1,h1,h2,h3⟩:=step a Jf env h
  rw [Kt]
  cases hc:c a with
  | true=>
   obtain ⟨e2,h4⟩:=h2 hc
   refine ⟨e2,?_⟩
   rw [Ju]
   unfold wD
   rw [h1,Jb,h4];rfl
  | false=>
   obtain ⟨e2,h4,h5⟩:=h3 hc
   have ih:=zeH c W P xs e2 h5 fun a ha=>step a (Jg _ ha)
   have e:wD b g ((a::xs).map hh) env=wD b g (xs.map hh) e2:=by
    rw [Ju]
    conv=>lhs;unfold wD
    rw [h1,Jb,h4];rfl
   rw [e]
   exact ih
theorem xY{α:Type}{env:En}{hh:α->PV}(W:α->PV):∀ (xs:List α),(∀ a ∈ xs,∃ e,b (hh a) env=some e/\t e=some true/\f e=some (W a))->ym b t f (xs.map hh) env=some (xs.map W)
 | [],_=>rfl
 | a::xs,h=>by
  obtain ⟨e,h1,h2,h3⟩:=h a Jf
  have ih:=xY W xs fun q hq=>h q (Jg _ hq)
  rw [Ju]
  unfold ym
  rw [h1,Jb,h2,Jb,ih,if_pos rfl,h3,Jb];rfl
theorem qp{α:Type}{env:En}{hh:α->PV}(T:α->Bool)(W:α->PV):∀ (xs:List α),(∀ a ∈ xs,∃ e,b (hh a) env=some e/\t e=some (T a)/\(T a=true->f e=some (W a)))->ym b t f (xs.map hh) env=some ((xs.filter T).map W)
 | [],_=>rfl
 | a::xs,h=>by
  obtain ⟨e,h1,h2,h3⟩:=h a Jf
  have ih:=qp T W xs fun q hq=>h q (Jg _ hq)
  rw [Ju]
  unfold ym
  rw [h1,Jb,h2,Jb,ih]
  cases hT:T a with
  | true=>rw [if_pos rfl,h3 hT,Jb,Kz,if_pos hT];rfl
  | false=>rw [if_neg Je,Kz,if_neg (by rw [hT];exact Je)]
end
theorem zd{fs:FA}{env:En}{i:Nat}{as:List PV}{p:PV}{Φ:List PV->Option PV}(h:fs env=some as)(h2:Φ as=some p):zh i (zJ Φ fs) env=some (.nx [110]):=by
 rw [zbY,zdJ,h,Jb,h2];rfl
theorem zg{fs:FA}{env:En}{as:List PV}{p:PV}{Φ:List PV->Option PV}(h:fs env=some as)(h2:Φ as=some p):zJ Φ fs env=some p:=by
 rw [zdJ,h,Jb,h2]
theorem yT{m:Nat}{g:FS}{ps:List PV}{p:PV}{e:En}(env:En)(he:ps.map some++List.replicate (m - ps.length) none=env)(h:g env=some (.rt p e)):fnV m g ps=some p:=by
 unfold fnV;rw [he,h];rfl
theorem zas{fs:FA}{env:En}{j:Int}(h:fs env=some [.int j])(h1 : -1000000≤j)(h2:j≤1000000):xl fs env=some (uG 0 j.toNat):=by
 have hj:j<4611686018427387904/\-4611686018427387904≤j:=by omega
 unfold xl
 rw [h,Jb]
 simp [hj]
theorem zmf{n k:Nat}(h:k<n):ixN n (k:Int)=some k:=by
 unfold ixN
 rw [if_pos [12],if_pos [12]];rfl
theorem atI_nat{α:Type}{l:List α}{k:Nat}(h:k<l.length):atI l (k:Int)=some l[k]:=by
 rw [wq [12] [12]]
 simp [h]
end F
namespace CB
variable {F:List Int} {d:Int} {stop:Int->Bool} {pre:List Int} {ps:List [46]} {f:Int}
theorem Runs.next(r:Runs0 F d stop pre ps)(nf:f ∉ pre){a:Nat}{x:Int × Nat}(ha:ps[a]?=some x)(hc:f - d ∈ zw d x.1 x.2):f=x.1+x.2 * d:=by
 obtain ⟨i,hi,e⟩:=mem_chain.mp hc
 by_cases h:i+1<x.2
 ·have:=(r.inn _ (JU ha) (i+1) h).1
  rw [zaO] at this
  exact absurd (by rwa [show f=x.1+(i * d+d) by omega]) nf
 ·have:x.2=i+1:=by omega
  rw [this,zaO];omega
theorem Runs.len(r:Runs0 F d stop pre ps):ps.length≤pre.length:=by
 have:=congrArg List.length r.heads
 rw [Jh] at this
 rw [this]
 exact JR _ _
theorem Runs.len0(r:Runs0 F d stop pre ps)(hd:0<d){a:Nat}{x:Int × Nat}(ha:ps[a]?=some x):x.2≤pre.length:=by
 have:=zL (zw d x.1 x.2) pre (wp hd _ _) fun y hy=>by
  obtain ⟨i,hi,rfl⟩:=mem_chain.mp hy
  exact (r.inn x (JU ha) i hi).1
 rwa [yX] at this
end CB
namespace Cb
open PySem L2 F CB PyProof.Rows
noncomputable def qH:FS:=(wC (fT (fOp wT (zA 5) (zA 3))) (zX (vq 3 (zA 4) [241])
 (zfV 2 [242] (jq (zu (zA 4))))) (zX (vq 3 (zA 4) (zJ xQ [82]))
 (zb 2 (xI (zC (zu (zA 4)) zI)))))
noncomputable def zfR:FS:=(zX (zh 2 (xI zI))
 (zX (zh 3 jb)
 (zX (yx (zif [59]) (u9 2 (yO (zN 4) (yO (zN 5) jA))) qH)
 (yY (fLC (zf (zA 2)) 1 [] (zN 0) vg (zJ kB [38]))))))
noncomputable def ue:List PV->Option PV:=fnV 6 zfR
noncomputable def vD:FS:=(yY (fIf (fT (fOp vEq (fOp xc (zA 1) [165]) [25])) (fC .non) (fOp wI (zA 1) [20])))
noncomputable def xF:List PV->Option PV:=fnV 2 vD
noncomputable def kO:FS:=(yY (zJ ue (zC [91] (zC (fLC (zf [91]) 1 [0] (zN 0) vg (zJ xF (zC (zA 1) [38]))) zI))))
noncomputable def wo:List PV->Option PV:=fnV 1 kO
noncomputable def uL:FS:=(yY (fOp wI (zA 1) [165]))
noncomputable def xL:List PV->Option PV:=fnV 2 uL
noncomputable def uM:FS:=(yY (zJ ue (zC [91] (zC (fLC (zf [91]) 1 [0] (zN 0) vg (zJ xL (zC (zA 1) [38]))) zI))))
noncomputable def xM:List PV->Option PV:=fnV 1 uM
noncomputable def zby:FS:=(zX (zh 1 (fLC (zf (zJ wo [38])) 1 [] (zN 0) vg (xW (zC (fC (.str "row")) (zC [101] zI)))))
 (zX (zh 2 (fLC (zf (zJ xM [38])) 1 [] (zN 0) vg (xW (zC (fC (.str "column")) (zC [101] zI)))))
 (yY (fOp yE (zA 1) (zA 2)))))
noncomputable def zY:List PV->Option PV:=fnV 3 zby
noncomputable def uS:FS:=(vq 1 (zA 4) (fOp yE (zmn (zA 1) (zA 4) (xW zI)) (xW [82])))
noncomputable def uR:FS:=(yx (zf (fOp vIx (zA 3) [20])) (zN 4) uS)
noncomputable def jW:FS:=(zX (zh 1 jb)
 (zX (yx (zbG [111]) (u9 2 (yO (zN 2) (yO (zN 3) jA))) uR)
 (yY (zA 1))))
noncomputable def zq:List PV->Option PV:=fnV 5 jW
noncomputable def yp(d:Int)(stop:Int->Bool)(f:Int):PV:=if stop f=true then .non else .int (f - d)
noncomputable def xh(d:Int)(x:Int × Nat):PV:=.lst ((zw d x.1 x.2).map PV.int)
noncomputable def zdc(d:Int)(x:Int × Nat):PV:=.tup ((zw d x.1 x.2).map PV.int)
theorem zgz{F:List Int}{d:Int}{stop:Int->Bool}(hd:0<d)(rise:F.Pairwise (·<·))(hl:F.length≤1000):
  ∃ ps,ue [.tup [41],.lst (F.map (yp d stop))]=some (.lst (ps.map (zdc d)))/\Runs F d stop F ps:=by
 let mk:List (Int × Nat)->List Int->(Int->PV)->Option PV->Option PV->En:=fun ps pre G x y=>[some [128],some (.lst (F.map (yp d stop))),some (.lst [283]),some (dF pre G),x,y]
 obtain ⟨e,h1,ps,G,x,y,rfl,hr,hG⟩:=yk (b:=u9 2 (yO (zN 4) (yO (zN 5) jA))) (g:=qH) (xs:=F) (hh:=fun f=>PV.tup [.int f,yp d stop f]) (env:=mk [] [] [243] none none)
  (fun pre e=>∃ ps G x y,e=mk ps pre G x y/\Runs F d stop pre ps/\∀ f ∈ pre,∃ (k:Nat) (z:Int × Nat),G f=.int k/\ps[k]?=some z/\f ∈ zw d z.1 z.2)
  ⟨[],_,none,none,rfl,.nil,by simp⟩ (by
   rintro pre f post e hF ⟨ps,G,x,y,rfl,r,hG⟩
   have sub:∀ p ∈ pre,p ∈ F:=fun p hp=>by rw [hF];exact Jj _ hp
   have lt:∀ p ∈ pre,p<f:=fun p hp=>by
    rw [hF,JW] at rise
    exact rise.2.2 p hp f Jf
   have gt:∀ p ∈ F,p<f->p ∈ pre:=fun p hp h=>by
    rw [hF,JW] at rise
    rw [hF] at hp
    rcases List.mem_append.mp hp with hp | hp
    ·exact hp
    ·rcases List.mem_cons.mp hp with rfl | hp
     ·omega
     ·have:=(JX.mp rise.2.1).1 p hp;omega
   have nf:f ∉ pre:=fun h=>by have:=lt f h;omega
   have nd:pre.Nodup:=by
    rw [hF,JW] at rise
    exact yF rise.1
   have hD:jh pre G:=fun p hp=>by obtain ⟨k,z,e,_⟩:=hG p hp;rw [e];rfl
   have hpl:pre.length<1000:=by rw [hF,Jl,JF] at hl;omega
   have hpsl:=Runs.len r.toRuns0
   refine ⟨mk ps pre G [30] [183],?_⟩
   by_cases hin:stop f=false/\f - d ∈ pre
   ·-- it goes on
    obtain ⟨hs,hp⟩:=hin
    obtain ⟨k,z,e1,e2,e3⟩:=hG _ hp
    have hz:=Runs.next r.toRuns0 nf e2 e3
    have hst:zk F d stop f=false:=by simp [zk,hs,sub _ hp]
    obtain ⟨kl,kz⟩:=Jv.mp e2
    refine ⟨mk (ps.set k (z.1,z.2+1)) (pre++[f]) (upF G f [308]) [30] [183],by simp [u9,yO,jA,mk],.inl ?_,_,_,_,_,rfl,r.ext hd sub nd lt hst e2 hz,?_⟩
    ·have ha:yp d stop f=.int (f - d):=by simp [yp,hs]
     have hput:=qU (p:=f) (q:=.int k) hD rfl (show pre.length<100000 by omega)
     rw [if_neg nf] at hput
     have hzl:z.2≤1000:=by
      have h1:=Runs.len0 r.toRuns0 hd e2
      omega
     have hset:(ps.set k (z.1,z.2+1)).map (xh d)=[283].set k (.lst ((zw d z.1 z.2).map PV.int++[.int f])):=by
      rw [List.map_set]
      congr 1
      simp [xh,xz,← hz]
     have ht:fT (fOp wT (zA 5) (zA 3)) (mk ps pre G [30] [183])=some true:=by simp [mk,ha,hp]
     unfold qH
     rw [yB,ht,Jb,if_pos rfl]
     rw [zG (e:=mk ps (pre++[f]) (upF G f [308]) [30] [183]) (by simp [mk,vq,ha,vo hp,e1,hput])]
     have hk:ixN [283].length (k:Int)=some k:=zmf (by simpa using kl)
     have hg:[283][k]?=some (.lst ((zw d z.1 z.2).map PV.int)):=by simp [kl,kz,xh]
     have hi:fOp vIx (zA 3) (zA 4) (mk ps (pre++[f]) (upF G f [308]) [30] [183])=some [308]:=by simp [mk,vo (L:=pre++[f]) (p:=f)]
     unfold zfV
     rw [hi]
     have hv:zA 2 (mk ps (pre++[f]) (upF G f [308]) [30] [183])=some (.lst [283]):=rfl
     rw [hv,Jb,Jb]
     simp only [k6,Option.bind_some,hk,hg]
     simp only [jq,mk,zdI,wz,List.getElem?_cons_succ,List.getElem?_cons_zero,Option.join_some,Option.bind_some,zeS,if_true,List.length_map,yX,show z.2<100000 by omega,Option.map_some,hset]
     rfl
    ·intro p hp'
     rcases List.mem_append.mp hp' with hp' | hp'
     ·obtain ⟨k',z',f1,f2,f3⟩:=hG p hp'
      refine ⟨k',if k'=k then (z.1,z.2+1) else z',by rw [v7 (show p≠f from fun h=>nf (by rw [← h];exact hp'))];exact f1,?_,?_⟩
      ·rw [Kb]
       by_cases hk:k=k'
       ·subst hk;simp [kl]
       ·rw [if_neg hk,if_neg (fun h=>hk h.symm)];exact f2
      ·split
       ·rename_i hk
        subst hk
        rw [e2] at f2;cases f2
        simp only [xz]
        exact Jj _ f3
       ·exact f3
     ·rw [Jc.mp hp']
      refine ⟨k,(z.1,z.2+1),upF_self,by rw [Kb,if_pos rfl,if_pos kl],?_⟩
      simp only [xz,← hz];simp
   ·have hst:zk F d stop f=true:=by
     by_cases hs:stop f=false
     ·have:f - d ∉ F:=fun h=>hin ⟨hs,gt _ h [12]⟩
      simp [zk,this]
     ·simp [zk,hs]
    refine ⟨mk (ps++[(f,1)]) (pre++[f]) (upF G f (.int ps.length)) [30] [183],by simp [u9,yO,jA,mk],.inl ?_,_,_,_,_,rfl,r.new hd sub lt hst,?_⟩
    ·have hput:=qU (p:=f) (q:=.int ps.length) hD rfl (show pre.length<100000 by omega)
     rw [if_neg nf] at hput
     have hno:vIn (yp d stop f) (dF pre G)=some false:=by
      unfold yp
      by_cases hs:stop f=true
      ·rw [if_pos hs];rfl
      ·rw [if_neg hs]
       have:f - d ∉ pre:=fun h=>hin ⟨by simpa using hs,h⟩
       simp [this]
     have hap:[283]++[.lst [.int f]]=(ps++[(f,1)]).map (xh d):=by simp [xh,zay]
     unfold qH
     simp [mk,hno,vq,hput,zb,show ps.length<100000 by omega,hap]
    ·intro p hp'
     rcases List.mem_append.mp hp' with hp' | hp'
     ·obtain ⟨k',z',f1,f2,f3⟩:=hG p hp'
      exact ⟨k',z',by rw [v7 (show p≠f from fun h=>nf (by rw [← h];exact hp'))];exact f1,by rw [KF (Jv.mp f2).1];exact f2,f3⟩
     ·rw [Jc.mp hp']
      exact ⟨ps.length,(f,1),upF_self,by simp,by simp [zay]⟩)
 refine ⟨ps,?_,hr⟩
 have hz:(List.zip [41] (F.map (yp d stop))).map (fun z=>PV.tup [z.1,z.2])=F.map fun f=>PV.tup [.int f,yp d stop f]:=by
  rw [List.zip_map',Kj];rfl
 have hpl:=Runs.len hr.toRuns0
 have hc:ym (zN 0) vg (zJ kB [38]) [283] [none]=some (ps.map (zdc d)):=xY _ _ fun a _=>⟨_,rfl,rfl,by simp [xh,zdc]⟩
 unfold ue fnV zfR
 rw [zG (e:=[some [128],some (.lst (F.map (yp d stop))),some (.lst []),none,none,none]) [19]]
 rw [zG (e:=mk [] [] [243] none none) (by simp [mk];rfl)]
 rw [zG (e:=mk ps F G x y) (by rw [yJ,zkW];simp only [mk,zS,wz,zgg];simp [hz];exact h1)]
 simp [mk,show ps.length≤100000 by omega,cE,hc]
noncomputable abbrev flV(w h:Int)(F:List Int):PV:=.tup [.int w,.int h,.tup [41]]
noncomputable def yV(w:Int)(f:Int):Bool:=decide (f % w=0)
noncomputable def xq(_:Int):Bool:=false
theorem yW{w h:Int}{F:List Int}(fl:IsFloor w h F):F.length≤36:=by
 have h1:=fl.h1
 have wh:w * h≤6 * 6:=Int.mul_le_mul fl.w6 fl.h6 [12] [12]
 have:=zL F [279] (yF fl.rise) fun p hp=>mem_places.mpr (fl.inn p hp)
 simp [zj] at this
 omega
theorem zec{w h:Int}{F:List Int}(fl:IsFloor w h F):∃ ps,wo [flV w h F]=some (.lst (ps.map (zdc 1)))/\Runs F 1 (yV w) F ps:=by
 have hl:=yW fl
 obtain ⟨ps,h1,h2⟩:=zgz (d:=1) (stop:=yV w) [10] fl.rise [12]
 refine ⟨ps,?_,h2⟩
 have hw:0<w:=by have:=fl.w1;omega
 have hc:ym (zN 0) vg (zJ xF (zC (zA 1) [38])) [41] [none,some [32]]=some (F.map (yp 1 (yV w))):=xY _ _ fun a _=>⟨_,rfl,rfl,by
  by_cases hz:a % w=0
  ·simp [xF,fnV,vD,yj hw,hz,yp,yV]
  ·simp [xF,fnV,vD,yj hw,hz,yp,yV]⟩
 simp [wo,fnV,kO,show F.length≤100000 by omega,cE,hc,h1]
theorem zbT{w h:Int}{F:List Int}(fl:IsFloor w h F):∃ ps,xM [flV w h F]=some (.lst (ps.map (zdc w)))/\Runs F w xq F ps:=by
 have hl:=yW fl
 have hw:0<w:=by have:=fl.w1;omega
 obtain ⟨ps,h1,h2⟩:=zgz (d:=w) (stop:=xq) hw fl.rise [12]
 refine ⟨ps,?_,h2⟩
 have hc:ym (zN 0) vg (zJ xL (zC (zA 1) [38])) [41] [none,some [32]]=some (F.map (yp w xq)):=xY _ _ fun a _=>⟨_,rfl,rfl,by
  simp [xL,fnV,uL,yp,xq]⟩
 simp [xM,fnV,uM,show F.length≤100000 by omega,cE,hc,h1]
theorem zbK(d:Int)(x:Int × Nat):z0 (zdc d x)=true:=by simp [zdc]
noncomputable def zO(w:Int)(rs cs:List [46]):List [42]:=rs.map (fun x=>zw 1 x.1 x.2)++cs.map (fun x=>zw w x.1 x.2)
noncomputable def zn(z:Str × List Int):PV:=.tup [.str z.1,.tup (z.2.map PV.int)]
noncomputable def vf(w:Int)(rs cs:List [46]):List (Str × List Int):=rs.map (fun x=>(Str.ofString "row",zw 1 x.1 x.2))++cs.map (fun x=>(Str.ofString "column",zw w x.1 x.2))
theorem ziZ(w:Int)(rs cs:List [46]):(vf w rs cs).map (·.2)=zO w rs cs:=by simp [vf,zO,List.map_map,Function.comp_def]
structure Strips (w h:Int) (F:List Int) (rs cs:List [46]):Prop where
 fl:IsFloor w h F
 rows:Runs F 1 (yV w) F rs
 cols:Runs F w xq F cs
theorem zhE{w h:Int}{F:List Int}(fl:IsFloor w h F):∃ rs cs,zY [flV w h F]=some [48]/\Strips w h F rs cs:=by
 obtain ⟨rs,h1,r1⟩:=zec fl
 obtain ⟨cs,h2,r2⟩:=zbT fl
 refine ⟨rs,cs,?_,fl,r1,r2⟩
 have hl:=yW fl
 have l1:=Runs.len r1.toRuns0
 have l2:=Runs.len r2.toRuns0
 have c1:ym (zN 0) vg (xW (zC (fC (.str "row")) (zC [101] zI))) (rs.map (zdc 1)) [none]=some [155]:=xY _ _ fun a _=>⟨_,rfl,rfl,by simp [zbK,zn];rfl⟩
 have c2:ym (zN 0) vg (xW (zC (fC (.str "column")) (zC [101] zI))) (cs.map (zdc w)) [none]=some [236]:=xY _ _ fun a _=>⟨_,rfl,rfl,by simp [zbK,zn];rfl⟩
 unfold zY fnV zby
 rw [zG (e:=[some [32],some (.lst [155]),none]) (by simp [h1,show rs.length≤100000 by omega,cE,c1])]
 rw [zG (e:=[some [32],some (.lst [155]),some (.lst [236])]) (by simp [h2,show cs.length≤100000 by omega,cE,c2])]
 have e:(vf w rs cs).map zn=[155]++[236]:=by simp [vf,List.map_map,Function.comp_def]
 rw [e]
 have d1:isDatas (rs.map fun x=>zn (Str.ofString "row",zw 1 x.1 x.2))=true:=wA _ (fun x=>by simp [zn]) rs
 have d2:isDatas (cs.map fun x=>zn (Str.ofString "column",zw w x.1 x.2))=true:=wA _ (fun x=>by simp [zn]) cs
 simp [yE,d1,d2,show rs.length+cs.length≤100000 by omega]
noncomputable def idx(ls:List [42])(f:Int):List Nat:=(List.range ls.length).filter fun k=>decide (f ∈ (ls[k]?).getD [])
theorem zkr(ls:List [42])(z:List Int)(f:Int):idx (ls++[z]) f=idx ls f++(if f ∈ z then [ls.length] else []):=by
 unfold idx
 rw [Jl,Ko,List.range_succ,Kq]
 congr 1
 ·refine List.filter_congr fun k hk=>?_
  have:=JQ.mp hk
  rw [KF this]
 ·by_cases h:f ∈ z<;>simp [h]
theorem zbE{n k:Nat}{p:Nat->Bool}(hk:k<n)(h:∀ j,j<n->(p j=true ↔ j=k)):[133].filter p=[k]:=by
 have e:[133].filter p=[133].filter (· == k):=List.filter_congr fun j hj=>by
  rw [Bool.eq_iff_iff,h j (List.mem_range.mp hj)];simp
 rw [e,List.filter_beq,List.nodup_range.count,if_pos (JQ.mpr hk)];rfl
theorem zgS{A B:List [42]}{f:Int}{r c:Nat}(hr:r<A.length)(hc:c<B.length)(h1:∀ j,j<A.length->(f ∈ (A[j]?).getD [] ↔ j=r))(h2:∀ j,j<B.length->(f ∈ (B[j]?).getD [] ↔ j=c)):idx (A++B) f=[r,A.length+c]:=by
 unfold idx
 rw [Jl,List.range_add,Kq,List.filter_map]
 have e1:(List.range A.length).filter (fun k=>decide (f ∈ ((A++B)[k]?).getD []))=[r]:=zbE hr fun j hj=>by
  rw [KF hj,decide_eq_true_eq];exact h1 j hj
 have e2:(List.range B.length).filter ((fun k=>decide (f ∈ ((A++B)[k]?).getD [])) ∘ fun x=>A.length+x)=[c]:=zbE hc fun j hj=>by
  simp only [Function.comp_apply,decide_eq_true_eq]
  rw [Qb (Nat.le_add_right _ _),Nat.add_sub_cancel_left]
  exact h2 j hj
 rw [e1,e2];rfl
theorem Strips.pair{w h:Int}{F:List Int}{rs cs:List [46]}(S:Strips w h F rs cs){f:Int}(hf:f ∈ F):∃ r c:Nat,idx [14] f=[r,c]/\r<rs.length/\rs.length≤c/\c<rs.length+cs.length:=by
 have nd:=yF S.fl.rise
 obtain ⟨r,hr,h1⟩:=Runs.one S.rows (fun _ h=>h) nd hf
 obtain ⟨c,hc,h2⟩:=Runs.one S.cols (fun _ h=>h) nd hf
 refine ⟨r,rs.length+c,?_,hr,by omega,by omega⟩
 have:=zgS (A:=rs.map fun x=>zw 1 x.1 x.2) (B:=cs.map fun x=>zw w x.1 x.2) (f:=f) (r:=r) (c:=c) (by simpa using hr) (by simpa using hc)
  (fun j hj=>by
   have hj':j<rs.length:=by simpa using hj
   rw [Ji hj,List.getElem_map]
   exact h1 j _ (Ji hj'))
  (fun j hj=>by
   have hj':j<cs.length:=by simpa using hj
   rw [Ji hj,List.getElem_map]
   exact h2 j _ (Ji hj'))
 rw [Jh] at this
 exact this
theorem Strips.sub{w h:Int}{F:List Int}{rs cs:List [46]}(S:Strips w h F rs cs){z:List Int}(hz:z ∈ zO w rs cs):z.Nodup/\∀ f ∈ z,f ∈ F:=by
 unfold zO at hz
 rcases List.mem_append.mp hz with hz | hz
 ·obtain ⟨x,hx,rfl⟩:=Jx.mp hz
  exact ⟨wp [10] _ _,fun f hf=>by obtain ⟨i,hi,rfl⟩:=mem_chain.mp hf;exact (S.rows.inn x hx i hi).1⟩
 ·obtain ⟨x,hx,rfl⟩:=Jx.mp hz
  exact ⟨wp (by have:=S.fl.w1;omega) _ _,fun f hf=>by obtain ⟨i,hi,rfl⟩:=mem_chain.mp hf;exact (S.cols.inn x hx i hi).1⟩
noncomputable def kX(ls:List [42])(f:Int):PV:=.tup ((idx ls f).map fun (k:Nat)=>PV.int k)
theorem ql(l:List Nat):isDatas (l.map fun (k:Nat)=>PV.int k)=true:=wA _ (fun _=>rfl) l
theorem zdB{src:PV}{zs:List (Str × List Int)}{F:List Int}(hs:zY [src]=some (.lst (zs.map zn)))(hz:∀ z ∈ zs,z.2.Nodup/\∀ f ∈ z.2,f ∈ F)(hF:F.Nodup)(hl:F.length≤1000)(hzl:zs.length≤1000):
  ∃ L G,zq [src]=some [232]/\(∀ f,f ∈ L ↔ ∃ z ∈ zs,f ∈ z.2)/\∀ f ∈ L,G f=kX (zs.map (·.2)) f:=by
 let mk:List Int->(Int->PV)->Option PV->Option PV->Option PV->En:=fun L G x y z=>[some src,some [232],x,y,z]
 obtain ⟨e,h1,L,G,x,y,z,rfl,nd,mm,hG⟩:=yk (b:=u9 2 (yO (zN 2) (yO (zN 3) jA))) (g:=uR) (xs:=zs.zipIdx) (hh:=fun z=>PV.tup [.int (z.2:Int),zn z.1]) (env:=mk [] [243] none none none)
  (fun pre e=>∃ L G x y z,e=mk L G x y z/\L.Nodup/\(∀ f,f ∈ L ↔ ∃ z ∈ pre.map (·.1),f ∈ z.2)/\∀ f ∈ L,G f=kX ((pre.map (·.1)).map (·.2)) f)
  ⟨[],_,none,none,none,rfl,.nil,by simp,by simp⟩ (by
   rintro pre ⟨a,n⟩ post e hpre ⟨L,G,x,y,z,rfl,nd,mm,hG⟩
   have hn:n=pre.length:=by
    have:=List.getElem?_zipIdx (l:=zs) (i:=0) (j:=pre.length)
    rw [hpre,Qb (Jm _),Nat.sub_self,List.getElem?_cons_zero] at this
    cases hq:zs[pre.length]? with
    | none=>rw [hq] at this;cases this
    | some q=>rw [hq] at this;simp at this;exact this.2
   have ha:a ∈ zs:=by
    have h:(a,n) ∈ zs.zipIdx:=by rw [hpre];simp
    have:=List.mem_map_of_mem (f:=Prod.fst) h
    rwa [Qg] at this
   have hpz:∀ z ∈ pre.map (·.1),z ∈ zs:=fun z hzz=>by
    obtain ⟨q,hq,rfl⟩:=Jx.mp hzz
    have h:q ∈ zs.zipIdx:=by rw [hpre];exact Jj _ hq
    have:=List.mem_map_of_mem (f:=Prod.fst) h
    rwa [Qg] at this
   obtain ⟨and,asub⟩:=hz a ha
   generalize hls:(pre.map (·.1)).map (·.2)=ls at hG
   have hln:ls.length=n:=by rw [← hls,hn];simp
   have mm0:∀ f,f ∈ L ↔ ∃ z ∈ ls,f ∈ z:=fun f=>by
    rw [mm f,← hls]
    exact ⟨fun ⟨z,h1,h2⟩=>⟨z.2,Jx.mpr ⟨z,h1,rfl⟩,h2⟩,fun ⟨z,h1,h2⟩=>by obtain ⟨q,hq,rfl⟩:=Jx.mp h1;exact ⟨q,hq,h2⟩⟩
   have lsub:∀ z ∈ ls,∀ f ∈ z,f ∈ F:=fun z hzz f hf=>by
    rw [← hls] at hzz
    obtain ⟨q,hq,rfl⟩:=Jx.mp hzz
    exact (hz q (hpz q hq)).2 f hf
   obtain ⟨e',g1,L',G',z',rfl,nd',mm',hG'⟩:=yk (b:=zN 4) (g:=uS) (xs:=a.2) (hh:=PV.int) (env:=mk L G [119] (some (zn a)) z)
    (fun q e=>∃ L G z,e=mk L G [119] (some (zn a)) z/\L.Nodup/\(∀ f,f ∈ L ↔ (∃ z ∈ ls,f ∈ z)∨f ∈ q)/\∀ f ∈ L,G f=.tup ((idx ls f++if f ∈ q then [n] else []).map fun (k:Nat)=>PV.int k))
    ⟨L,G,z,rfl,nd,by simpa using mm0,fun f hf=>by rw [hG f hf];simp [kX]⟩ (by
     rintro q f post e hq ⟨L,G,z,rfl,nd,mm,hG⟩
     have hfa:f ∈ a.2:=by rw [hq];simp
     have nfq:f ∉ q:=by
      rw [hq,Jw] at and
      exact fun h=>and.2.2 f h f Jf rfl
     have Lsub:∀ f ∈ L,f ∈ F:=fun g hg=>by
      rcases (mm g).mp hg with ⟨z,h1,h2⟩ | h
      ·exact lsub z h1 g h2
      ·exact asub g (by rw [hq];exact Jj _ h)
     have Ll:L.length≤1000:=JN (zL L F nd Lsub) hl
     have hD:jh L G:=fun p hp=>by rw [hG p hp];simp only [zeR,ql]
     have hget:=znO (p:=f) (x:=.tup []) hD rfl
     have hval:(if f ∈ L then G f else PV.tup [])=.tup ((idx ls f).map fun (k:Nat)=>PV.int k):=by
      by_cases h:f ∈ L
      ·rw [if_pos h,hG f h,if_neg nfq,JO]
      ·rw [if_neg h]
       have:idx ls f=[]:=by
        unfold idx
        rw [List.filter_eq_nil_iff]
        intro k hk hc
        have hk':=JQ.mp hk
        rw [decide_eq_true_eq,Ji hk'] at hc
        exact h ((mm f).mpr (.inl ⟨_,JP hk',hc⟩))
       rw [this];rfl
     rw [hval] at hget
     have hput:=qU (p:=f) (q:=.tup [228]) hD (by simp only [zeR,ql]) (show L.length<100000 by omega)
     refine ⟨mk L G [119] (some (zn a)) [30],mk (if f ∈ L then L else L++[f]) (upF G f (.tup [228])) [119] (some (zn a)) [30],rfl,.inl ?_,_,_,_,rfl,?_,?_,?_⟩
     ·have hil:(idx ls f).length≤ls.length:=by unfold idx;exact Nat.le_trans (List.length_filter_le _ _) [19]
      have hadd:yE (.tup ((idx ls f).map fun (k:Nat)=>PV.int k)) (.tup [.int n])=some (.tup [228]):=by
       have nl:n≤1000:=by
        have:=congrArg List.length hpre
        rw [List.length_zipIdx,Jl,JF] at this
        omega
       simp [yE,ql,show (idx ls f).length+1≤100000 by omega]
      unfold uS vq
      simp only [yP,zmn,mk,wz,jg,zS,zgg,List.getElem?_cons_succ,List.getElem?_cons_zero,Option.join_some,Option.bind_some,Option.map_some,hget,hadd,hput]
      rfl
     ·split
      ·exact nd
      ·rename_i h
       exact List.nodup_append.mpr ⟨nd,by simp,fun a ha b hb=>by rw [List.mem_singleton.mp hb];exact fun e=>h (e ▸ ha)⟩
     ·intro g
      rw [JB,Jc,← or_assoc,← mm g]
      split
      ·rename_i h
       exact ⟨.inl,fun z=>z.elim id fun e=>e ▸ h⟩
      ·rw [JB,Jc]
     ·intro g hg
      by_cases e:g=f
      ·subst e
       rw [upF_self,if_pos [19]]
      ·rw [v7 e,hG g (by
        split at hg
        ·exact hg
        ·exact (JB.mp hg).resolve_right fun z=>e (Jc.mp z))]
       have:(g ∈ q++[f]) ↔ g ∈ q:=by simp [e]
       simp only [this])
   refine ⟨mk L G [119] (some (zn a)) z,mk L' G' [119] (some (zn a)) z',by simp [u9,yO,jA,mk],.inl ?_,_,_,_,_,_,rfl,nd',?_,?_⟩
   ·unfold uR
    rw [yJ]
    have:zf (fOp vIx (zA 3) [20]) (mk L G [119] (some (zn a)) z)=some (a.2.map PV.int):=by simp [mk,zn]
    rw [this,Jb]
    exact g1
   ·intro f
    rw [mm' f,← hls]
    simp only [List.map_append,List.map_cons,List.map_nil,List.mem_append,List.mem_singleton,List.mem_map]
    constructor
    ·rintro (⟨z,⟨q,hq,rfl⟩,hf⟩ | hf)
     ·exact ⟨q,.inl hq,hf⟩
     ·exact ⟨a,.inr rfl,hf⟩
    ·rintro ⟨z,hz | rfl,hf⟩
     ·exact .inl ⟨z.2,⟨z,hz,rfl⟩,hf⟩
     ·exact .inr hf
   ·intro f hf
    rw [hG' f hf]
    simp only [List.map_append,List.map_cons,List.map_nil,kX]
    rw [hls,zkr,hln,JJ])
 refine ⟨L,G,?_,fun f=>?_,fun f hf=>?_⟩
 ·unfold zq fnV jW
  rw [zG (e:=mk [] [243] none none none) (by simp [mk];rfl)]
  rw [zG (e:=mk L G x y z) (by
   rw [yJ]
   have:zbG [111] (mk [] [243] none none none)=some (zs.zipIdx.map fun z=>PV.tup [.int (z.2:Int),zn z.1]):=by
    simp [zbG,mk,hs,qD,List.zipIdx_map,List.map_map,Function.comp_def]
   rw [this,Jb]
   exact h1)]
  simp [mk]
 ·rw [mm f,Qg]
 ·rw [hG f hf,Qg]
theorem Strips.lens{w h:Int}{F:List Int}{rs cs:List [46]}(S:Strips w h F rs cs):rs.length≤36/\cs.length≤36:=by
 have:=yW S.fl
 have l1:=Runs.len S.rows.toRuns0
 have l2:=Runs.len S.cols.toRuns0
 omega
theorem zja(w:Int)(rs cs:List [46]):[14].length=rs.length+cs.length:=by simp [zO]
theorem zkM{w h:Int}{F:List Int}(fl:IsFloor w h F):∃ rs cs,Strips w h F rs cs/\zY [flV w h F]=some [48]/\
  ∃ L G,zq [flV w h F]=some [232]/\(∀ f,f ∈ L ↔ f ∈ F)/\∀ f ∈ F,G f=kX [14] f:=by
 obtain ⟨rs,cs,h1,S⟩:=zhE fl
 refine ⟨rs,cs,S,h1,?_⟩
 have hz:∀ z ∈ vf w rs cs,z.2.Nodup/\∀ f ∈ z.2,f ∈ F:=fun z hz=>S.sub (by rw [← ziZ];exact Jx.mpr ⟨z,hz,rfl⟩)
 obtain ⟨L,G,e,m,g⟩:=zdB h1 hz (yF fl.rise) (by have:=yW fl;omega) (by have:=S.lens;simp [vf];omega)
 have mm:∀ f,f ∈ L ↔ f ∈ F:=fun f=>by
  rw [m f]
  refine ⟨fun ⟨z,h1,h2⟩=>(hz z h1).2 f h2,fun hf=>?_⟩
  obtain ⟨x,hx,i,hi,e⟩:=S.rows.cov f hf
  exact ⟨(Str.ofString "row",zw 1 x.1 x.2),Jj _ (Jx.mpr ⟨x,hx,rfl⟩),mem_chain.mpr ⟨i,hi,e⟩⟩
 refine ⟨L,G,e,mm,fun f hf=>?_⟩
 rw [g f ((mm f).mpr hf),ziZ]
structure Cross (w h:Int) (F:List Int) (ls:List [42]) (L:List Int) (G:Int->PV):Prop where
 val:zq [flV w h F]=some [232]
 mem:∀ f,f ∈ L ↔ f ∈ F
 at':∀ f ∈ F,G f=kX ls f
theorem Cross.ix{w h:Int}{F:List Int}{ls:List [42]}{L:List Int}{G:Int->PV}(C:Cross w h F ls L G){f:Int}(hf:f ∈ F){r c:Nat}(hi:idx ls f=[r,c]):vIx [232] (.int f)=some (.tup [.int r,.int c]):=by
 rw [vo ((C.mem f).mpr hf),C.at' f hf]
 simp [kX,hi]
noncomputable def rc(ls:List [42])(f:Int):Nat × Nat:=match idx ls f with | [r,c]=>(r,c) | _=>(0,0)
theorem ziq{w h:Int}{F:List Int}(fl:IsFloor w h F):∃ rs cs L G,Strips w h F rs cs/\zY [flV w h F]=some [48]/\Cross w h F [14] L G:=by
 obtain ⟨rs,cs,S,h1,L,G,h2,h3,h4⟩:=zkM fl
 exact ⟨rs,cs,L,G,S,h1,h2,h3,h4⟩
theorem Strips.pairX{w h:Int}{F:List Int}{rs cs:List [46]}(S:Strips w h F rs cs){f:Int}(hf:f ∈ F):∃ r c:Nat,idx [14] f=[r,rs.length+c]/\r<rs.length/\c<cs.length/\(∀ j x,rs[j]?=some x->(f ∈ zw 1 x.1 x.2 ↔ j=r))/\∀ j x,cs[j]?=some x->(f ∈ zw w x.1 x.2 ↔ j=c):=by
 have nd:=yF S.fl.rise
 obtain ⟨r,hr,h1⟩:=Runs.one S.rows (fun _ h=>h) nd hf
 obtain ⟨c,hc,h2⟩:=Runs.one S.cols (fun _ h=>h) nd hf
 refine ⟨r,c,?_,hr,hc,h1,h2⟩
 have:=zgS (A:=rs.map fun x=>zw 1 x.1 x.2) (B:=cs.map fun x=>zw w x.1 x.2) (f:=f) (r:=r) (c:=c) (by simpa using hr) (by simpa using hc)
  (fun j hj=>by
   have hj':j<rs.length:=by simpa using hj
   rw [Ji hj,List.getElem_map]
   exact h1 j _ (Ji hj'))
  (fun j hj=>by
   have hj':j<cs.length:=by simpa using hj
   rw [Ji hj,List.getElem_map]
   exact h2 j _ (Ji hj'))
 rw [Jh] at this
 exact this
theorem Strips.rc_of{w h:Int}{F:List Int}{rs cs:List [46]}(S:Strips w h F rs cs){f:Int}(hf:f ∈ F):idx [14] f=[[86].1,[86].2]/\[86].1<rs.length/\rs.length≤[86].2/\[86].2<rs.length+cs.length:=by
 obtain ⟨r,c,h1,h2,h3,h4⟩:=S.pair hf
 simp only [rc,h1]
 exact ⟨trivial,h2,h3,h4⟩
theorem Strips.ne{w h:Int}{F:List Int}{rs cs:List [46]}(S:Strips w h F rs cs):0<rs.length/\0<cs.length:=by
 obtain ⟨f,hf⟩:=List.exists_mem_of_ne_nil F S.fl.ne
 obtain ⟨r,c,_,h1,h2,h3⟩:=S.pair hf
 omega
theorem zdD{T:List Int}{k:Nat}(h:k<T.length):atI [65] (k:Int)=some (.int (T.getD k 0)):=by
 rw [_root_.F.atI_nat [220]]
 simp [List.getD,h]
theorem Runs.next_in{F:List Int}{d:Int}{stop:Int->Bool}{ps:List [46]}(r:Runs0 F d stop F ps){x:Int × Nat}(hx:x ∈ ps){p:Int}(hp:p ∈ zw d x.1 x.2)(hq:p+d ∈ F)(hs:stop (p+d)=false):p+d ∈ zw d x.1 x.2:=by
 obtain ⟨i,hi,rfl⟩:=mem_chain.mp hp
 have e:x.1+i * d+d=x.1+((i+1:Nat):Int) * d:=by rw [zaO];omega
 rw [e] at hq hs ⊢
 by_cases h:i+1<x.2
 ·exact mem_chain.mpr ⟨i+1,h,rfl⟩
 ·have hx2:x.2=i+1:=by omega
  have:=r.mx x hx
  rw [hx2] at this
  rw [this hq] at hs
  cases hs
theorem Strips.row_next{w h:Int}{F:List Int}{rs cs:List [46]}(S:Strips w h F rs cs){p:Int}(hp:p ∈ F)(hq:p+1 ∈ F)(hd:p / w=(p+1) / w):[156].1=(rc [14] (p+1)).1:=by
 obtain ⟨r,c,h1,h2,h3,h4,h5⟩:=S.pairX hp
 obtain ⟨r',c',g1,g2,g3,g4,g5⟩:=S.pairX hq
 simp only [rc,h1,g1]
 have hx:rs[r]?=some rs[r]:=Ji h2
 have:=Runs.next_in S.rows.toRuns0 (JP h2) ((h4 r _ hx).mpr rfl) hq (by
  unfold yV
  refine decide_eq_false fun hz=>?_
  have hm:=(zaN S.fl.w1 (zeb S.fl.w1 hd)).2
  have:=S.fl.w1
  have:=JI p [213]
  omega)
 exact (g4 r _ hx).mp this
theorem Strips.col_next{w h:Int}{F:List Int}{rs cs:List [46]}(S:Strips w h F rs cs){p:Int}(hp:p ∈ F)(hq:p+w ∈ F):[156].2=(rc [14] (p+w)).2:=by
 obtain ⟨r,c,h1,h2,h3,h4,h5⟩:=S.pairX hp
 obtain ⟨r',c',g1,g2,g3,g4,g5⟩:=S.pairX hq
 simp only [rc,h1,g1]
 have hx:cs[c]?=some cs[c]:=Ji h3
 have:=Runs.next_in S.cols.toRuns0 (JP h3) ((h5 c _ hx).mpr rfl) hq rfl
 rw [(g5 c _ hx).mp this]
noncomputable def xE:FS:=(wC (zci [237] (fT (fOp wT [284] (zA 3)))) (zfV 4 (fUn ju [20]) (jq (zu (zA 5)))) (zb 4 (xI (zC (zu (zA 5)) zI))))
noncomputable def xA:FT:=(fT (fOp wT (fOp yE (fOp vIx (zA 6) (fUn ju [20])) (zA 1)) (zA 3)))
noncomputable def wx:FS:=(zb 6 (fOp yE (fOp vIx (zA 6) (fUn ju [20])) (zA 1)))
noncomputable def xD:FS:=(wC (fT (fOp xP (fOp wI (zA 5) (zA 1)) (zA 3))) (zX (zh 6 (xI (zC (zu (zA 5)) zI)))
 (zX (fWh xA wx 1000000)
 (jr 4 6))) fNx)
noncomputable def uO:FS:=(zX (zmo (u9 3 (yO (zN 1) (yO (zN 2) (yO (zN 3) jA)))) (zA 0))
 (zX (zh 4 (xI zI))
 (zX (yx (zf (zA 3)) (zN 5) xE)
 (zX (yx (zf (zA 3)) (zN 5) xD)
 (yY (zA 4))))))
noncomputable def xN:List PV->Option PV:=fnV 7 uO
noncomputable def wX(ls:List [42]):PV:=.lst (ls.map fun l=>.lst (l.map PV.int))
theorem zke{w:Int}{F:List Int}{h:Int}(fl:IsFloor w h F):∃ rs x y,Runs F 1 (yV w) F rs/\
  wD (zN 5) xE [41] [some [32],some [251],some (.int h),some [128],some (.lst []),none,none]=some (.nx [some [32],some [251],some (.int h),some [128],some (.lst (rs.map (xh 1))),x,y]):=by
 have hw:0<w:=by have:=fl.w1;omega
 let mk:List (Int × Nat)->Option PV->Option PV->En:=fun ps x y=>[some [32],some [251],some (.int h),some [128],some (.lst (ps.map (xh 1))),x,y]
 obtain ⟨e,h1,ps,x,y,rfl,hr,_⟩:=yk (b:=zN 5) (g:=xE) (xs:=F) (hh:=PV.int) (env:=mk [] none none)
  (fun pre e=>∃ ps x y,e=mk ps x y/\Runs F 1 (yV w) pre ps/\∀ l,pre.getLast?=some l->∃ z,ps.getLast?=some z/\l+1=z.1+z.2)
  ⟨[],none,none,rfl,.nil,by simp⟩ (by
   rintro pre f post e hF ⟨ps,x,y,rfl,r,hlast⟩
   have rise:=fl.rise
   have sub:∀ p ∈ pre,p ∈ F:=fun p hp=>by rw [hF];exact Jj _ hp
   have lt:∀ p ∈ pre,p<f:=fun p hp=>by
    rw [hF,JW] at rise
    exact rise.2.2 p hp f Jf
   have gt:∀ p ∈ F,p<f->p ∈ pre:=fun p hp h=>by
    rw [hF,JW] at rise
    rw [hF] at hp
    rcases List.mem_append.mp hp with hp | hp
    ·exact hp
    ·rcases List.mem_cons.mp hp with rfl | hp
     ·omega
     ·have:=(JX.mp rise.2.1).1 p hp;omega
   have nd:pre.Nodup:=by
    rw [hF,JW] at rise
    exact yF rise.1
   have prise:pre.Pairwise (·<·):=by
    rw [hF,JW] at rise;exact rise.1
   have hfl:=yW fl
   have hpl:pre.length<36:=by
    have:=congrArg List.length hF
    rw [Jl,JF] at this;omega
   have hpsl:=Runs.len r.toRuns0
   have hf0:0≤f:=(fl.inn f (by rw [hF];simp)).1
   refine ⟨mk ps [30] y,?_⟩
   by_cases hin:0<f % w/\f - 1 ∈ F
   ·obtain ⟨hs,hp⟩:=hin
    have hp':=gt _ hp [12]
    have hst:zk F 1 (yV w) f=false:=by
     have:¬ f % w=0:=by omega
     simp [zk,yV,this,hp]
    -- the last one is f - 1
    have hne:pre≠[]:=fun z=>by rw [z] at hp';cases hp'
    have hl1:pre.getLast?=some (f - 1):=by
     rw [List.getLast?_eq_some_getLast hne]
     congr 1
     have h1:=lt _ (List.getLast_mem hne)
     have h2:f - 1≤pre.getLast hne:=by
      obtain ⟨i,hi,e⟩:=Qe hp'
      rw [List.getLast_eq_getElem]
      by_cases hi':i=pre.length - 1
      ·subst hi';exact Int.le_of_eq e.symm
      ·have:=Kf.mp prise i (pre.length - 1) hi (Nat.sub_lt (KK.mpr hne) [10]) (Nat.lt_of_le_of_ne (Nat.le_sub_one_of_lt hi) hi')
       rw [← e];exact Int.le_of_lt this
     exact Int.le_antisymm (Int.le_sub_one_of_lt h1) h2
    obtain ⟨z,hz,he⟩:=hlast _ hl1
    have pne:ps≠[]:=fun q=>by rw [q] at hz;cases hz
    have pl:0<ps.length:=KK.mpr pne
    have hza:ps[ps.length - 1]?=some z:=by rw [← Qh];exact hz
    have hzf:f=z.1+(z.2:Nat) * 1:=by omega
    have hzl:=Runs.len0 r.toRuns0 [10] hza
    refine ⟨mk (ps.set (ps.length - 1) (z.1,z.2+1)) [30] y,rfl,.inl ?_,_,_,_,rfl,r.ext [10] sub nd lt hst hza hzf,fun l hl=>?_⟩
    ·have ht:zci [237] (fT (fOp wT [284] (zA 3))) (mk ps [30] y)=some true:=by
      simp [mk,yj hw,hs,hp]
     unfold xE
     rw [yB,ht,Jb,if_pos rfl]
     have hk:ixN (ps.map (xh 1)).length (-1)=some (ps.length - 1):=by
      unfold ixN
      rw [Jh,if_neg [12],if_pos [12]]
      congr 1;omega
     have hg:(ps.map (xh 1))[ps.length - 1]?=some (.lst ((zw 1 z.1 z.2).map PV.int)):=by rw [JM,hza];rfl
     have hset:(ps.set (ps.length - 1) (z.1,z.2+1)).map (xh 1)=(ps.map (xh 1)).set (ps.length - 1) (.lst ((zw 1 z.1 z.2).map PV.int++[.int f])):=by
      rw [List.map_set]
      congr 1
      simp only [xh,xz,List.map_append,List.map_cons,List.map_nil,← hzf]
     unfold zfV
     have hi:fUn ju [20] (mk ps [30] y)=some (.int (-1)):=rfl
     have hv:zA 4 (mk ps [30] y)=some (.lst (ps.map (xh 1))):=rfl
     rw [hi,hv,Jb,Jb]
     simp only [k6,Option.bind_some,hk,hg]
     simp only [jq,mk,zdI,wz,List.getElem?_cons_succ,List.getElem?_cons_zero,Option.join_some,Option.bind_some,zeS,if_true,List.length_map,yX,show z.2<100000 by omega,Option.map_some,hset]
     rfl
    ·rw [List.getLast?_concat] at hl;cases hl
     refine ⟨(z.1,z.2+1),?_,by simp;omega⟩
     rw [Qh,List.length_set,Kb,if_pos rfl,if_pos [12]]
   ·have hm:0≤f % w:=JI _ [12]
    have hst:zk F 1 (yV w) f=true:=by
     by_cases hs:f % w=0
     ·simp [zk,yV,hs]
     ·have:f - 1 ∉ F:=fun h=>hin ⟨by omega,h⟩
      simp [zk,this]
    refine ⟨mk (ps++[(f,1)]) [30] y,rfl,.inl ?_,_,_,_,rfl,r.new [10] sub lt hst,fun l hl=>?_⟩
    ·have ht:zci [237] (fT (fOp wT [284] (zA 3))) (mk ps [30] y)=some false:=by
      by_cases hs:0<f % w
      ·have:f - 1 ∉ F:=fun h=>hin ⟨hs,h⟩
       simp [mk,yj hw,hs,this]
      ·simp [mk,yj hw,hs]
     unfold xE
     rw [yB,ht,Jb,if_neg Je]
     simp [mk,zb,show ps.length<100000 by omega,xh,zay]
    ·rw [List.getLast?_concat] at hl;cases hl
     exact ⟨(f,1),by simp,by simp⟩)
 exact ⟨ps,x,y,hr,h1⟩
theorem zkf{w:Int}{F:List Int}{h:Int}(fl:IsFloor w h F)(rs:List PV)(hrs:rs.length≤1000)(x0 y0:Option PV):∃ cs x y,Runs0 F w xq F cs/\
  wD (zN 5) xD [41] [some [32],some [251],some (.int h),some [128],some (.lst rs),x0,y0]=some (.nx [some [32],some [251],some (.int h),some [128],some (.lst (rs++cs.map (xh w))),x,y]):=by
 have hw:0<w:=by have:=fl.w1;omega
 have hfl:=yW fl
 let mk:List (Int × Nat)->Option PV->Option PV->En:=fun ps x y=>[some [32],some [251],some (.int h),some [128],some (.lst (rs++ps.map (xh w))),x,y]
 obtain ⟨e,h1,ps,x,y,rfl,g1,g2,g3,g4⟩:=yk (b:=zN 5) (g:=xD) (xs:=F) (hh:=PV.int) (env:=mk [] x0 y0)
  (fun pre e=>∃ ps x y,e=mk ps x y/\ps.map (·.1)=pre.filter (zk F w xq)/\(∀ z ∈ ps,1≤z.2)/\(∀ z ∈ ps,∀ i:Nat,i<z.2->z.1+i * w ∈ F)/\∀ z ∈ ps,z.1+z.2 * w ∉ F)
  ⟨[],x0,y0,rfl,rfl,by simp,by simp,by simp⟩ (by
   rintro pre f post e hF ⟨ps,x,y,rfl,g1,g2,g3,g4⟩
   have hfF:f ∈ F:=by rw [hF];simp
   have hpsl:ps.length≤36:=by
    have:=congrArg List.length g1
    rw [Jh] at this
    have h2:=JR (zk F w xq) pre
    have h3:=congrArg List.length hF
    rw [Jl] at h3
    omega
   refine ⟨mk ps [30] y,?_⟩
   by_cases hin:f - w ∈ F
   ·have hst:zk F w xq f=false:=by simp [zk,xq,hin]
    refine ⟨mk ps [30] y,rfl,.inl ?_,_,_,_,rfl,by rw [List.filter_append,g1];simp [hst],g2,g3,g4⟩
    unfold xD
    simp [mk,hin]
   ·have hst:zk F w xq f=true:=by simp [zk,xq,hin]
    let mk2:Nat->En:=fun k=>[some [32],some [251],some (.int h),some [128],some (.lst (rs++ps.map (xh w))),some (.int f),some (.lst ((zw w f k).map PV.int))]
    have h0:∀ i:Nat,i<1->f+i * w ∈ F:=fun i hi=>by
     have hi0:i=0:=by omega
     rw [hi0]
     simpa using hfF
    obtain ⟨e,e1,⟨k,rfl,k1,k2⟩,e3⟩:=zcT (t:=xA) (g:=wx) (fun e=>∃ k,e=mk2 k/\1≤k/\∀ i:Nat,i<k->f+i * w ∈ F)
     (fun e=>match e with | [_,_,_,_,_,_,some (.lst l)]=>100 - l.length | _=>0) (by
      rintro e ⟨k,rfl,k1,k2⟩
      have kl:k≤36:=by
       have:=zL (zw w f k) F (wp hw _ _) fun y hy=>by obtain ⟨i,hi,rfl⟩:=mem_chain.mp hy;exact k2 i hi
       rw [yX] at this;omega
      obtain ⟨m,rfl⟩:∃ m,k=m+1:=⟨k - 1,by omega⟩
      have hla:atI [258] (-1)=some (.int (f+m * w)):=by
       unfold atI ixN
       rw [Jh,yX,if_neg [12],if_pos [12]]
       have:(-1+((m+1:Nat):Int)).toNat=m:=by omega
       rw [Option.bind_some,this,xz,List.map_append,List.getElem?_append_right (by simp [yX])]
       simp [yX]
      have hx:fOp vIx (zA 6) (fUn ju [20]) (mk2 (m+1))=some (.int (f+m * w)):=by
       simp only [mk2,yP,wz,zhk,ziD,Option.bind_some,zoR,List.getElem?_cons_succ,List.getElem?_cons_zero,Option.join_some,zkl,hla]
      have hv:zA 1 (mk2 (m+1))=some [251]:=rfl
      have hv3:zA 3 (mk2 (m+1))=some [128]:=rfl
      have ha:fOp yE (fOp vIx (zA 6) (fUn ju [20])) (zA 1) (mk2 (m+1))=some (.int (f+((m+1:Nat):Int) * w)):=by
       rw [yP,hx,hv,zaO];simp only [Option.bind_some,zla]
       rw [show f+m * w+w=f+(m * w+w) by omega]
      have ht:xA (mk2 (m+1))=some (decide (f+((m+1:Nat):Int) * w ∈ F)):=by
       unfold xA
       rw [qK,yP,ha,hv3]
       simp only [Option.bind_some,inE,zkq,Option.map_some,zhj]
      by_cases hc:f+((m+1:Nat):Int) * w ∈ F
      ·refine .inr ⟨by rw [ht,decide_eq_true hc],mk2 (m+2),.inl ?_,⟨m+2,rfl,by omega,fun i hi=>?_⟩,?_⟩
       ·unfold wx zb
        have hl:zA 6 (mk2 (m+1))=some (.lst [258]):=rfl
        rw [hl,ha]
        simp only [Option.bind_some,List.length_map,yX,show m+1<100000 by omega,if_true]
        rw [show mk2 (m+2)=(mk2 (m+1)).set 6 (some (.lst ((zw w f (m+2)).map PV.int))) from rfl,xz w f (m+1),JJ];rfl
       ·by_cases hi':i<m+1
        ·exact k2 i hi'
        ·have:i=m+1:=by omega
         subst this;exact hc
       ·simp [mk2,yX];omega
      ·exact .inl (by rw [ht,decide_eq_false hc])) 1000000 (mk2 1) ⟨1,rfl,Nat.le_refl _,h0⟩ (by simp [mk2,yX])
    have kl:k≤36:=by
     have:=zL (zw w f k) F (wp hw _ _) fun y hy=>by obtain ⟨i,hi,rfl⟩:=mem_chain.mp hy;exact k2 i hi
     rw [yX] at this;omega
    obtain ⟨m,rfl⟩:∃ m,k=m+1:=⟨k - 1,by omega⟩
    have hmx:f+((m+1:Nat):Int) * w ∉ F:=fun hc=>by
     have hla:atI [258] (-1)=some (.int (f+m * w)):=by
      unfold atI ixN
      rw [Jh,yX,if_neg [12],if_pos [12]]
      have:(-1+((m+1:Nat):Int)).toNat=m:=by omega
      rw [Option.bind_some,this,xz,List.map_append,List.getElem?_append_right (by simp [yX])]
      simp [yX]
     unfold xA at e3
     rw [zaO] at hc
     simp [mk2,hla,show f+m * w+w=f+(m * w+w) by omega,hc] at e3
    refine ⟨mk (ps++[(f,m+1)]) [30] none,rfl,.inl ?_,_,_,_,rfl,by rw [List.map_append,List.filter_append,g1];simp [hst],?_,?_,?_⟩
    ·have ht:fT (fOp xP (fOp wI (zA 5) (zA 1)) (zA 3)) (mk ps [30] y)=some true:=by simp [mk,hin]
     unfold xD
     rw [yB,ht,Jb,if_pos rfl]
     rw [zG (e:=mk2 1) (by simp [mk,mk2,zay])]
     rw [zG (e:=mk2 (m+1)) e1]
     unfold jr
     have hv4:zA 4 (mk2 (m+1))=some (.lst (rs++ps.map (xh w))):=rfl
     have hv6:zA 6 (mk2 (m+1))=some (.lst [258]):=rfl
     rw [hv4,hv6]
     simp only [Option.bind_some,List.length_append,List.length_map,show rs.length+ps.length<100000 by omega,if_true]
     simp [mk,mk2,xh]
    ·intro z hz
     rcases List.mem_append.mp hz with hz | hz
     ·exact g2 z hz
     ·rw [Jc.mp hz];exact k1
    ·intro z hz i hi
     rcases List.mem_append.mp hz with hz | hz
     ·exact g3 z hz i hi
     ·rw [Jc.mp hz] at hi ⊢;exact k2 i hi
    ·intro z hz
     rcases List.mem_append.mp hz with hz | hz
     ·exact g4 z hz
     ·rw [Jc.mp hz];exact hmx)
 have e0:mk [] x0 y0=[some [32],some [251],some (.int h),some [128],some (.lst rs),x0,y0]:=by simp [mk]
 rw [e0] at h1
 exact ⟨ps,x,y,⟨g1,g2,fun z hz i hi=>⟨g3 z hz i hi,fun _=>rfl⟩,fun z hz hm=>absurd hm (g4 z hz)⟩,h1⟩
theorem zcg{w h:Int}{F:List Int}{rs cs:List [46]}(S:Strips w h F rs cs):xN [flV w h F]=some (wX [14]):=by
 obtain ⟨rs',x,y,r1,h1⟩:=zke S.fl
 have er:=Runs0.uniq r1.toRuns0 S.rows.toRuns0
 subst er
 have hl:=S.lens
 obtain ⟨cs',x',y',r2,h2⟩:=zkf S.fl (rs'.map (xh 1)) (by simp;omega) x y
 have ec:=Runs0.uniq r2 S.cols.toRuns0
 subst ec
 have e:wX (zO w rs' cs')=.lst (rs'.map (xh 1)++cs'.map (xh w)):=by
  simp only [wX,zO,List.map_append,List.map_map];rfl
 rw [e]
 unfold xN fnV uO
 rw [zG (e:=[some [32],some [251],some (.int h),some [128],none,none,none]) (by simp [u9,yO,jA])]
 rw [zG (e:=[some [32],some [251],some (.int h),some [128],some (.lst []),none,none]) [19]]
 rw [zG (e:=[some [32],some [251],some (.int h),some [128],some (.lst (rs'.map (xh 1))),x,y]) (by rw [yJ];simp only [yw,wz,List.getElem?_cons_succ,List.getElem?_cons_zero,Option.join_some,Option.bind_some,zgv];exact h1)]
 rw [zG (e:=[some [32],some [251],some (.int h),some [128],some (.lst (rs'.map (xh 1)++cs'.map (xh w))),x',y']) (by rw [yJ];simp only [yw,wz,List.getElem?_cons_succ,List.getElem?_cons_zero,Option.join_some,Option.bind_some,zgv];exact h2)]
 simp
end Cb
namespace F
open PySem L2
theorem zkk{L:List Int}{p:Int}(h:p ∈ L):∃ j,kIx [127] (.inl p)=some j/\j<L.length/\L[j]?=some p:=by
 cases hj:kIx [127] (.inl p) with
 | none=>
  have:=zeD hj
  rw [ua,decide_eq_false_iff_not] at this
  exact absurd h this
 | some j=>
  have h1:=zaw hj
  have h2:=zkj hj
  rw [Jh] at h2
  rw [JM,Ji h2] at h1
  refine ⟨j,rfl,h2,?_⟩
  rw [Ji h2]
  have:Sum.inl L[j]=(Sum.inl p:Key):=Jq h1
  rw [Sum.inl.inj this]
theorem zme{L:List Int}{p:Int}(h:p ∉ L):kIx [127] (.inl p)=none:=by
 cases hj:kIx [127] (.inl p) with
 | none=>rfl
 | some j=>
  have h1:=zaw hj
  rw [JM] at h1
  obtain ⟨q,h2,h3⟩:=JT.mp h1
  cases h3
  exact absurd (JU h2) h
theorem zmZ{L:List Int}{G:Int->PV}{p:Int}{q:PV}{j:Nat}(nd:L.Nodup)(hj:L[j]?=some p):(L.map G).set j q=L.map (upF G p q):=by
 apply KO
 intro t
 rw [Kb,JM,JM]
 obtain ⟨h1,h2⟩:=Jv.mp hj
 by_cases e:j=t
 ·subst e
  rw [if_pos rfl,List.length_map,if_pos h1,List.getElem?_eq_getElem h1,h2];simp
 ·rw [if_neg e]
  cases ht:L[t]? with
  | none=>rfl
  | some y=>
   have hy:y≠p:=fun z=>by
    subst z
    obtain ⟨t1,t2⟩:=Jv.mp ht
    rcases Nat.lt_trichotomy j t with w | w | w
    ·exact Kf.mp nd j t h1 t1 w (by rw [h2,t2])
    ·exact e w
    ·exact Kf.mp nd t j t1 h1 w (by rw [h2,t2])
   simp [v7 hy]
theorem zgj{L:List Int}{G:Int->PV}{p:Int}{q:PV}(h:p ∉ L):PV.dct (L.map Sum.inl++[.inl p]) (L.map G++[q])=dF (L++[p]) (upF G p q):=by
 unfold dF
 rw [JJ,JJ]
 congr 1
 simp only [List.map_cons,List.map_nil,upF_self]
 congr 1
 exact KL fun a ha=>(v7 (show a≠p from fun z=>h (by rw [← z];exact ha))).symm
theorem zfr{env:En}{i:Nat}{fk f:FE}{L:List Int}{G:Int->PV}{p:Int}{qs:List PV}{q:PV}(hl:zA i env=some [232])(hk:fk env=some (.int p))(nd:L.Nodup)(hp:p ∈ L)(hG:G p=.lst qs)(hq:f env=some q)(hL:L.length<100000)(hz:qs.length<100000):
  u0 i fk f env=some (.nx (env.set i (some (dF L (upF G p (.lst (qs++[q]))))))):=by
 obtain ⟨j,h1,h2,h3⟩:=zkk hp
 unfold u0
 rw [hl,hk,Jb,Jb]
 have hg:(L.map G)[j]?=some (.lst qs):=by rw [List.getElem?_map,h3];simp [hG]
 simp only [dF,List.length_map,hL,if_true,vZ,Option.bind_some,h1,hg,hq,hz,zmZ nd h3]
theorem zfs{env:En}{i:Nat}{fk f:FE}{L:List Int}{G:Int->PV}{p:Int}{q:PV}(hl:zA i env=some [232])(hk:fk env=some (.int p))(hp:p ∉ L)(hq:f (env.set i (some (dF (L++[p]) (upF G p (.lst [])))))=some q)(hL:L.length<100000):
  u0 i fk f env=some (.nx (env.set i (some (dF (L++[p]) (upF G p (.lst [q])))))):=by
 unfold u0
 rw [hl,hk,Jb,Jb]
 have e0:=zgj (G:=G) (q:=.lst []) hp
 have e1:(L.map G++[PV.lst []]).set (L.map G).length (.lst [q])=L.map G++[.lst [q]]:=by simp
 have e2:=zgj (G:=G) (q:=.lst [q]) hp
 simp only [dF,List.length_map,hL,if_true,vZ,Option.bind_some,zme hp]
 rw [e0,hq,Jb]
 rw [Jh] at e1
 rw [e1,e2]
 rw [List.set_set]
 rfl
theorem zly{env:En}{i:Nat}{fk f:FE}{L:List Int}{G:Int->PV}{p:Int}{q:PV}(hl:zA i env=some [232])(hk:fk env=some (.int p))(hp:p ∉ L)(hq:f env=some q)(hL:L.length<100000):
  zeJ i fk f env=some (.nx (env.set i (some (dF (L++[p]) (upF G p q))))):=by
 unfold zeJ
 rw [hq,hl,hk,Jb,Jb,Jb]
 have hn:ur [127] (.inl p)=false:=by rw [ua];exact decide_eq_false hp
 simp only [dF,vZ,Option.bind_some,hn,List.length_map,hL,decide_true,Bool.not_false,Bool.and_self,if_true,zgj hp]
theorem zmj{L:List Int}{G:Int->PV}{p:Int}{x:PV}:zdR [232] (.int p) x=some (if p ∈ L then G p else x):=by
 simp only [dF,zdR,vZ,Option.map_some]
 by_cases h:p ∈ L
 ·rw [if_pos h,zdA h];rfl
 ·rw [if_neg h,zcK h];rfl
end F
namespace Cb
open PySem L2 F CB PyProof.Rows
noncomputable def jD:FS:=(u0 1 (fOp vIx (zA 2) [25]) (zu (zA 2)))
noncomputable def uK:FS:=(zX (zh 1 jb)
 (zX (yx (zf (zA 0)) (zN 2) jD)
 (yY (zA 1))))
noncomputable def wG:List PV->Option PV:=fnV 3 uK
noncomputable def wN:FS:=(wC (fT (fOp xP [166] (zA 2))) (zX (zeJ 2 [166] (fOp yE (fOp vIx (zA 2) (zA 5)) (xI (zC (fOp vIx (zA 6) [45]) zI))))
 (zb 4 (zu [166]))) fNx)
noncomputable def xR:FT:=(fT (fOp vGt (zJ xQ (zC (zA 4) zI)) [25]))
noncomputable def vd:FS:=(zX (zgX 5 4)
 (yx (zf (zgZ (zA 3) (zA 5) (xI zI))) (zN 6) wN))
noncomputable def ut:FS:=(zX (zh 2 (zdy (zA 1) (xI zI)))
 (zX (zh 3 (zJ wG [38]))
 (zX (zh 4 (xI (zC (zu (zA 1)) zI)))
 (zX (fWh xR vd 1000000)
 (yY (zA 2))))))
noncomputable def ya:List PV->Option PV:=fnV 7 ut
noncomputable abbrev Stp:=Int × Int × PV
noncomputable def zv(s:Stp):PV:=.tup [.int s.1,.int s.2.1,s.2.2]
inductive Path (ss:List Stp) (a:Int):List PV->Int->Prop where
 | nil:Path ss a [] a
 | snoc {ms:List PV} {b:Int} {s:Stp}:Path ss a ms b->s ∈ ss->s.1=b->Path ss a (ms++[s.2.2]) s.2.1
inductive SPath (ss:List Stp) (a:Int):List PV->List Int->Int->Prop where
 | nil:SPath ss a [] [a] a
 | snoc {ms:List PV} {vs:List Int} {b:Int} {s:Stp}:SPath ss a ms vs b->s ∈ ss->s.1=b->s.2.1 ∉ vs->SPath ss a (ms++[s.2.2]) (vs++[s.2.1]) s.2.1
theorem zhQ{ss:List Stp}(hd:∀ s ∈ ss,z0 s.2.2=true)(hl:ss.length≤10000):∃ L G,wG [.lst (ss.map zv)]=some [232]/\∀ p,(if p ∈ L then G p else .lst [])=.lst ((ss.filter fun s=>decide (s.1=p)).map zv):=by
 let mk:List Int->(Int->PV)->Option PV->En:=fun L G x=>[some [222],some [232],x]
 obtain ⟨e,h1,L,G,x,rfl,nd,h2,h3,h4⟩:=yk (b:=zN 2) (g:=jD) (xs:=ss) (hh:=zv) (env:=mk [] [243] none)
  (fun pre e=>∃ L G x,e=mk L G x/\L.Nodup/\(∀ p,p ∈ L ↔ ∃ s ∈ pre,s.1=p)/\(∀ p ∈ L,G p=.lst ((pre.filter fun s=>decide (s.1=p)).map zv))/\L.length≤pre.length)
  ⟨[],_,none,rfl,.nil,by simp,by simp,by simp⟩ (by
   rintro pre s post e hp ⟨L,G,x,rfl,nd,h2,h3,h4⟩
   have hs:s ∈ ss:=by rw [hp];simp
   have hds:z0 (zv s)=true:=by simp [zv,hd s hs]
   have hpl:pre.length<10000:=by have:=congrArg List.length hp;rw [Jl,JF] at this;omega
   have hk:∀ L G,fOp vIx (zA 2) [25] (mk L G [191])=some (.int s.1):=fun L G=>by simp [mk,zv]
   have hf:∀ L G,zu (zA 2) (mk L G [191])=some (zv s):=fun L G=>by simp only [mk,zdI,wz,List.getElem?_cons_succ,List.getElem?_cons_zero,Option.join_some,Option.bind_some,hds,if_true]
   refine ⟨mk L G [191],?_⟩
   by_cases hL:s.1 ∈ L
   ·have hz:((pre.filter fun t=>decide (t.1=s.1)).map zv).length<100000:=by
     rw [Jh]
     have:=JR (fun t:Stp=>decide (t.1=s.1)) pre
     omega
    refine ⟨_,rfl,.inl (zfr (i:=1) rfl (hk L G) nd hL (h3 _ hL) (hf L G) [12] hz),L,_,_,rfl,nd,fun p=>?_,fun p hp'=>?_,by simp;omega⟩
    ·rw [h2 p]
     constructor
     ·rintro ⟨t,ht,e⟩;exact ⟨t,Jj _ ht,e⟩
     ·rintro ⟨t,ht,e⟩
      rcases List.mem_append.mp ht with ht | ht
      ·exact ⟨t,ht,e⟩
      ·rw [Jc.mp ht] at e
       rw [← h2 p,← e];exact hL
    ·rw [Kq,JJ]
     by_cases e:p=s.1
     ·subst e;rw [upF_self];simp
     ·have e':¬ s.1=p:=fun z=>e z.symm
      rw [v7 e,h3 p hp'];simp [e']
   ·refine ⟨_,rfl,.inl (zfs (i:=1) rfl (hk L G) hL (hf _ _) [12]),L++[s.1],_,_,rfl,?_,fun p=>?_,fun p hp'=>?_,by simp;omega⟩
    ·exact List.nodup_append.mpr ⟨nd,by simp,fun a ha b hb=>by rw [List.mem_singleton.mp hb];exact fun e=>hL (e ▸ ha)⟩
    ·rw [JB,Jc,h2 p]
     constructor
     ·rintro (⟨t,ht,e⟩ | e)
      ·exact ⟨t,Jj _ ht,e⟩
      ·exact ⟨s,by simp,e.symm⟩
     ·rintro ⟨t,ht,e⟩
      rcases List.mem_append.mp ht with ht | ht
      ·exact .inl ⟨t,ht,e⟩
      ·rw [Jc.mp ht] at e;exact .inr e.symm
    ·rw [Kq,JJ]
     by_cases e:p=s.1
     ·subst e
      rw [upF_self]
      have:(pre.filter fun t=>decide (t.1=s.1))=[]:=by
       rw [List.filter_eq_nil_iff]
       intro t ht hc
       exact hL ((h2 _).mpr ⟨t,ht,of_decide_eq_true hc⟩)
      simp [this]
     ·have e':¬ s.1=p:=fun z=>e z.symm
      rw [v7 e,h3 p ((List.mem_append.mp hp').resolve_right fun z=>e (List.mem_singleton.mp z))];simp [e'])
 refine ⟨L,G,?_,fun p=>?_⟩
 ·refine yT (e:=mk L G x) [some [222],none,none] rfl ?_
  unfold uK
  rw [zG (e:=mk [] [243] none) (by simp [mk];rfl)]
  rw [zG (e:=mk L G x) (by rw [yJ];exact h1)]
  rfl
 ·by_cases h:p ∈ L
  ·rw [if_pos h,h3 p h]
  ·rw [if_neg h]
   have:(ss.filter fun s=>decide (s.1=p))=[]:=by
    rw [List.filter_eq_nil_iff]
    intro t ht hc
    exact h ((h2 _).mpr ⟨t,ht,of_decide_eq_true hc⟩)
   rw [this];rfl
structure Wk (ss:List Stp) (start:Int) (U:List Int) (L:List Int) (ws:Int->List PV) (Q ex:List Int):Prop where
 nd:L.Nodup
 sub:∀ s ∈ L,s ∈ U
 st:start ∈ L
 path:∀ s ∈ L,Path ss start (ws s) s/\(ws s).length+1≤L.length
 w0:ws start=[]
 dat:∀ s ∈ L,isDatas (ws s)=true
 once:∀ s ∈ L,∃ vs,SPath ss start (ws s) vs s/\∀ v ∈ vs,v ∈ L
 qs:∀ q ∈ Q,q ∈ L
 cl:∀ s ∈ L,s ∉ Q->s ∉ ex->∀ t ∈ ss,t.1=s->t.2.1 ∈ L
noncomputable def upW(ws:Int->List PV)(p:Int)(q:List PV):Int->List PV:=fun y=>if y=p then q else ws y
theorem Wk.grow{ss:List Stp}{start:Int}{U L:List Int}{ws:Int->List PV}{Q ex:List Int}(w:Wk ss start U L ws Q ex){h:Int}(hh:h ∈ L){s:Stp}(hs:s ∈ ss)(e:s.1=h)(hn:s.2.1 ∉ L)(hU:s.2.1 ∈ U)(hd:z0 s.2.2=true):
  Wk ss start U (L++[s.2.1]) (upW ws s.2.1 (ws h++[s.2.2])) (Q++[s.2.1]) ex:=by
 have ne:∀ {p},p ∈ L->p≠s.2.1:=fun hp z=>hn (z ▸ hp)
 refine ⟨?_,?_,Jj _ w.st,?_,?_,?_,?_,?_,?_⟩
 ·exact List.nodup_append.mpr ⟨w.nd,by simp,fun a ha b hb=>by rw [List.mem_singleton.mp hb];exact ne ha⟩
 ·intro p hp
  rcases List.mem_append.mp hp with hp | hp
  ·exact w.sub p hp
  ·rw [Jc.mp hp];exact hU
 ·intro p hp
  rcases List.mem_append.mp hp with hp | hp
  ·have:=w.path p hp
   unfold upW
   rw [if_neg (ne hp),Jl]
   exact ⟨this.1,by omega⟩
  ·rw [Jc.mp hp]
   have:=w.path h hh
   unfold upW
   rw [if_pos rfl,Jl,Jl]
   exact ⟨.snoc this.1 hs e,by simp;omega⟩
 ·unfold upW;rw [if_neg (ne w.st)];exact w.w0
 ·intro p hp
  rcases List.mem_append.mp hp with hp | hp
  ·unfold upW;rw [if_neg (ne hp)];exact w.dat p hp
  ·rw [List.mem_singleton.mp hp];unfold upW;rw [if_pos rfl,wB,w.dat h hh];simp [hd]
 ·intro p hp
  rcases List.mem_append.mp hp with hp | hp
  ·obtain ⟨vs,v1,v2⟩:=w.once p hp
   unfold upW
   rw [if_neg (ne hp)]
   exact ⟨vs,v1,fun v hv=>Jj _ (v2 v hv)⟩
  ·rw [Jc.mp hp]
   obtain ⟨vs,v1,v2⟩:=w.once h hh
   unfold upW
   rw [if_pos rfl]
   refine ⟨vs++[s.2.1],.snoc v1 hs e fun z=>hn (v2 _ z),fun v hv=>?_⟩
   rcases List.mem_append.mp hv with hv | hv
   ·exact Jj _ (v2 v hv)
   ·exact Jr _ hv
 ·intro q hq
  rcases List.mem_append.mp hq with hq | hq
  ·exact Jj _ (w.qs q hq)
  ·exact Jr _ hq
 ·intro p hp hq hx t ht e'
  rw [JB,not_or] at hq
  rcases List.mem_append.mp hp with hp | hp
  ·exact Jj _ (w.cl p hp hq.1 hx t ht e')
  ·exact absurd hp hq.2
theorem zaC{ss:List Stp}{start:Int}{U:List Int}(hd:∀ s ∈ ss,z0 s.2.2=true)(hl:ss.length≤10000)(hU:∀ s ∈ ss,s.2.1 ∈ U)(hs:start ∈ U)(hUl:U.length≤1000):
  ∃ L ws,ya [.lst (ss.map zv),.int start]=some [67]/\Wk ss start U L ws [] []:=by
 obtain ⟨LO,GO,ho,hO⟩:=zhQ hd hl
 let mk:List Int->(Int->List PV)->List Int->Option PV->Option PV->En:=fun L ws Q x y=>[some [222],some (.int start),some [67],some (dF LO GO),some (.lst (Q.map PV.int)),x,y]
 have upE:∀ (L:List Int) (ws:Int->List PV) (p:Int) (q:List PV),dF L (upF (fun s=>.lst (ws s)) p (.lst q))=dF L fun s=>.lst (upW ws p q s):=fun L ws p q=>by
  congr 1
  funext y
  unfold upF upW
  split<;>rfl
 have loop:=zcT (t:=xR) (g:=vd) (fun e=>∃ L ws Q x y,e=mk L ws Q x y/\Wk ss start U L ws Q []/\Q.length≤L.length)
  (fun e=>match e with | [_,_,some (.dct ks _),_,some (.lst q),_,_]=>2 * (U.length - ks.length)+q.length | _=>0) ?_ 1000000 (mk [start] (fun _=>[]) [start] none none)
  ⟨[start],_,[start],none,none,rfl,⟨by simp,fun s h=>by rw [List.mem_singleton.mp h];exact hs,by simp,fun s h=>by rw [List.mem_singleton.mp h];exact ⟨.nil,by simp⟩,rfl,fun _ _=>rfl,fun s h=>⟨[start],by rw [List.mem_singleton.mp h];exact .nil,fun v hv=>hv⟩,fun q h=>h,fun s h h'=>absurd h h'⟩,by simp⟩ (by simp [mk,dF];omega)
 ·obtain ⟨e,h1,⟨L,ws,Q,x,y,rfl,w,_⟩,h2⟩:=loop
  have hQ:Q=[]:=by
   cases Q with
   | nil=>rfl
   | cons a r=>simp [xR,mk] at h2
  subst hQ
  refine ⟨L,ws,?_,w⟩
  refine yT (e:=mk L ws [] x y) [some [222],some (.int start),none,none,none,none,none] rfl ?_
  unfold ut
  rw [zG (e:=[some [222],some (.int start),some (dF [start] fun s=>.lst []),none,none,none,none]) (by simp [zdy,vZ,dF])]
  rw [zG (zd (as:=[.lst (ss.map zv)]) rfl ho)]
  rw [zG (e:=mk [start] (fun _=>[]) [start] none none) (by simp [mk])]
  rw [zG h1]
  rfl
 ·rintro e ⟨L,ws,Q,x,y,rfl,w,hQl⟩
  have hLl:L.length≤U.length:=zL L U w.nd w.sub
  cases Q with
  | nil=>exact .inl (by simp [xR,mk])
  | cons h Q=>
   refine .inr ⟨by simp [xR,mk],?_⟩
   have hh:h ∈ L:=w.qs h Jf
   have w1:Wk ss start U L ws Q [h]:=⟨w.nd,w.sub,w.st,w.path,w.w0,w.dat,w.once,fun q hq=>w.qs q (List.mem_cons_of_mem _ hq),fun s hs hq hx t ht e=>w.cl s hs (fun z=>(List.mem_cons.mp z).elim (fun z=>hx (z ▸ List.mem_singleton.mpr rfl)) hq) [19] t ht e⟩
   obtain ⟨e',g1,L',ws',Q',y',rfl,w',hcl,hsub,hle⟩:=yk (b:=zN 6) (g:=wN) (xs:=ss.filter fun s=>decide (s.1=h)) (hh:=zv) (env:=mk L ws Q [120] y)
    (fun pre e=>∃ L' ws' Q' y',e=mk L' ws' Q' [120] y'/\Wk ss start U L' ws' Q' [h]/\(∀ s ∈ pre,s.2.1 ∈ L')/\h ∈ L'/\Q'.length+L.length=Q.length+L'.length/\L.length≤L'.length)
    ⟨L,ws,Q,y,rfl,w1,by simp,hh,rfl,Nat.le_refl _⟩ (by
     rintro pre s post e hp ⟨L',ws',Q',y',rfl,w',hcl,hh',hsz,hle⟩
     have hsm:s ∈ ss.filter fun s=>decide (s.1=h):=by rw [hp];simp
     obtain ⟨hss,hs1⟩:=Ke.mp hsm
     have hs1:=of_decide_eq_true hs1
     have hL'l:L'.length≤U.length:=zL L' U w'.nd w'.sub
     refine ⟨mk L' ws' Q' [120] [191],?_⟩
     have hi1:fOp vIx (zA 6) [20] [269]=some (.int s.2.1):=by simp [mk,zv]
     by_cases hin:s.2.1 ∈ L'
     ·refine ⟨mk L' ws' Q' [120] [191],rfl,.inl ?_,L',ws',Q',_,rfl,w',?_,hh',hsz,hle⟩
      ·have ht:fT (fOp xP [166] (zA 2)) [269]=some false:=by
        rw [qK,yP,hi1]
        simp [mk,hin]
       unfold wN
       rw [yB,ht,Jb,if_neg Je];rfl
      ·intro t ht
       rcases List.mem_append.mp ht with ht | ht
       ·exact hcl t ht
       ·rw [Jc.mp ht];exact hin
     ·have w2:=w'.grow hh' hss hs1 hin (hU s hss) (hd s hss)
      have hpl:=(w'.path h hh').2
      refine ⟨mk (L'++[s.2.1]) (upW ws' s.2.1 (ws' h++[s.2.2])) (Q'++[s.2.1]) [120] [191],rfl,.inl ?_,_,_,_,_,rfl,w2,?_,List.mem_append_left _ hh',by simp;omega,by simp;omega⟩
      ·have ht:fT (fOp xP [166] (zA 2)) [269]=some true:=by
        rw [qK,yP,hi1]
        simp [mk,hin]
       have hadd:fOp yE (fOp vIx (zA 2) (zA 5)) (xI (zC (fOp vIx (zA 6) [45]) zI)) [269]=some (.lst (ws' h++[s.2.2])):=by
        have:vIx (dF L' fun s=>.lst (ws' s)) (.int h)=some (.lst (ws' h)):=vo hh'
        simp [mk,this,zv,yE,w'.dat h hh',hd s hss,show (ws' h).length+1≤100000 by omega]
       have hput:=zly (i:=2) (env:=mk L' ws' Q' [120] [191]) rfl hi1 hin hadd [12]
       unfold wN
       rw [yB,ht,Jb,if_pos rfl,zG hput,upE]
       have hQz:Q'.length<100000:=by simp only [List.length_cons] at hQl;omega
       show zb 4 (zu [166]) (mk (L'++[s.2.1]) (upW ws' s.2.1 (ws' h++[s.2.2])) Q' [120] [191])=_
       simp [zb,mk,zv,hQz]
      ·intro t ht
       rcases List.mem_append.mp ht with ht | ht
       ·exact Jj _ (hcl t ht)
       ·rw [List.mem_singleton.mp ht];simp)
   have hL'l:L'.length≤U.length:=zL L' U w'.nd w'.sub
   obtain ⟨hh',hsz,hle⟩:=(⟨hsub,hle.1,hle.2⟩:h ∈ L'/\Q'.length+L.length=Q.length+L'.length/\L.length≤L'.length)
   simp only [List.length_cons] at hQl
   refine ⟨mk L' ws' Q' [120] y',.inl ?_,⟨L',ws',Q',_,_,rfl,⟨w'.nd,w'.sub,w'.st,w'.path,w'.w0,w'.dat,w'.once,w'.qs,fun s hs hq _ t ht e=>?_⟩,by omega⟩,by simp [mk,dF];omega⟩
   ·unfold vd
    rw [zG (e:=mk L ws Q [120] y) (by simp [zgX,mk])]
    rw [yJ]
    have hg:zf (zgZ (zA 3) (zA 5) (xI zI)) (mk L ws Q [120] y)=some ((ss.filter fun s=>decide (s.1=h)).map zv):=by
     rw [yw]
     show ((zdR (dF LO GO) (.int h) (.lst [])).bind vA)=_
     rw [zmj,hO h];rfl
    rw [hg,Jb]
    exact g1
   ·by_cases hx:s=h
    ·subst hx
     exact hcl t (Ke.mpr ⟨ht,decide_eq_true e⟩)
    ·exact w'.cl s hs hq (by simpa using hx) t ht e
noncomputable def wa:FS:=(yY (xI (zC (xW (zC [101] (zC (zu (zA 1)) (zC (zu (zA 2)) zI)))) (zC (xW (zC (zu (zA 1)) (zC [101] (zC (zu (zA 2)) zI)))) zI))))
noncomputable def yG:List PV->Option PV:=fnV 3 wa
noncomputable def ww:FS:=(uc 3 (zJ yG [74]))
noncomputable def uN:FS:=(zX (zh 2 (zJ zq [38]))
 (zX (zh 3 (xI zI))
 (zX (yx (zf (zA 1)) (zN 4) ww)
 (yY (zA 3)))))
noncomputable def yd:List PV->Option PV:=fnV 5 uN
noncomputable def jV:FS:=(yY (zJ ya (zC (zJ yd [59]) [82])))
noncomputable def xZ:List PV->Option PV:=fnV 3 jV
noncomputable def qd:FS:=(yY (fLC (xl (zC (zJ xQ [111]) zI)) 1 [1] (zN 0) vg (fIf [259] [20] [25])))
noncomputable def vM:List PV->Option PV:=fnV 2 qd
noncomputable def wj(ls:List [42])(f:Int):List Stp:=[(([53].1:Int),([53].2:Int),.int f),(([53].2:Int),([53].1:Int),.int f)]
noncomputable def yI(ls:List [42])(B:List Int):List Stp:=B.flatMap (wj ls)
theorem mem_bSteps{ls:List [42]}{B:List Int}{s:Stp}:s ∈ yI ls B ↔ ∃ f ∈ B,s=(([53].1:Int),([53].2:Int),PV.int f)∨s=(([53].2:Int),([53].1:Int),PV.int f):=by
 unfold yI wj
 rw [Kn]
 simp only [List.mem_cons,List.not_mem_nil,or_false]
theorem kc(ls:List [42])(B:List Int):(yI ls B).length=2 * B.length:=by
 unfold yI wj
 induction B with
 | nil=>rfl
 | cons a r ih=>rw [List.flatMap_cons,List.length_append,ih];simp;omega
theorem je{w h:Int}{F:List Int}{rs cs:List [46]}{L:List Int}{G:Int->PV}(S:Strips w h F rs cs)(C:Cross w h F [14] L G){B:List Int}(hB:∀ f ∈ B,f ∈ F)(hl:B.length≤1000):
  yd [flV w h F,.lst [22]]=some (.lst ((yI [14] B).map zv)):=by
 let mk:List Stp->Option PV->En:=fun ss x=>[some [32],some [78],some [232],some [222],x]
 obtain ⟨e,h1,x,rfl⟩:=yk (b:=zN 4) (g:=ww) (xs:=B) (hh:=PV.int) (env:=mk [] none)
  (fun pre e=>∃ x,e=mk (yI [14] pre) x) ⟨none,rfl⟩ (by
   rintro pre f post e hp ⟨x,rfl⟩
   have hf:=hB f (by rw [hp];simp)
   obtain ⟨hi,_⟩:=S.rc_of hf
   have hpl:pre.length<1000:=by have:=congrArg List.length hp;rw [Jl,JF] at this;omega
   have hbl:=kc [14] pre
   have hix:=C.ix hf hi
   have happ:yI [14] (pre++[f])=yI [14] pre++wj [14] f:=by simp [yI]
   have htb:yG [.int ([86].1:Int),.int ([86].2:Int),.int f]=some (.lst ((wj [14] f).map zv)):=by
    simp [yG,fnV,wa,wj,zv]
   generalize rc [14] f=p at hix htb
   have hc:zJ yG [74] [309]=some (.lst ((wj [14] f).map zv)):=zg (as:=[.int (p.1:Int),.int (p.2:Int),.int f]) (by simp [mk,hix]) htb
   refine ⟨_,mk (yI [14] (pre++[f])) [30],rfl,.inl ?_,_,rfl⟩
   unfold ww uc
   have hv:zA 3 [309]=some (.lst ((yI [14] pre).map zv)):=rfl
   show ((zA 3 [309]).bind fun l=>(zJ yG [74] [309]).bind fun q=>_)=_
   rw [hv,hc]
   have hdd:isDatas ((wj [14] f).map zv)=true:=by simp [wj,zv]
   simp only [Option.bind_some,zjg,hdd,true_and,List.length_map,hbl,show (wj [14] f).length=2 from rfl,show 2 * pre.length+2≤100000 by omega,if_true]
   rw [← JJ,← happ]
   rfl)
 refine yT (e:=mk (yI [14] B) x) [some [32],some [78],none,none,none] rfl ?_
 unfold uN
 rw [zG [210]]
 rw [zG (e:=mk [] none) (by simp [mk])]
 rw [zG (e:=mk (yI [14] B) x) (by rw [yJ];exact h1)]
 rfl
noncomputable def xg(n:Nat):List Int:=[133].map fun (i:Nat)=>(i:Int)
theorem mem_univ{n:Nat}{k:Int}:k ∈ xg n ↔ 0≤k/\k<n:=by
 unfold xg
 rw [Jx]
 constructor
 ·rintro ⟨i,hi,rfl⟩
  have:=JQ.mp hi
  omega
 ·intro h
  exact ⟨k.toNat,JQ.mpr [12],by omega⟩
theorem xk(n:Nat):(xg n).length=n:=by simp [xg]
theorem zlb{w h:Int}{F:List Int}{rs cs:List [46]}{L:List Int}{G:Int->PV}(S:Strips w h F rs cs)(C:Cross w h F [14] L G){B:List Int}(hB:∀ f ∈ B,f ∈ F)(hl:B.length≤1000){k:Nat}(hk:k<rs.length+cs.length):
  ∃ L ws,xZ [flV w h F,.lst [22],.int k]=some [67]/\Wk (yI [14] B) k (xg [18]) L ws [] []:=by
 have hlen:=S.lens
 obtain ⟨L',ws,h1,h2⟩:=zaC (ss:=yI [14] B) (start:=k) (U:=xg [18]) (fun s hs=>by
   obtain ⟨f,_,e | e⟩:=mem_bSteps.mp hs<;>(rw [e];rfl)) (by rw [kc];omega) (fun s hs=>by
   obtain ⟨f,hf,e⟩:=mem_bSteps.mp hs
   obtain ⟨_,q1,q2,q3⟩:=S.rc_of (hB f hf)
   rw [mem_univ]
   rcases e with e | e<;>(rw [e];constructor<;>(simp only;omega))) (by rw [mem_univ];omega) (by rw [xk];omega)
 refine ⟨L',ws,?_,h2⟩
 refine yT (e:=[some [32],some [78],some [308]]) [some [32],some [78],some [308]] rfl ?_
 unfold jV
 rw [xJ]
 have hb:=je S C hB hl
 have hc:zJ yd [59] [some [32],some [78],some [308]]=some (.lst ((yI [14] B).map zv)):=zg (as:=[flV w h F,.lst [22]]) rfl hb
 rw [zg (as:=[.lst ((yI [14] B).map zv),.int k]) (by rw [zS,hc];rfl) h1]
 rfl
noncomputable def yK(n:Nat)(L:List Int):List Int:=[133].map fun (i:Nat)=>if (i:Int) ∈ L then 1 else 0
theorem qa(n:Nat)(L:List Int):(yK n L).length=n:=by simp [yK]
theorem jS{n k:Nat}{L:List Int}(h:k<n):(yK n L).getD k 0=if (k:Int) ∈ L then 1 else 0:=by
 simp [yK,List.getD,h]
theorem kC{w h:Int}{F:List Int}{rs cs:List [46]}(hs:zY [flV w h F]=some [48])(env:En)(he:env[0]?=some (some [32])):zJ xQ [111] env=some (.int ((rs.length+cs.length:Nat):Int)):=by
 have h1:zJ zY [38] env=some [48]:=zg (as:=[flV w h F]) (by simp [he]) hs
 refine zg (as:=[.lst ((vf w rs cs).map zn)]) (by rw [zS,h1];rfl) ?_
 rw [zdq]
 simp [vf]
theorem zfK{w h:Int}{F:List Int}{rs cs:List [46]}(S:Strips w h F rs cs)(hs:zY [flV w h F]=some [48])(L:List Int)(G:Int->PV):vM [flV w h F,dF L G]=some (.lst [223]):=by
 have hlen:=S.lens
 refine yT (e:=[some [32],some [232]]) [some [32],some [232]] rfl ?_
 unfold qd
 have hr:xl (zC (zJ xQ [111]) zI) [some [32],some [232]]=some (uG 0 [18]):=by
  refine zas (j:=((rs.length+cs.length:Nat):Int)) ?_ [12] [12]
  rw [zS,kC hs _ rfl];rfl
 rw [xJ,zcS,hr,Jb,jN,if_pos [12]]
 have hce:cE 1 [1] [some [32],some [232]]=[none,some [232]]:=rfl
 rw [hce]
 have hc:ym (zN 0) vg (fIf [259] [20] [25]) (uG 0 [18]) [none,some [232]]=some ((List.range [18]).map fun (i:Nat)=>PV.int (if (i:Int) ∈ L then 1 else 0)):=by
  unfold uG
  refine xY (hh:=fun (i:Nat)=>PV.int (0+(i:Int))) (fun (i:Nat)=>PV.int (if (i:Int) ∈ L then 1 else 0)) _ fun i _=>⟨_,rfl,rfl,?_⟩
  by_cases hi:(i:Int) ∈ L<;>simp [hi]
 rw [hc]
 simp [yK,List.map_map,Function.comp_def]
theorem Wk.both{ls:List [42]}{B:List Int}{k:Int}{U L:List Int}{ws:Int->List PV}(w:Wk (yI ls B) k U L ws [] []){f:Int}(hf:f ∈ B):([53].1:Int) ∈ L ↔ ([53].2:Int) ∈ L:=by
 constructor
 ·intro h
  exact w.cl _ h [19] [19] (([53].1:Int),([53].2:Int),.int f) (mem_bSteps.mpr ⟨f,hf,.inl rfl⟩) rfl
 ·intro h
  exact w.cl _ h [19] [19] (([53].2:Int),([53].1:Int),.int f) (mem_bSteps.mpr ⟨f,hf,.inr rfl⟩) rfl
inductive Way (ls:List [42]) (B:List Int) (a:Nat):List Int->Nat->Prop where
 | nil:Way ls B a [] a
 | snoc {fs:List Int} {b e:Nat} {f:Int}:Way ls B a fs b->f ∈ B->([53]=(b,e)∨[53]=(e,b))->Way ls B a (fs++[f]) e
theorem Path.way{ls:List [42]}{B:List Int}{a:Nat}{ms:List PV}{e:Int}(p:Path (yI ls B) a ms e):∃ (fs:List Int) (k:Nat),ms=fs.map PV.int/\e=k/\Way ls B a fs k:=by
 induction p with
 | nil=>exact ⟨[],a,rfl,rfl,.nil⟩
 | @snoc ms b s _ hs hb ih=>
  obtain ⟨fs,k,rfl,rfl,w⟩:=ih
  obtain ⟨f,hf,e | e⟩:=mem_bSteps.mp hs
  ·subst e
   have hb':[53].1=k:=by simp only at hb;omega
   exact ⟨fs++[f],[53].2,by simp,rfl,.snoc w hf (.inl (by rw [← hb']))⟩
  ·subst e
   have hb':[53].2=k:=by simp only at hb;omega
   exact ⟨fs++[f],[53].1,by simp,rfl,.snoc w hf (.inr (by rw [← hb']))⟩
theorem Strips.all{w h:Int}{F:List Int}{rs cs:List [46]}(S:Strips w h F rs cs)(P:Nat->Prop)(h0:P 0)(hb:∀ f ∈ F,(P [86].1 ↔ P [86].2)):∀ k,k<rs.length+cs.length->P k:=by
 have hfld:∀ f ∈ F,P [86].1:=by
  intro f hf
  have hr:=S.fl.conn f hf
  induction hr with
  | @start q hq hqF=>
   -- the first field lies in the first row
   obtain ⟨r,c,h1,h2,h3,h4,h5⟩:=S.pairX hqF
   have e0:r=0:=by
    have hpos:=S.ne.1
    have hx:rs[0]?=some rs[0]:=Ji hpos
    refine ((h4 0 _ hx).mp ?_).symm
    have hh:=S.rows.heads
    obtain ⟨F',hF'⟩:∃ F',F=q::F':=by
     cases F with
     | nil=>cases hqF
     | cons a r=>simp at hq;exact ⟨r,by rw [hq]⟩
    have hst:zk F 1 (yV w) q=true:=by
     have:q - 1 ∉ F:=fun z=>by
      rw [hF'] at z
      rcases List.mem_cons.mp z with z | z
      ·omega
      ·have:=S.fl.rise
       rw [hF',JX] at this
       have:=this.1 _ z
       omega
     simp [zk,this]
    have hd:rs[0].1=q:=by
     have h9:(rs.map (·.1))[0]?=(F.filter (zk F 1 (yV w)))[0]?:=by rw [hh]
     have h10:F.filter (zk F 1 (yV w))=q::F'.filter (zk F 1 (yV w)):=by
      conv=>lhs;rw [show F.filter (zk F 1 (yV w))=(q::F').filter (zk F 1 (yV w)) by rw [← hF']]
      rw [Kz,if_pos hst]
     rw [h10] at h9
     simp [hpos] at h9
     exact h9
    have hp:=S.rows.pos _ (JP hpos)
    exact mem_chain.mpr ⟨0,by omega,by rw [hd];simp⟩
   simp only [rc,h1,e0]
   exact h0
  | @step q p hr' hadj hpF ih=>
   have hqF:=hr'.inS
   have ih:=ih hqF
   rcases hadj with ⟨e,hd⟩ | ⟨e,hd⟩ | e | e
   ·subst e
    rw [← S.row_next hqF hpF hd];exact ih
   ·subst e
    rw [S.row_next hpF hqF hd.symm];exact ih
   ·subst e
    rw [hb _ hpF,← S.col_next hqF hpF,← hb _ hqF];exact ih
   ·subst e
    rw [hb _ hpF,S.col_next hpF hqF,← hb _ hqF];exact ih
 intro k hk
 by_cases hkr:k<rs.length
 ·have hx:rs[k]?=some rs[k]:=Ji hkr
  have hp:=S.rows.pos _ (JP hkr)
  have hm:=(S.rows.inn _ (JP hkr) 0 [12]).1
  simp only [Int.natCast_zero,Int.zero_mul,Int.add_zero] at hm
  obtain ⟨r,c,h1,h2,h3,h4,h5⟩:=S.pairX hm
  have:k=r:=(h4 k _ hx).mp (mem_chain.mpr ⟨0,by omega,by simp⟩)
  have hP:=hfld _ hm
  simp only [rc,h1] at hP
  rw [this];exact hP
 ·obtain ⟨m,rfl⟩:∃ m,k=rs.length+m:=⟨k - rs.length,by omega⟩
  have hmc:m<cs.length:=by omega
  have hx:cs[m]?=some cs[m]:=Ji hmc
  have hp:=S.cols.pos _ (JP hmc)
  have hm:=(S.cols.inn _ (JP hmc) 0 [12]).1
  simp only [Int.natCast_zero,Int.zero_mul,Int.add_zero] at hm
  obtain ⟨r,c,h1,h2,h3,h4,h5⟩:=S.pairX hm
  have:m=c:=(h5 m _ hx).mp (mem_chain.mpr ⟨0,by omega,by simp⟩)
  have hP:=(hb _ hm).mp (hfld _ hm)
  simp only [rc,h1] at hP
  rw [this];exact hP
inductive SWay (ls:List [42]) (B:List Int) (a:Nat):List Int->List Nat->Nat->Prop where
 | nil:SWay ls B a [] [a] a
 | snoc {fs:List Int} {vs:List Nat} {b e:Nat} {f:Int}:SWay ls B a fs vs b->f ∈ B->(rc ls f=(b,e)∨rc ls f=(e,b))->e ∉ vs->SWay ls B a (fs++[f]) (vs++[e]) e
section
variable {ls:List [42]} {B:List Int} {a e R:Nat} {fs:List Int} {vs:List Nat}
theorem zoN(i:Nat):((i+1) % 2=0 ↔ i % 2=1)/\((i+1) % 2=1 ↔ i % 2=0):=by
 rw [Nat.add_mod]
 rcases Nat.mod_two_eq_zero_or_one i with h | h<;>rw [h]<;>decide
end
noncomputable def u7:FS:=(wC (fT (fOp xP (zA 5) (zA 4))) (zX (zh 6 (zJ ya (zC (zA 2) (zC (zA 5) zI))))
 (zX (qB 4 (zA 6))
 (zb 3 (zJ vO (zC (zA 6) zI))))) fNx)
noncomputable def zbz:FS:=(zX (zh 2 (zJ yd [59]))
 (zX (zh 3 (xI zI))
 (zX (zh 4 jb)
 (zX (yx (xl (zC (zJ xQ [111]) zI)) (zN 5) u7)
 (yY (zA 3))))))
noncomputable def vI:List PV->Option PV:=fnV 7 zbz
noncomputable def ka:FS:=(vq 2 (zA 4) (fOp vIx (zA 3) [25]))
noncomputable def kZ:FS:=(yx (zf (zA 3)) (zN 4) ka)
noncomputable def zbA:FS:=(zX (zh 2 jb)
 (zX (yx (zf (zJ vI [59])) (zN 3) kZ)
 (yY (zA 2))))
noncomputable def vJ:List PV->Option PV:=fnV 5 zbA
noncomputable def zfT:FS:=(zX (zh 2 (zJ vJ [59]))
 (zX (zh 3 (zJ zq [38]))
 (yY (fLC (zf [91]) 1 [2,3] (zN 0) (fT (fOp vEq (fOp vIx (zA 1) (fOp vIx [310] [25])) (fOp vIx (zA 1) (fOp vIx [310] [20])))) [101]))))
noncomputable def zap:List PV->Option PV:=fnV 4 zfT
inductive Con (ls:List [42]) (B:List Int) (a:Nat):Nat->Prop where
 | refl:Con ls B a a
 | step {b e:Nat} {f:Int}:Con ls B a b->f ∈ B->(rc ls f=(b,e)∨rc ls f=(e,b))->Con ls B a e
section
variable {ls:List [42]} {B:List Int} {a b c:Nat}
theorem Con.trans(h:Con ls B a b)(h':Con ls B b c):Con ls B a c:=by
 induction h' with
 | refl=>exact h
 | step _ hf e ih=>exact .step ih hf e
theorem Con.symm(h:Con ls B a b):Con ls B b a:=by
 induction h with
 | refl=>exact .refl
 | step _ hf e ih=>exact (Con.step .refl hf e.symm).trans ih
theorem Way.con{fs:List Int}(w:Way ls B a fs b):Con ls B a b:=by
 induction w with
 | nil=>exact .refl
 | snoc _ hf e ih=>exact .step ih hf e
theorem Wk.con{U L:List Int}{ws:Int->List PV}(w:Wk (yI ls B) a U L ws [] []){k:Nat}:((k:Int) ∈ L) ↔ Con ls B a k:=by
 constructor
 ·intro h
  obtain ⟨fs,k',_,e,wy⟩:=Path.way (w.path _ h).1
  have:k'=k:=by omega
  subst this
  exact wy.con
 ·intro h
  induction h with
  | refl=>exact w.st
  | step _ hf e ih=>
   have:=w.both hf
   rcases e with e | e<;>(rw [e] at this;simp only at this)
   ·exact this.mp ih
   ·exact this.mpr ih
noncomputable def Least(ls:List [42])(B:List Int)(s m:Nat):Prop:=Con ls B s m/\∀ t,Con ls B s t->m≤t
theorem Least.uniq{s m m':Nat}(h:Least ls B s m)(h':Least ls B s m'):m=m':=by
 have:=h.2 _ h'.1
 have:=h'.2 _ h.1
 omega
theorem Least.move{s t m:Nat}(h:Least ls B s m)(c:Con ls B s t):Least ls B t m:=⟨c.symm.trans h.1,fun u hu=>h.2 u (c.trans hu)⟩
theorem Least.same{s t m m':Nat}(h:Least ls B s m)(h':Least ls B t m'):m=m' ↔ Con ls B s t:=
 ⟨fun e=>h.1.trans (by rw [e];exact h'.1.symm),fun c=>(h.move c).uniq h'⟩
theorem Least.ex(ls:List [42])(B:List Int)(s:Nat):∃ m,Least ls B s m:=by
 have go:∀ n t,t≤n->Con ls B s t->∃ m,Least ls B s m:=by
  intro n
  induction n with
  | zero=>
   intro t ht h
   have:t=0:=by omega
   subst this
   exact ⟨0,h,fun _ _=>KG _⟩
  | succ n ih=>
   intro t ht h
   refine JK fun hno=>?_
   refine hno ⟨t,h,fun u hu=>?_⟩
   refine JK fun hlt=>?_
   exact hno (ih u [12] hu)
 exact go s s (Jm _) .refl
end
theorem zcs{w h:Int}{F:List Int}(fl:IsFloor w h F){d:Int}{stop:Int->Bool}{ps:List [46]}(r:Runs0 F d stop F ps)(code:Int->Int)(hr:∀ f ∈ F,0≤code f/\code f<18)(hc:∀ f ∈ F,∀ g ∈ F,code f=code g->f<g->g=f+d/\stop g=false):ps.length≤18:=by
 have nd:=yF fl.rise
 have hin:∀ x ∈ ps,x.1 ∈ F/\zk F d stop x.1=true:=fun x hx=>Runs.start r hx
 have key:((ps.map (·.1)).map code).Nodup:=by
  have h1:(ps.map (·.1)).Nodup:=Runs.heads_nd r nd
  rw [JH,Kc]
  rw [JH] at h1
  refine List.Pairwise.imp_of_mem (fun {a b} ha hb hne e=>?_) h1
  obtain ⟨x,hx,rfl⟩:=Jx.mp ha
  obtain ⟨y,hy,rfl⟩:=Jx.mp hb
  obtain ⟨x1,x2⟩:=hin x hx
  obtain ⟨y1,y2⟩:=hin y hy
  unfold zk at x2 y2
  rcases Int.lt_trichotomy x.1 y.1 with z | z | z
  ·obtain ⟨q1,q2⟩:=hc _ x1 _ y1 e z
   rw [q2] at y2
   have:y.1 - d ∈ F:=by rw [q1,show x.1+d - d=x.1 by omega];exact x1
   simp [this] at y2
  ·exact hne z
  ·obtain ⟨q1,q2⟩:=hc _ y1 _ x1 e.symm z
   rw [q2] at x2
   have:x.1 - d ∈ F:=by rw [q1,show y.1+d - d=y.1 by omega];exact y1
   simp [this] at x2
 have:=zL _ (xg 18) key fun k hk=>by
  obtain ⟨a,ha,rfl⟩:=Jx.mp hk
  obtain ⟨x,hx,rfl⟩:=Jx.mp ha
  have:=hr _ (hin x hx).1
  exact mem_univ.mpr [12]
 rw [xk,Jh,Jh] at this
 exact this
theorem zgt{a b:Int}(h:0≤a/\a<6)(h':0≤b/\b<6):0≤a * 3+b / 2/\a * 3+b / 2<18:=by
 have:0≤b / 2/\b / 2<3:=by omega
 omega
theorem zmV{a x c y:Int}(hx:0≤x/\x<3)(hy:0≤y/\y<3)(e:a * 3+x=c * 3+y):a=c/\x=y:=by omega
theorem zkw{b:Int}(h:0≤b/\b<6):0≤b / 2/\b / 2<3:=by omega
theorem zmh{b d:Int}(e:b / 2=d / 2):b=d∨b=d+1∨d=b+1:=by omega
theorem zdV{a b c d:Int}(hb:0≤b/\b<6)(hd:0≤d/\d<6)(e:a * 3+b / 2=c * 3+d / 2):a=c/\(b=d∨b=d+1∨d=b+1):=
 have h:=zmV (zkw hb) (zkw hd) e
 ⟨h.1,zmh h.2⟩
theorem Strips.few{w h:Int}{F:List Int}{rs cs:List [46]}(S:Strips w h F rs cs):rs.length≤18/\cs.length≤18:=by
 have hw:=S.fl.w1
 have q6:∀ f ∈ F,0≤f / w/\f / w<6:=fun f hf=>by
  have:=qV hw (S.fl.inn f hf)
  have:=S.fl.h6
  omega
 have m6:∀ f,0≤f % w/\f % w<6:=fun f=>by
  have:=S.fl.w6
  have:=JI f [213]
  have:=JG f [203]
  omega
 refine ⟨zcs S.fl S.rows.toRuns0 (fun f=>f / w * 3+f % w / 2) (fun f hf=>zgt (q6 f hf) (m6 f)) fun f hf g hg e hlt=>?_,
  zcs S.fl S.cols.toRuns0 (fun f=>f % w * 3+f / w / 2) (fun f hf=>zgt (m6 f) (q6 f hf)) fun f hf g hg e hlt=>⟨?_,rfl⟩⟩
 ·obtain ⟨e1,e2⟩:=zdV (m6 f) (m6 g) e
  have a1:=JC f w
  have a2:=JC g w
  have:=(m6 f).1
  rw [e1] at a1
  generalize w * (g / w)=D at a1 a2
  refine ⟨by omega,?_⟩
  unfold yV
  exact decide_eq_false [12]
 ·obtain ⟨e1,e2⟩:=zdV (q6 f hf) (q6 g hg) e
  have a1:=JC f w
  have a2:=JC g w
  rw [e1] at a1
  rcases e2 with e2 | e2 | e2
  ·rw [e2] at a1;omega
  ·rw [e2,Int.mul_add,Int.mul_one] at a1;omega
  ·rw [e2,Int.mul_add,Int.mul_one] at a2;omega
theorem zku(L:List Int)(p:Int):ur [127] (.inl p)=decide (p ∈ L):=ua L p
noncomputable def unI(L M:List Int):List Int:=M.foldl (fun acc k=>if k ∈ acc then acc else acc++[k]) L
theorem zbs:∀ (M L:List Int),j5 [127] (M.map Sum.inl)=(unI L M).map Sum.inl
 | [],L=>rfl
 | m::M,L=>by
  unfold j5 unI
  rw [Ju,List.foldl_cons,List.foldl_cons,zku]
  by_cases h:m ∈ L
  ·rw [decide_eq_true h,if_pos rfl,if_pos h];exact zbs M L
  ·rw [decide_eq_false h,if_neg Je,if_neg h]
   have e:L.map (Sum.inl:Int->Key)++[Sum.inl m]=(L++[m]).map Sum.inl:=by simp
   rw [e]
   exact zbs M (L++[m])
theorem zgK:∀ (M L:List Int) (x:Int),x ∈ unI L M ↔ x ∈ L∨x ∈ M
 | [],L,x=>by simp [unI]
 | m::M,L,x=>by
  have e:unI L (m::M)=unI (if m ∈ L then L else L++[m]) M:=rfl
  rw [e,zgK M,Kl]
  by_cases h:m ∈ L
  ·rw [if_pos h]
   constructor
   ·rintro (z | z)
    ·exact .inl z
    ·exact .inr (.inr z)
   ·rintro (z | z | z)
    ·exact .inl z
    ·exact .inl (z ▸ h)
    ·exact .inr z
  ·rw [if_neg h,JB,Jc]
   constructor
   ·rintro ((z | z) | z)
    ·exact .inl z
    ·exact .inr (.inl z)
    ·exact .inr (.inr z)
   ·rintro (z | z | z)
    ·exact .inl (.inl z)
    ·exact .inl (.inr z)
    ·exact .inr z
theorem zcp:∀ (M L:List Int),L.Nodup->(unI L M).Nodup
 | [],L,h=>h
 | m::M,L,h=>by
  have e:unI L (m::M)=unI (if m ∈ L then L else L++[m]) M:=rfl
  rw [e]
  refine zcp M _ ?_
  split
  ·exact h
  ·rename_i hm
   exact List.nodup_append.mpr ⟨h,by simp,fun x hx y hy hxy=>hm (by rw [List.mem_singleton.mp hy] at hxy;exact hxy ▸ hx)⟩
theorem zhy{env:En}{i:Nat}{f:FE}{L M:List Int}{Z:Int->PV}(hl:zA i env=some (dF L fun _=>.any))(hq:f env=some (dF M Z))(hz:L.length+M.length≤100000):qB i f env=some (.nx (env.set i (some (dF (unI L M) fun _=>.any)))):=by
 unfold qB
 rw [hq,hl,Jb,Jb]
 have hd:isDatas (L.map fun _=>PV.any)=true:=wA _ (fun _=>rfl) L
 simp only [dF,hd,List.length_map,hz,decide_true,Bool.and_self,if_true,zbs,List.map_map]
 rfl
structure Piece (ls:List [42]) (B:List Int) (n:Nat) (p:List Int):Prop where
 sub:∀ s ∈ p,s ∈ xg n
 ne:p≠[]
 rise:p.Pairwise (·≤·)
 mem:∃ k:Nat,∀ s:Int,s ∈ p ↔ ∃ t:Nat,s=t/\Con ls B k t
noncomputable def lst(ls:List [42])(B:List Int)(k:Nat):Nat:=Classical.choose (Least.ex ls B k)
theorem jR(ls:List [42])(B:List Int)(k:Nat):Least ls B k (lst ls B k):=Classical.choose_spec (Least.ex ls B k)
theorem lst_iff{ls:List [42]}{B:List Int}{a b:Nat}:lst ls B a=lst ls B b ↔ Con ls B a b:=(jR ls B a).same (jR ls B b)
theorem znD{ls:List [42]}{B:List Int}{k m:Nat}(h:Least ls B k m):lst ls B k=m:=(jR ls B k).uniq h
theorem zka(ls:List [42])(B:List Int)(k:Nat):lst ls B k≤k:=(jR ls B k).2 k .refl
theorem zey(ls:List [42])(B:List Int)(k:Nat):lst ls B (lst ls B k)=lst ls B k:=lst_iff.mpr (jR ls B k).1.symm
noncomputable def cls(ls:List [42])(B:List Int)(n k:Nat):List Int:=(xg n).filter fun s=>decide (lst ls B s.toNat=k)
noncomputable def zbD(ls:List [42])(B:List Int)(n:Nat):List Nat:=[133].filter fun k=>decide [311]
theorem mem_cls{ls:List [42]}{B:List Int}{n k:Nat}{s:Int}:s ∈ cls ls B n k ↔ s ∈ xg n/\lst ls B s.toNat=k:=by simp [cls]
theorem mem_firsts{ls:List [42]}{B:List Int}{n k:Nat}:k ∈ zbD ls B n ↔ k<n/\lst ls B k=k:=by simp [zbD]
theorem zhz(n:Nat):(xg n).Pairwise (·<·):=by
 unfold xg
 rw [Kc]
 exact List.pairwise_lt_range.imp fun h=>by omega
theorem cls_rise{ls:List [42]}{B:List Int}{n k:Nat}:(cls ls B n k).Pairwise (·<·):=(zhz n).filter _
theorem zhG{L M:List Int}(nd:L.Nodup)(rise:M.Pairwise (·<·))(hm:∀ s,s ∈ L ↔ s ∈ M):w9 L=M:=by
 refine List.Perm.eq_of_pairwise (le:=(·≤·)) (fun x y _ _ h h'=>Int.le_antisymm h h') (wK L) (rise.imp fun h=>Int.le_of_lt h) ?_
 exact (yr L).trans ((List.perm_ext_iff_of_nodup nd (yF rise)).mpr hm)
theorem Con.lt{ls:List [42]}{B:List Int}{n a b:Nat}(hB:∀ f ∈ B,[53].1<n/\[53].2<n)(ha:a<n)(h:Con ls B a b):b<n:=by
 induction h with
 | refl=>exact ha
 | step _ hf e ih=>
  obtain ⟨h1,h2⟩:=hB _ hf
  rcases e with e | e<;>(rw [e] at h1 h2;first | exact h2 | exact h1)
theorem zhL{w h:Int}{F:List Int}{rs cs:List [46]}{L0:List Int}{G:Int->PV}(S:Strips w h F rs cs)(C:Cross w h F [14] L0 G)(hs:zY [flV w h F]=some [48]){B:List Int}(hB:∀ f ∈ B,f ∈ F)(hl:B.length≤1000):
  vI [flV w h F,.lst [22]]=some (wX ((zbD [14] B [18]).map (cls [14] B [18]))):=by
 have few:=S.few
 have hbs:=je S C hB hl
 have hrc:∀ f ∈ B,[86].1<rs.length+cs.length/\[86].2<rs.length+cs.length:=fun f hf=>by
  obtain ⟨_,q1,q2,q3⟩:=S.rc_of (hB f hf)
  omega
 have hsl:=kC hs
 generalize hn:rs.length+cs.length=n at *
 generalize zO w rs cs=ls at *
 let mk:List (List Int)->List Int->Option PV->Option PV->En:=fun ps M x5 x6=>[some [32],some [78],some (.lst ((yI ls B).map zv)),some (wX ps),some (dF M fun _=>.any),x5,x6]
 obtain ⟨e,f1,M,x5,x6,rfl,p4,p2⟩:=yk (b:=zN 5) (g:=u7) (xs:=List.range n) (hh:=fun (i:Nat)=>PV.int (0+(i:Int))) (env:=mk [] [] none none)
  (fun pre e=>∃ M x5 x6,e=mk ((pre.filter fun k=>decide [311]).map (cls ls B n)) M x5 x6/\M.Nodup/\∀ s,s ∈ M ↔ s ∈ xg n/\lst ls B s.toNat ∈ pre)
  ⟨[],none,none,rfl,by simp,by simp⟩ (by
   rintro pre i post e hp ⟨M,x5,x6,rfl,p4,p2⟩
   have hin:i<n:=List.mem_range.mp (by rw [hp];simp)
   have hpr:=List.pairwise_lt_range (n:=n)
   rw [hp] at hpr
   have hpi:∀ k,k ∈ pre ↔ k<i:=fun k=>by
    refine ⟨fun z=>(JW.mp hpr).2.2 k z i Jf,fun z=>?_⟩
    have:k ∈ pre++i::post:=by rw [← hp];exact JQ.mpr [12]
    rcases List.mem_append.mp this with y | y
    ·exact y
    ·rcases List.mem_cons.mp y with y | y
     ·omega
     ·have:=(JX.mp (JW.mp hpr).2.1).1 k y;omega
   have hpl:pre.length≤n:=by
    have:=congrArg List.length hp
    rw [List.length_range,Jl] at this;omega
   have hMl:M.length≤n:=by
    have:=zL M _ p4 fun s hs'=>((p2 s).mp hs').1
    rwa [xk] at this
   have hle:=zka ls B i
   have hiM:((i:Int) ∈ M) ↔ lst ls B i<i:=by
    rw [p2,mem_univ,hpi]
    constructor
    ·exact fun z=>z.2
    ·exact fun z=>⟨by omega,z⟩
   rw [Int.zero_add]
   rw [Kq]
   have hfl:(pre.filter fun k=>decide [311]).length≤n:=JN (JR _ _) hpl
   generalize hfp:(pre.filter fun k=>decide [311])=fp at *
   by_cases hM:(i:Int) ∈ M
   ·have hlt:=hiM.mp hM
    have hfi:[i].filter (fun k=>decide [311])=[]:=by simp;omega
    rw [hfi,JO]
    generalize fp.map (cls ls B n)=ps at *
    refine ⟨mk ps M [104] x6,mk ps M [104] x6,rfl,.inl ?_,M,_,_,rfl,p4,fun s=>?_⟩
    ·have ht:fT (fOp xP (zA 5) (zA 4)) (mk ps M [104] x6)=some false:=by simp [mk,hM]
     unfold u7
     rw [yB,ht,Jb,if_neg Je];rfl
    ·rw [p2,JB,Jc]
     refine ⟨fun z=>⟨z.1,.inl z.2⟩,fun z=>⟨z.1,z.2.resolve_right fun y=>?_⟩⟩
     have:=zey ls B s.toNat
     rw [y] at this;omega
   ·have hii:lst ls B i=i:=by
     have:¬ lst ls B i<i:=fun z=>hM (hiM.mpr z)
     omega
    have hfi:[i].filter (fun k=>decide [311])=[i]:=by simp [hii]
    obtain ⟨L,ws,hw,wk⟩:=zaC (ss:=yI ls B) (start:=(i:Int)) (U:=xg n) (fun s hs=>by
     obtain ⟨f,_,e | e⟩:=mem_bSteps.mp hs<;>(rw [e];rfl)) (by rw [kc];omega) (fun s hs=>by
     obtain ⟨f,hf,e⟩:=mem_bSteps.mp hs
     obtain ⟨q1,q2⟩:=hrc f hf
     rw [mem_univ]
     rcases e with e | e<;>(rw [e];constructor<;>(simp only;omega))) (by rw [mem_univ];omega) (by rw [xk];omega)
    have hLl:L.length≤n:=by
     have:=zL L _ wk.nd wk.sub
     rwa [xk] at this
    have hmL:∀ s,s ∈ L ↔ s ∈ cls ls B n i:=fun s=>by
     rw [mem_cls]
     have key:∀ t:Nat,((t:Int) ∈ L) ↔ lst ls B t=i:=fun t=>by
      rw [wk.con,← lst_iff,hii]
      exact ⟨fun z=>z.symm,fun z=>z.symm⟩
     constructor
     ·intro z
      have hu:=wk.sub s z
      have:=mem_univ.mp hu
      refine ⟨hu,(key _).mp ?_⟩
      rwa [show ((s.toNat:Nat):Int)=s by omega]
     ·rintro ⟨hu,z⟩
      have:=mem_univ.mp hu
      have y:=(key _).mpr z
      rwa [show ((s.toNat:Nat):Int)=s by omega] at y
    have hso':=zhG wk.nd cls_rise hmL
    rw [hfi,JJ,List.map_singleton]
    generalize hpsd:fp.map (cls ls B n)=ps at *
    have hpsl:ps.length≤n:=by rw [← hpsd,Jh];exact hfl
    refine ⟨mk ps M [104] x6,mk (ps++[cls ls B n i]) (unI M L) [104] (some [67]),rfl,.inl ?_,_,_,_,rfl,zcp _ _ p4,fun s=>?_⟩
    ·have ht:fT (fOp xP (zA 5) (zA 4)) (mk ps M [104] x6)=some true:=by simp [mk,hM]
     unfold u7
     rw [yB,ht,Jb,if_pos rfl]
     rw [zG (e:=mk ps M [104] (some [67])) (zd (as:=[.lst ((yI ls B).map zv),.int (i:Int)]) rfl hw)]
     rw [zG (e:=mk ps (unI M L) [104] (some [67])) (zhy (i:=4) rfl rfl [12])]
     have hso:zJ vO (zC (zA 6) zI) (mk ps (unI M L) [104] (some [67]))=some (.lst ((cls ls B n i).map PV.int)):=by
      refine zg (as:=[dF L fun s=>.lst (ws s)]) rfl ?_
      unfold dF vO
      dsimp only
      rw [zab]
      dsimp only
      rw [if_pos [12],hso']
     unfold zb
     have hv:zA 3 (mk ps (unI M L) [104] (some [67]))=some (wX ps):=rfl
     rw [hv,hso]
     simp only [Option.bind_some,wX,List.length_map,show ps.length<100000 by omega,if_true]
     simp [mk,wX]
    ·rw [zgK,p2,hmL,mem_cls,JB,Jc]
     constructor
     ·rintro (z | z)
      ·exact ⟨z.1,.inl z.2⟩
      ·exact ⟨z.1,.inr z.2⟩
     ·rintro ⟨z,y | y⟩
      ·exact .inl ⟨z,y⟩
      ·exact .inr ⟨z,y⟩)
 have e0:[133].filter (fun k=>decide [311])=zbD ls B n:=rfl
 rw [e0] at f1
 generalize (zbD ls B n).map (cls ls B n)=ps at *
 refine yT (e:=mk ps M x5 x6) [some [32],some [78],none,none,none,none,none] rfl ?_
 unfold zbz
 rw [zG (zd (as:=[flV w h F,.lst [22]]) rfl hbs)]
 rw [zG (e:=[some [32],some [78],some (.lst ((yI ls B).map zv)),some (wX []),none,none,none]) rfl]
 rw [zG (e:=mk [] [] none none) rfl]
 have hr:xl (zC (zJ xQ [111]) zI) (mk [] [] none none)=some (uG 0 n):=by
  refine zas (j:=((n:Nat):Int)) ?_ [12] [12]
  rw [zS,hsl _ rfl];rfl
 rw [zG (e:=mk ps M x5 x6) (by rw [yJ,hr,Jb];exact f1)]
 rfl
theorem zhK{w h:Int}{F:List Int}{rs cs:List [46]}{L0:List Int}{G:Int->PV}(S:Strips w h F rs cs)(C:Cross w h F [14] L0 G)(hs:zY [flV w h F]=some [48]){B:List Int}(hB:∀ f ∈ B,f ∈ F)(hl:B.length≤1000):
  ∃ ps:List [42],vI [flV w h F,.lst [22]]=some (wX ps)/\(∀ p ∈ ps,Piece [14] B [18] p)/\∀ k:Nat,k<rs.length+cs.length->∃ p ∈ ps,(k:Int) ∈ p:=by
 have hrc:∀ f ∈ B,[86].1<rs.length+cs.length/\[86].2<rs.length+cs.length:=fun f hf=>by
  obtain ⟨_,q1,q2,q3⟩:=S.rc_of (hB f hf)
  omega
 refine ⟨_,zhL S C hs hB hl,fun p hp=>?_,fun k hk=>?_⟩
 ·obtain ⟨k,hk,rfl⟩:=Jx.mp hp
  obtain ⟨k1,k2⟩:=mem_firsts.mp hk
  refine ⟨fun s hs'=>(mem_cls.mp hs').1,fun z=>?_,cls_rise.imp fun z=>Int.le_of_lt z,k,fun s=>?_⟩
  ·have:(k:Int) ∈ cls [14] B [18] k:=mem_cls.mpr ⟨mem_univ.mpr [12],k2⟩
   rw [z] at this;cases this
  ·rw [mem_cls,mem_univ]
   constructor
   ·rintro ⟨z1,z2⟩
    exact ⟨s.toNat,by omega,lst_iff.mp (by rw [z2,k2])⟩
   ·rintro ⟨t,rfl,z⟩
    have:=z.lt hrc k1
    refine ⟨by omega,?_⟩
    show lst _ _ t=k
    rw [← lst_iff.mpr z,k2]
 ·refine ⟨_,Jx.mpr ⟨lst [14] B k,mem_firsts.mpr ⟨?_,zey _ _ _⟩,rfl⟩,mem_cls.mpr ⟨mem_univ.mpr [12],rfl⟩⟩
  have:=zka [14] B k
  omega
theorem Piece.first{ls:List [42]}{B:List Int}{n:Nat}{x:Int}{r:List Int}(p:Piece ls B n (x::r)){t:Nat}(ht:(t:Int) ∈ x::r):x=(lst ls B t:Nat):=by
 obtain ⟨k,hk⟩:=p.mem
 obtain ⟨t0,e0,c0⟩:=(hk x).mp Jf
 obtain ⟨t1,e1,c1⟩:=(hk t).mp ht
 have:t1=t:=by omega
 subst this
 have hl:Least ls B t1 t0:=⟨c1.symm.trans c0,fun u hu=>by
  have hum:(u:Int) ∈ x::r:=(hk u).mpr ⟨u,rfl,c1.trans hu⟩
  rcases List.mem_cons.mp hum with z | z
  ·omega
  ·have:=(JX.mp p.rise).1 _ z
   omega⟩
 rw [znD hl,e0]
theorem zcC{w h:Int}{F:List Int}{rs cs:List [46]}{L0:List Int}{G:Int->PV}(S:Strips w h F rs cs)(C:Cross w h F [14] L0 G)(hs:zY [flV w h F]=some [48]){B:List Int}(hB:∀ f ∈ B,f ∈ F)(hl:B.length≤1000):
  ∃ L Z,vJ [flV w h F,.lst [22]]=some (dF L Z)/\(∀ k:Nat,k<rs.length+cs.length->(k:Int) ∈ L/\Z k=.int (lst [14] B k:Nat))/\L.Nodup/\∀ s ∈ L,s ∈ xg [18]:=by
 have few:=S.few
 obtain ⟨ps,h1,h2,h3⟩:=zhK S C hs hB hl
 generalize hn:rs.length+cs.length=n at *
 generalize zO w rs cs=ls at *
 let mk:List Int->(Int->PV)->Option PV->Option PV->En:=fun L Z x3 x4=>[some [32],some [78],some (dF L Z),x3,x4]
 obtain ⟨e,f1,L,Z,x3,x4,rfl,q1,q2,q3⟩:=yk (b:=zN 3) (g:=kZ) (xs:=ps) (hh:=fun p=>PV.lst (p.map PV.int)) (env:=mk [] [243] none none)
  (fun pre e=>∃ L Z x3 x4,e=mk L Z x3 x4/\(L.Nodup/\∀ s ∈ L,s ∈ xg n)/\(∀ t:Nat,(t:Int) ∈ L->Z t=.int (lst ls B t:Nat))/\∀ p ∈ pre,∀ s ∈ p,s ∈ L)
  ⟨[],_,none,none,rfl,by simp,by simp,by simp⟩ (by
   rintro pre p post e hp ⟨L,Z,x3,x4,rfl,q1,q2,q3⟩
   have pp:=h2 p (by rw [hp];simp)
   obtain ⟨x,r,rfl⟩:∃ x r,p=x::r:=by
    cases p with
    | nil=>exact absurd rfl pp.ne
    | cons x r=>exact ⟨x,r,rfl⟩
   obtain ⟨e',g1,L',Z',x4',rfl,t1,t2,t3⟩:=yk (b:=zN 4) (g:=ka) (xs:=x::r) (hh:=PV.int) (env:=mk L Z [205] x4)
    (fun q e=>∃ L' Z' x4,e=mk L' Z' [205] x4/\(L'.Nodup/\∀ s ∈ L',s ∈ xg n)/\(∀ t:Nat,(t:Int) ∈ L'->Z' t=.int (lst ls B t:Nat))/\∀ s,(s ∈ L∨s ∈ q)->s ∈ L')
    ⟨L,Z,x4,rfl,q1,q2,by simp⟩ (by
     rintro q s post e hq ⟨L',Z',x4,rfl,t1,t2,t3⟩
     have hsp:s ∈ x::r:=by rw [hq];simp
     have hsu:=pp.sub s hsp
     have hLl:L'.length≤n:=by
      have:=zL L' _ t1.1 t1.2
      rwa [xk] at this
     have hD:jh L' Z':=fun y hy=>by
      have:=mem_univ.mp (t1.2 y hy)
      have e:=t2 y.toNat (by rwa [show ((y.toNat:Nat):Int)=y by omega])
      rw [show ((y.toNat:Nat):Int)=y by omega] at e
      rw [e];rfl
     have hput:=qU (p:=s) (q:=.int x) hD rfl (show L'.length<100000 by omega)
     refine ⟨_,mk (if s ∈ L' then L' else L'++[s]) (upF Z' s (.int x)) [205] (some (.int s)),rfl,.inl ?_,_,_,_,rfl,⟨?_,?_⟩,?_,?_⟩
     ·unfold ka vq
      simp only [mk,yP,zfa,wz,ziD,List.map_cons,List.getElem?_cons_succ,List.getElem?_cons_zero,List.set_cons_succ,List.set_cons_zero,Option.join_some,Option.bind_some,zkl,zhi,hput,Option.map_some]
     ·split
      ·exact t1.1
      ·rename_i hns
       exact List.nodup_append.mpr ⟨t1.1,by simp,fun a ha b hb hab=>hns (by rw [List.mem_singleton.mp hb] at hab;exact hab ▸ ha)⟩
     ·intro y hy
      split at hy
      ·exact t1.2 y hy
      ·rcases List.mem_append.mp hy with hy | hy
       ·exact t1.2 y hy
       ·rw [Jc.mp hy];exact hsu
     ·intro t ht
      by_cases e:(t:Int)=s
      ·rw [e,upF_self]
       have htp:(t:Int) ∈ x::r:=by rw [e];exact hsp
       rw [pp.first htp]
      ·rw [v7 e]
       refine t2 t ?_
       split at ht
       ·exact ht
       ·exact (JB.mp ht).resolve_right fun z=>e (Jc.mp z)
     ·intro y hy
      have:y ∈ L'∨y=s:=by
       rcases hy with hy | hy
       ·exact .inl (t3 y (.inl hy))
       ·rcases List.mem_append.mp hy with hy | hy
        ·exact .inl (t3 y (.inr hy))
        ·exact .inr (Jc.mp hy)
      split
      ·rename_i hsL
       exact this.elim id fun z=>z ▸ hsL
      ·exact JB.mpr (this.imp id Jc.mpr))
   refine ⟨_,mk L' Z' [205] x4',rfl,.inl ?_,_,_,_,_,rfl,t1,t2,fun p' hp' s hs'=>?_⟩
   ·unfold kZ
    rw [yJ]
    exact g1
   ·rcases List.mem_append.mp hp' with hp' | hp'
    ·exact t3 s (.inl (q3 p' hp' s hs'))
    ·rw [Jc.mp hp'] at hs'
     exact t3 s (.inr hs'))
 refine ⟨L,Z,?_,fun k hk=>?_,q1⟩
 ·refine yT (e:=mk L Z x3 x4) [some [32],some [78],none,none,none] rfl ?_
  unfold zbA
  rw [zG (e:=mk [] [243] none none) rfl]
  have hc:zf (zJ vI [59]) (mk [] [243] none none)=some (ps.map fun p=>PV.lst (p.map PV.int)):=by
   rw [yw,zg (as:=[flV w h F,.lst [22]]) rfl h1];rfl
  rw [zG (e:=mk L Z x3 x4) (by rw [yJ,hc,Jb];exact f1)]
  rfl
 ·obtain ⟨p,hp,hkp⟩:=h3 k hk
  have:=q3 p hp _ hkp
  exact ⟨this,q2 k this⟩
theorem zmg{w h:Int}{F:List Int}{rs cs:List [46]}{L0:List Int}{G:Int->PV}(S:Strips w h F rs cs)(C:Cross w h F [14] L0 G)(hs:zY [flV w h F]=some [48]){B:List Int}(hB:∀ f ∈ B,f ∈ F)(hl:B.length≤1000):
  zap [flV w h F,.lst [22]]=some (.lst ((F.filter fun f=>decide [167]).map PV.int)):=by
 obtain ⟨L,Z,h1,h2,_⟩:=zcC S C hs hB hl
 have hFl:=yW S.fl
 have hcomp:ym (zN 0) (fT (fOp vEq (fOp vIx (zA 1) (fOp vIx [310] [25])) (fOp vIx (zA 1) (fOp vIx [310] [20])))) [101] [41] [none,some (dF L Z),some (dF L0 G)]=some ((F.filter fun f=>decide [167]).map PV.int):=by
  refine vL _ PV.int F fun f hf=>⟨_,rfl,?_,fun _=>by simp⟩
  obtain ⟨q0,q1,q2,q3⟩:=S.rc_of hf
  have hix:=C.ix hf q0
  obtain ⟨m1,z1⟩:=h2 [86].1 [12]
  obtain ⟨m2,z2⟩:=h2 [86].2 [12]
  have i1:=vo (G:=Z) m1
  have i2:=vo (G:=Z) m2
  rw [z1] at i1
  rw [z2] at i2
  generalize rc [14] f=p at *
  generalize lst [14] B p.1=x at *
  generalize lst [14] B p.2=y at *
  simp only [qK,yP,wz,ziD,List.getElem?_cons_succ,List.getElem?_cons_zero,List.set_cons_zero,Option.join_some,Option.bind_some,hix,_root_.F.ix_tup,zhi,zmM,i1,i2,zeM,zhj]
  have:decide ((x:Int)=(y:Int))=decide (x=y):=by rw [Bool.eq_iff_iff,decide_eq_true_eq,decide_eq_true_eq];omega
  rw [this]
 let e3:En:=[some [32],some [78],some (dF L Z),some (dF L0 G)]
 refine yT (e:=e3) [some [32],some [78],none,none] rfl ?_
 unfold zfT
 rw [zG (zd (as:=[flV w h F,.lst [22]]) rfl h1)]
 rw [zG (e:=e3) [210]]
 have hsq:zf [91] e3=some [41]:=by simp [e3]
 have hce:cE 1 [2,3] e3=[none,some (dF L Z),some (dF L0 G)]:=rfl
 rw [xJ,zcS,hsq,Jb,if_pos [153],hce,hcomp];rfl
section
variable {T T':List Int} {p:Nat × Nat} {n k:Nat} {ls:List [42]} {B B':List Int} {f:Int} {a b:Nat}
noncomputable def mrg(T:List Int)(p:Nat × Nat):List Int:=T.map fun x=>if x=T.getD p.2 0 then T.getD p.1 0 else x
theorem zgJ:(mrg T p).length=T.length:=by simp [mrg]
theorem getD_mem{T:List Int}{k:Nat}(h:k<T.length):T.getD k 0 ∈ T:=by
 have:T.getD k 0=T[k]:=by simp [List.getD,h]
 rw [this];exact JP h
theorem mem_getD{T:List Int}{x:Int}(h:x ∈ T):∃ k,k<T.length/\T.getD k 0=x:=by
 obtain ⟨k,hk,e⟩:=Qe h
 exact ⟨k,hk,by simp [List.getD,hk,e]⟩
theorem zjX(h:k<T.length):(mrg T p).getD k 0=if T.getD k 0=T.getD p.2 0 then T.getD p.1 0 else T.getD k 0:=by
 unfold mrg
 have e:T.getD k 0=T[k]:=by simp [List.getD,h]
 rw [e]
 simp [List.getD,h]
theorem zjW(h:T.getD p.1 0=T.getD p.2 0):mrg T p=T:=by
 unfold mrg
 rw [h]
 conv=>rhs;rw [← List.map_id T]
 refine KL fun x _=>?_
 by_cases e:x=T.getD p.2 0
 ·rw [if_pos e,← e];rfl
 ·rw [if_neg e];rfl
theorem zco{T l:List Int}(nd:l.Nodup)(hm:∀ k,k ∈ l ↔ k ∈ T):yH T=l.length:=by
 obtain ⟨l',h1,h2,h3⟩:=vK T
 have a:=len_le_of l l' nd fun x hx=>(h2 x).mpr ((hm x).mp hx)
 have b:=len_le_of l' l h1 fun x hx=>(hm x).mpr ((h2 x).mp hx)
 omega
theorem zaI(hr:p.1<T.length)(hc:p.2<T.length)(h:T.getD p.1 0≠T.getD p.2 0):yH (mrg T p)+1=yH T:=by
 obtain ⟨l,h1,h2,h3⟩:=vK T
 have hcl:T.getD p.2 0 ∈ l:=(h2 _).mpr (getD_mem hc)
 rw [zco (T:=mrg T p) (l:=l.erase (T.getD p.2 0)) (h1.erase _) fun x=>?_,Ks hcl,← h3]
 ·have:=KA hcl
  omega
 ·rw [h1.mem_erase_iff,h2]
  unfold mrg
  rw [Jx]
  constructor
  ·rintro ⟨e1,e2⟩
   exact ⟨x,e2,if_neg e1⟩
  ·rintro ⟨y,hy,e⟩
   split at e
   ·exact e ▸ ⟨h,getD_mem hr⟩
   ·rename_i hne
    exact e ▸ ⟨hne,hy⟩
theorem jz(hr:p.1<T.length)(hc:p.2<T.length):yH T≤yH (mrg T p)+1:=by
 by_cases h:T.getD p.1 0=T.getD p.2 0
 ·rw [zjW h];omega
 ·rw [zaI hr hc h];exact Jm _
theorem zcn(hn:T.length=n)(hn':T'.length=n)(h:∀ a b,a<n->b<n->T'.getD a 0=T'.getD b 0->T.getD a 0=T.getD b 0):yH T≤yH T':=by
 obtain ⟨l,h1,h2,h3⟩:=vK T
 obtain ⟨l',g1,g2,g3⟩:=vK T'
 have:∀ x:Int,∃ k:Nat,x ∈ T->k<n/\T.getD k 0=x:=fun x=>by
  by_cases hx:x ∈ T
  ·obtain ⟨k,hk,e⟩:=mem_getD hx
   exact ⟨k,fun _=>⟨by omega,e⟩⟩
  ·exact ⟨0,fun z=>absurd z hx⟩
 obtain ⟨φ,hφ⟩:=Classical.axiomOfChoice this
 have nd:(l.map fun x=>T'.getD (φ x) 0).Nodup:=by
  rw [JH,Kc]
  rw [JH] at h1
  refine List.Pairwise.imp_of_mem (fun {a b} ha hb hne e=>?_) h1
  obtain ⟨a1,a2⟩:=hφ a ((h2 a).mp ha)
  obtain ⟨b1,b2⟩:=hφ b ((h2 b).mp hb)
  have:=h _ _ a1 b1 e
  exact hne (by rw [← a2,← b2];exact this)
 have:=len_le_of _ l' nd fun y hy=>by
  obtain ⟨x,hx,rfl⟩:=Jx.mp hy
  exact (g2 _).mpr (getD_mem (by rw [hn'];exact (hφ x ((h2 x).mp hx)).1))
 rw [Jh] at this
 omega
theorem zfg(hn:0<T.length)(h:∀ a,a<T.length->T.getD a 0=T.getD 0 0):yH T=1:=by
 refine zco (l:=[T.getD 0 0]) [19] fun k=>?_
 rw [Jc]
 constructor
 ·rintro rfl;exact getD_mem hn
 ·intro hk
  obtain ⟨i,hi,e⟩:=mem_getD hk
  rw [← e,h i hi]
theorem zaJ(n:Nat):(xg n).Nodup:=by
 unfold xg
 rw [JH,Kc]
 exact List.Pairwise.imp (fun {a b} h e=>h [12]) (JH.mp List.nodup_range)
theorem Con.mono(h:Con ls B a b)(hs:∀ f ∈ B,f ∈ B'):Con ls B' a b:=by
 induction h with
 | refl=>exact .refl
 | step _ hf e ih=>exact .step ih (hs _ hf) e
noncomputable def Rg(ls:List [42])(n:Nat)(f:Int):Prop:=[53].1<n/\[53].2<n
noncomputable def Pat(ls:List [42])(B:List Int)(n:Nat)(T:List Int):Prop:=T.length=n/\∀ a b,a<n->b<n->(T.getD a 0=T.getD b 0 ↔ Con ls B a b)
theorem Pat.step(h:Pat ls B n T)(hB:∀ g ∈ B,Rg ls n g)(hf:Rg ls n f):Pat ls (B++[f]) n (mrg T [53]):=by
 obtain ⟨hl,hp⟩:=h
 have hfc:Con ls (B++[f]) [53].1 [53].2:=.step .refl [19] [76]
 have mono:∀ {a b},Con ls B a b->Con ls (B++[f]) a b:=fun h=>h.mono fun g hg=>Jj _ hg
 refine ⟨by rw [zgJ,hl],fun a b ha hb=>?_⟩
 have key:∀ x,x<n->(mrg T [53]).getD x 0=if T.getD x 0=T.getD [53].2 0 then T.getD [53].1 0 else T.getD x 0:=fun x hx=>zjX [12]
 constructor
 ·rw [key a ha,key b hb]
  by_cases ea:T.getD a 0=T.getD [53].2 0
  ·by_cases eb:T.getD b 0=T.getD [53].2 0
   ·intro _
    exact mono ((hp a b ha hb).mp (ea.trans eb.symm))
   ·rw [if_pos ea,if_neg eb]
    intro e
    exact (mono ((hp a _ ha hf.2).mp ea)).trans (hfc.symm.trans (mono ((hp _ b hf.1 hb).mp e)))
  ·by_cases eb:T.getD b 0=T.getD [53].2 0
   ·rw [if_neg ea,if_pos eb]
    intro e
    exact (mono ((hp a _ ha hf.1).mp e)).trans (hfc.trans (mono ((hp _ b hf.2 hb).mp eb.symm)))
   ·rw [if_neg ea,if_neg eb]
    intro e
    exact mono ((hp a b ha hb).mp e)
 ·intro h
  have go:∀ {b},Con ls (B++[f]) a b->b<n->(mrg T [53]).getD a 0=(mrg T [53]).getD b 0:=by
   intro b h
   clear hb
   induction h with
   | refl=>intro _;rfl
   | @step b e g hc hg he ih=>
    intro hen
    have hbe:b<n/\(mrg T [53]).getD b 0=(mrg T [53]).getD e 0:=by
     rcases List.mem_append.mp hg with hg | hg
     ·have hgr:=hB g hg
      have hbn:b<n:=by
       obtain ⟨q1,q2⟩:=hgr
       rcases he with z | z<;>(rw [z] at q1 q2;assumption)
      have:T.getD b 0=T.getD e 0:=(hp b e hbn hen).mpr (.step .refl hg he)
      exact ⟨hbn,by rw [key b hbn,key e hen,this]⟩
     ·have:=Jc.mp hg
      subst this
      rw [key e hen]
      rcases he with z | z
      ·obtain ⟨q1,q2⟩:=hf
       rw [z] at q1 q2 key ⊢
       refine ⟨q1,?_⟩
       rw [key b q1,if_pos rfl]
       split<;>rfl
      ·obtain ⟨q1,q2⟩:=hf
       rw [z] at q1 q2 key ⊢
       refine ⟨q2,?_⟩
       rw [key b q2,if_pos rfl]
       split<;>rfl
    rw [ih hbe.1,hbe.2]
  exact go h hb
noncomputable def tm(ls:List [42])(n:Nat)(B:List Int):List Int:=B.foldl (fun T f=>mrg T [53]) (xg n)
theorem zeI:∀ (post pre T:List Int),Pat ls pre n T->(∀ g ∈ pre++post,Rg ls n g)->Pat ls (pre++post) n (post.foldl (fun T f=>mrg T [53]) T)
 | [],pre,T,h,_=>by rw [JO];exact h
 | g::post,pre,T,h,hg=>by
  have:=zeI post (pre++[g]) (mrg T (rc ls g)) (h.step (fun x hx=>hg x (by simp [hx])) (hg g [19])) (by simpa using hg)
  simpa using this
theorem zaK(hB:∀ g ∈ B,Rg ls n g):Pat ls B n (tm ls n B):=by
 have h0:Pat ls [] n (xg n):=by
  refine ⟨xk n,fun a b ha hb=>?_⟩
  have e:∀ k,k<n->(xg n).getD k 0=(k:Int):=fun k hk=>by simp [xg,List.getD,hk]
  rw [e a ha,e b hb]
  constructor
  ·intro h
   have:a=b:=by omega
   exact this ▸ .refl
  ·intro h
   cases h with
   | refl=>rfl
   | step _ hf _=>cases hf
 exact zeI B [] (xg n) h0 (by simpa using hB)
theorem zgU:∀ (E T:List Int),T.length=n->(∀ g ∈ E,Rg ls n g)->yH T≤yH (E.foldl (fun T f=>mrg T [53]) T)+E.length
 | [],T,_,_=>by simp
 | g::E,T,h,hg=>by
  have h1:=hg g Jf
  have:=zgU E (mrg T (rc ls g)) (by rw [zgJ,h]) fun x hx=>hg x (Jg _ hx)
  have:=jz (T:=T) (p:=rc ls g) (by rw [h];exact h1.1) (by rw [h];exact h1.2)
  simp only [List.foldl_cons,List.length_cons]
  omega
theorem Pat.count(h:Pat ls B n T)(h':Pat ls B' n T')(he:∀ a b,Con ls B a b ↔ Con ls B' a b):yH T=yH T':=
 Nat.le_antisymm (zcn h.1 h'.1 fun a b ha hb e=>(h.2 a b ha hb).mpr ((he a b).mpr ((h'.2 a b ha hb).mp e)))
  (zcn h'.1 h.1 fun a b ha hb e=>(h'.2 a b ha hb).mpr ((he a b).mp ((h.2 a b ha hb).mp e)))
theorem Pat.one(h:Pat ls B n T)(hn:0<n)(hc:∀ a,a<n->Con ls B 0 a):yH T=1:=
 zfg (by rw [h.1];exact hn) fun a ha=>((h.2 0 a hn (by rw [← h.1];exact ha)).mpr (hc a (by rw [← h.1];exact ha))).symm
end
structure Lack (ls:List [42]) (B F D:List Int) (n:Nat):Prop where
 sub:D.Sublist F
 out:∀ f ∈ D,f ∉ B
 len:D.length+1=yH (tm ls n B)
 all:yH (tm ls n (B++D))=1
 one:∀ f ∈ D,yH (tm ls n (B++D.filter fun g=>!decide (g=f)))=2
theorem Lack.mk'{ls:List [42]}{B F D T:List Int}{n:Nat}(hn:0<n)(nd:F.Nodup)(sub:D.Sublist F)(out:∀ f ∈ D,f ∉ B)(rB:∀ f ∈ B,Rg ls n f)(rF:∀ f ∈ F,Rg ls n f)
  (hT:Pat ls (B++D) n T)(hc:yH T+D.length=yH (tm ls n B))(all:∀ a,a<n->Con ls (B++D) 0 a):Lack ls B F D n:=by
 have rD:∀ f ∈ D,Rg ls n f:=fun f hf=>rF f (sub.subset hf)
 have rBD:∀ f ∈ B++D,Rg ls n f:=fun f hf=>(JB.mp hf).elim (rB f) (rD f)
 have len:D.length+1=yH (tm ls n B):=by rw [← hc,hT.one hn all];omega
 refine ⟨sub,out,len,(zaK rBD).one hn all,fun f hf=>?_⟩
 generalize hE:(D.filter fun g=>!decide (g=f))=E
 have hEl:E.length+1=D.length:=by
  have hnd:D.Nodup:=sub.nodup nd
  have:E=D.erase f:=by
   rw [hnd.erase_eq_filter,← hE]
   refine List.filter_congr fun x _=>?_
   rw [Bool.eq_iff_iff];simp
  rw [this,Ks hf]
  have:=KA hf
  omega
 have hEm:∀ x,x ∈ E ↔ x ∈ D/\x≠f:=fun x=>by rw [← hE,List.mem_filter];simp
 have rE:∀ g ∈ E,Rg ls n g:=fun g hg=>rD g ((hEm g).mp hg).1
 have rBE:∀ g ∈ B++E,Rg ls n g:=fun g hg=>(JB.mp hg).elim (rB g) (rE g)
 have p1:=zaK rBE
 have ge:yH (tm ls n B)≤yH (tm ls n (B++E))+E.length:=by
  have:=zgU (ls:=ls) E (tm ls n B) (zaK rB).1 rE
  unfold tm at this ⊢
  rw [List.foldl_append]
  exact this
 have p2:=p1.step rBE (rD f hf)
 have one:yH (mrg (tm ls n (B++E)) [53])=1:=p2.one hn fun a ha=>(all a ha).mono fun g hg=>by
  rcases List.mem_append.mp hg with hg | hg
  ·simp [hg]
  ·by_cases e:g=f
   ·simp [e]
   ·have:=(hEm g).mpr ⟨hg,e⟩
    simp [this]
 have:=jz (T:=tm ls n (B++E)) (p:=rc ls f) (by rw [p1.1];exact (rD f hf).1) (by rw [p1.1];exact (rD f hf).2)
 omega
noncomputable def k9:FS:=(zX (zh 2 (zJ xZ (zC (zA 0) (zC (zA 1) (zC [25] zI)))))
 (zX (wC (fT (fOp vLt (zJ xQ [82]) (zJ xQ [111]))) (yY (xW (zC (fC (.str "leans")) (zC (zJ vM (zC (zA 0) [82])) zI)))) fNx)
 (yY (xW (zC (fC (.str "stiff")) (zC (zbF 2 (xl (zC (zJ xQ [82]) zI))) zI))))))
noncomputable def yu:List PV->Option PV:=fnV 3 k9
theorem zgD{L:List Int}{G:Int->PV}:∀ {ns:List Int},(∀ n ∈ ns,n ∈ L)->kt [127] (L.map G) ns=some (ns.map G)
 | [],_=>rfl
 | n::ns,h=>by
  obtain ⟨j,h1,h2,h3⟩:=zkk (h n Jf)
  have hg:(L.map G)[j]?=some (G n):=by rw [JM,h3];rfl
  unfold kt
  rw [h1,Jb,hg,Jb,zgD fun m hm=>h m (Jg _ hm)];rfl
noncomputable def ziH(n:Nat)(ws:Int->List PV):List PV:=(xg n).map fun s=>.lst (ws s)
theorem zia{w h:Int}{F:List Int}{rs cs:List [46]}{L0:List Int}{G:Int->PV}(S:Strips w h F rs cs)(C:Cross w h F [14] L0 G)(hs:zY [flV w h F]=some [48]){B:List Int}(hB:∀ f ∈ B,f ∈ F)(hl:B.length≤1000):
  ∃ L ws,Wk (yI [14] B) 0 (xg [18]) L ws [] []/\
   ((L.length<rs.length+cs.length/\yu [flV w h F,.lst [22]]=some (.tup [.str [197],.lst [223]]))∨
   ((∀ k,k ∈ xg (rs.length+cs.length)->k ∈ L)/\L.length=rs.length+cs.length/\yu [flV w h F,.lst [22]]=some (.tup [.str [320],.lst (ziH [18] ws)]))):=by
 have hpos:=S.ne
 have hlen:=S.lens
 obtain ⟨L,ws,h1,wk⟩:=zlb S C hB hl (k:=0) [12]
 simp only [Int.natCast_zero] at wk
 refine ⟨L,ws,wk,?_⟩
 have hw:xZ [flV w h F,.lst [22],.int 0]=some [67]:=h1
 have hUl:=xk [18]
 have hle:L.length≤rs.length+cs.length:=by
  have:=zL L _ wk.nd wk.sub
  rwa [hUl] at this
 let env:En:=[some [32],some [78],some [67]]
 have hll:zJ xQ [82] env=some (.int (L.length:Int)):=zg (as:=[dF L fun s=>.lst (ws s)]) rfl znE
 have hsl:zJ xQ [111] env=some (.int ((rs.length+cs.length:Nat):Int)):=kC hs env rfl
 have ht:fT (fOp vLt (zJ xQ [82]) (zJ xQ [111])) env=some (decide (L.length<rs.length+cs.length)):=by
  rw [qK,yP,hll,hsl]
  simp only [Option.bind_some,zoV,zhj]
  congr 1
  rw [Bool.eq_iff_iff,decide_eq_true_eq,decide_eq_true_eq]
  omega
 have s0:zh 2 (zJ xZ (zC (zA 0) (zC (zA 1) (zC [25] zI)))) [some [32],some [78],none]=some (.nx env):=zd (as:=[flV w h F,.lst [22],.int 0]) rfl hw
 by_cases hlt:L.length<rs.length+cs.length
 ·refine .inl ⟨hlt,yT (e:=env) [some [32],some [78],none] rfl ?_⟩
  unfold k9
  rw [zG s0]
  have hlu:zJ vM (zC (zA 0) [82]) env=some (.lst [223]):=zg (as:=[flV w h F,dF L fun s=>.lst (ws s)]) rfl (zfK S hs L _)
  rw [decide_eq_true hlt] at ht
  rw [zgW (e:=env) (p:=.tup [.str [197],.lst [223]]) (by
   rw [yB,ht,Jb,if_pos rfl,xJ,jg,zS,zS,hlu];rfl)]
 ·have hLn:L.length=rs.length+cs.length:=by omega
  have hall:∀ k,k ∈ xg (rs.length+cs.length)->k ∈ L:=(jv wk.nd (zaJ _) wk.sub).mp (by rw [hUl];exact hLn)
  refine .inr ⟨hall,hLn,yT (e:=env) [some [32],some [78],none] rfl ?_⟩
  unfold k9
  rw [zG s0]
  rw [decide_eq_false hlt] at ht
  rw [zG (e:=env) (by rw [yB,ht,Jb,if_neg Je];rfl)]
  have hr:xl (zC (zJ xQ [82]) zI) env=some ((xg [18]).map PV.int):=by
   have:=zas (fs:=zC (zJ xQ [82]) zI) (env:=env) (j:=(L.length:Int)) (by rw [zS,hll];rfl) [12] [12]
   rw [this,Int.toNat_natCast,hLn,zjm];rfl
  have hpk:zbF 2 (xl (zC (zJ xQ [82]) zI)) env=some (.lst (ziH [18] ws)):=by
   unfold zbF
   have hv:zA 2 env=some [67]:=rfl
   rw [hv,hr,Jb,Jb]
   have hnd:=decide_eq_true (zaJ [18])
   have hln:decide ((xg [18]).length≤100000)=true:=decide_eq_true (by rw [hUl];omega)
   simp only [dF,xw,Option.bind_some,hnd,hln,Bool.and_self,if_true,zgD hall,Option.map_some]
   rfl
  rw [xJ,jg,zS,zS,hpk];rfl
noncomputable def v4:FS:=(wC (fT (fOp vEq (fOp vIx (zA 3) (zA 9)) (zA 8))) (vq 3 (zA 9) (zA 7)) fNx)
noncomputable def vz:FS:=(zX (zh 7 (zu (fOp vIx (zA 3) (fOp vIx [312] [25]))))
 (zX (zh 8 (zu (fOp vIx (zA 3) (fOp vIx [312] [20]))))
 (wC (fT (fOp vNe (zA 7) (zA 8))) (zX (zb 5 (zu (zA 6)))
 (yx (zf (zJ xj (zC (zA 3) zI))) (zN 9) v4)) fNx)))
noncomputable def qf:FS:=(zX (zh 3 (zJ vJ [59]))
 (zX (zh 4 (zJ zq [38]))
 (zX (zh 5 (xI zI))
 (zX (yx (zf (zA 2)) (zN 6) vz)
 (yY (zA 5))))))
noncomputable def uf:List PV->Option PV:=fnV 10 qf
noncomputable def qe:FS:=(yY (zJ uf (zC (zA 0) (zC (zA 1) (zC [91] zI)))))
noncomputable def vN:List PV->Option PV:=fnV 2 qe
theorem zmb{L:List Int}{Z:Int->PV}:xj [dF L Z]=some [265]:=by
 unfold dF xj;dsimp only;rw [List.map_map];rfl
theorem zfL{w h:Int}{F:List Int}{rs cs:List [46]}{L0:List Int}{G:Int->PV}(S:Strips w h F rs cs)(C:Cross w h F [14] L0 G)(hs:zY [flV w h F]=some [48]){B:List Int}(hB:∀ f ∈ B,f ∈ F)(hl:B.length≤1000):
  ∃ D:List Int,vN [flV w h F,.lst [22]]=some (.lst (D.map PV.int))/\Lack [14] B F D [18]:=by
 have few:=S.few
 have hpos:=S.ne
 have hFl:=yW S.fl
 have ndF:=yF S.fl.rise
 obtain ⟨L,Z,h1,h2,nd,sub⟩:=zcC S C hs hB hl
 have rF:∀ f ∈ F,Rg [14] [18] f:=fun f hf=>by
  obtain ⟨q0,q1,q2,q3⟩:=S.rc_of hf
  exact ⟨by omega,q3⟩
 have hcr:∀ f ∈ F,vIx (dF L0 G) (.int f)=some (.tup [.int ([86].1:Nat),.int ([86].2:Nat)]):=fun f hf=>C.ix hf (S.rc_of hf).1
 have hall:=S.all
 have hC:=C.val
 generalize hn:rs.length+cs.length=n at *
 generalize zO w rs cs=ls at *
 have hLl:L.length≤n:=by
  have:=zL L _ nd sub
  rwa [xk] at this
 have rB:∀ f ∈ B,Rg ls n f:=fun f hf=>rF f (hB f hf)
 generalize hT0:([133].map fun (k:Nat)=>((lst ls B k:Nat):Int))=T0
 have at0:∀ k,k<n->T0.getD k 0=((lst ls B k:Nat):Int):=fun k hk=>by rw [← hT0];simp [List.getD,hk]
 have pat0:Pat ls B n T0:=by
  refine ⟨by rw [← hT0];simp,fun a b ha hb=>?_⟩
  rw [at0 a ha,at0 b hb,← lst_iff]
  omega
 let mk:(Int->PV)->List Int->Option PV->Option PV->Option PV->Option PV->En:=fun Z D x6 x7 x8 x9=>[some [32],some [78],some [128],some (dF L Z),some (dF L0 G),some (.lst (D.map PV.int)),x6,x7,x8,x9]
 obtain ⟨e,f1,Z1,T,D,x6,x7,x8,x9,rfl,p1,p2,p3,p4,p5,p6⟩:=yk (b:=zN 6) (g:=vz) (xs:=F) (hh:=PV.int) (env:=mk Z [] none none none none)
  (fun pre e=>∃ Z1 T D x6 x7 x8 x9,e=mk Z1 D x6 x7 x8 x9/\Pat ls (B++D) n T/\(∀ k:Nat,k<n->Z1 k=.int (T.getD k 0))/\D.Sublist pre/\(∀ f ∈ D,f ∉ B)/\yH T+D.length=yH T0/\∀ f ∈ pre,Con ls (B++D) [53].1 [53].2)
  ⟨Z,T0,[],none,none,none,none,rfl,by rw [List.append_nil];exact pat0,fun k hk=>by rw [at0 k hk];exact (h2 k hk).2,.slnil,by simp,rfl,by simp⟩ (by
   rintro pre f post e hp ⟨Z1,T,D,x6,x7,x8,x9,rfl,p1,p2,p3,p4,p5,p6⟩
   have hf:f ∈ F:=by rw [hp];simp
   have hpl:pre.length<1000:=by
    have:=congrArg List.length hp
    rw [Jl,JF] at this;omega
   have hDl:D.length<1000:=Qi p3.length_le hpl
   have hcf:=hcr f hf
   have hrg:=rF f hf
   have hDs:∀ g ∈ D,g ∈ F:=fun g hg=>by rw [hp];exact Jj _ (p3.subset hg)
   have rBD:∀ g ∈ B++D,Rg ls n g:=fun g hg=>(JB.mp hg).elim (rB g) fun z=>rF g (hDs g z)
   have hTl:=p1.1
   have stp:=p1.step rBD hrg
   have hcon:=(p1.2 _ _ hrg.1 hrg.2)
   have hum:=zaI (T:=T) (p:=rc ls f) (by rw [hTl];exact hrg.1) (by rw [hTl];exact hrg.2)
   have hma:∀ k,k<n->(mrg T [53]).getD k 0=if T.getD k 0=T.getD [53].2 0 then T.getD [53].1 0 else T.getD k 0:=fun k hk=>zjX [12]
   have i1:=vo (G:=Z1) (h2 _ hrg.1).1
   have i2:=vo (G:=Z1) (h2 _ hrg.2).1
   rw [p2 _ hrg.1] at i1
   rw [p2 _ hrg.2] at i2
   have hff:Con ls (B++(D++[f])) [53].1 [53].2:=.step .refl (f:=f) [19] [76]
   have hfB:f ∈ B->Con ls (B++D) [53].1 [53].2:=fun z=>.step .refl (f:=f) (by simp [z]) [76]
   generalize hr1:[53].1=r at *
   generalize hc1:[53].2=c at *
   generalize T.getD r 0=u at *
   generalize T.getD c 0=v at *
   have s1:zh 7 (zu (fOp vIx (zA 3) (fOp vIx [312] [25]))) (mk Z1 D [30] x7 x8 x9)=some (.nx (mk Z1 D [30] [102] x8 x9)):=by simp [mk,hcf,i1]
   have s2:zh 8 (zu (fOp vIx (zA 3) (fOp vIx [312] [20]))) (mk Z1 D [30] [102] x8 x9)=some (.nx (mk Z1 D [30] [102] [129] x9)):=by simp [mk,hcf,i2]
   have ht:fT (fOp vNe (zA 7) (zA 8)) (mk Z1 D [30] [102] [129] x9)=some (!decide (u=v)):=by simp [mk]
   by_cases huv:u=v
   ·refine ⟨mk Z1 D [30] x7 x8 x9,mk Z1 D [30] [102] [129] x9,rfl,.inl ?_,Z1,T,D,_,_,_,_,rfl,p1,p2,p3.trans (List.sublist_append_left _ _),p4,p5,fun g hg=>?_⟩
    ·unfold vz
     rw [zG s1,zG s2,yB,ht,decide_eq_true huv,Jb,Bool.not_true,if_neg Je];rfl
    ·rcases List.mem_append.mp hg with hg | hg
     ·exact p6 g hg
     ·rw [Jc.mp hg,hr1,hc1]
      exact hcon.mp huv
   ·obtain ⟨e,g1,Z2,y9,rfl,hz⟩:=yk (b:=zN 9) (g:=v4) (xs:=L) (hh:=PV.int) (env:=mk Z1 (D++[f]) [30] [102] [129] x9)
     (fun q e=>∃ Z2 y9,e=mk Z2 (D++[f]) [30] [102] [129] y9/\∀ k:Nat,k<n->((k:Int) ∈ q->Z2 k=.int (if T.getD k 0=v then u else T.getD k 0))/\((k:Int) ∉ q->Z2 k=.int (T.getD k 0)))
     ⟨Z1,x9,rfl,fun k hk=>⟨fun z=>(nomatch z),fun _=>p2 k hk⟩⟩ (by
      rintro q s post' e hq ⟨Z2,y9,rfl,hz⟩
      have hsL:s ∈ L:=by rw [hq];simp
      have hsu:=mem_univ.mp (sub s hsL)
      obtain ⟨k,rfl⟩:∃ k:Nat,s=k:=⟨s.toNat,by omega⟩
      have hk:k<n:=by omega
      have hnq:(k:Int) ∉ q:=fun z=>by
       rw [hq] at nd
       exact (Jw.mp nd).2.2 _ z _ Jf rfl
      have hzk:=(hz k hk).2 hnq
      have j1:=vo (G:=Z2) hsL
      rw [hzk] at j1
      have hD:jh L Z2:=fun y hy=>by
       have:=mem_univ.mp (sub y hy)
       obtain ⟨j,rfl⟩:∃ j:Nat,y=j:=⟨y.toNat,by omega⟩
       by_cases hj:(j:Int) ∈ q
       ·rw [(hz j [12]).1 hj];rfl
       ·rw [(hz j [12]).2 hj];rfl
      have hput:=qU (p:=(k:Int)) (q:=.int u) hD rfl (show L.length<100000 by omega)
      rw [if_pos hsL] at hput
      have ht2:fT (fOp vEq (fOp vIx (zA 3) (zA 9)) (zA 8)) [66]=some (decide (T.getD k 0=v)):=by
       have hv3:zA 3 [66]=some (dF L Z2):=rfl
       have hv9:zA 9 [66]=some (.int (k:Int)):=rfl
       have hv8:zA 8 [66]=some (.int v):=rfl
       rw [qK,yP,yP,hv3,hv9,hv8,Jb,Jb,j1,Jb,Jb,zeM,Jb,zhj]
      by_cases hv:T.getD k 0=v
      ·refine ⟨mk Z2 (D++[f]) [30] [102] [129] (some (.int (k:Int))),mk (upF Z2 k (.int u)) (D++[f]) [30] [102] [129] (some (.int (k:Int))),rfl,.inl ?_,_,_,rfl,fun j hj=>?_⟩
       ·unfold v4
        rw [yB,ht2,decide_eq_true hv,Jb,if_pos rfl]
        simp only [mk,vq,wz,List.getElem?_cons_succ,List.getElem?_cons_zero,Option.join_some,Option.bind_some,hput,Option.map_some]
        rfl
       ·by_cases hjk:j=k
        ·subst hjk
         refine ⟨fun _=>by rw [upF_self,if_pos hv],fun z=>absurd [19] z⟩
        ·have hne:(j:Int)≠k:=by omega
         rw [v7 hne]
         refine ⟨fun z=>(hz j hj).1 ?_,fun z=>(hz j hj).2 fun y=>z (Jj _ y)⟩
         exact (JB.mp z).resolve_right fun y=>hne (Jc.mp y)
      ·refine ⟨mk Z2 (D++[f]) [30] [102] [129] (some (.int (k:Int))),mk Z2 (D++[f]) [30] [102] [129] (some (.int (k:Int))),rfl,.inl ?_,_,_,rfl,fun j hj=>?_⟩
       ·unfold v4
        rw [yB,ht2,decide_eq_false hv,Jb,if_neg Je];rfl
       ·by_cases hjk:j=k
        ·subst hjk
         refine ⟨fun _=>by rw [hzk,if_neg hv],fun z=>absurd [19] z⟩
        ·have hne:(j:Int)≠k:=by omega
         refine ⟨fun z=>(hz j hj).1 ?_,fun z=>(hz j hj).2 fun y=>z (Jj _ y)⟩
         exact (JB.mp z).resolve_right fun y=>hne (Jc.mp y))
    refine ⟨mk Z1 D [30] x7 x8 x9,mk Z2 (D++[f]) [30] [102] [129] y9,rfl,.inl ?_,Z2,mrg T [53],D++[f],_,_,_,_,rfl,?_,fun k hk=>?_,?_,fun g hg=>?_,?_,fun g hg=>?_⟩
    ·unfold vz
     rw [zG s1,zG s2,yB,ht,decide_eq_false huv,Jb,Bool.not_false,if_pos rfl]
     have hap:zb 5 (zu (zA 6)) (mk Z1 D [30] [102] [129] x9)=some (.nx (mk Z1 (D++[f]) [30] [102] [129] x9)):=by
      simp [mk,zb,show D.length<100000 by omega]
     rw [zG hap]
     have hsq:zf (zJ xj (zC (zA 3) zI)) (mk Z1 (D++[f]) [30] [102] [129] x9)=some (L.map PV.int):=by
      rw [yw,zg (as:=[dF L Z1]) rfl zmb];rfl
     rw [yJ,hsq,Jb]
     exact g1
    ·rw [← JZ];exact stp
    ·rw [(hz k hk).1 (h2 k hk).1,hma k hk]
    ·exact p3.append (List.Sublist.refl _)
    ·rcases List.mem_append.mp hg with hg | hg
     ·exact p4 g hg
     ·rw [Jc.mp hg]
      exact fun z=>huv (hcon.mpr (hfB z))
    ·have:=hum huv
     rw [Jl,Ko]
     omega
    ·rcases List.mem_append.mp hg with hg | hg
     ·exact (p6 g hg).mono fun x hx=>by
       rcases List.mem_append.mp hx with hx | hx<;>simp [hx]
     ·rw [Jc.mp hg,hr1,hc1]
      exact hff)
 refine ⟨D,?_,Lack.mk' (T:=T) [12] ndF p3 p4 rB rF p1 (by rw [p5];exact pat0.count (zaK rB) fun _ _=>Iff.rfl) ?_⟩
 ·have hj:uf [flV w h F,.lst [22],.tup [41]]=some (.lst (D.map PV.int)):=by
   refine yT (e:=mk Z1 D x6 x7 x8 x9) [some [32],some [78],some [128],none,none,none,none,none,none,none] rfl ?_
   unfold qf
   rw [zG (zd (as:=[flV w h F,.lst [22]]) rfl h1)]
   rw [zG (zd (as:=[flV w h F]) rfl hC)]
   rw [zG (e:=mk Z [] none none none none) rfl]
   have hsq:zf (zA 2) (mk Z [] none none none none)=some [41]:=rfl
   rw [zG (e:=mk Z1 D x6 x7 x8 x9) (by rw [yJ,hsq,Jb];exact f1)]
   rfl
  refine yT (e:=[some [32],some [78]]) [some [32],some [78]] rfl ?_
  unfold qe
  have ha:zC (zA 0) (zC (zA 1) (zC [91] zI)) [some [32],some [78]]=some [flV w h F,.lst [22],.tup [41]]:=by simp
  rw [xJ,zg ha hj];rfl
 ·exact hall (fun a=>Con ls (B++D) 0 a) .refl fun f hf=>⟨fun z=>z.trans (p6 f hf),fun z=>z.trans (p6 f hf).symm⟩
noncomputable def uw:FS:=(zX (zh 2 [165])
 (zX (zh 3 (fOp yE (zA 1) (fOp wJ (zA 1) (zA 2))))
 (zX (zh 4 (fOp yE (fOp yE (zA 3) (zA 2)) [20]))
 (yY (xW (zC (zu (zA 3)) (zC (fOp yE (zA 3) [20]) (zC (zu (zA 4)) (zC (fOp yE (zA 4) [20]) zI)))))))))
noncomputable def xG:List PV->Option PV:=fnV 5 uw
noncomputable def jf:FS:=(uc 1 (zJ xG (zC (zA 0) [82])))
noncomputable def qg:FS:=(zX (zh 1 (xI zI))
 (zX (yx (zf [91]) (zN 2) jf)
 (yY (ja [313]))))
noncomputable def ug:List PV->Option PV:=fnV 3 qg
noncomputable def xf:FS:=(zX (zb 3 (xW (zC [252] (zC [244] (zC (zu (zA 11)) zI)))))
 (zb 3 (xW (zC [244] (zC [252] (zC (xW (zC (fUn ju (fOp vIx (zA 11) [25])) (zC (fUn ju (fOp vIx (zA 11) [20])) zI))) zI))))))
noncomputable def wf:FS:=(zX (zh 5 (zJ xG (zC (zA 0) (zC (zA 4) zI))))
 (zX (zh 6 (fOp vIx (zA 1) (fOp vIx (fOp vIx (zA 2) (zA 4)) [25])))
 (zX (zh 7 (fOp vIx (zA 1) (fOp vIx (fOp vIx (zA 2) (zA 4)) [20])))
 (zX (zh 8 (xW (zC (fUn ju [166]) (zC (fOp vIx (zA 6) [25]) zI))))
 (yx (zf (xW (zC (xW (zC [25] (zC [20] (zC (zA 7) zI)))) (zC (xW (zC [45] (zC (fC (.int 3)) (zC (zA 7) zI)))) (zC (xW (zC [25] (zC [45] (zC (zA 8) zI)))) (zC (xW (zC [20] (zC (fC (.int 3)) (zC (zA 8) zI)))) zI)))))) (u9 3 (yO (zN 9) (yO (zN 10) (yO (zN 11) jA)))) xf)))))
noncomputable def vb:FS:=(zX (zh 2 (zJ zq [38]))
 (zX (zh 3 (xI zI))
 (zX (yx (zf [91]) (zN 4) wf)
 (yY (zA 3)))))
noncomputable def xo:List PV->Option PV:=fnV 12 vb
noncomputable def u8:FS:=(zX (zh 6 (zJ zhu (zC (fLC (zf [241]) 1 [] (zN 0) vg (zu [165])) zI)))
 (zX (zh 7 (zJ zhu (zC (fLC (zf [241]) 1 [] (zN 0) vg (zu (fOp vIx (zA 0) [20]))) zI)))
 (zb 4 (xW (zC (zu (zA 5)) (zC (zu (zA 6)) (zC (zu (zA 7)) zI)))))))
noncomputable def kP:FS:=(zX (zh 2 (zJ ug [38]))
 (zX (zh 3 (zJ ya (zC (zJ xo [59]) (zC (fOp vIx (zA 2) [25]) zI))))
 (zX (zh 4 (xI zI))
 (zX (yx (zf (zA 2)) (zN 5) u8)
 (yY (zA 4))))))
noncomputable def vh:List PV->Option PV:=fnV 8 kP
noncomputable def cAt(w p:Int):List Int:=[p+p / w,p+p / w+1,p+p / w+w+1,p+p / w+w+1+1]
theorem zal{f:FE}{env:En}{a:PV}{l:List PV}(h:f env=some (.tup (a::l))):fOp vIx f [25] env=some a:=by
 rw [yP,h,ziD];exact zhi
theorem zdM{f:FE}{env:En}{a b:PV}{l:List PV}(h:f env=some (.tup (a::b::l))):fOp vIx f [20] env=some b:=by
 rw [yP,h,ziD];exact zmM
theorem zmR{f:FE}{env:En}{a b c:PV}{l:List PV}(h:f env=some (.tup (a::b::c::l))):fOp vIx f [45] env=some c:=by
 rw [yP,h,ziD];exact zpp
theorem zaR{f:FE}{env:En}{i:Nat}{p:PV}(h:f env=some p):zh i f env=some (.nx [110]):=by rw [zbY,h];rfl
theorem lcv{E E':En}{src:FA}{n:Nat}{js:List Nat}{qs R:List PV}{b:PV->En->Option En}{t:FT}{f:FE}(hX:src E=some qs)(hce:cE n js E=E')(hl:qs.length≤100000)(hc:ym b t f qs E'=some R):fLC src n js b t f E=some (.lst R):=by
 rw [zcS,hX,Jb,if_pos hl,hce,hc];rfl
theorem zik{f:FE}{env:En}{p:PV}(h:f env=some p)(hd:z0 p=true):zu f env=some p:=by
 rw [zdI,h,Jb,if_pos hd]
theorem qG{w h p:Int}{F:List Int}(w1:1≤w)(w6:w≤6):xG [flV w h F,.int p]=some (.tup ([229].map PV.int)):=by
 have hd:=vF (i:=p) (show 0<w/\w<1073741824 by omega)
 let mk:Option PV->Option PV->Option PV->En:=fun x y z=>[some [32],some (.int p),x,y,z]
 refine yT (e:=mk (some [251]) (some (.int (p+p / w))) (some (.int [216]))) (mk none none none) rfl ?_
 unfold uw
 rw [zG (e:=mk (some [251]) none none) (zaR (zal rfl))]
 rw [zG (e:=mk (some [251]) (some (.int (p+p / w))) none) (zaR (by
  show ((wJ (.int p) [251]).bind fun y=>yE (.int p) y)=_
  rw [hd];rfl))]
 rw [zG (e:=mk (some [251]) (some (.int (p+p / w))) (some (.int [216]))) rfl]
 rfl
noncomputable def jx(w:Int)(F:List Int):List Int:=F.flatMap (cAt w)
noncomputable def wE(w:Int)(F:List Int):List Int:=w9 (xX (jx w F))
theorem mem_corL{w:Int}{F:List Int}{c:Int}:c ∈ jx w F ↔ ∃ p ∈ F,c ∈ cAt w p:=Kn
theorem mem_corF{w:Int}{F:List Int}{c:Int}:c ∈ wE w F ↔ ∃ p ∈ F,c ∈ cAt w p:=by
 unfold wE
 rw [(yr _).mem_iff,mem_dedupL,mem_corL]
theorem zbQ(w:Int)(F:List Int):(wE w F).Nodup:=(yr _).nodup_iff.mpr (wM _)
noncomputable def crn(w x y:Int):Int:=y * (w+1)+x
theorem jd{w x y:Int}(h0:0≤x)(h1:x≤w):crn w x y / (w+1)=y/\crn w x y % (w+1)=x:=(Int.ediv_emod_unique [12]).mpr ⟨by unfold crn;rw [Int.mul_comm];omega,h0,by omega⟩
theorem zgL(w p:Int):p+p / w=crn w (p % w) (p / w):=by
 unfold crn
 have:=JC p w
 rw [KQ] at this
 rw [Int.mul_add,Int.mul_one]
 omega
theorem zhg(w p:Int):cAt w p=[crn w (p % w) (p / w),crn w [316] (p / w),crn w (p % w) [280],crn w [316] [280]]:=by
 unfold cAt
 rw [zgL]
 have e1:crn w (p % w) (p / w)+1=crn w [316] (p / w):=by unfold crn;omega
 have e2:crn w (p % w) (p / w)+w+1=crn w (p % w) [280]:=by unfold crn;rw [Int.add_mul (p / w),Int.one_mul];omega
 have e3:crn w (p % w) [280]+1=crn w [316] [280]:=by unfold crn;omega
 rw [e1,e2,e3]
theorem zir{w h p c:Int}(w1:1≤w)(hp:CB.Place w h p)(hc:c ∈ cAt w p):∃ x y,c=crn w x y/\0≤x/\x≤w/\0≤y/\y≤h:=by
 have hr:=qV w1 hp
 have m0:=JI p [213]
 have m1:=JG p [203]
 rw [zhg] at hc
 simp only [List.mem_cons,List.not_mem_nil,or_false] at hc
 rcases hc with rfl | rfl | rfl | rfl
 ·exact ⟨_,_,rfl,by omega,by omega,by omega,by omega⟩
 ·exact ⟨_,_,rfl,by omega,by omega,by omega,by omega⟩
 ·exact ⟨_,_,rfl,by omega,by omega,by omega,by omega⟩
 ·exact ⟨_,_,rfl,by omega,by omega,by omega,by omega⟩
theorem zob{w h x y:Int}(x0:0≤x)(x1:x≤w)(y0:0≤y)(y1:y≤h):0≤crn w x y/\crn w x y<(w+1) * (h+1):=by
 unfold crn
 have h1:0≤y * (w+1):=Int.mul_nonneg y0 [12]
 have h2:(y+1) * (w+1)≤(h+1) * (w+1):=Int.mul_le_mul_of_nonneg_right [12] [12]
 rw [Qc y,Int.one_mul] at h2
 have h3:(h+1) * (w+1)=(w+1) * (h+1):=KQ _ _
 omega
theorem zhb{w h:Int}{F:List Int}(fl:IsFloor w h F){L:List Int}(nd:L.Nodup)(hL:∀ c ∈ L,∃ p ∈ F,c ∈ cAt w p):L.length≤49:=by
 have w1:=fl.w1
 have hk:(w+1) * (h+1)≤7 * 7:=Int.mul_le_mul (by have:=fl.w6;omega) (by have:=fl.h6;omega) (by have:=fl.h1;omega) [10]
 have:=zL L (zj (w+1) (h+1)) nd fun c hc=>by
  obtain ⟨p,hp,hcp⟩:=hL c hc
  obtain ⟨x,y,rfl,x0,x1,y0,y1⟩:=zir w1 (fl.inn p hp) hcp
  exact mem_places.mpr (zob x0 x1 y0 y1)
 have e:(zj (w+1) (h+1)).length=((w+1) * (h+1)).toNat:=by simp [zj]
 omega
theorem zeW{w h:Int}{F:List Int}(fl:IsFloor w h F):(wE w F).length≤49:=zhb fl (zbQ w F) fun c hc=>mem_corF.mp hc
theorem zms{w h:Int}{F:List Int}(fl:IsFloor w h F):(xX (jx w F)).length<63:=by
 have:=zhb fl (wM (jx w F)) fun c hc=>mem_corL.mp (mem_dedupL.mp hc)
 omega
theorem zeV(w:Int):∀ F:List Int,(jx w F).length=4 * F.length
 | []=>rfl
 | p::F=>by
  show (cAt w p++jx w F).length=_
  rw [Jl,zeV w F,JF]
  show 4+4 * F.length=_
  omega
theorem zfo{f:FE}{env:En}{ns:List Int}(h:f env=some (.lst [145]))(hl:(xX ns).length<63):ja (zC f zI) env=some (.lst ((w9 (xX ns)).map PV.int)):=by
 unfold ja
 rw [zS,h]
 show ((wZ [145]).bind fun ns=>_)=_
 rw [xw,Jb,if_pos hl]
theorem zfZ{w h:Int}{F:List Int}(fl:IsFloor w h F):ug [flV w h F]=some [177]:=by
 have w1:=fl.w1;have w6:=fl.w6
 have fz:=yW fl
 let mk:List Int->Option PV->En:=fun L x=>[some [32],some [265],x]
 obtain ⟨e,l1,x,rfl⟩:=yk (b:=zN 2) (g:=jf) (xs:=F) (hh:=PV.int) (env:=mk [] none) (fun pre e=>∃ x,e=mk (jx w pre) x) ⟨none,rfl⟩ (by
  rintro pre p post e hF ⟨x,rfl⟩
  have hpl:pre.length≤36:=by have:=congrArg List.length hF;rw [Jl] at this;omega
  refine ⟨mk (jx w pre) [68],mk (jx w (pre++[p])) [68],rfl,.inl ?_,_,rfl⟩
  have e1:jx w (pre++[p])=jx w pre++cAt w p:=by unfold jx;rw [List.flatMap_append,List.flatMap_singleton]
  rw [e1]
  have hz:=zeV w pre
  generalize jx w pre=L at hz
  have v1:zA 1 (mk L [68])=some [265]:=rfl
  unfold jf uc
  rw [v1,Jb,zg (as:=[flV w h F,.int p]) rfl (qG w1 w6),Jb]
  dsimp only
  rw [zjf,Jb,if_pos ⟨wc,by rw [Jh,Jh];show L.length+4≤_;omega⟩,← JJ]
  rfl)
 refine yT (e:=mk (jx w F) x) [some [32],none,none] rfl ?_
 unfold qg
 have v2:fOp vIx (zA 0) [45] (mk [] none)=some [128]:=zmR rfl
 rw [zG (e:=mk [] none) rfl]
 rw [zG (e:=mk (jx w F) x) (by rw [yJ,yw,v2];exact l1)]
 rw [xJ,zfo (ns:=jx w F) rfl (zms fl)];rfl
noncomputable def yQ(g:Int × Int):PV:=.tup [.int g.1,.int g.2]
noncomputable abbrev Gr:=Nat × Nat × [226]
noncomputable def zbB(A U:Int × Int):List Gr:=[(0,1,A),(2,3,A),(0,2,U),(1,3,U)]
noncomputable def zag(w p:Int)(z:Gr):List Stp:=[([229].getD z.1 0,[229].getD z.2.1 0,yQ z.2.2),([229].getD z.2.1 0,[229].getD z.1 0,yQ (-z.2.2.1,-z.2.2.2))]
noncomputable def acr(ls:List [42])(st:List [226])(p:Int):Int × Int:=st.getD [245].2 (0,0)
noncomputable def upw(ls:List [42])(st:List [226])(p:Int):Int × Int:=(-(st.getD [245].1 (0,0)).2,(st.getD [245].1 (0,0)).1)
noncomputable def kT(w:Int)(ls:List [42])(st:List [226])(p:Int):List Stp:=(zbB (acr ls st p) (upw ls st p)).flatMap (zag w p)
noncomputable def xV(w:Int)(ls:List [42])(st:List [226])(F:List Int):List Stp:=F.flatMap (kT w ls st)
theorem kR(w:Int)(ls:List [42])(st:List [226]):∀ F:List Int,(xV w ls st F).length=8 * F.length
 | []=>rfl
 | p::F=>by
  show (kT w ls st p++xV w ls st F).length=_
  rw [Jl,kR w ls st F,JF]
  show 8+8 * F.length=_
  omega
theorem ud{i:Nat}{f:FE}{env:En}{qs:List PV}{q:PV}(hl:zA i env=some (.lst qs))(hf:f env=some q)(hz:qs.length<100000):zb i f env=some (.nx (env.set i (some (.lst (qs++[q]))))):=by
 unfold zb
 rw [hl,hf,Jb,Jb]
 dsimp only
 rw [if_pos hz]
theorem zkR{w p:Int}{k:Nat}(hk:k<4):atI ([229].map PV.int) (k:Int)=some (.int ([229].getD k 0)):=zdD hk
theorem zid{w h:Int}{F:List Int}{rs cs:List [46]}{L:List Int}{G:Int->PV}(S:Strips w h F rs cs)(C:Cross w h F [14] L G){st:List [226]}(hst:st.length=rs.length+cs.length):
  xo [flV w h F,.lst (st.map yQ)]=some (.lst ((xV w [14] st F).map zv)):=by
 have w1:=S.fl.w1;have w6:=S.fl.w6
 have fz:=yW S.fl
 generalize hls:zO w rs cs=ls at *
 let mk:List Stp->Option PV->Option PV->Option PV->Option PV->Option PV->Option PV->Option PV->Option PV->En:=fun ss x4 x5 x6 x7 x8 x9 x10 x11=>[some [32],some [180],some [232],some [222],x4,x5,x6,x7,x8,x9,x10,x11]
 obtain ⟨e,l1,x4,x5,x6,x7,x8,x9,x10,x11,rfl⟩:=yk (b:=zN 4) (g:=wf) (xs:=F) (hh:=PV.int) (env:=mk [] none none none none none none none none) (fun pre e=>∃ x4 x5 x6 x7 x8 x9 x10 x11,e=mk (xV w ls st pre) x4 x5 x6 x7 x8 x9 x10 x11) ⟨none,none,none,none,none,none,none,none,rfl⟩ (by
  rintro pre p post e hF ⟨x4,x5,x6,x7,x8,x9,x10,x11,rfl⟩
  have hp:p ∈ F:=by rw [hF];simp
  have hpl:pre.length≤36:=by have:=congrArg List.length hF;rw [Jl] at this;omega
  obtain ⟨i1,i2,i3,i4⟩:=S.rc_of hp
  rw [hls] at i1 i2 i3 i4
  have e1:xV w ls st (pre++[p])=xV w ls st pre++kT w ls st p:=by unfold xV;rw [List.flatMap_append,List.flatMap_singleton]
  have hz:=kR w ls st pre
  generalize xV w ls st pre=ss at hz e1
  have hix:=C.ix hp i1
  have atst:∀ k:Nat,k<st.length->atI (st.map yQ) (k:Int)=some (yQ (st.getD k (0,0))):=fun k hk=>by
   rw [atI_nat (by simpa using hk)]
   simp [List.getD,hk]
  have a1:=atst [245].1 [12]
  have a2:=atst [245].2 [12]
  generalize hR:st.getD [245].1 (0,0)=R at a1
  generalize hA:st.getD [245].2 (0,0)=A at a2
  let P4:=some (PV.int p)
  let P5:=some (PV.tup ([229].map PV.int))
  let P6:=some (yQ R)
  let P7:=some (yQ A)
  let P8:=some (yQ (-R.2,R.1))
  have fin:∀ (zs:List Gr) (ss:List Stp) (y9 y10 y11:Option PV),(∀ z ∈ zs,z.1<4/\z.2.1<4)->ss.length+2 * zs.length≤1000->∃ z9 z10 z11,wD (u9 3 (yO (zN 9) (yO (zN 10) (yO (zN 11) jA)))) xf (zs.map fun z=>PV.tup [.int (z.1:Int),.int (z.2.1:Int),yQ z.2.2]) (mk ss P4 P5 P6 P7 P8 y9 y10 y11)=some (.nx (mk (ss++zs.flatMap (zag w p)) P4 P5 P6 P7 P8 z9 z10 z11)):=by
   intro zs
   induction zs with
   | nil=>intro ss y9 y10 y11 _ _;exact ⟨y9,y10,y11,by rw [List.flatMap_nil,JO];rfl⟩
   | cons z zs ih=>
    intro ss y9 y10 y11 hz4 hl
    rw [JF] at hl
    obtain ⟨q1,q2⟩:=hz4 z Jf
    have b1:=zkR (w:=w) (p:=p) q1
    have b2:=zkR (w:=w) (p:=p) q2
    generalize hc1:[229].getD z.1 0=c1 at b1
    generalize hc2:[229].getD z.2.1 0=c2 at b2
    let E:List Stp->En:=fun ss=>mk ss P4 P5 P6 P7 P8 (some (.int (z.1:Int))) (some (.int (z.2.1:Int))) (some (yQ z.2.2))
    have v9:∀ ss,fOp vIx (zA 5) (zA 9) (E ss)=some (.int c1):=fun ss=>b1
    have v10:∀ ss,fOp vIx (zA 5) (zA 10) (E ss)=some (.int c2):=fun ss=>b2
    have s1:zb 3 (xW (zC [252] (zC [244] (zC (zu (zA 11)) zI)))) (E ss)=some (.nx (E [173])):=by
     rw [ud (q:=zv (c1,c2,yQ z.2.2)) rfl (by
      rw [jg,zS,zik (v9 ss) rfl,zS,zik (v10 ss) rfl];rfl) [153]]
     show _=some (Out.nx (mk [173] P4 P5 P6 P7 P8 _ _ _))
     simp only [mk,List.map_append];rfl
    have s2:zb 3 (xW (zC [244] (zC [252] (zC (xW (zC (fUn ju (fOp vIx (zA 11) [25])) (zC (fUn ju (fOp vIx (zA 11) [20])) zI))) zI)))) (E [173])=some (.nx (E [96])):=by
     have g0:fOp vIx (zA 11) [25] (E [173])=some (.int z.2.2.1):=zal rfl
     have g1:fOp vIx (zA 11) [20] (E [173])=some (.int z.2.2.2):=zdM rfl
     rw [ud (qs:=[173].map zv) (q:=zv (c2,c1,yQ (-z.2.2.1,-z.2.2.2))) rfl (by
      rw [jg,zS,zik (v10 _) rfl,zS,zik (v9 _) rfl,zS,jg,zS,zhk,g0,zS,zhk,g1];rfl) (by rw [Jh,Jl,Ko];omega)]
     show _=some (Out.nx (mk [96] P4 P5 P6 P7 P8 _ _ _))
     simp only [mk]
     rw [JJ (l₂:=[(c2,c1,_)])];rfl
    obtain ⟨z9,z10,z11,ih'⟩:=ih [96] (some (.int (z.1:Int))) (some (.int (z.2.1:Int))) (some (yQ z.2.2)) (fun y hy=>hz4 y (List.mem_cons_of_mem _ hy)) (by simp only [List.length_append,List.length_singleton];omega)
    refine ⟨z9,z10,z11,?_⟩
    rw [Ju]
    unfold wD
    have hb:u9 3 (yO (zN 9) (yO (zN 10) (yO (zN 11) jA))) (.tup [.int (z.1:Int),.int (z.2.1:Int),yQ z.2.2]) (mk ss P4 P5 P6 P7 P8 y9 y10 y11)=some (E ss):=rfl
    have hbody:xf (E ss)=some (.nx (E [96])):=by
     unfold xf
     rw [zG s1,s2]
    rw [hb,Jb,hbody,Jb]
    dsimp only
    refine ih'.trans ?_
    rw [List.flatMap_cons]
    have e2:zag w p z=[(c1,c2,yQ z.2.2),(c2,c1,yQ (-z.2.2.1,-z.2.2.2))]:=by unfold zag;rw [hc1,hc2]
    rw [e2]
    simp only [List.append_assoc,List.cons_append,List.nil_append]
  obtain ⟨z9,z10,z11,hfin⟩:=fin (zbB A (-R.2,R.1)) ss x9 x10 x11 (by intro z hz;simp only [zbB,List.mem_cons,List.not_mem_nil,or_false] at hz;rcases hz with rfl | rfl | rfl | rfl<;>exact ⟨Nat.le_of_ble_eq_true rfl,Nat.le_of_ble_eq_true rfl⟩) (by show ss.length+8≤1000;omega)
  have e3:(zbB A (-R.2,R.1)).flatMap (zag w p)=kT w ls st p:=by unfold kT acr upw;rw [hA,hR]
  rw [e3,← e1] at hfin
  refine ⟨mk ss P4 x5 x6 x7 x8 x9 x10 x11,mk (xV w ls st (pre++[p])) P4 P5 P6 P7 P8 z9 z10 z11,rfl,.inl ?_,_,_,_,_,_,_,_,_,rfl⟩
  unfold wf
  rw [zG (e:=mk ss P4 P5 x6 x7 x8 x9 x10 x11) (zd (as:=[flV w h F,.int p]) rfl (qG w1 w6))]
  have x24:∀ y6 y7 y8,fOp vIx (zA 2) (zA 4) (mk ss P4 P5 y6 y7 y8 x9 x10 x11)=some (.tup [.int ([245].1:Int),.int ([245].2:Int)]):=fun y6 y7 y8=>hix
  rw [zG (e:=mk ss P4 P5 P6 x7 x8 x9 x10 x11) (zaR (by rw [yP,zal (x24 _ _ _)];exact a1))]
  rw [zG (e:=mk ss P4 P5 P6 P7 x8 x9 x10 x11) (zaR (by rw [yP,zdM (x24 _ _ _)];exact a2))]
  rw [zG (e:=mk ss P4 P5 P6 P7 P8 x9 x10 x11) (zaR (by
   have g0:fOp vIx (zA 6) [25] (mk ss P4 P5 P6 P7 x8 x9 x10 x11)=some (.int R.1):=zal rfl
   have g1:fOp vIx (zA 6) [20] (mk ss P4 P5 P6 P7 x8 x9 x10 x11)=some (.int R.2):=zdM rfl
   rw [jg,zS,zhk,g1,zS,g0];rfl))]
  rw [yJ]
  exact hfin)
 refine yT (e:=mk (xV w ls st F) x4 x5 x6 x7 x8 x9 x10 x11) [some [32],some [180],none,none,none,none,none,none,none,none,none,none] rfl ?_
 unfold vb
 rw [zG (e:=[some [32],some [180],some [232],none,none,none,none,none,none,none,none,none]) [210]]
 rw [zG (e:=mk [] none none none none none none none none) rfl]
 have v2:fOp vIx (zA 0) [45] (mk [] none none none none none none none none)=some [128]:=zmR rfl
 rw [zG (e:=mk (xV w ls st F) x4 x5 x6 x7 x8 x9 x10 x11) (by rw [yJ,yw,v2];exact l1)]
 rfl
structure Pot (w:Int) (F:List Int) (ls:List [42]) (α β:Nat->Int) (X:Int->Int):Prop where
 a1:∀ p ∈ F,X (p+p / w+1)=X (p+p / w)+α [245].2
 a2:∀ p ∈ F,X [217]=X [216]+α [245].2
 u1:∀ p ∈ F,X [216]=X (p+p / w)+β [245].1
 u2:∀ p ∈ F,X [217]=X (p+p / w+1)+β [245].1
theorem zjy{w h:Int}{F:List Int}{rs cs:List [46]}(S:Strips w h F rs cs)(α β:Nat->Int):∃ X,Pot w F [14] α β X:=by
 have w1:=S.fl.w1
 have key:∀ x y,0≤x->x<w->(y * w+x) % w=x/\(y * w+x) / w=y:=fun x y x0 x1=>by
  have:=(KU (a:=y * w+x) (b:=w) (q:=y) (r:=x) [12]).mpr ⟨by rw [KQ];omega,x0,x1⟩
  exact ⟨this.2,this.1⟩
 let a:Int->Int->Int:=fun x y=>if y * w+x ∈ F then α (rc [14] (y * w+x)).2 else α (rc [14] ((y - 1) * w+x)).2
 let u:Int->Int->Int:=fun x y=>if x<w/\y * w+x ∈ F then β (rc [14] (y * w+x)).1 else β (rc [14] (y * w+(x - 1))).1
 have hpe:∀ p:Int,p / w * w+p % w=p:=fun p=>by have:=JC p w;rw [KQ] at this;exact this
 have hb:∀ p ∈ F,0≤p % w/\p % w<w:=fun p _=>⟨JI _ [12],JG _ [12]⟩
 have va1:∀ p ∈ F,a (p % w) (p / w)=α [156].2:=fun p hp=>by
  show (if _ then _ else _)=_
  rw [hpe,if_pos hp]
 have va2:∀ p ∈ F,a (p % w) [280]=α [156].2:=fun p hp=>by
  show (if _ then _ else _)=_
  have e:[280] * w+p % w=p+w:=by rw [Qc,Int.one_mul];have:=hpe p;omega
  have e':(p / w+1 - 1) * w+p % w=p:=by rw [Int.add_sub_cancel];exact hpe p
  rw [e,e']
  by_cases hq:p+w ∈ F
  ·rw [if_pos hq,S.col_next hp hq]
  ·rw [if_neg hq]
 have vu1:∀ p ∈ F,u (p % w) (p / w)=β [156].1:=fun p hp=>by
  show (if _ then _ else _)=_
  rw [hpe,if_pos ⟨(hb p hp).2,hp⟩]
 have vu2:∀ p ∈ F,u [316] (p / w)=β [156].1:=fun p hp=>by
  show (if _ then _ else _)=_
  have e:p / w * w+[316]=p+1:=by have:=hpe p;omega
  have e':p / w * w+(p % w+1 - 1)=p:=by rw [Int.add_sub_cancel];exact hpe p
  rw [e,e']
  by_cases hq:p % w+1<w/\p+1 ∈ F
  ·rw [if_pos hq,S.row_next hp hq.2 (zaN w1 [12]).1.symm]
  ·rw [if_neg hq]
 obtain ⟨φ,_,hφ⟩:=zdw S.fl (a:=a) (u:=u) (fun p hp=>by
  unfold Clo pt
  dsimp only
  rw [va1 p hp,va2 p hp,vu1 p hp,vu2 p hp]
  omega)
 obtain ⟨X,hX⟩:∃ X:Int->Int,∀ c,X c=φ (c % (w+1)) (c / (w+1)):=⟨_,fun _=>rfl⟩
 have X4:∀ p ∈ F,X (p+p / w)=φ (p % w) (p / w)/\X (p+p / w+1)=φ [316] (p / w)/\X [216]=φ (p % w) [280]/\X [217]=φ [316] [280]:=fun p hp=>by
  have hc:=zhg w p
  unfold cAt at hc
  injection hc with c1 hc
  injection hc with c2 hc
  injection hc with c3 hc
  injection hc with c4 _
  have hm:=hb p hp
  rw [c4,c3,c2,c1,hX,hX,hX,hX]
  rw [(jd (w:=w) (x:=p % w) (y:=p / w) hm.1 [12]).1,(jd (w:=w) (x:=p % w) (y:=p / w) hm.1 [12]).2,(jd (w:=w) (x:=p % w+1) (y:=p / w) [12] [12]).1,(jd (w:=w) (x:=p % w+1) (y:=p / w) [12] [12]).2,
   (jd (w:=w) (x:=p % w) (y:=p / w+1) hm.1 [12]).1,(jd (w:=w) (x:=p % w) (y:=p / w+1) hm.1 [12]).2,(jd (w:=w) (x:=p % w+1) (y:=p / w+1) [12] [12]).1,(jd (w:=w) (x:=p % w+1) (y:=p / w+1) [12] [12]).2]
  exact ⟨rfl,rfl,rfl,rfl⟩
 refine ⟨X,fun p hp=>?_,fun p hp=>?_,fun p hp=>?_,fun p hp=>?_⟩
 ·obtain ⟨x1,x2,x3,x4⟩:=X4 p hp
  rw [x2,x1,(hφ p hp).1,va1 p hp]
 ·obtain ⟨x1,x2,x3,x4⟩:=X4 p hp
  rw [x4,x3,(hφ p hp).2.1,va2 p hp]
 ·obtain ⟨x1,x2,x3,x4⟩:=X4 p hp
  rw [x3,x1,(hφ p hp).2.2.1,vu1 p hp]
 ·obtain ⟨x1,x2,x3,x4⟩:=X4 p hp
  rw [x4,x2,(hφ p hp).2.2.2,vu2 p hp]
noncomputable def zpw(X Y:Int->Int)(s:Stp):Prop:=∃ g:Int × Int,s.2.2=yQ g/\X s.2.1=X s.1+g.1/\Y s.2.1=Y s.1+g.2
theorem zfU{w:Int}{F:List Int}{ls:List [42]}{st:List [226]}{X Y:Int->Int}(px:Pot w F ls (fun c=>(st.getD c (0,0)).1) (fun r => -(st.getD r (0,0)).2) X)(py:Pot w F ls (fun c=>(st.getD c (0,0)).2) (fun r=>(st.getD r (0,0)).1) Y):
  ∀ s ∈ xV w ls st F,zpw X Y s:=by
 intro s hs
 obtain ⟨p,hp,hs⟩:=Kn.mp hs
 unfold kT at hs
 obtain ⟨z,hz,hs⟩:=Kn.mp hs
 have base:X ([229].getD z.2.1 0)=X ([229].getD z.1 0)+z.2.2.1/\Y ([229].getD z.2.1 0)=Y ([229].getD z.1 0)+z.2.2.2:=by
  simp only [zbB,List.mem_cons,List.not_mem_nil,or_false] at hz
  rcases hz with rfl | rfl | rfl | rfl
  ·exact ⟨px.a1 p hp,py.a1 p hp⟩
  ·exact ⟨px.a2 p hp,py.a2 p hp⟩
  ·exact ⟨px.u1 p hp,py.u1 p hp⟩
  ·exact ⟨px.u2 p hp,py.u2 p hp⟩
 unfold zag at hs
 simp only [List.mem_cons,List.not_mem_nil,or_false] at hs
 rcases hs with rfl | rfl
 ·exact ⟨z.2.2,rfl,base.1,base.2⟩
 ·exact ⟨(-z.2.2.1,-z.2.2.2),rfl,by show X ([229].getD z.1 0)=X ([229].getD z.2.1 0) + -z.2.2.1;omega,by show Y ([229].getD z.1 0)=Y ([229].getD z.2.1 0) + -z.2.2.2;omega⟩
theorem zjJ{ss:List Stp}{X Y:Int->Int}(hf:∀ s ∈ ss,zpw X Y s){a:Int}{ms:List PV}{c:Int}(p:Path ss a ms c):∃ gs:List [226],ms=gs.map yQ/\(gs.map (·.1)).sum=X c - X a/\(gs.map (·.2)).sum=Y c - Y a:=by
 induction p with
 | nil=>exact ⟨[],rfl,by show (0:Int)=_;omega,by show (0:Int)=_;omega⟩
 | @snoc ms b s _ hs e ih=>
  obtain ⟨gs,h1,h2,h3⟩:=ih
  obtain ⟨g,g1,g2,g3⟩:=hf s hs
  refine ⟨gs++[g],by rw [h1,g1,JJ];rfl,?_,?_⟩
  ·rw [JJ,List.sum_append,h2,g2,e]
   show X b - X a+(g.1+0)=_
   omega
  ·rw [JJ,List.sum_append,h3,g3,e]
   show Y b - Y a+(g.2+0)=_
   omega
theorem zie{w h:Int}{F:List Int}(fl:IsFloor w h F)(P:Int->Prop)(hs:∀ p q,p ∈ F->q ∈ F->Adj w p q->P p->P q){a p:Int}(ha:a ∈ F)(hp:p ∈ F)(h:P a):P p:=by
 obtain ⟨f0,fr,rfl⟩:∃ a r,F=a::r:=by
  cases F with
  | nil=>exact absurd rfl fl.ne
  | cons a r=>exact ⟨a,r,rfl⟩
 have fwd:∀ {q:Int},Reach (Adj w) (· ∈ f0::fr) (fun z=>(f0::fr).head?=some z) q->P f0->P q:=fun r hP=>by
  induction r with
  | start a s=>cases a;exact hP
  | step r adj s ih=>exact hs _ _ r.inS s adj ih
 have bwd:∀ {q:Int},Reach (Adj w) (· ∈ f0::fr) (fun z=>(f0::fr).head?=some z) q->P q->P f0:=fun r hP=>by
  induction r with
  | start a s=>cases a;exact hP
  | step r adj s ih=>exact ih (hs _ _ s r.inS adj.symm hP)
 exact fwd (fl.conn p hp) (bwd (fl.conn a ha) h)
theorem zow{w:Int}(w1:1≤w){p q:Int}(ha:Adj w p q):∃ c,c ∈ cAt w p/\c ∈ cAt w q:=by
 have dw:∀ z:Int,(z+w) / w=z / w+1:=fun z=>Int.add_ediv_of_dvd_right (Int.dvd_refl w) |>.trans (by rw [Int.ediv_self [12]])
 rcases ha with ⟨rfl,e⟩ | ⟨e1,e⟩ | rfl | e
 ·refine ⟨p+p / w+1,by simp [cAt],?_⟩
  unfold cAt
  rw [← e,show p+1+p / w=p+p / w+1 by omega]
  simp
 ·obtain rfl:q=p - 1:=by omega
  refine ⟨p+p / w,by simp [cAt],?_⟩
  unfold cAt
  rw [← e,show p - 1+p / w+1=p+p / w by omega]
  simp
 ·refine ⟨p+p / w+w+1,by simp [cAt],?_⟩
  unfold cAt
  rw [dw,show p+w+[280]=p+p / w+w+1 by omega]
  simp
 ·subst e
  refine ⟨q+q / w+w+1,?_,by simp [cAt]⟩
  unfold cAt
  rw [dw,show q+w+(q / w+1)=q+q / w+w+1 by omega]
  simp
theorem zfb{w h:Int}{F:List Int}{ls:List [42]}{st:List [226]}(fl:IsFloor w h F){L:List Int}(cl:∀ s ∈ L,∀ t ∈ xV w ls st F,t.1=s->t.2.1 ∈ L){c0:Int}(h0:c0 ∈ L)(hc0:c0 ∈ wE w F):∀ c ∈ wE w F,c ∈ L:=by
 have mem:∀ p ∈ F,∀ z ∈ zbB (acr ls st p) (upw ls st p),∀ s ∈ zag w p z,s ∈ xV w ls st F:=fun p hp z hz s hs=>Kn.mpr ⟨p,hp,Kn.mpr ⟨z,hz,hs⟩⟩
 have two:∀ p ∈ F,∀ z ∈ zbB (acr ls st p) (upw ls st p),([229].getD z.1 0 ∈ L ↔ [229].getD z.2.1 0 ∈ L):=fun p hp z hz=>
  ⟨fun h=>cl _ h _ (mem p hp z hz _ Jf) rfl,fun h=>cl _ h _ (mem p hp z hz _ (Jg _ Jf)) rfl⟩
 have one:∀ p ∈ F,∀ c ∈ cAt w p,(c ∈ L ↔ p+p / w ∈ L):=fun p hp c hc=>by
  have e1:(p+p / w ∈ L ↔ p+p / w+1 ∈ L):=two p hp (0,1,acr ls st p) (by simp [zbB])
  have e2:(p+p / w+w+1 ∈ L ↔ p+p / w+w+1+1 ∈ L):=two p hp (2,3,acr ls st p) (by simp [zbB])
  have e3:(p+p / w ∈ L ↔ p+p / w+w+1 ∈ L):=two p hp (0,2,upw ls st p) (by simp [zbB])
  unfold cAt at hc
  simp only [List.mem_cons,List.not_mem_nil,or_false] at hc
  rcases hc with rfl | rfl | rfl | rfl
  ·exact Iff.rfl
  ·exact e1.symm
  ·exact e3.symm
  ·exact e2.symm.trans e3.symm
 obtain ⟨p0,hp0,hcp⟩:=mem_corF.mp hc0
 intro c hc
 obtain ⟨p,hp,hcp'⟩:=mem_corF.mp hc
 refine (one p hp c hcp').mpr (zie fl (fun p=>p+p / w ∈ L) (fun p q hp hq ha h=>?_) hp0 hp ((one p0 hp0 c0 hcp).mp h0))
 obtain ⟨c,c1,c2⟩:=zow fl.w1 ha
 exact (one q hq c c2).mp ((one p hp c c1).mpr h)
noncomputable def kJ(X Y:Int->Int)(c0 c:Int):PV:=.tup [.int c,.int (X c - X c0),.int (Y c - Y c0)]
theorem laid_ok{w h:Int}{F:List Int}{rs cs:List [46]}{L:List Int}{G:Int->PV}(S:Strips w h F rs cs)(C:Cross w h F [14] L G){st:List [226]}(hst:st.length=rs.length+cs.length){X Y:Int->Int}
  (px:Pot w F [14] (fun c=>(st.getD c (0,0)).1) (fun r => -(st.getD r (0,0)).2) X)(py:Pot w F [14] (fun c=>(st.getD c (0,0)).2) (fun r=>(st.getD r (0,0)).1) Y):
  ∃ c0,(wE w F).head?=some c0/\vh [flV w h F,.lst (st.map yQ)]=some (.lst [270]):=by
 have fl:=S.fl
 have fz:=yW fl
 have cz:=zeW fl
 obtain ⟨f0,hf0⟩:=List.exists_mem_of_ne_nil F fl.ne
 obtain ⟨c0,cr,hcr⟩:∃ c0 cr,wE w F=c0::cr:=by
  cases hq:wE w F with
  | nil=>
   have:f0+f0 / w ∈ wE w F:=mem_corF.mpr ⟨f0,hf0,by simp [cAt]⟩
   rw [hq] at this;exact nomatch this
  | cons a r=>exact ⟨a,r,rfl⟩
 have hc0:c0 ∈ wE w F:=by rw [hcr];exact Jf
 have hco:=zfZ fl
 have hgr:=zid S C hst
 have hfit:=zfU px py
 have hglen:=kR w [14] st F
 have htgt:∀ s ∈ xV w [14] st F,s.2.1 ∈ wE w F:=fun s hs=>by
  obtain ⟨p,hp,hs⟩:=Kn.mp hs
  unfold kT at hs
  obtain ⟨z,hz,hs⟩:=Kn.mp hs
  refine mem_corF.mpr ⟨p,hp,?_⟩
  simp only [zbB,List.mem_cons,List.not_mem_nil,or_false] at hz
  unfold zag at hs
  simp only [List.mem_cons,List.not_mem_nil,or_false] at hs
  rcases hz with rfl | rfl | rfl | rfl<;>rcases hs with rfl | rfl<;>simp [cAt]
 have hdat:∀ s ∈ xV w [14] st F,z0 s.2.2=true:=fun s hs=>by
  obtain ⟨g,e,_⟩:=hfit s hs
  rw [e];rfl
 obtain ⟨W,ws,hw,Wok⟩:=zaC (start:=c0) (U:=wE w F) hdat [12] htgt hc0 [12]
 have hall:=zfb fl (fun s hs t ht e=>Wok.cl s hs [19] [19] t ht e) Wok.st hc0
 generalize xV w [14] st F=ss at *
 let mk:List PV->Option PV->Option PV->Option PV->En:=fun R x y z=>[some [32],some [180],some [177],some (dF W fun s=>.lst (ws s)),some (.lst R),x,y,z]
 obtain ⟨e,l1,x,y,z,rfl⟩:=yk (b:=zN 5) (g:=u8) (xs:=wE w F) (hh:=PV.int) (env:=mk [] none none none) (fun pre e=>∃ x y z,e=mk [168] x y z) ⟨none,none,none,rfl⟩ (by
  rintro pre c post e hF ⟨x,y,z,rfl⟩
  have hc:c ∈ wE w F:=by rw [hF];simp
  have hpl:pre.length≤49:=by have:=congrArg List.length hF;rw [Jl] at this;omega
  have hcW:=hall c hc
  obtain ⟨gs,g1,g2,g3⟩:=zjJ hfit (Wok.path c hcW).1
  have hgl:gs.length≤1000:=by
   have h1:=(Wok.path c hcW).2
   have h2:=zL W (wE w F) Wok.nd Wok.sub
   rw [g1,Jh] at h1
   omega
  have vW:∀ x y,fOp vIx (zA 3) (zA 5) (mk [168] [285] x y)=some (.lst (gs.map yQ)):=fun x y=>by
   show vIx (dF W _) (.int c)=_
   rw [vo hcW,g1]
  have lx:∀ x y,fLC (zf [241]) 1 [] (zN 0) vg (zu [165]) (mk [168] [285] x y)=some (.lst ((gs.map (·.1)).map PV.int)):=fun x y=>
   lcv (qs:=gs.map yQ) (by rw [yw,vW];rfl) rfl [153] (by
    rw [Kj]
    exact xY _ gs fun g _=>⟨[some (yQ g)],rfl,rfl,zik (zal rfl) rfl⟩)
  have ly:∀ x y,fLC (zf [241]) 1 [] (zN 0) vg (zu (fOp vIx (zA 0) [20])) (mk [168] [285] x y)=some (.lst ((gs.map (·.2)).map PV.int)):=fun x y=>
   lcv (qs:=gs.map yQ) (by rw [yw,vW];rfl) rfl [153] (by
    rw [Kj]
    exact xY _ gs fun g _=>⟨[some (yQ g)],rfl,rfl,zik (zdM rfl) rfl⟩)
  have sm:∀ ns:List Int,zhu [.lst [145]]=some (.int ns.sum):=fun ns=>by
   unfold zhu
   dsimp only
   rw [xw]
  refine ⟨mk [168] [285] y z,mk ((pre++[c]).map (kJ X Y c0)) [285] (some (.int (X c - X c0))) (some (.int (Y c - Y c0))),rfl,.inl ?_,_,_,_,rfl⟩
  unfold u8
  rw [zG (e:=mk [168] [285] (some (.int (X c - X c0))) z) (by
   refine zd (as:=[.lst ((gs.map (·.1)).map PV.int)]) (by rw [zS,lx];rfl) ?_
   rw [sm,g2])]
  rw [zG (e:=mk [168] [285] (some (.int (X c - X c0))) (some (.int (Y c - Y c0)))) (by
   refine zd (as:=[.lst ((gs.map (·.2)).map PV.int)]) (by rw [zS,ly];rfl) ?_
   rw [sm,g3])]
  rw [ud (qs:=pre.map (kJ X Y c0)) (q:=kJ X Y c0 c) rfl rfl [153],JJ]
  rfl)
 refine ⟨c0,by rw [hcr];rfl,yT (e:=mk [270] x y z) [some [32],some [180],none,none,none,none,none,none] rfl ?_⟩
 unfold kP
 rw [zG (e:=[some [32],some [180],some [177],none,none,none,none,none]) (zd (as:=[flV w h F]) rfl hco)]
 rw [zG (e:=[some [32],some [180],some [177],some (dF W fun s=>.lst (ws s)),none,none,none,none]) (by
  refine zd (as:=[.lst (ss.map zv),.int c0]) ?_ hw
  have v0:fOp vIx (zA 2) [25] [some [32],some [180],some [177],none,none,none,none,none]=some (.int c0):=by
   show atI ((wE w F).map PV.int) 0=_
   rw [hcr,Ju,zhi]
  rw [zS,zg (as:=[flV w h F,.lst (st.map yQ)]) rfl hgr,zS,v0];rfl)]
 rw [zG (e:=mk [] none none none) rfl]
 rw [zG (e:=mk [270] x y z) (by rw [yJ];exact l1)]
 rfl
theorem zkZ{fa fb:FE}{env:En}(h:fa env=some [324]):jC fa fb env=fb env:=by rw [zhl,h];rfl
theorem zlZ{x:Int}{r:List Int}:zhv [.lst ((x::r).map PV.int)]=some (.int (zdn x r)):=by
 unfold zhv
 dsimp only
 rw [xw]
theorem zma{x:Int}{r:List Int}:zhw [.lst ((x::r).map PV.int)]=some (.int (zdo x r)):=by
 unfold zhw
 dsimp only
 rw [xw]
noncomputable def zaf:FS:=(zX (zh 1 (fOp vIx (fC (.tup [(.tup [.int (125),.int (0)]),(.tup [.int (100),.int (75)]),(.tup [.int (35),.int (120)]),(.tup [.int (-44),.int (117)])])) (zJ zmT [38])))
 (yY (fIf (fT (fOp vGe (zA 0) [25])) (zu (zA 1)) (xW (zC (zu (fOp vIx (zA 1) [25])) (zC (fUn ju (fOp vIx (zA 1) [20])) zI))))))
noncomputable def wF:List PV->Option PV:=fnV 2 zaf
noncomputable def zfS:FS:=(yY (zJ vh (zC (zA 0) (zC (fLC (zf (zA 1)) 1 [] (zN 0) vg (zJ wF [38])) zI))))
noncomputable def zao:List PV->Option PV:=fnV 2 zfS
noncomputable def trn(k:Int):Int × Int:=(([125,100,35,-44]:List Int).getD k.natAbs 0,if 0≤k then ([0,75,120,117]:List Int).getD k.natAbs 0 else -([0,75,120,117]:List Int).getD k.natAbs 0)
theorem zea{k:Int}(h : -3≤k/\k≤3):k = -3∨k = -2∨k = -1∨k=0∨k=1∨k=2∨k=3:=by omega
theorem zhA{k:Int}(h : -3≤k/\k≤3):wF [.int k]=some (yQ (trn k)):=by
 rcases zea h with rfl | rfl | rfl | rfl | rfl | rfl | rfl<;>rfl
theorem zgu{k:Int}(h : -3≤k/\k≤3):(trn k).1 * (trn k).1+(trn k).2 * (trn k).2=15625:=by
 rcases zea h with rfl | rfl | rfl | rfl | rfl | rfl | rfl<;>rfl
theorem ziR{k:Int}(h : -3≤k/\k≤3):(-125≤(trn k).1/\(trn k).1≤125)/\-125≤(trn k).2/\(trn k).2≤125:=by
 rcases zea h with rfl | rfl | rfl | rfl | rfl | rfl | rfl<;>exact ⟨by decide,by decide⟩
structure Pse (w:Int) (F:List Int) (ls:List [42]) (T:List Int) (X Y:Int->Int):Prop where
 px:Pot w F ls (fun c=>[271].1) (fun r => -((T.map trn).getD r (0,0)).2) X
 py:Pot w F ls (fun c=>[271].2) (fun r=>((T.map trn).getD r (0,0)).1) Y
theorem zeF{T:List Int}{k:Nat}(h:k<T.length):(T.map trn).getD k (0,0)=trn (T.getD k 0):=by
 simp only [List.getD_eq_getElem?_getD,List.getElem?_map,List.getElem?_eq_getElem h,Option.map_some,Option.getD_some]
theorem znk{w h:Int}{F:List Int}{rs cs:List [46]}(S:Strips w h F rs cs)(T:List Int):∃ X Y,Pse w F [14] T X Y:=by
 obtain ⟨X,px⟩:=zjy S (fun c=>[271].1) (fun r => -((T.map trn).getD r (0,0)).2)
 obtain ⟨Y,py⟩:=zjy S (fun c=>[271].2) (fun r=>((T.map trn).getD r (0,0)).1)
 exact ⟨X,Y,px,py⟩
theorem zlE{w h:Int}{F:List Int}{rs cs:List [46]}{L:List Int}{G:Int->PV}(S:Strips w h F rs cs)(C:Cross w h F [14] L G){T:List Int}(hT:T.length=rs.length+cs.length)(hb:∀ t ∈ T,-3≤t/\t≤3){X Y:Int->Int}(sp:Pse w F [14] T X Y):
  ∃ c0,(wE w F).head?=some c0/\zao [flV w h F,.lst [65]]=some (.lst [270]):=by
 have hl:=S.lens
 obtain ⟨c0,h1,h2⟩:=laid_ok S C (st:=T.map trn) (by rw [Jh];exact hT) sp.px sp.py
 refine ⟨c0,h1,yT (e:=[some [32],some (.lst [65])]) [some [32],some (.lst [65])] rfl ?_⟩
 unfold zfS
 have hlc:fLC (zf (zA 1)) 1 [] (zN 0) vg (zJ wF [38]) [some [32],some (.lst [65])]=some (.lst ((T.map trn).map yQ)):=
  lcv (qs:=T.map PV.int) rfl rfl [153] (by
   rw [Kj]
   exact xY _ T fun t ht=>⟨[some (.int t)],rfl,rfl,zg (as:=[.int t]) rfl (zhA (hb t ht))⟩)
 rw [xJ,zg (as:=[flV w h F,.lst ((T.map trn).map yQ)]) (by rw [zS,zS,hlc];rfl) h2];rfl
structure Sq4 (w p:Int) (A U:Int × Int) (X Y:Int->Int):Prop where
 ax:X (p+p / w+1) - X (p+p / w)=A.1
 ay:Y (p+p / w+1) - Y (p+p / w)=A.2
 bx:X [217] - X [216]=A.1
 by_:Y [217] - Y [216]=A.2
 ux:X [216] - X (p+p / w) = -U.2
 uy:Y [216] - Y (p+p / w)=U.1
 vx:X [217] - X (p+p / w+1) = -U.2
 vy:Y [217] - Y (p+p / w+1)=U.1
theorem Pse.sq{w:Int}{F:List Int}{ls:List [42]}{T:List Int}{X Y:Int->Int}(sp:Pse w F ls T X Y){p:Int}(hp:p ∈ F)(h1:[245].1<T.length)(h2:[245].2<T.length):Sq4 w p (trn (T.getD [245].2 0)) (trn (T.getD [245].1 0)) X Y:=by
 have A1:=sp.px.a1 p hp;have A2:=sp.px.a2 p hp;have A3:=sp.px.u1 p hp;have A4:=sp.px.u2 p hp
 have B1:=sp.py.a1 p hp;have B2:=sp.py.a2 p hp;have B3:=sp.py.u1 p hp;have B4:=sp.py.u2 p hp
 simp only [zeF h1,zeF h2] at A1 A2 A3 A4 B1 B2 B3 B4
 exact ⟨by omega,by omega,by omega,by omega,by omega,by omega,by omega,by omega⟩
theorem zkK{L:List Int}{G G':Int->PV}(h:∀ p ∈ L,G p=G' p):dF L G=dF L G':=by
 unfold dF
 rw [KL h]
noncomputable def yy(X Y:Int->Int)(c0 c:Int):PV:=yQ (X c - X c0,Y c - Y c0)
theorem ziS(X Y:Int->Int)(c0:Int)(L:List Int):jh L [138]:=fun _ _=>rfl
theorem upF_self(X Y:Int->Int)(c0 c:Int)(L:List Int):dF L (upF [138] c (yy X Y c0 c))=dF L [138]:=zkK fun q _=>by
 unfold upF
 split
 ·rename_i e;rw [e]
 ·rfl
noncomputable def vH:FS:=(wC (fT (fOp vNe (fOp vIx (zA 2) (fOp vIx [242] [25])) (fOp vIx (zA 2) (fOp vIx [242] [20])))) (yY (zu (zA 4))) fNx)
noncomputable def uu:FS:=(zX (zh 3 (zJ zq [38]))
 (zX (yx (zf (zA 1)) (zN 4) vH)
 (yY (fC .non))))
noncomputable def wn:List PV->Option PV:=fnV 5 uu
noncomputable def kQ:FS:=(yY (fOp yE (fOp wS (fOp wI (fOp vIx (zA 1) [25]) [165]) (fOp wI (fOp vIx (zA 1) [25]) [165])) (fOp wS (fOp wI (fOp vIx (zA 1) [20]) (fOp vIx (zA 0) [20])) (fOp wI (fOp vIx (zA 1) [20]) (fOp vIx (zA 0) [20])))))
noncomputable def zc:List PV->Option PV:=fnV 2 kQ
noncomputable def skw(T:List Int)(ls:List [42])(p:Int):Bool:=!decide (T.getD [245].1 0=T.getD [245].2 0)
noncomputable def zpc:Option Int->PV
 | some p=>.int p
 | none=>.non
theorem zdT{w h:Int}{F:List Int}{rs cs:List [46]}{L:List Int}{G:Int->PV}(S:Strips w h F rs cs)(C:Cross w h F [14] L G){T:List Int}(hT:T.length=rs.length+cs.length){B:List Int}(hB:∀ p ∈ B,p ∈ F):
  wn [flV w h F,.lst [22],.lst [65]]=some (zpc (B.find? (skw T [14]))):=by
 let mk:Option PV->Option PV->En:=fun x3 x4=>[some [32],some [78],some (.lst [65]),x3,x4]
 let D:=some [232]
 have l1:=zeH (b:=zN 4) (g:=vH) (hh:=PV.int) (skw T [14]) PV.int (fun e=>∃ x4,e=mk D x4) B (mk D none) ⟨_,rfl⟩ (by
  rintro p hp e ⟨x4,rfl⟩
  obtain ⟨i1,i2,i3,i4⟩:=S.rc_of (hB p hp)
  have hix:=C.ix (hB p hp) i1
  have atr:=zdD (T:=T) (k:=[156].1) [12]
  have atc:=zdD (T:=T) (k:=[156].2) [12]
  let E:=mk D [68]
  refine ⟨E,rfl,?_⟩
  unfold skw
  generalize (rc [14] p).1=r at *
  generalize (rc [14] p).2=c at *
  generalize T.getD r 0=tr at *
  generalize T.getD c 0=tc at *
  have v3:fOp vIx (zA 3) (zA 4) E=some (.tup [.int r,.int c]):=hix
  have v2:zA 2 E=some (.lst [65]):=rfl
  have t1:fT (fOp vNe (fOp vIx (zA 2) (fOp vIx [242] [25])) (fOp vIx (zA 2) (fOp vIx [242] [20]))) E=some (!decide (tr=tc)):=by
   rw [qK,yP,yP,v2,zal v3,yP,v2,zdM v3]
   show (((atI [65] (r:Int)).bind fun x=>(atI [65] (c:Int)).bind fun y=>vNe x y).bind yZ)=_
   rw [atr,atc]
   show (vNe (.int tr) (.int tc)).bind yZ=_
   rw [zmI];rfl
  constructor
  ·intro hc
   refine ⟨E,?_⟩
   unfold vH
   rw [yB,t1,hc];rfl
  ·intro hc
   refine ⟨E,?_,_,rfl⟩
   unfold vH
   rw [yB,t1,hc];rfl)
 suffices hz:∃ e,uu (mk none none)=some (.rt (zpc (B.find? (skw T [14]))) e) by
  obtain ⟨e,hz⟩:=hz
  exact yT _ rfl hz
 unfold uu
 rw [zG (e:=mk D none) [210]]
 cases hf:B.find? (skw T [14]) with
 | some a=>
  rw [hf] at l1
  obtain ⟨e,l1⟩:=l1
  exact ⟨e,zgW (by rw [yJ];exact l1)⟩
 | none=>
  rw [hf] at l1
  obtain ⟨e,l1,x4,rfl⟩:=l1
  refine ⟨mk D x4,?_⟩
  rw [zG (e:=mk D x4) (by rw [yJ];exact l1)];rfl
theorem qi{a b:Int × Int}{dx dy n:Int}(h1:b.1 - a.1=dx)(h2:b.2 - a.2=dy)(hx : -1000≤dx/\dx≤1000)(hy : -1000≤dy/\dy≤1000)(hn:dx * dx+dy * dy=n):zc [yQ a,yQ b]=some (.int n):=by
 let E:En:=[some (yQ a),some (yQ b)]
 have a0:fOp vIx (zA 0) [25] E=some (.int a.1):=zal rfl
 have a1:fOp vIx (zA 0) [20] E=some (.int a.2):=zdM rfl
 have b0:fOp vIx (zA 1) [25] E=some (.int b.1):=zal rfl
 have b1:fOp vIx (zA 1) [20] E=some (.int b.2):=zdM rfl
 refine yT (e:=E) E rfl ?_
 unfold kQ
 rw [xJ,yP,yP,yP,a0,b0,yP,yP,a1,b1]
 show (((wS (.int (b.1 - a.1)) (.int (b.1 - a.1))).bind fun x=>(wS (.int (b.2 - a.2)) (.int (b.2 - a.2))).bind fun y=>yE x y).map fun p=>Out.rt p E)=_
 rw [h1,h2,uZ [12],uZ [12]]
 show some (Out.rt (PV.int (dx * dx+dy * dy)) E)=_
 rw [hn]
noncomputable def zjn(A U:Int × Int):Int:=(A.1 - U.2) * (A.1 - U.2)+(A.2+U.1) * (A.2+U.1)
noncomputable def zkD(A U:Int × Int):Int:=(-U.2 - A.1) * (-U.2 - A.1)+(U.1 - A.2) * (U.1 - A.2)
theorem rf{j k:Int}(hj : -3≤j/\j≤3)(hk : -3≤k/\k≤3):decide (zjn (trn j) (trn k)=31250)=decide (k=j)/\decide (zjn (trn j) (trn k)=zkD (trn j) (trn k))=decide (k=j)/\decide (zkD (trn j) (trn k)=31250)=decide (k=j):=by
 rcases zea hj with rfl | rfl | rfl | rfl | rfl | rfl | rfl<;>rcases zea hk with rfl | rfl | rfl | rfl | rfl | rfl | rfl<;>exact ⟨rfl,rfl,rfl⟩
structure Fars (X Y:Int->Int) (c0 l r f u:Int) (R D:Int):Prop where
 s0:zc [yy X Y c0 u,yy X Y c0 l]=some (.int 15625)
 s1:zc [yy X Y c0 l,yy X Y c0 r]=some (.int 15625)
 s2:zc [yy X Y c0 r,yy X Y c0 f]=some (.int 15625)
 s3:zc [yy X Y c0 f,yy X Y c0 u]=some (.int 15625)
 ri:zc [yy X Y c0 l,yy X Y c0 f]=some (.int R)
 fa:zc [yy X Y c0 r,yy X Y c0 u]=some (.int D)
theorem zcZ(a:Int) : -a * -a=a * a:=Int.neg_mul_neg a a
theorem Sq4.fars{w p:Int}{j k:Int}(hj : -3≤j/\j≤3)(hk : -3≤k/\k≤3){X Y:Int->Int}(c0:Int)(s:Sq4 w p (trn j) (trn k) X Y):
  Fars X Y c0 (p+p / w) (p+p / w+1) [217] [216] (zjn (trn j) (trn k)) (zkD (trn j) (trn k)):=by
 obtain ⟨ax,ay,bx,by_,ux,uy,vx,vy⟩:=s
 have lj:=zgu hj
 have lk:=zgu hk
 have bj:=ziR hj
 have bk:=ziR hk
 generalize trn j=A at *
 generalize trn k=U at *
 generalize p+p / w=l at *
 refine ⟨?_,?_,?_,?_,?_,?_⟩
 ·exact qi (dx:=U.2) (dy := -U.1) [79] [79] [12] [12] (by rw [zcZ];omega)
 ·exact qi (dx:=A.1) (dy:=A.2) [79] [79] [12] [12] lj
 ·exact qi (dx := -U.2) (dy:=U.1) [79] [79] [12] [12] (by rw [zcZ];omega)
 ·exact qi (dx := -A.1) (dy := -A.2) [79] [79] [12] [12] (by rw [zcZ,zcZ];omega)
 ·exact qi (dx:=A.1 - U.2) (dy:=A.2+U.1) [79] [79] [12] [12] rfl
 ·exact qi (dx := -U.2 - A.1) (dy:=U.1 - A.2) [79] [79] [12] [12] rfl
theorem fnx{b:PV->En->Option En}{g:FS}{p:PV}{ps:List PV}{e e1 e2:En}(h1:b p e=some e1)(h2:g e1=some (.nx e2)):wD b g (p::ps) e=wD b g ps e2:=by
 show ((b p e).bind fun e1=>(g e1).bind fun o=>_)=_
 rw [h1,Jb,h2];rfl
noncomputable def jY:FS:=(zX (wC (fT (fOp vLt (zA 1) (zJ xQ [38]))) (yY (zu (fOp vIx (zA 0) (zA 1)))) fNx)
 (zX (wC (fT (fOp vEq (zJ xQ [38]) [25])) (yY (fOp yE (fOp wS (fOp wS (zA 1) (zA 1)) (fC (.int 101))) (fC (.int 61)))) fNx)
 (yY (fOp yE (fOp wS (fOp xc (fOp vIx (zA 0) (fOp xc (fOp wS (zA 1) (fC (.int 3))) (zJ xQ [38]))) (fC (.int 2147483629))) (fC (.int 48271))) (fOp wS (fOp wS (zA 1) (zA 1)) (fC (.int 7727)))))))
noncomputable def yR:List PV->Option PV:=fnV 2 jY
noncomputable def xr:FS:=(wC (fT (fOp vEq (fOp xc (zA 0) [45]) [25])) (zX (zb 3 (fOp xc (zA 4) (zA 2)))
 (zh 4 (fOp wJ (zA 4) (zA 2)))) (zX (zh 6 (fOp xc (fOp wS (fOp yE (fOp yE (fOp xc (zA 4) (fC (.int 2147483629))) (fOp wS (fC (.int 7919)) (zA 5))) [20]) (fC (.int 48271))) (fC (.int 2147483647))))
 (zX (zh 7 (fOp xc (fOp wS (zA 6) (fOp yE (fOp xc (zA 6) (fC (.int 65521))) (zA 5))) (fC (.int 2147483629))))
 (zb 3 (fOp xc (fOp wJ (fOp xc (fOp wS (zA 7) (fC (.int 16807))) (fC (.int 2147483563))) (fC (.int 7))) (zA 2))))))
noncomputable def uP:FS:=(zX (zh 3 (xI zI))
 (zX (zh 4 (fOp wJ (zA 0) [45]))
 (zX (yx (xl [313]) (zN 5) xr)
 (yY (zA 3)))))
noncomputable def ye:List PV->Option PV:=fnV 8 uP
noncomputable def zck:FS:=(wC (fT (fOp wT (zA 6) (zA 2))) (zb 4 (zu (zA 6))) fNx)
noncomputable def xH:FT:=(fT (fOp vGt (zJ xQ (zC (zA 4) zI)) [25]))
noncomputable def xm:FS:=(zX (zkE 5 4)
 (wC (fT (fOp xP (zA 5) (zA 3))) (zX (zb 3 (zu (zA 5)))
 (zX (yx (zf (xI (zC (fOp wI (zA 5) (zA 0)) (zC (fOp yE (zA 5) (zA 0)) zI)))) (zN 6) zck)
 (zX (wC (zci (fT (fOp vGt (fOp xc (zA 5) (zA 0)) [25])) (fT (fOp wT [284] (zA 2)))) (zb 4 [284]) fNx)
 (wC (zci (fT (fOp vLt (fOp xc (zA 5) (zA 0)) (fOp wI (zA 0) [20]))) (fT (fOp wT (fOp yE (zA 5) [20]) (zA 2)))) (zb 4 (fOp yE (zA 5) [20])) fNx)))) fNx))
noncomputable def jX:FS:=(zX (zh 3 (xI zI))
 (zX (zh 4 (fLC (zf (zA 1)) 1 [2] (zN 0) [259] [101]))
 (zX (fWh xH xm 1000000)
 (yY (zA 3)))))
noncomputable def xa:List PV->Option PV:=fnV 7 jX
noncomputable def vE:FS:=(zX (zh 2 (zJ yR [59]))
 (zX (zh 3 (fOp yE [20] (fOp xc (zA 2) (fC (.int 6)))))
 (zX (zh 4 (fOp yE [20] (fOp xc (fOp wJ (zA 2) (fC (.int 6))) (fC (.int 6)))))
 (zX (zh 5 (zgY (xl (zC (fOp wS (zA 3) (zA 4)) zI))))
 (zX (zh 6 (zJ ye (zC [194] (zC (fOp wS (zA 3) (zA 4)) (zC (fOp yE [45] (fOp xc (fOp wJ (zA 2) (fC (.int 36))) (fC (.int 5)))) zI)))))
 (zX (zh 7 (fLC (zf (zA 5)) 1 [6] (zN 0) (fT (fOp vGt (fOp vIx (zA 1) (zA 0)) [25])) [101]))
 (zX (wC (fT (fOp vEq (zA 7) (xI zI))) (zh 7 (fSl (zA 5) qC (zeK [20]))) fNx)
 (zX (zh 8 (zJ xa (zC (zA 3) (zC (fSl (zA 7) qC (zeK [20])) (zC (zA 7) zI)))))
 (zX (zh 9 (fLC (zf (zA 5)) 1 [8] (zN 0) [260] [101]))
 (zX (zh 10 (fLC (zf (zA 9)) 1 [3,4] (zN 0) (fOr (fT (fOp wT (fOp xc (zA 0) (zA 1)) (xW (zC [25] (zC (fOp wI (zA 1) [20]) zI))))) (fT (fOp wT (fOp wJ (zA 0) (zA 1)) (xW (zC [25] (zC (fOp wI (zA 2) [20]) zI)))))) [101]))
 (zX (zh 11 (zJ xa (zC (zA 3) (zC (zA 10) (zC (zA 9) zI)))))
 (yY (xW (zC (zu (zA 3)) (zC (zu (zA 4)) (zC (zJ kB (zC (fLC (zf (zA 5)) 1 [11] (zN 0) [260] [101]) zI)) zI))))))))))))))))
noncomputable def wg:List PV->Option PV:=fnV 12 vE
noncomputable def uQ:FS:=(zX (zh 3 (zJ yR [59]))
 (zX (zh 4 (zJ ye (zC [194] (zC (zJ xQ (zC (fOp vIx (zA 2) [45]) zI)) (zC (fOp yE [45] (fOp xc (zA 3) (fC (.int 6)))) zI)))))
 (zX (zh 5 (fOp xc (fOp wJ (zA 3) (fC (.int 6))) [45]))
 (yY (fLC (zif (zC (fOp vIx (zA 2) [45]) (zC (zA 4) zI))) 2 [5] (u9 2 (yO (zN 0) (yO (zN 1) jA))) (fT (fOp vEq (fOp vGt (zA 1) [25]) (fOp vGt (zA 2) [25]))) [101])))))
noncomputable def xO:List PV->Option PV:=fnV 6 uQ
structure Scr (ns:List Int):Prop where
 len:ns.length≤63
 bits:∀ m ∈ ns,Builtin.Int.intBits m≤1048576
noncomputable abbrev scr(ns:List Int):PV:=.fls [145]
theorem zaz{ns:List Int}(S:Scr ns){k:Int}(k0:0≤k)(k1:k≤1000):∃ n,yR [scr ns,.int k]=some (.int n):=by
 have kk:0≤k * k/\k * k≤1000000:=⟨Int.mul_nonneg k0 k0,by have:=Int.mul_le_mul k1 k1 k0 (by omega:(0:Int)≤1000);omega⟩
 unfold yR fnV jY scr
 by_cases h1:k<(ns.length:Int)
 ·have hj:k.toNat<ns.length:=by omega
  simp [h1,zdE,wq k0 h1,List.getElem?_eq_getElem hj]
 ·by_cases h2:ns=[]
  ·simp [h2,Int.not_lt.mpr k0,uZ (i:=k) (j:=k) ⟨by omega,by omega⟩,(fun j=>uZ (i:=k * k) (j:=j) ⟨by omega,by omega⟩)]
  ·have h2':(0:Int)<(ns.length:Int):=by have:=KK.mpr h2;omega
   have h3:¬ (ns.length:Int)=0:=by omega
   have hm:0≤k * 3 % (ns.length:Int)/\k * 3 % (ns.length:Int)<ns.length:=⟨JI _ [12],JG _ h2'⟩
   have hj:(k * 3 % (ns.length:Int)).toNat<ns.length:=by omega
   generalize hn:ns[(k * 3 % (ns.length:Int)).toNat]'hj=m
   have q:0≤m % 2147483629/\m % 2147483629<2147483629:=⟨JI _ [10],JG _ [10]⟩
   simp [h1,h2,h3,uZ (i:=k) (j:=3) ⟨by omega,by omega⟩,uZ (i:=k) (j:=k) ⟨by omega,by omega⟩,(fun j=>uZ (i:=k * k) (j:=j) ⟨by omega,by omega⟩),yj h2',zdE,wq hm.1 hm.2,List.getElem?_eq_getElem hj,hn,yj (show (0:Int)<2147483629 by decide),(fun j=>uZ (i:=m % 2147483629) (j:=j) ⟨by omega,by omega⟩)]
theorem zcJ{c n b:Int}(n0:0≤n)(n1:n≤1000)(b1:1≤b)(b2:b≤1000000000):
  ∃ ds:List Int,ye [.int c,.int n,.int b]=some [157]/\ds.length=n.toNat/\∀ d ∈ ds,0≤d/\d<b:=by
 unfold ye fnV uP
 have loop:=zml (b:=zN 5) (g:=xr)
  (ps:=uG 0 n.toNat) (env:=[some (.int c),some (.int n),some (.int b),some (.lst []),some (.int (c / 2)),none,none,none])
  (fun pre e=>∃ (l:Int) (ds:List Int) (x5 x6 x7:Option PV),e=[some (.int c),some (.int n),some (.int b),some [157],some (.int l),x5,x6,x7]/\ds.length=pre.length/\∀ d ∈ ds,0≤d/\d<b)
  ⟨c / 2,[],none,none,none,rfl,rfl,by simp⟩ ?_
 ·obtain ⟨e,h1,l',ds,x5,x6,x7,rfl,h2,h3⟩:=loop
  refine ⟨ds,?_,by rw [h2,jN],h3⟩
  have hn:n<4611686018427387904/\-4611686018427387904≤n:=by omega
  simp [xl,hn,vF (show (0:Int)<2/\(2:Int)<1073741824 by decide),h1]
 ·rintro pre p post e hp ⟨l,ds,x5,x6,x7,rfl,h2,h3⟩
  have hl:(uG 0 n.toNat).length=pre.length+(post.length+1):=by rw [hp];simp
  rw [jN] at hl
  have hj:∃ j:Int,p=.int j/\0≤j/\j≤1000:=by
   have:p ∈ uG 0 n.toNat:=by rw [hp];simp
   rw [zjm] at this
   obtain ⟨j,hj,rfl⟩:=Jx.mp this
   obtain ⟨i,hi,rfl⟩:=Jx.mp hj
   exact ⟨i,rfl,by omega,by have:=JQ.mp hi;omega⟩
  obtain ⟨j,rfl,j0,j1⟩:=hj
  have hlen:ds.length<100000:=by omega
  by_cases h0:c % 2=0
  ·refine ⟨_,_,rfl,.inl ?_,l / b,ds++[l % b],some (.int j),x6,x7,rfl,by simp [h2],fun d hd=>?_⟩
   ·simp [xr,yj (show (0:Int)<2 by decide),h0,yj (show 0<b by omega),zb,vF (show 0<b/\b<1073741824 by omega),hlen]
   ·rcases List.mem_append.mp hd with hd | hd
    ·exact h3 d hd
    ·rw [Jc.mp hd];exact ⟨JI _ [12],JG _ [12]⟩
  ·have o1:∀ z:Int,0≤z % 2147483629/\z % 2147483629<2147483629:=fun z=>⟨JI _ [10],JG _ [10]⟩
   have o2:∀ z:Int,0≤z % 2147483647/\z % 2147483647<2147483647:=fun z=>⟨JI _ [10],JG _ [10]⟩
   have q0:=o1 l
   have q1:=o2 ((l % 2147483629+7919 * j+1) * 48271)
   generalize hz:(l % 2147483629+7919 * j+1) * 48271 % 2147483647=z at q1
   have q2:=o1 (z * (z % 65521+j))
   generalize hy:z * (z % 65521+j) % 2147483629=y at q2
   refine ⟨_,_,rfl,.inl ?_,l,ds++[y * 16807 % 2147483563 / 7 % b],some (.int j),some (.int z),some (.int y),rfl,by simp [h2],fun d hd=>?_⟩
   ·simp [xr,yj (show (0:Int)<2 by decide),h0,zb,hlen,yj (show (0:Int)<2147483647 by decide),yj (show (0:Int)<2147483629 by decide),yj (show (0:Int)<2147483563 by decide),yj (show (0:Int)<65521 by decide),
     uZ (i:=7919) (j:=j) ⟨by omega,by omega⟩,uZ (i:=l % 2147483629+7919 * j+1) (j:=48271) ⟨by omega,by omega⟩,hz,uZ (i:=z) (j:=z % 65521+j) ⟨by omega,by omega⟩,hy,uZ (i:=y) (j:=16807) ⟨by omega,by omega⟩,
     vF (show (0:Int)<7/\(7:Int)<1073741824 by decide),yj (show 0<b by omega)]
   ·rcases List.mem_append.mp hd with hd | hd
    ·exact h3 d hd
    ·rw [Jc.mp hd];exact ⟨JI _ [12],JG _ [12]⟩
noncomputable def zbl(w p:Int)(Pl:List Int):List Int:=([p - w,p+w].filter fun q=>decide (q ∈ Pl))++(if 0<p % w/\p - 1 ∈ Pl then [p - 1] else [])++(if p % w<w - 1/\p+1 ∈ Pl then [p+1] else [])
theorem zhX{w h p q:Int}{Pl:List Int}(w1:1≤w)(w6:w≤6)(pl:∀ p ∈ Pl,CB.Place w h p)(hp:p ∈ Pl):q ∈ zbl w p Pl ↔ Adj w p q/\q ∈ Pl:=by
 have h1:=pl p hp
 unfold zbl
 rw [JB,JB,Ke,zew,zew]
 simp only [List.mem_cons,List.not_mem_nil,or_false,decide_eq_true_eq]
 unfold Adj
 unfold CB.Place at h1
 constructor
 ·rintro ((⟨h | h,m⟩ | ⟨⟨c,m⟩,rfl⟩) | ⟨⟨c,m⟩,rfl⟩)
  ·exact ⟨.inr (.inr (.inr [12])),m⟩
  ·exact ⟨.inr (.inr (.inl h)),m⟩
  ·exact ⟨.inr (.inl ⟨Int.sub_add_cancel p 1,(zeZ w1 c).1.symm⟩),m⟩
  ·exact ⟨.inl ⟨rfl,(zaN w1 c).1.symm⟩,m⟩
 ·rintro ⟨⟨rfl,c⟩ | ⟨e,c⟩ | rfl | e,m⟩
  ·exact .inr ⟨⟨zeb w1 c,m⟩,rfl⟩
  ·obtain rfl:q=p - 1:=by omega
   exact .inl (.inr ⟨⟨zji w1 c,m⟩,rfl⟩)
  ·exact .inl (.inl ⟨.inr rfl,m⟩)
  ·exact .inl (.inl ⟨.inl [12],m⟩)
theorem zdp(w p:Int)(Pl:List Int):(zbl w p Pl).length≤4:=by
 unfold zbl
 have:=JR (fun q=>decide (q ∈ Pl)) [p - w,p+w]
 simp only [List.length_append,List.length_cons,List.length_nil] at this ⊢
 split<;>split<;>simp only [List.length_cons,List.length_nil]<;>omega
theorem zkV{t1 t2:FT}{E:En}{fx:FE}{i:Nat}{X:List Int}{q:Int}{a b:Prop}[Decidable a][Decidable b](h1:t1 E=some (decide a))(h2:t2 E=some (decide b))(hi:zA i E=some (.lst (X.map PV.int)))(hE:E.set i (some (.lst (X.map PV.int)))=E)(hx:fx E=some (.int q))(hl:X.length<100000):
  wC (zci t1 t2) (zb i fx) fNx E=some (.nx (E.set i (some (.lst ((X++if a/\b then [q] else []).map PV.int))))):=by
 rw [yB,zgh,h1,Jb]
 by_cases ha:a
 ·rw [decide_eq_true ha,if_pos rfl,h2,Jb]
  by_cases hb:b
  ·rw [decide_eq_true hb,if_pos rfl,if_pos ⟨ha,hb⟩,JJ]
   unfold zb
   rw [hi,hx,Jb,Jb]
   dsimp only
   rw [if_pos (by rw [Jh];exact hl)];rfl
  ·rw [decide_eq_false hb,if_neg Je,if_neg fun z=>hb z.2,JO,hE];rfl
 ·rw [decide_eq_false ha,if_neg Je,Jb,if_neg Je,if_neg fun z=>ha z.1,JO,hE];rfl
theorem zhd{w h:Int}{S Pl:List Int}(w1:1≤w)(w6:w≤6)(pl:∀ p ∈ Pl,CB.Place w h p)(sz:S.length≤100)(pz:Pl.length≤100):
  ∃ L:List Int,xa [.int w,.lst (S.map PV.int),.lst (Pl.map PV.int)]=some [265]/\L.Nodup/\∀ p,p ∈ L ↔ Reach (Adj w) (· ∈ Pl) (· ∈ S) p:=by
 have hinit:ym (zN 0) [259] [101] (S.map PV.int) [none,some (.lst (Pl.map PV.int))]=some ([184].map PV.int):=
  vL (fun n=>decide (n ∈ Pl)) PV.int S fun n _=>⟨_,rfl,by simp,fun _=>by simp⟩
 have fz:[184].length≤100:=JN (JR _ _) sz
 let mk:List Int->List Int->Option PV->Option PV->En:=fun L ws x y=>[some [251],some (.lst (S.map PV.int)),some (.lst (Pl.map PV.int)),some [265],some (.lst (ws.map PV.int)),x,y]
 have loop:=zcT (t:=xH) (g:=xm) (fun e=>∃ L ws x y,e=mk L ws x y/\Dfs (Adj w) (· ∈ Pl) (· ∈ S) L ws/\ws.length≤100+4 * L.length)
  (fun e=>match e with | [_,_,_,some (.lst ls),some (.lst ws),_,_]=>5 * (Pl.length - ls.length)+ws.length | _=>0) ?_ 1000000 (mk [] [184] none none)
  ⟨[],_,none,none,rfl,Dfs.init fun q=>by simp [List.mem_filter],by simpa using fz⟩ (by simp [mk];omega)
 ·obtain ⟨e,h1,⟨L,ws,x,y,rfl,df,lz⟩,h2⟩:=loop
  have hw:ws=[]:=by
   cases ws with
   | nil=>rfl
   | cons a r=>simp [xH,mk] at h2
  subst hw
  refine ⟨L,?_,df.nd,df.done⟩
  have h1':fWh xH xm 1000000 [some [251],some (.lst (S.map PV.int)),some (.lst (Pl.map PV.int)),some (.lst []),some (.lst ([184].map PV.int)),none,none]=some (.nx (mk L [] x y)):=h1
  have hS:S.length≤100000:=by omega
  simp only [xa,fnV,jX,zmm,zbY,zkY,zgg,zcS,yw,wz,xJ,List.length_cons,List.length_nil,List.map_cons,List.map_nil]
  simp [cE,hS,hinit,h1',mk]
 ·rintro e ⟨L,ws,x,y,rfl,df,lz⟩
  have Lz:L.length≤Pl.length:=zL _ _ df.nd fun p hp=>(df.sound p hp).inS
  by_cases hw:ws=[]
  ·subst hw;exact .inl (by simp [xH,mk])
  ·obtain ⟨ws',p,rfl⟩:∃ ws' p,ws=ws'++[p]:=⟨ws.dropLast,ws.getLast hw,(List.dropLast_concat_getLast _).symm⟩
   have hp:p ∈ Pl:=(df.soundW p [19]).inS
   refine .inr ⟨by simp [xH,mk],?_⟩
   simp only [List.length_append,List.length_singleton] at lz
   by_cases hL:p ∈ L
   ·refine ⟨mk L ws' [68] y,.inl ?_,⟨L,ws',_,_,rfl,df.old hL,by omega⟩,by simp [mk]⟩
    simp [xm,mk,zkE,hL]
   ·have hbl:=zdp w p Pl
    have hnew:=df.new (nbs:=zbl w p Pl) hL fun q=>zhX w1 w6 pl hp
    have hlL:=zL _ _ hnew.nd fun q hq=>(hnew.sound q hq).inS
    simp only [List.length_append,List.length_singleton] at hlL
    have hLz:L.length<100000:=by omega
    have hwz:ws'.length<1000:=by omega
    have hmod:=yj (i:=p) [203]
    obtain ⟨y1,l1⟩:=kS (t:=fT (fOp wT (zA 6) (zA 2))) 4 6 (fun acc z=>mk (L++[p]) acc [68] z) (fun n=>decide (n ∈ Pl)) (fun _ _ _=>rfl) (fun _ _ _=>rfl) [17] [17] [p - w,p+w] ws' y
     (fun n _ acc=>by simp [mk]) (by simp only [List.length_cons,List.length_nil];omega)
    refine ⟨mk (L++[p]) (ws'++zbl w p Pl) [68] y1,.inl ?_,⟨_,_,_,_,rfl,hnew,by simp only [List.length_append,List.length_singleton];omega⟩,by simp [mk];omega⟩
    unfold xm
    rw [zG (e:=mk L ws' [68] y) (by simp [mk,zkE])]
    have ht:fT (fOp xP (zA 5) (zA 3)) (mk L ws' [68] y)=some true:=by simp [mk,hL]
    rw [yB,ht,Jb,if_pos rfl]
    rw [zG (e:=mk (L++[p]) ws' [68] y) (by simp [mk,zb,hLz])]
    simp only [List.map_cons,List.map_nil] at l1
    rw [zG (e:=mk (L++[p]) (ws'++[p - w,p+w].filter fun n=>decide (n ∈ Pl)) [68] y1) (by
     rw [yJ]
     have:zf (xI (zC (fOp wI (zA 5) (zA 0)) (zC (fOp yE (zA 5) (zA 0)) zI))) (mk (L++[p]) ws' [68] y)=some [.int (p - w),.int (p+w)]:=by simp [mk]
     rw [this,Jb]
     exact l1)]
    have fl:=JR (fun n=>decide (n ∈ Pl)) [p - w,p+w]
    simp only [List.length_cons,List.length_nil] at fl
    unfold zbl
    generalize ([p - w,p+w].filter fun n=>decide (n ∈ Pl))=fs at fl
    rw [← JZ,← JZ]
    have hA:(ws'++fs++if 0<p % w/\p - 1 ∈ Pl then [p - 1] else []).length<100000:=by
     rw [Jl,Jl]
     split<;>simp only [List.length_cons,List.length_nil]<;>omega
    rw [zG (e:=mk (L++[p]) (ws'++fs++if 0<p % w/\p - 1 ∈ Pl then [p - 1] else []) [68] y1) (zkV (i:=4) (X:=ws'++fs) (by simp [mk,hmod]) (by simp [mk]) rfl rfl rfl (by rw [List.length_append];omega))]
    exact zkV (i:=4) (by simp [mk,hmod]) (by simp [mk]) rfl rfl rfl hA
theorem kD{f:FE}{env:En}{i:Nat}{p:PV}(h:f env=some p):zh i f env=some (.nx [110]):=by rw [zbY,h];rfl
theorem zgN{E E':En}{j n:Nat}{js:List Nat}{X:List Int}{R:List PV}{b:PV->En->Option En}{t:FT}{f:FE}(hX:zA j E=some (.lst (X.map PV.int)))(hce:cE n js E=E')(hl:X.length≤100000)(hc:ym b t f (X.map PV.int) E'=some R):fLC (zf (zA j)) n js b t f E=some (.lst R):=by
 rw [zcS,yw,hX,Jb,zlv,Jb,if_pos (by rw [Jh];exact hl),hce,hc];rfl
theorem zfl(F:List Int):kB [.lst [41]]=some [128]:=by simp
theorem zpI{w h:Int}(w1:1≤w)(w6:w≤6)(h1:1≤h)(h6:h≤6):1≤w * h/\w * h≤36:=by
 have h2:w * h≤6 * 6:=Int.mul_le_mul w6 h6 [12] [12]
 exact ⟨Int.mul_pos [12] [12],h2⟩
theorem zfw(w h:Int):uG 0 (w * h).toNat=[279].map PV.int:=by rw [zjm];rfl
theorem zfy(w h:Int):[279].length=(w * h).toNat:=by simp [zj]
theorem zkB{ns:List Int}(S:Scr ns){k:Int}(k0:0≤k)(k1:k≤900):∃ w h F,wg [scr ns,.int k]=some [32]/\IsFloor w h F:=by
 obtain ⟨c,hc⟩:=zaz S k0 (show k≤1000 by omega)
 obtain ⟨c',hc'⟩:=zaz S (show 0≤k+1 by omega) (show k+1≤1000 by omega)
 have m6:∀ z:Int,0≤z % 6/\z % 6<6:=fun z=>⟨JI _ [10],JG _ [10]⟩
 have q1:=m6 c
 have q2:=m6 (c / 6)
 have q3:0≤c / 36 % 5/\c / 36 % 5<5:=⟨JI _ [10],JG _ [10]⟩
 generalize hw:1+c % 6=w
 generalize hh:1+c / 6 % 6=h
 have w1:1≤w:=by omega
 have w6:w≤6:=by omega
 have h1:1≤h:=by omega
 have h6:h≤6:=by omega
 have wh:=zpI w1 w6 h1 h6
 have hm:=uZ (i:=w) (j:=h) ⟨by omega,by omega⟩
 obtain ⟨ds,e1,dl,e3⟩:=zcJ (c:=c') (show 0≤w * h by omega) [12] (show 1≤2+c / 36 % 5 by omega) [12]
 have hpl:=zfy w h
 have c1:∀ x,ym (zN 0) (fT (fOp vGt (fOp vIx (zA 1) (zA 0)) [25])) [101] ([279].map PV.int) [x,some [157]]=some ([169].map PV.int):=fun x=>
  vL (fun n=>decide (0<ds.getD n.toNat 0)) PV.int _ fun n hn=>by
   have hp:=mem_places.mp hn
   unfold CB.Place at hp
   have hj:n.toNat<ds.length:=by omega
   have hg:atI (ds.map PV.int) n=some (.int (ds.getD n.toNat 0)):=by
    rw [zdE,wq hp.1 [12],Ji hj]
    simp [List.getD,List.getElem?_eq_getElem hj]
   exact ⟨_,rfl,by simp [hg],fun _=>by simp⟩
 obtain ⟨f0,fr,hfr⟩:∃ f0 fr,zj w h=f0::fr:=by
  cases hq:zj w h with
  | nil=>rw [hq] at hpl;simp at hpl;omega
  | cons a r=>exact ⟨a,r,rfl⟩
 have hf0:CB.Place w h f0:=mem_places.mp (by rw [hfr];simp)
 obtain ⟨so,hso,sn,spl⟩:∃ so:List Int,(if [169]=[] then [f0] else [279].filter fun n=>decide (0<ds.getD n.toNat 0))=so/\so≠[]/\(∀ p ∈ so,CB.Place w h p)/\so.length≤36:=by
  refine ⟨_,rfl,?_⟩
  split
  ·exact ⟨by simp,fun p hp=>by rw [List.mem_singleton.mp hp];exact hf0,by simp⟩
  ·rename_i hn
   exact ⟨hn,fun p hp=>mem_places.mp (Ke.mp hp).1,JN (JR _ _) [12]⟩
 obtain ⟨x0,sr,rfl⟩:∃ x0 sr,so=x0::sr:=by
  cases so with
  | nil=>exact absurd rfl sn
  | cons a r=>exact ⟨a,r,rfl⟩
 obtain ⟨L7,f1,f2,f3⟩:=zhd (w:=w) (h:=h) (S:=[x0]) (Pl:=x0::sr) w1 w6 spl.1 [19] [12]
 have mem7:∀ p,p ∈ L7 ↔ Reach (Adj w) (· ∈ x0::sr) (·=x0) p:=fun p=>by rw [f3 p];exact ⟨fun r=>r.mono (fun q z s=>.start (Jc.mp z) s) fun q r=>r.inS,fun r=>r.mono (fun q z s=>.start (Jc.mpr z) s) fun q r=>r.inS⟩
 have c2:∀ x,ym (zN 0) [260] [101] ([279].map PV.int) [x,some (.lst (L7.map PV.int))]=some (([279].filter fun n=>!decide (n ∈ L7)).map PV.int):=fun x=>
  vL (fun n=>!decide (n ∈ L7)) PV.int _ fun n _=>⟨_,rfl,by simp,fun _=>by simp⟩
 have hbl:=JR (fun n=>!decide (n ∈ L7)) [279]
 have mem:∀ q,q ∈ [279].filter (fun n=>!decide (n ∈ L7)) ↔ CB.Place w h q/\q ∉ L7:=fun q=>by rw [List.mem_filter,mem_places];simp
 generalize hbare:([279].filter fun n=>!decide (n ∈ L7))=bare at c2 hbl mem
 have hd:=fun x=>vF (i:=x) (show 0<w/\w<1073741824 by omega)
 have hmod:=fun x=>yj (i:=x) [203]
 have c3:∀ x,ym (zN 0) (fOr (fT (fOp wT (fOp xc (zA 0) (zA 1)) (xW (zC [25] (zC (fOp wI (zA 1) [20]) zI))))) (fT (fOp wT (fOp wJ (zA 0) (zA 1)) (xW (zC [25] (zC (fOp wI (zA 2) [20]) zI)))))) [101] (bare.map PV.int) [x,some [251],some (.int h)]=some ((bare.filter fun n=>decide [185] || decide [186]).map PV.int):=fun x=>
  vL (fun n=>decide [185] || decide [186]) PV.int _ fun n _=>⟨_,rfl,by by_cases c:n % w=0∨n % w=w - 1<;>simp [hd,hmod,c],fun _=>by simp⟩
 have hrl:=JR (fun n=>decide [185] || decide [186]) bare
 obtain ⟨L8,g1,g2,g3⟩:=zhd (w:=w) (h:=h) (S:=bare.filter fun n=>decide [185] || decide [186]) (Pl:=bare) w1 w6 (fun p hp=>((mem p).mp hp).1) [12] [12]
 have rim:∀ q,q ∈ (bare.filter fun n=>decide [185] || decide [186]) ↔ (CB.Place w h q/\q ∉ L7)/\Rim w h q:=fun q=>by
  rw [Ke,mem]
  unfold Rim
  simp only [Bool.or_eq_true,decide_eq_true_eq,or_assoc]
 generalize (bare.filter fun n=>decide [185] || decide [186])=rims at c3 g1 g3 rim
 have c4:∀ x,ym (zN 0) [260] [101] ([279].map PV.int) [x,some (.lst (L8.map PV.int))]=some (([279].filter fun n=>!decide (n ∈ L8)).map PV.int):=fun x=>
  vL (fun n=>!decide (n ∈ L8)) PV.int _ fun n _=>⟨_,rfl,by simp,fun _=>by simp⟩
 refine ⟨w,h,[279].filter fun n=>!decide (n ∈ L8),?_,?_⟩
 ·have hb:w * h<4611686018427387904/\-4611686018427387904≤w * h:=by omega
  have hpl':[279].length≤100000:=by omega
  have hbl':bare.length≤100000:=by omega
  have hsl:∀ (a:Int) (r:List Int),vSl (.lst ((a::r).map PV.int)) none (some 1)=some (.lst ([a].map PV.int)):=fun a r=>by
   simp only [vSl,wc,if_true,zpn];rfl
  let mk:Option PV->Option PV->Option PV->Option PV->Option PV->Option PV->Option PV->Option PV->Option PV->Option PV->En:=fun x2 x3 x4 x5 x6 x7 x8 x9 x10 x11=>[some (scr ns),some [308],x2,x3,x4,x5,x6,x7,x8,x9,x10,x11]
  let C:=some (PV.int c)
  let W:=some (PV.int w)
  let H:=some (PV.int h)
  let V:=some (PV.lst ([279].map PV.int))
  let D:=some (PV.lst (ds.map PV.int))
  suffices hz:∃ e,vE (mk none none none none none none none none none none)=some (.rt (flV w h ([279].filter fun n=>!decide (n ∈ L8))) e) by
   obtain ⟨e,hz⟩:=hz
   exact yT _ rfl hz
  unfold vE
  rw [zG (e:=mk C none none none none none none none none none) (zd (as:=[scr ns,.int k]) rfl hc)]
  rw [zG (e:=mk C W none none none none none none none none) (kD (by
   show ((xc (.int c) (.int 6)).bind fun y=>yE (.int 1) y)=_
   rw [yj [10],← hw];rfl))]
  rw [zG (e:=mk C W H none none none none none none none) (kD (by
   show (((wJ (.int c) (.int 6)).bind fun x=>xc x (.int 6)).bind fun y=>yE (.int 1) y)=_
   rw [vF [10],Jb,yj [10],← hh];rfl))]
  rw [zG (e:=mk C W H V none none none none none none) (kD (by
   have hr:xl (zC (fOp wS (zA 3) (zA 4)) zI) (mk C W H none none none none none none none)=some (uG 0 (w * h).toNat):=zas (j:=w * h) (by
    show ((wS [251] (.int h)).bind fun p=>some [p])=_
    rw [hm];rfl) [12] [12]
   rw [zmt,hr,zfw,Jb,if_pos (by rw [Jh];exact hpl')]))]
  rw [zG (e:=mk C W H V D none none none none none) (by
   refine zd (as:=[.int c',.int (w * h),.int (2+c / 36 % 5)]) ?_ e1
   have a2:fOp wS (zA 3) (zA 4) (mk C W H V none none none none none none)=some (.int (w * h)):=hm
   have a3:fOp yE [45] (fOp xc (fOp wJ (zA 2) (fC (.int 36))) (fC (.int 5))) (mk C W H V none none none none none none)=some (.int (2+c / 36 % 5)):=by
    show (((wJ (.int c) (.int 36)).bind fun x=>xc x (.int 5)).bind fun y=>yE (.int 2) y)=_
    rw [vF [10],Jb,yj [10]];rfl
   rw [zS,zg (as:=[scr ns,.int (k+1)]) rfl hc',zS,a2,zS,a3];rfl)]
  rw [zG (e:=mk C W H V D (some (.lst ([169].map PV.int))) none none none none) (kD (zgN rfl rfl hpl' (c1 none)))]
  rw [zG (e:=mk C W H V D [80] none none none none) (by
   rw [← hso]
   have hs0:=hsl f0 fr
   rw [← hfr] at hs0
   generalize ([279].filter fun n=>decide (0<ds.getD n.toNat 0))=so
   have ht:fT (fOp vEq (zA 7) (xI zI)) (mk C W H V D (some (.lst (so.map PV.int))) none none none none)=some (decide (so=[])):=by
    show (vEq (.lst (so.map PV.int)) (.lst [])).bind yZ=_
    rw [znQ];rfl
   rw [yB,ht,Jb]
   by_cases h9:so=[]
   ·rw [decide_eq_true h9,if_pos rfl,if_pos h9]
    exact kD hs0
   ·rw [decide_eq_false h9,if_neg Je,if_neg h9];rfl)]
  rw [zG (e:=mk C W H V D [80] [170] none none none) (by
   refine zd (as:=[.int w,.lst ([x0].map PV.int),.lst ((x0::sr).map PV.int)]) ?_ f1
   have hsx:fSl (zA 7) qC (zeK [20]) (mk C W H V D [80] none none none none)=some (.lst ([x0].map PV.int)):=hsl x0 sr
   rw [zS,zS,hsx,zS];rfl)]
  rw [zG (e:=mk C W H V D [80] [170] [224] none none) (kD (zgN rfl rfl hpl' (c2 none)))]
  rw [zG (e:=mk C W H V D [80] [170] [224] (some (.lst (rims.map PV.int))) none) (kD (zgN rfl rfl hbl' (c3 none)))]
  rw [zG (e:=mk C W H V D [80] [170] [224] (some (.lst (rims.map PV.int))) (some (.lst (L8.map PV.int)))) (zd (as:=[.int w,.lst (rims.map PV.int),.lst (bare.map PV.int)]) rfl g1)]
  have l12:=zgN (E:=mk C W H V D [80] [170] [224] (some (.lst (rims.map PV.int))) (some (.lst (L8.map PV.int)))) (j:=5) (n:=1) (js:=[11]) rfl rfl hpl' (c4 none)
  generalize ([279].filter fun n=>!decide (n ∈ L8))=F at l12
  exact ⟨_,by
   rw [xJ,jg,zS,zS,zS,zg (as:=[.lst [41]]) (by rw [zS,l12];rfl) (zfl F)];rfl⟩
 ·refine znP (L:=(· ∈ L7)) (O:=(· ∈ L8)) (a:=x0) w1 w6 h1 h6 (fun p hp=>spl.1 p ((mem7 p).mp hp).inS) ((mem7 x0).mpr (.start rfl Jf)) (fun p hp=>?_) (fun p=>?_)
  ·exact ((mem7 p).mp hp).mono (fun q e s=>.start e ((mem7 q).mpr (.start e s))) fun q r=>(mem7 q).mpr r
  ·rw [g3 p]
   exact ⟨fun r=>r.mono (fun q a s=>.start ((rim q).mp a).2 ((mem q).mp s)) fun q r=>(mem q).mp r.inS,fun r=>r.mono (fun q a s=>.start ((rim q).mpr ⟨s,a⟩) ((mem q).mpr s)) fun q r=>(mem q).mpr r.inS⟩
theorem znS(a b:Bool):eqP (.bl a) (.bl b)=decide (a=b):=by cases a<;>cases b<;>rfl
theorem zph(a b:Bool):vEq (.bl a) (.bl b)=some (.bl (decide (a=b))):=by
 simp only [vEq,(zjQ a).ok [10],(zjQ b).ok [10],Bool.and_self,if_true,znS]
theorem ziC{ns:List Int}(S:Scr ns){k:Int}(k0:0≤k)(k1:k≤900){w h:Int}{F:List Int}(hl:F.length≤36):∃ B:List Int,xO [scr ns,.int k,flV w h F]=some [78]/\B.Sublist F:=by
 obtain ⟨c,hc⟩:=zaz S k0 (show k≤1000 by omega)
 obtain ⟨c',hc'⟩:=zaz S (show 0≤k+1 by omega) (show k+1≤1000 by omega)
 have q1:0≤c % 6/\c % 6<6:=⟨JI _ [10],JG _ [10]⟩
 obtain ⟨ds,e1,dl,e3⟩:=zcJ (c:=c') (n:=(F.length:Int)) (b:=2+c % 6) [12] [12] [12] [12]
 have dl':ds.length=F.length:=by omega
 generalize hy:c / 6 % 2=y
 refine ⟨[135].map (·.1),?_,?_⟩
 ·have hz:(List.zip [41] (ds.map PV.int)).map (fun z=>PV.tup [z.1,z.2])=(F.zip ds).map fun z=>PV.tup [.int z.1,.int z.2]:=by
   rw [List.zip_map,Kj];rfl
  have hcomp:ym (u9 2 (yO (zN 0) (yO (zN 1) jA))) (fT (fOp vEq (fOp vGt (zA 1) [25]) (fOp vGt (zA 2) [25]))) [101] [187] [none,none,some (.int y)]=some ([135].map fun z=>PV.int z.1):=
   qp _ _ _ fun z _=>⟨[some (.int z.1),some (.int z.2),some (.int y)],by simp [u9,yO,jA],by simp [zph],fun _=>by simp⟩
  have hzl:[187].length≤100000:=by rw [Jh,Ku];omega
  have hargs:zC [194] (zC (zJ xQ (zC (fOp vIx (zA 2) [45]) zI)) (zC (fOp yE [45] (fOp xc (zA 3) (fC (.int 6)))) zI)) [some (scr ns),some [308],some [32],some (.int c),none,none]=some [.int c',.int (F.length:Int),.int (2+c % 6)]:=by
   simp [hc',yj (show (0:Int)<6 by decide)]
  unfold xO fnV uQ
  rw [zG (e:=[some (scr ns),some [308],some [32],some (.int c),none,none]) (by simp [hc])]
  rw [zG (e:=[some (scr ns),some [308],some [32],some (.int c),some [157],none]) (by rw [zbY,zdJ,hargs,Jb,e1];rfl)]
  rw [zG (e:=[some (scr ns),some [308],some [32],some (.int c),some [157],some (.int y)]) (by simp [yj (show (0:Int)<2 by decide),vF (show (0:Int)<6/\(6:Int)<1073741824 by decide),hy])]
  have hsrc:zif (zC (fOp vIx (zA 2) [45]) (zC (zA 4) zI)) [some (scr ns),some [308],some [32],some (.int c),some [157],some (.int y)]=some [187]:=by
   rw [zkW,← hz];simp
  have hce:cE 2 [5] [some (scr ns),some [308],some [32],some (.int c),some [157],some (.int y)]=[none,none,some (.int y)]:=rfl
  rw [xJ,zcS,hsrc,Jb,if_pos hzl,hce,hcomp]
  simp [List.map_map,Function.comp_def]
 ·have h1:[135].Sublist (F.zip ds):=List.filter_sublist
  have h2:=h1.map (·.1)
  rwa [KY [12]] at h2
noncomputable def uv:FS:=(zX (zh 2 (zJ yu [59]))
 (yY (fIf (fT [178]) (fOp vIx (zA 2) [20]) (fC .non))))
noncomputable def yb:List PV->Option PV:=fnV 3 uv
noncomputable def uz:FS:=(zX (zh 3 (fOp vIx (zA 1) [25]))
 (zX (zh 4 (fOp yE (fOp wS (fOp wJ (zA 2) (zA 3)) (fOp yE (zA 3) [20])) (fOp xc (zA 2) (zA 3))))
 (zX (zh 5 (xI (zC (fOp vIx (zA 0) (zA 4)) (zC (fOp vIx (zA 0) (fOp yE (zA 4) [20])) (zC (fOp vIx (zA 0) (fOp yE [321] [45])) (zC (fOp vIx (zA 0) (fOp yE [321] [20])) zI))))))
 (zX (wC (fT (fOp vNe (fLC (xl (zC (fC (.int 4)) zI)) 1 [5] (zN 0) (fT [37]) [101]) (xI zI))) (yY (fC (.str "broken"))) fNx)
 (yY (fOp vIx (xI (zC (fC (.str "leaned")) (zC (fC (.str "square")) zI))) (zJ zll (zC (jC (fOp vEq [131] [286]) (fOp vEq [114] [286])) zI))))))))
noncomputable def xi:List PV->Option PV:=fnV 6 uz
noncomputable def wb:FS:=(zX (wC (fOr (zdx (zch (zJ vi (zC (zA 0) (zC (fC (.ty "list")) zI))))) (fOr (fT (fOp vNe (zJ xQ [38]) (zA 1))) (fT (fOp vEq (zJ zhv [38]) (zJ zhw [38]))))) (yY (fC [218])) fNx)
 (yY (zJ zln (zC (fLC (zf (zA 0)) 1 [] (zN 0) vg (jC (zJ vi (zC (zA 0) (zC (fC (.ty "int")) zI))) (jC (zeL (zJ vi (zC (zA 0) (zC (fC (.ty "bool")) zI)))) (qk vLe vLe (fUn ju (fC (.int 3))) (zA 0) (fC (.int 3)))))) zI))))
noncomputable def yU:List PV->Option PV:=fnV 2 wb
noncomputable def wO:FS:=(vq 3 (zA 4) (xW (zC (zA 5) (zC (zA 6) zI))))
noncomputable def xK:FS:=(zX (zh 10 (zJ xi (zC (zA 3) (zC (zA 0) (zC (zA 9) zI)))))
 (zX (wC (fOr (fT (fOp vEq (zA 10) (fC (.str "broken")))) (zci (fT [162]) (fOr (fT (fOp wT (zA 9) (zA 1))) (fT (fOp wT (zA 9) (zA 7)))))) (yY (fC [218])) fNx)
 (wC (fT [162]) (zb 8 (zu (zA 9))) fNx)))
noncomputable def wu:FS:=(zX (zh 3 jb)
 (zX (yx (zf (zJ zao (zC (zA 0) (zC (zJ xj [82]) zI)))) (u9 3 (yO (zN 4) (yO (zN 5) (yO (zN 6) jA)))) wO)
 (zX (zh 7 (zJ zap (zC (zA 0) (zC (zJ xj [313]) zI))))
 (zX (zh 8 (xI zI))
 (zX (yx (zf [91]) (zN 9) xK)
 (yY (jC (fOp vNe (zA 8) (xI zI)) (fOp zhx (zJ wn (zC (zA 0) (zC (zJ xj [313]) (zC (zJ xj [82]) zI)))) (fC .non)))))))))
noncomputable def yc:List PV->Option PV:=fnV 11 wu
noncomputable def jt:FS:=(zX (zh 6 (zJ xj (zC (zA 3) zI)))
 (zX (zh 7 (zJ yb (zC (zA 1) (zC (zA 6) zI))))
 (zX (wC (fOr (fT (fOp vNe (zA 6) (zA 3))) (fT [230])) (yY (fC [218])) fNx)
 (wC (fT (fOp zdQ (zA 7) (fC .non))) (zX (wC (fOr (zdx (zch (zJ yU (zC (zA 7) [82])))) (zdx (zch (zJ yc (zC (zA 1) (zC (zA 3) (zC (zA 7) zI))))))) (yY (fC [218])) fNx)
 (zb 7 (fC (.int 9)))) fNx))))
noncomputable def zky:FS:=(zX (zh 1 (zJ wg (zC (zA 0) (zC [25] zI))))
 (zX (zh 2 (zJ xQ (zC (zJ xN [313]) zI)))
 (zX (zh 3 (zJ xO (zC (zA 0) (zC [45] [313]))))
 (zX (zh 4 (fOp vEq (fOp vIx (zJ yu [142]) [25]) (fC (.str "stiff"))))
 (zX (yx (xl (zC [45] zI)) (zN 5) jt)
 (zX (zh 8 (zJ vO (zC (fOp yE (zA 3) (zJ vN [142])) zI)))
 (zX (wC (fT (fOp zdQ (zJ yb (zC (zA 1) (zC (zA 8) zI))) (fC .non))) (yY (fC [218])) fNx)
 (zX (zh 9 (zJ yb (zC (zA 1) (zC (xI zI) zI))))
 (yY (jC (zJ yU (zC (zA 9) [82])) (zJ yc (zC (zA 1) (zC (xI zI) (zC (zA 9) zI))))))))))))))
noncomputable def zaA:List PV->Option PV:=fnV 10 zky
theorem zfp{xs:List Int}(h:xs.length<64):vO [.lst [52]]=some (.lst ((w9 xs).map PV.int)):=by
 show ki [.lst [52]]=_
 unfold ki
 dsimp only
 rw [xw]
 dsimp only
 rw [if_pos h]
inductive Wd where | leans | stiff | leaned | square | broken
deriving DecidableEq
noncomputable def Wd.s:Wd->Str
 | .leans=>Str.ofString "leans"
 | .stiff=>Str.ofString "stiff"
 | .leaned=>Str.ofString "leaned"
 | .square=>Str.ofString "square"
 | .broken=>Str.ofString "broken"
theorem zah(a b:Wd):vEq (.str a.s) (.str b.s)=some (.bl (decide (a=b))):=by
 have ok:∀ a:Wd,kU (.str a.s)=true:=fun a=>(zlV (by cases a<;>decide +kernel)).ok (d:=0) [10]
 have h3:eqP (.str a.s) (.str b.s)=decide (a=b):=by cases a<;>cases b<;>decide +kernel
 unfold vEq
 rw [ok a,ok b,h3];rfl
section
variable {ls:List [42]} {B B' F:List Int} {n:Nat} {f:Int}
theorem zfh{T:List Int}(h:yH T≤1){a b:Nat}(ha:a<T.length)(hb:b<T.length):T.getD a 0=T.getD b 0:=by
 obtain ⟨l,h1,h2,h3⟩:=vK T
 have m1:=(h2 _).mpr (getD_mem ha)
 have m2:=(h2 _).mpr (getD_mem hb)
 match l,h3,m1,m2 with
 | [],_,m1,_=>cases m1
 | [x],_,m1,m2=>rw [Jc.mp m1,Jc.mp m2]
 | x::y::r,h3,_,_=>simp at h3;omega
end
noncomputable def Lean(ls:List [42])(B:List Int)(n:Nat)(L:List Int):Prop:=(∀ k:Nat,k<n->((k:Int) ∈ L ↔ Con ls B 0 k))/\∃ k:Nat,k<n/\(k:Int) ∉ L
theorem zdW{w h:Int}{F:List Int}{rs cs:List [46]}{L0:List Int}{G:Int->PV}(S:Strips w h F rs cs)(C:Cross w h F [14] L0 G)(hs:zY [flV w h F]=some [48]){B:List Int}(hB:∀ f ∈ B,f ∈ F)(hl:B.length≤1000):
  (∃ L,Lean [14] B [18] L/\(∃ q,yu [flV w h F,.lst [22]]=some (.tup [.str [197],q]))/\yb [flV w h F,.lst [22]]=some (.lst [223]))∨
  ((∀ k,k<rs.length+cs.length->Con [14] B 0 k)/\(∃ q,yu [flV w h F,.lst [22]]=some (.tup [.str [320],q]))/\yb [flV w h F,.lst [22]]=some .non):=by
 obtain ⟨L,ws,wk,hj⟩:=zia S C hs hB hl
 have hcon:∀ k:Nat,((k:Int) ∈ L ↔ Con [14] B 0 k):=fun k=>wk.con (a:=0)
 let mk:Option PV->En:=fun x=>[some [32],some [78],x]
 rcases hj with ⟨hlt,hj⟩ | ⟨hall,_,hj⟩
 ·refine .inl ⟨L,⟨fun k _=>hcon k,?_⟩,⟨_,hj⟩,?_⟩
  ·false_or_by_contra
   rename_i hno
   have hsub:∀ s ∈ xg [18],s ∈ L:=fun s hsu=>by
    obtain ⟨h0,h1⟩:=mem_univ.mp hsu
    obtain ⟨k,rfl⟩:=Int.eq_ofNat_of_zero_le h0
    false_or_by_contra
    rename_i hn
    exact hno ⟨k,by omega,hn⟩
   have:=zL (xg [18]) L (by
    unfold xg
    rw [JH,Kc]
    exact (JH.mp List.nodup_range).imp fun h e=>h (Int.ofNat.inj e)) hsub
   rw [xk] at this
   omega
  ·generalize yK [18] L=T at *
   let E:=mk (some (.tup [.str [197],.lst [65]]))
   refine yT (e:=E) (mk none) rfl ?_
   unfold uv
   rw [zG (e:=E) (zd (as:=[flV w h F,.lst [22]]) rfl hj)]
   have t1:fT [178] E=some true:=by
    rw [qK,yP,zal (a:=.str [197]) (l:=[.lst [65]]) rfl]
    show (vEq (.str Wd.leans.s) (.str Wd.leans.s)).bind yZ=_
    rw [zah];rfl
   rw [xJ,zmN,t1,Jb,if_pos rfl,zdM (a:=.str [197]) (b:=.lst [65]) (l:=[]) rfl];rfl
 ·refine .inr ⟨fun k hk=>(hcon k).mp (hall k (mem_univ.mpr ⟨by omega,by omega⟩)),⟨_,hj⟩,?_⟩
  generalize ziH [18] ws=T at *
  let E:=mk (some (.tup [.str [320],.lst T]))
  refine yT (e:=E) (mk none) rfl ?_
  unfold uv
  rw [zG (e:=E) (zd (as:=[flV w h F,.lst [22]]) rfl hj)]
  have t1:fT [178] E=some false:=by
   rw [qK,yP,zal (a:=.str [320]) (l:=[.lst T]) rfl]
   show (vEq (.str Wd.stiff.s) (.str Wd.leans.s)).bind yZ=_
   rw [zah];rfl
  rw [xJ,zmN,t1];rfl
theorem zcB{n:Nat}{L:List Int}:∀ t ∈ yK n L,t=0∨t=1:=fun t ht=>by
 obtain ⟨i,_,rfl⟩:=Jx.mp ht
 by_cases hi:(i:Int) ∈ L
 ·right;rw [if_pos hi]
 ·left;rw [if_neg hi]
theorem zdH{ls:List [42]}{B:List Int}{n:Nat}{L:List Int}(hn:0<n)(hn2:n≤1000)(le:Lean ls B n L):yU [.lst ((yK n L).map PV.int),.int (n:Int)]=some [324]:=by
 have hlen:=qa n L
 have hb:∀ t ∈ yK n L,t=0∨t=1:=zcB
 have h0:=jS (L:=L) hn
 rw [if_pos ((le.1 0 hn).mpr .refl)] at h0
 obtain ⟨k,hk,hkn⟩:=le.2
 have h1:=jS (L:=L) hk
 rw [if_neg hkn] at h1
 have m0:(1:Int) ∈ yK n L:=h0 ▸ (by
  rw [List.getD_eq_getElem?_getD,Ji (by rw [hlen];exact hn)]
  exact JP _)
 have m1:(0:Int) ∈ yK n L:=h1 ▸ (by
  rw [List.getD_eq_getElem?_getD,Ji (by rw [hlen];exact hk)]
  exact JP _)
 generalize yK n L=T at *
 obtain ⟨x,r,rfl⟩:∃ x r,T=x::r:=by
  cases T with
  | nil=>exact nomatch m0
  | cons x r=>exact ⟨x,r,rfl⟩
 obtain ⟨a1,a2⟩:=qY r x
 obtain ⟨b1,b2⟩:=qZ r x
 have c1:=a2 0 m1
 have c2:=b2 1 m0
 have hmin:=zlZ (x:=x) (r:=r)
 have hmax:=zma (x:=x) (r:=r)
 generalize zdn x r=mn at *
 generalize zdo x r=mx at *
 have hd:decide (mn=mx)=false:=decide_eq_false [12]
 clear a1 a2 b1 b2 c1 c2 m0 m1 h0 h1
 generalize x::r=T at *
 let E:En:=[some (.lst [65]),some (.int (n:Int))]
 refine yT (e:=E) E rfl ?_
 unfold wb
 have hln:zJ xQ [38] E=some (.int (n:Int)):=zg (as:=[.lst [65]]) rfl (by rw [zdq,Jh,hlen])
 have v1:zA 1 E=some (.int (n:Int)):=rfl
 rw [zG (e:=E) (by
  have t1:zdx (zch (zJ vi (zC (zA 0) (zC (fC (.ty "list")) zI)))) E=some false:=rfl
  have t2:fT (fOp vNe (zJ xQ [38]) (zA 1)) E=some false:=by
   rw [qK,yP,hln,v1,Jb,Jb,zmI,decide_eq_true rfl];rfl
  have t3:fT (fOp vEq (zJ zhv [38]) (zJ zhw [38])) E=some false:=by
   rw [qK,yP,zg (as:=[.lst [65]]) rfl hmin,zg (as:=[.lst [65]]) rfl hmax,Jb,Jb,zeM,hd];rfl
  rw [yB,zak,t1,Jb,if_neg Je,zak,t2,Jb,if_neg Je,t3];rfl)]
 have hc:fLC (zf (zA 0)) 1 [] (zN 0) vg (jC (zJ vi (zC (zA 0) (zC (fC (.ty "int")) zI))) (jC (zeL (zJ vi (zC (zA 0) (zC (fC (.ty "bool")) zI)))) (qk vLe vLe (fUn ju (fC (.int 3))) (zA 0) (fC (.int 3))))) E=some (.lst ((T.map fun _=>true).map PV.bl)):=lcv (qs:=T.map PV.int) rfl rfl [153] (by
  rw [Kj]
  exact xY _ T fun t ht=>⟨[some (.int t)],rfl,rfl,by
   rcases hb t ht with rfl | rfl<;>rfl⟩)
 rw [xJ,zg (as:=[.lst ((T.map fun _=>true).map PV.bl)]) (by rw [zS,hc];rfl) (p:=.bl true) (by
  unfold zln
  dsimp only
  rw [zcN]
  show some (PV.bl _)=_
  rw [List.all_map]
  exact congrArg (fun b=>some (PV.bl b)) (KZ.mpr fun _ _=>rfl))];rfl
theorem zje{w h:Int}{F:List Int}(w1:1≤w)(w6:w≤6){X Y:Int->Int}{c0 p R D:Int}{CO:List Int}(m0:p+p / w ∈ CO)(m1:p+p / w+1 ∈ CO)(m2:p+p / w+w+1 ∈ CO)(m3:p+p / w+w+1+1 ∈ CO)
  (fa:Fars X Y c0 (p+p / w) (p+p / w+1) [217] [216] R D){b:Bool}(hb:decide (R=31250)=b)(hb2:decide (D=31250)=b):xi [dF CO [138],flV w h F,.int p]=some (.str (Str.ofString (if b=true then "square" else "leaned"))):=by
 have hd:=vF (i:=p) (show 0<w/\w<1073741824 by omega)
 have hm:=yj (i:=p) [203]
 have lo:p / w * (w+1)+p % w=p+p / w:=by rw [zgL];rfl
 generalize p+p / w=l at *
 obtain ⟨s0,s1,s2,s3,ri,fl⟩:=fa
 let mk:Option PV->Option PV->Option PV->En:=fun x3 x4 x5=>[some (dF CO [138]),some [32],some (.int p),x3,x4,x5]
 let Q3:=some (PV.int w)
 let Q4:=some (PV.int l)
 let g0:=yy X Y c0 l
 let g1:=yy X Y c0 (l+1)
 let g2:=yy X Y c0 (l+w+1+1)
 let g3:=yy X Y c0 (l+w+1)
 let Q5:=some (PV.lst [g0,g1,g2,g3])
 let E:=mk Q3 Q4 Q5
 have e2:l+w+2=l+w+1+1:=by omega
 refine yT (e:=E) (mk none none none) rfl ?_
 unfold uz
 rw [zG (e:=mk Q3 none none) (zaR (zal rfl))]
 rw [zG (e:=mk Q3 Q4 none) (zaR (by
  show (((wJ (.int p) [251]).bind fun x=>wS x (.int (w+1))).bind fun x=>(xc (.int p) [251]).bind fun y=>yE x y)=_
  rw [hd,Jb,zoT ⟨by omega,by omega⟩,Jb,hm,Jb,zla,lo]))]
 rw [zG (e:=E) (zaR (by
  have x0:fOp vIx (zA 0) (zA 4) (mk Q3 Q4 none)=some g0:=vo m0
  have x1:fOp vIx (zA 0) (fOp yE (zA 4) [20]) (mk Q3 Q4 none)=some g1:=vo m1
  have x2:fOp vIx (zA 0) (fOp yE [321] [45]) (mk Q3 Q4 none)=some g2:=by
   show vIx (dF CO [138]) (.int (l+w+2))=_
   rw [e2];exact vo m3
  have x3:fOp vIx (zA 0) (fOp yE [321] [20]) (mk Q3 Q4 none)=some g3:=vo m2
  rw [zkY,zS,x0,zS,x1,zS,x2,zS,x3];rfl))]
 have hc:fLC (xl (zC (fC (.int 4)) zI)) 1 [5] (zN 0) (fT [37]) [101] E=some (.lst []):=by
  have step:∀ (k:Int) (ga gb:PV),atI [g0,g1,g2,g3] (k - 1)=some ga->atI [g0,g1,g2,g3] k=some gb->zc [ga,gb]=some (.int 15625)->fT [37] [some [308],Q5]=some false:=by
   intro k ga gb h1 h2 h3
   have z1:fOp vIx (zA 1) (fOp wI (zA 0) [20]) [some [308],Q5]=some ga:=h1
   have z2:fOp vIx (zA 1) (zA 0) [some [308],Q5]=some gb:=h2
   rw [qK,yP,zg (as:=[ga,gb]) (by rw [zS,z1,zS,z2];rfl) h3];rfl
  have hcomp:=qp (b:=zN 0) (t:=fT [37]) (f:=zu (zA 0)) (env:=[none,Q5]) (hh:=PV.int) (fun _=>false) PV.int [0,1,2,3] (fun k hk=>⟨[some [308],Q5],rfl,by
   simp only [List.mem_cons,List.not_mem_nil,or_false] at hk
   rcases hk with rfl | rfl | rfl | rfl
   ·exact step 0 g3 g0 rfl rfl s0
   ·exact step 1 g0 g1 rfl rfl s1
   ·exact step 2 g1 g2 rfl rfl s2
   ·exact step 3 g2 g3 rfl rfl s3,fun z=>nomatch z⟩)
  exact lcv (qs:=([0,1,2,3]:List Int).map PV.int) rfl rfl [10] hcomp
 rw [zG (e:=E) (by
  have t1:fT (fOp vNe (fLC (xl (zC (fC (.int 4)) zI)) 1 [5] (zN 0) (fT [37]) [101]) (xI zI)) E=some false:=by
   rw [qK,yP,hc];rfl
  rw [yB,t1];rfl)]
 have r1:fOp vEq [131] [286] E=some (.bl b):=by
  rw [yP,zg (as:=[g0,g2]) rfl ri]
  show vEq (.int R) (.int 31250)=_
  rw [zeM,hb]
 have r2:fOp vEq [114] [286] E=some (.bl b):=by
  rw [yP,zg (as:=[g1,g3]) rfl fl]
  show vEq (.int D) (.int 31250)=_
  rw [zeM,hb2]
 have r3:jC (fOp vEq [131] [286]) (fOp vEq [114] [286]) E=some (.bl b):=by
  rw [zhl,r1,r2]
  cases b<;>rfl
 rw [xJ,yP,zg (as:=[.bl b]) (by rw [zS,r3];rfl) (p:=.int (if b=true then 1 else 0)) (by cases b<;>rfl)]
 cases b<;>rfl
theorem zeg{w h:Int}{F:List Int}{rs cs:List [46]}{L0:List Int}{G:Int->PV}(S:Strips w h F rs cs)(C:Cross w h F [14] L0 G)(hs:zY [flV w h F]=some [48]){B:List Int}(hB:∀ f ∈ B,f ∈ F)(hl:B.length≤1000){L:List Int}(le:Lean [14] B [18] L):
  yc [flV w h F,.lst [22],.lst [223]]=some [324]:=by
 have fl:=S.fl
 have w1:=fl.w1;have w6:=fl.w6
 have fz:=yW fl
 have hll:=S.lens
 have hT:=qa [18] L
 have hbt:∀ t ∈ yK [18] L,-3≤t/\t≤3:=fun t ht=>by rcases zcB t ht with rfl | rfl<;>decide
 obtain ⟨X,Y,sp⟩:=znk S [137]
 obtain ⟨c0,hc0,h4⟩:=zlE S C hT hbt sp
 have hheld:=zmg S C hs hB hl
 have hun:=zdT S C hT hB
 have cz:=zeW fl
 have nd:=zbQ w F
 have rcl:∀ p ∈ F,[156].1<rs.length+cs.length/\[156].2<rs.length+cs.length:=fun p hp=>by
  obtain ⟨i1,i2,i3,i4⟩:=S.rc_of hp
  exact ⟨by omega,by omega⟩
 have hsk:∀ p ∈ F,(skw [137] [14] p=false ↔ (([156].1:Int) ∈ L ↔ ([156].2:Int) ∈ L)):=fun p hp=>by
  obtain ⟨q1,q2⟩:=rcl p hp
  unfold skw
  rw [jS q1,jS q2]
  by_cases u1:([156].1:Int) ∈ L<;>by_cases u2:([156].2:Int) ∈ L<;>simp [u1,u2]
 have hcon:∀ p ∈ F,Con [14] B [156].1 [156].2->skw [137] [14] p=false:=fun p hp hc=>by
  obtain ⟨q1,q2⟩:=rcl p hp
  rw [hsk p hp,le.1 _ q1,le.1 _ q2]
  exact ⟨fun z=>z.trans hc,fun z=>z.trans hc.symm⟩
 have hBs:∀ p ∈ B,skw [137] [14] p=false:=fun p hp=>hcon p (hB p hp) (.step .refl hp [76])
 have hfnd:B.find? (skw [137] [14])=none:=List.find?_eq_none.mpr fun p hp=>by rw [hBs p hp];exact Je
 rw [hfnd] at hun
 have hex:∃ p ∈ F,skw [137] [14] p=true:=by
  false_or_by_contra
  rename_i hno
  obtain ⟨k,hk,hkn⟩:=le.2
  exact hkn (S.all (fun k=>(k:Int) ∈ L) ((le.1 0 [12]).mpr .refl) (fun f hf=>(hsk f hf).mp (by
   cases hq:skw [137] [14] f with
   | false=>rfl
   | true=>exact absurd ⟨f,hf,hq⟩ hno)) k hk)
 have hshape:∀ p ∈ F,xi [dF (wE w F) [138],flV w h F,.int p]=some (.str (Str.ofString (if skw [137] [14] p=false then "square" else "leaned"))):=fun p hp=>by
  obtain ⟨q2,q3⟩:=rcl p hp
  have m:∀ c ∈ cAt w p,c ∈ wE w F:=fun c hc=>mem_corF.mpr ⟨p,hp,hc⟩
  have at':∀ k,k<rs.length+cs.length->-3≤[137].getD k 0/\[137].getD k 0≤3:=fun k hk=>by
   rw [jS hk]
   split<;>decide
  have bj:=at' _ q3
  have bk:=at' _ q2
  obtain ⟨u1,u2,u3⟩:=rf bj bk
  have:=zje (h:=h) (F:=F) w1 w6 (m _ (by simp [cAt])) (m _ (by simp [cAt])) (m _ (by simp [cAt])) (m _ (by simp [cAt])) ((sp.sq hp (by rw [hT];exact q2) (by rw [hT];exact q3)).fars bj bk c0) u1 u3
  rw [this]
  unfold skw
  cases decide ([137].getD [156].1 0=[137].getD [156].2 0)<;>rfl
 have hkept:∀ p ∈ F,skw [137] [14] p=true->p ∉ B/\p ∉ F.filter fun f=>decide [167]:=fun p hp hq=>by
  refine ⟨fun z=>?_,fun z=>?_⟩
  ·rw [hBs p z] at hq;exact Je hq
  ·have:=(Ke.mp z).2
   rw [decide_eq_true_eq,lst_iff] at this
   rw [hcon p hp this] at hq;exact Je hq
 generalize hcor:wE w F=CO at *
 generalize (F.filter fun f=>decide [167])=Hd at *
 generalize yK [18] L=T at *
 generalize skw T [14]=sk at *
 let P0:=some [32]
 let P1:=some (PV.lst [22])
 let P2:=some (PV.lst [65])
 let mk:Option PV->Option PV->Option PV->Option PV->Option PV->Option PV->Option PV->Option PV->En:=fun x3 x4 x5 x6 x7 x8 x9 x10=>[P0,P1,P2,x3,x4,x5,x6,x7,x8,x9,x10]
 let V:PV->Option PV->Option PV->Option PV->En:=fun d x4 x5 x6=>mk (some d) x4 x5 x6 none none none none
 obtain ⟨e,l1,x4,x5,x6,rfl⟩:=yk (b:=u9 3 (yO (zN 4) (yO (zN 5) (yO (zN 6) jA)))) (g:=wO) (xs:=CO) (hh:=kJ X Y c0) (env:=V (dF [] [138]) none none none) (fun pre e=>∃ x6 x7 x8,e=V (dF pre [138]) x6 x7 x8) ⟨none,none,none,rfl⟩ (by
  rintro pre c post e hF ⟨x5,x6,x7,rfl⟩
  have hnin:c ∉ pre:=by
   rw [hF] at nd
   have:=Jw.mp nd
   exact fun z=>this.2.2 c z c Jf rfl
  have hpl:pre.length≤49:=by
   have:=congrArg List.length hF
   rw [Jl] at this;omega
  let A6:=some (PV.int c)
  let A7:=some (PV.int (X c - X c0))
  let A8:=some (PV.int (Y c - Y c0))
  refine ⟨V (dF pre [138]) A6 A7 A8,V (dF (pre++[c]) [138]) A6 A7 A8,rfl,.inl ?_,_,_,_,rfl⟩
  have v5:zA 3 (V (dF pre [138]) A6 A7 A8)=some (dF pre [138]):=rfl
  have v6:zA 4 (V (dF pre [138]) A6 A7 A8)=some (.int c):=rfl
  have vt:xW (zC (zA 5) (zC (zA 6) zI)) (V (dF pre [138]) A6 A7 A8)=some (yy X Y c0 c):=rfl
  have hput:=qU (p:=c) (q:=yy X Y c0 c) (ziS X Y c0 pre) rfl [12]
  rw [if_neg hnin,upF_self] at hput
  unfold wO vq
  simp only [v5,v6,vt,Option.bind_some,hput];rfl)
 let P3:=some (dF CO [138])
 let P7:=some (PV.lst (Hd.map PV.int))
 let W:List Int->Option PV->Option PV->En:=fun Z x9 x10=>mk P3 x4 x5 x6 P7 (some (.lst (Z.map PV.int))) x9 x10
 obtain ⟨e,l2,x9,x10,rfl⟩:=yk (b:=zN 9) (g:=xK) (xs:=F) (hh:=PV.int) (env:=W [] none none) (fun pre e=>∃ x9 x10,e=W (pre.filter sk) x9 x10) ⟨none,none,rfl⟩ (by
  rintro pre p post e hF ⟨x9,x10,rfl⟩
  have hp:p ∈ F:=by rw [hF];simp
  have q1:=hshape p hp
  have q2:=hkept p hp
  have hfl:(pre++[p]).filter sk=pre.filter sk++if sk p=true then [p] else []:=by
   rw [Kq]
   refine congrArg (pre.filter sk++·) ?_
   cases hq:sk p with
   | true=>rw [List.filter_cons_of_pos hq];rfl
   | false=>rw [List.filter_cons_of_neg (by rw [hq];exact Je)];rfl
  rw [hfl]
  have hpl:(pre.filter sk).length≤36:=by
   have:=JR sk pre
   have:=congrArg List.length hF
   rw [Jl] at this;omega
  generalize pre.filter sk=Z at *
  cases hq:sk p with
  | false=>
   rw [hq,if_pos rfl] at q1
   let E:=W Z [68] (some (.str (Str.ofString "square")))
   refine ⟨W Z [68] x10,E,rfl,.inl ?_,_,_,by rw [if_neg Je,JO]⟩
   unfold xK
   rw [zG (e:=E) (zd (as:=[dF CO [138],flV w h F,.int p]) rfl q1)]
   have t1:fT (fOp vEq (zA 10) (fC (.str "broken"))) E=some false:=by
    show (vEq (.str Wd.square.s) (.str Wd.broken.s)).bind yZ=_
    rw [zah];rfl
   have t2:fT [162] E=some false:=by
    show (vEq (.str Wd.square.s) (.str Wd.leaned.s)).bind yZ=_
    rw [zah];rfl
   rw [zG (e:=E) (by rw [yB,zak,t1,Jb,if_neg Je,zgh,t2];rfl)]
   rw [yB,t2];rfl
  | true=>
   rw [hq,if_neg [10]] at q1
   obtain ⟨n1,n2⟩:=q2 hq
   let E:=W Z [68] [171]
   refine ⟨W Z [68] x10,W (Z++[p]) [68] [171],rfl,.inl ?_,_,_,by rw [if_pos rfl]⟩
   unfold xK
   rw [zG (e:=E) (zd (as:=[dF CO [138],flV w h F,.int p]) rfl q1)]
   have t1:fT (fOp vEq (zA 10) (fC (.str "broken"))) E=some false:=by
    show (vEq (.str Wd.leaned.s) (.str Wd.broken.s)).bind yZ=_
    rw [zah];rfl
   have t2:fT [162] E=some true:=by
    show (vEq (.str Wd.leaned.s) (.str Wd.leaned.s)).bind yZ=_
    rw [zah];rfl
   have t3:fT (fOp wT (zA 9) (zA 1)) E=some false:=by
    show ((wT (.int p) [78]).bind yZ)=_
    simp [n1]
   have t4:fT (fOp wT (zA 9) (zA 7)) E=some false:=by
    show ((wT (.int p) (.lst (Hd.map PV.int))).bind yZ)=_
    simp [n2]
   rw [zG (e:=E) (by
    rw [yB,zak,t1,Jb,if_neg Je,zgh,t2,Jb,if_pos rfl,zak,t3,Jb,if_neg Je,t4];rfl)]
   rw [yB,t2,Jb,if_pos rfl,ud (qs:=Z.map PV.int) (q:=.int p) rfl rfl [153]]
   show some (Out.nx (mk P3 x4 x5 x6 P7 (some (.lst (Z.map PV.int++[.int p]))) [68] [171]))=some (Out.nx (mk P3 x4 x5 x6 P7 (some (.lst ((Z++[p]).map PV.int))) [68] [171]))
   rw [JJ];rfl)
 have hZ:F.filter sk≠[]:=fun z=>by
  obtain ⟨p,hp,hq⟩:=hex
  have:p ∈ F.filter sk:=Ke.mpr ⟨hp,hq⟩
  rw [z] at this;exact nomatch this
 generalize F.filter sk=Z at *
 have lsv:∀ {i:Nat} {E:En} {xs:List Int},zA i E=some (.lst [52])->zJ xj (zC (zA i) zI) E=some (.lst [52]):=fun {i E xs} hv=>zg (as:=[.lst [52]]) (by rw [zS,hv];rfl) (by rw [zez,if_pos wc])
 refine yT (e:=W Z x9 x10) (mk none none none none none none none none) rfl ?_
 unfold wu
 rw [zG (e:=V (dF [] [138]) none none none) rfl]
 rw [zG (e:=V (dF CO [138]) x4 x5 x6) (by
  rw [yJ,yw,zg (as:=[flV w h F,.lst [65]]) (by rw [zS,zS,lsv (xs:=T) rfl];rfl) h4];exact l1)]
 rw [zG (e:=mk P3 x4 x5 x6 P7 none none none) (zd (as:=[flV w h F,.lst [22]]) (by rw [zS,zS,lsv (xs:=B) rfl];rfl) hheld)]
 rw [zG (e:=W [] none none) rfl]
 have f2:fOp vIx (zA 0) [45] (W [] none none)=some [128]:=zmR rfl
 rw [zG (e:=W Z x9 x10) (by rw [yJ,yw,f2];exact l2)]
 have t1:fOp vNe (zA 8) (xI zI) (W Z x9 x10)=some [324]:=by
  show vNe (.lst (Z.map PV.int)) (.lst (([]:List Int).map PV.int))=_
  rw [zjS,decide_eq_false hZ];rfl
 have t2:fOp zhx (zJ wn (zC (zA 0) (zC (zJ xj [313]) (zC (zJ xj [82]) zI)))) (fC .non) (W Z x9 x10)=some [324]:=by
  rw [yP,zg (as:=[flV w h F,.lst [22],.lst [65]]) (by rw [zS,zS,lsv (xs:=B) rfl,zS,lsv (xs:=T) rfl];rfl) hun];rfl
 rw [xJ,zkZ t1,t2];rfl
theorem zkd(ns:List Int)(hl:ns.length≤63)(hb:∀ m ∈ ns,Builtin.Int.intBits m≤1048576):zaA [.fls [145]]=some [324]:=by
 have Sc:Scr ns:=⟨hl,hb⟩
 obtain ⟨w,h,F,h1,fl⟩:=zkB Sc (k:=0) [10] [10]
 have fz:=yW fl
 have ndF:=yF fl.rise
 obtain ⟨rs,cs,L0,G,S,hst,C⟩:=ziq fl
 have hs:=zcg S
 have hll:=S.lens
 have hne:=S.ne
 have hsl:=zja w rs cs
 obtain ⟨B,h3,hBs⟩:=ziC Sc (k:=2) [10] [10] (w:=w) (h:=h) fz
 have hB:∀ f ∈ B,f ∈ F:=fun f hf=>hBs.subset hf
 have hBl:B.length≤36:=JN hBs.length_le fz
 have rg:∀ f ∈ F,Rg [14] [18] f:=fun f hf=>by
  obtain ⟨i1,i2,i3,i4⟩:=S.rc_of hf
  exact ⟨by omega,by omega⟩
 have hlv:wX [14]=.lst ([14].map fun l=>.lst (l.map PV.int)):=rfl
 have hslen:xQ [wX [14]]=some (.int ((rs.length+cs.length:Nat):Int)):=by rw [hlv,zdq,Jh,hsl]
 generalize wX [14]=LV at *
 have hw:=fun {B:List Int} (hB:∀ f ∈ B,f ∈ F) (hl:B.length≤1000)=>zdW S C hst hB hl
 have har:=fun {B L:List Int} (le:Lean [14] B [18] L)=>zdH [12] [12] le
 have hpd:=fun {B:List Int} (hB:∀ f ∈ B,f ∈ F) (hl:B.length≤1000) {L:List Int} (le:Lean [14] B [18] L)=>zeg S C hst hB hl le
 -- with what is lacking all is joined
 obtain ⟨D,hD,lk⟩:=zfL S C hst hB [12]
 have hDF:∀ f ∈ B++D,f ∈ F:=fun f hf=>(JB.mp hf).elim (hB f) fun z=>lk.sub.subset z
 have hBD:(B++D).length≤36:=JN (zL (B++D) F (Jw.mpr ⟨hBs.nodup ndF,lk.sub.nodup ndF,fun a ha b hb e=>lk.out b hb (e ▸ ha)⟩) hDF) fz
 have hmore:yb [flV w h F,.lst ((w9 (B++D)).map PV.int)]=some .non:=by
  have hsF:∀ f ∈ w9 (B++D),f ∈ F:=fun f hf=>hDF f ((yr _).mem_iff.mp hf)
  rcases hw hsF (by rw [(yr _).length_eq];omega) with ⟨L,le,_⟩ | ⟨_,_,hz⟩
  ·exfalso
   obtain ⟨k,hk,hkn⟩:=le.2
   refine hkn ((le.1 k hk).mpr ?_)
   have pt:=zaK (n:=rs.length+cs.length) fun f hf=>rg f (hDF f hf)
   have:=(pt.2 0 k [12] hk).mp (zfh (by rw [lk.all];exact Jm _) (by rw [pt.1];omega) (by rw [pt.1];exact hk))
   exact this.mono fun g hg=>(yr _).mem_iff.mpr hg
  ·exact hz
 have hbare:∃ L,Lean [14] [] [18] L/\yb [flV w h F,.lst []]=some (.lst [223]):=by
  rcases hw (B:=[]) [231] [10] with ⟨L,le,_,hz⟩ | ⟨hall,_⟩
  ·exact ⟨L,le,hz⟩
  ·exfalso
   have:=hall 1 [12]
   have no:∀ k,Con [14] [] 0 k->k=0:=fun k hk=>by
    induction hk with
    | refl=>rfl
    | step _ hf _ _=>exact nomatch hf
   have:=no 1 this
   omega
 obtain ⟨Lb,leb,hbz⟩:=hbare
 have harb:=har leb
 have hpdb:=hpd (B:=[]) [231] [10] leb
 have lsv:∀ {i:Nat} {E:En} {xs:List Int},zA i E=some (.lst [52])->zJ xj (zC (zA i) zI) E=some (.lst [52]):=fun {i E xs} hv=>zg (as:=[.lst [52]]) (by rw [zS,hv];rfl) (by rw [zez,if_pos wc])
 let P1:=some [32]
 let P2:=some (PV.int ((rs.length+cs.length:Nat):Int))
 let P3:=some (PV.lst [22])
 let mk:Option PV->Option PV->Option PV->Option PV->Option PV->Option PV->Option PV->Option PV->Option PV->En:=fun x1 x2 x3 x4 x5 x6 x7 x8 x9=>[some (scr ns),x1,x2,x3,x4,x5,x6,x7,x8,x9]
 -- the two rounds
 obtain ⟨st,wd,q,hj,hst',e,l1,x5,x7,rfl⟩:∃ (st:Bool) (wd:Str) (q:PV),yu [flV w h F,.lst [22]]=some (.tup [.str wd,q])/\vEq (.str wd) (.str "stiff")=some (.bl st)/\∃ e,wD (zN 5) jt [.int 0,.int 1] (mk P1 P2 P3 [188] none none none none none)=some (.nx e)/\∃ x5 x7,e=mk P1 P2 P3 [188] x5 P3 x7 none none:=by
  have fin:∀ (st:Bool) (R:PV->Prop),(∀ x5 x6 x7,∃ x7',jt (mk P1 P2 P3 [188] x5 x6 x7 none none)=some (.nx (mk P1 P2 P3 [188] x5 P3 x7' none none)))->∃ e,wD (zN 5) jt [.int 0,.int 1] (mk P1 P2 P3 [188] none none none none none)=some (.nx e)/\∃ x5 x7,e=mk P1 P2 P3 [188] x5 P3 x7 none none:=by
   intro st _ hbd
   obtain ⟨y7,b1⟩:=hbd (some (.int 0)) none none
   obtain ⟨z7,b2⟩:=hbd (some (.int 1)) P3 y7
   refine ⟨mk P1 P2 P3 [188] (some (.int 1)) P3 z7 none none,?_,some (.int 1),z7,rfl⟩
   rw [fnx (e1:=mk P1 P2 P3 [188] (some (.int 0)) none none none none) rfl b1,fnx (e1:=mk P1 P2 P3 [188] (some (.int 1)) P3 y7 none none) rfl b2];rfl
  have t0:∀ st x5 x7,fT (fOp vNe (zA 6) (zA 3)) (mk P1 P2 P3 [188] x5 P3 x7 none none)=some false:=fun st x5 x7=>by
   show (vNe [78] [78]).bind yZ=_
   rw [zjS,decide_eq_true rfl];rfl
  rcases hw hB [12] with ⟨L,le,⟨q,hj⟩,hz⟩ | ⟨hall,⟨q,hj⟩,hz⟩
  ·have ha:=har le
   have hp:=hpd hB [12] le
   generalize hTl:yK [18] L=T at *
   have hTn:T.length=rs.length+cs.length:=hTl ▸ qa _ L
   refine ⟨false,_,q,hj,zah .leans .stiff,fin false (fun _=>True) fun x5 x6 x7=>?_⟩
   refine ⟨some (.lst (T.map PV.int++[.int 9])),?_⟩
   unfold jt
   rw [zG (e:=mk P1 P2 P3 (some [218]) x5 P3 x7 none none) (zaR (lsv rfl))]
   let E:=mk P1 P2 P3 (some [218]) x5 P3 (some (.lst [65])) none none
   rw [zG (e:=E) (zd (as:=[flV w h F,.lst [22]]) rfl hz)]
   rw [zG (e:=E) (by
    have t2:fT [230] E=some false:=rfl
    rw [yB,zak,t0,Jb,if_neg Je,t2];rfl)]
   have t3:fT (fOp zdQ (zA 7) (fC .non)) E=some true:=rfl
   rw [yB,t3,Jb,if_pos rfl]
   rw [zG (e:=E) (by
    have t4:zdx (zch (zJ yU (zC (zA 7) [82]))) E=some false:=by
     rw [zkX];unfold zch
     rw [zg (as:=[.lst [65],.int ((rs.length+cs.length:Nat):Int)]) rfl ha];rfl
    have t5:zdx (zch (zJ yc (zC (zA 1) (zC (zA 3) (zC (zA 7) zI))))) E=some false:=by
     rw [zkX];unfold zch
     rw [zg (as:=[flV w h F,.lst [22],.lst [65]]) rfl hp];rfl
    rw [yB,zak,t4,Jb,if_neg Je,t5];rfl)]
   rw [ud (qs:=T.map PV.int) (q:=.int 9) rfl rfl [153]];rfl
  ·refine ⟨true,_,q,hj,zah .stiff .stiff,fin true (fun _=>True) fun x5 x6 x7=>?_⟩
   refine ⟨some .non,?_⟩
   unfold jt
   rw [zG (e:=mk P1 P2 P3 (some [324]) x5 P3 x7 none none) (zaR (lsv rfl))]
   let E:=mk P1 P2 P3 (some [324]) x5 P3 (some .non) none none
   rw [zG (e:=E) (zd (as:=[flV w h F,.lst [22]]) rfl hz)]
   rw [zG (e:=E) (by
    have t2:fT [230] E=some false:=rfl
    rw [yB,zak,t0,Jb,if_neg Je,t2];rfl)]
   rfl
 let P4:=some (PV.bl st)
 let P8:=some (PV.lst ((w9 (B++D)).map PV.int))
 let P9:=some (PV.lst ((yK [18] Lb).map PV.int))
 refine yT (e:=mk P1 P2 P3 P4 x5 P3 x7 P8 P9) (mk none none none none none none none none none) rfl ?_
 unfold zky
 rw [zG (e:=mk P1 none none none none none none none none) (zd (as:=[scr ns,.int 0]) rfl h1)]
 rw [zG (e:=mk P1 P2 none none none none none none none) (by
  refine zd (as:=[LV]) ?_ hslen
  rw [zS,zg (as:=[flV w h F]) rfl hs];rfl)]
 rw [zG (e:=mk P1 P2 P3 none none none none none none) (zd (as:=[scr ns,.int 2,flV w h F]) rfl h3)]
 rw [zG (e:=mk P1 P2 P3 P4 none none none none none) (zaR (by
  have hjj:zJ yu [142] (mk P1 P2 P3 none none none none none none)=some (.tup [.str wd,q]):=zg (as:=[flV w h F,.lst [22]]) (by rw [zS,zS,lsv (xs:=B) rfl];rfl) hj
  rw [yP,zal hjj]
  exact hst'))]
 rw [zG (e:=mk P1 P2 P3 P4 x5 P3 x7 none none) (by rw [yJ];exact l1)]
 have hadd:fOp yE (zA 3) (zJ vN [142]) (mk P1 P2 P3 P4 x5 P3 x7 none none)=some (.lst ((B++D).map PV.int)):=by
  rw [yP,zg (as:=[flV w h F,.lst [22]]) (by rw [zS,zS,lsv (xs:=B) rfl];rfl) hD]
  show yE [78] (.lst (D.map PV.int))=_
  have:=hBD
  rw [Jl] at this
  unfold yE
  dsimp only
  rw [if_pos (by rw [wc,wc,Jh,Jh,decide_eq_true [12]];rfl),← JJ]
 rw [zG (e:=mk P1 P2 P3 P4 x5 P3 x7 P8 none) (zd (as:=[.lst ((B++D).map PV.int)]) (by rw [zS,hadd];rfl) (zfp [12]))]
 rw [zG (e:=mk P1 P2 P3 P4 x5 P3 x7 P8 none) (by
  have t1:fT (fOp zdQ (zJ yb (zC (zA 1) (zC (zA 8) zI))) (fC .non)) (mk P1 P2 P3 P4 x5 P3 x7 P8 none)=some false:=by
   rw [qK,yP,zg (as:=[flV w h F,.lst ((w9 (B++D)).map PV.int)]) rfl hmore];rfl
  rw [yB,t1];rfl)]
 rw [zG (e:=mk P1 P2 P3 P4 x5 P3 x7 P8 P9) (zd (as:=[flV w h F,.lst []]) rfl hbz)]
 rw [xJ,zkZ (zg (as:=[.lst ((yK [18] Lb).map PV.int),.int ((rs.length+cs.length:Nat):Int)]) rfl harb),zg (as:=[flV w h F,.lst [],.lst ((yK [18] Lb).map PV.int)]) rfl hpdb];rfl
end Cb
namespace Cb
open PySem L2 F PyProof.Rows
noncomputable def top(i:Nat):Stmt:=PySem.Challenge.pw_crossbrace_k43_whole_what_leans_is_put_d.main.body.getD i (.Pass ⟨0,0,0,0⟩)
structure Blt (mg:Str->Option Value):Prop where
 abs_:mg "abs"=none
 all_:mg "all"=none
 bool_:mg "bool"=none
 enumerate_:mg "enumerate"=none
 int_:mg "int"=none
 isinstance_:mg "isinstance"=none
 len_:mg "len"=none
 list_:mg "list"=none
 max_:mg "max"=none
 min_:mg "min"=none
 range_:mg "range"=none
 set_:mg "set"=none
 sorted_:mg "sorted"=none
 sum_:mg "sum"=none
 tuple_:mg "tuple"=none
 zip_:mg "zip"=none
variable {P:Program} {w:World} {K:PySem.W.Frag} {mg:Str->Option Value} {base:Heap} {f:Addr} {fd:FuncData}
noncomputable abbrev jM:Stmt:=top 35
theorem sc__law_cell:FnScope ["_law_script","_law_k"] ["_law_script","_law_k"] (zR jM):=⟨rfl,rfl,rfl,by decide +kernel,rfl,by decide +kernel,by decide +kernel⟩
theorem zdl(F:Fun K "_law_cell" "_law_cell" jM f fd)(B:Blt mg):FnOk P w K mg base CX0 1 f fd ["_law_script","_law_k"] (spV K 2 yR):=
 xC (g:=jY) (n:=2) (m:=2) [] rfl rfl [10] F sc__law_cell fun cdv A outer s H E hr=>by
  have nd:=sc__law_cell.nd
  have hu:=yL hr
  have hu64:=hr.units
  exact (zD (yz (za zjN zjK [16] [233] (zt _)) (zK (ze (VE.data (zT hu [13] [16] [17]) [33]))) yN)
   (zD (yz (za (xv hu64) vT [233] zF (zt _)) (zK (ze (zV z5 z4 (zV xu xt (zV xu xt [16] [16]) zF) zF))) yN)
   (zK (ze (zV z5 z4 (zV xu xt (zV yo yn (zT hu [13] (zV yo yn (zV xu xt [16] zF) [233]) [17]) zF) zF) (zV xu xt (zV xu xt [16] [16]) zF))))))
noncomputable abbrev uE:Stmt:=top 36
theorem sc__law_digits:FnScope ["_law_cell_here","_law_many","_law_base","_law_found","_law_left","_law_k","_law_once","_law_twice"] ["_law_cell_here","_law_many","_law_base"] (zR uE):=⟨rfl,rfl,rfl,by decide +kernel,rfl,by decide +kernel,by decide +kernel⟩
theorem zbg(F:Fun K "_law_digits" "_law_digits" uE f fd)(B:Blt mg):FnOk P w K mg base CX0 1 f fd ["_law_cell_here","_law_many","_law_base"] (spV K 3 ye):=
 xC (g:=uP) (n:=3) (m:=8) [3] rfl rfl [10] F sc__law_digits fun cdv A outer s H E hr=>by
  have nd:=sc__law_digits.nd
  have hu:=yL hr
  have hu64:=hr.units
  exact (zD [83]
   (zD (zM (i:=4) rfl (zP (i:=4) nd rfl [9] (VE.sh (zV wm wl [13] zF))))
   (zD (yf JA rfl (jj true [70] B.range_ (zH [16] [15])) [69] (zK (yz (za (xv hu64) vT (zV yo yn [13] zF) zF (zt _)) (zD (yC 3 [10] (yD (xB Jo Js Jt zp (pv 3) (zy (zV yo yn [28] [26]) pa_nil))))
   (zK (zM (i:=4) rfl (zP (i:=4) nd rfl [9] (VE.sh (zV wm wl [28] [26])))))) (zD (zM (i:=6) rfl (zP (i:=6) nd rfl [9] (VE.sh (zV yo yn (zV xu xt (zV z5 z4 (zV z5 z4 (zV yo yn [28] zF) (zV xu xt zF [27])) zF) zF) zF))))
   (zD (zM (i:=7) rfl (zP (i:=7) nd rfl [9] (VE.sh (zV yo yn (zV xu xt [57] (zV z5 z4 (zV yo yn [57] zF) [27])) zF))))
   (zK (yC 3 [10] (yD (xB Jo Js Jt zp (pv 3) (zy (zV yo yn (zV wm wl (zV yo yn (zV xu xt [130] zF) zF) zF) [26]) pa_nil))))))))))
   (zK [255]))))
noncomputable abbrev jL:Stmt:=top 37
theorem sc__law_come:FnScope ["_law_wide","_law_starts","_law_some","_law_seen","_law_row","_law_place","_law_other"] ["_law_wide","_law_starts","_law_some"] (zR jL):=⟨rfl,rfl,rfl,by decide +kernel,rfl,by decide +kernel,by decide +kernel⟩
theorem zdk(F:Fun K "_law_come" "_law_come" jL f fd)(B:Blt mg):FnOk P w K mg base CX0 1 f fd ["_law_wide","_law_starts","_law_some"] (spV K 3 xa):=
 xC (g:=jX) (n:=3) (m:=7) [3,4] rfl rfl [10] F sc__law_come fun cdv A outer s H E hr=>by
  have nd:=sc__law_come.nd
  have hu:=yL hr
  have hu64:=hr.units
  exact (zD [83]
   (zD (zi (i:=4) [10] (by first | exact (zcv (i:=4) (ow:=["_law_place"]) (js:=[2]) [33] nd rfl [9] [77] [10] rfl (zr false [16]) (fun _ _ _ _=>(zW 0 rfl (zU (i:=0) (show (["_law_place","_law_some"]:List Str).Nodup by decide +kernel) rfl [9]))) (fun _ _ _ _=>(xp (za (vV hu) vS [13] [16] [29]))) [44]) | exact (zP (i:=4) nd rfl [9] (wR (ow:=["_law_place"]) (js:=[2]) [33] [77] [10] rfl (zr false [16]) (fun _ _ _ _=>(zW 0 rfl (zU (i:=0) (show (["_law_place","_law_some"]:List Str).Nodup by decide +kernel) rfl [9]))) (fun _ _ _ _=>(xp (za (vV hu) vS [13] [16] [29]))) [44]))))
   (zD (zaE 1000000 JA (za q5 qz (zo xx xy [70] B.len_ JV (zH (yh 4 (pv 4)) [15])) zF (zt _)) (zD (zmP 5 4 [10] [10] (zP (i:=5) nd rfl [9] (zny Jo PySem.F.slot_list_pop PySem.F.type_list_pop znC (pv 4))))
   (zK (yz (za (vU hu) vR [27] [246] [29]) (zD (yC 3 [10] (yD (xB Jo Js Jt zp (pv 3) (zy [297] pa_nil))))
   (zD (yf JA rfl (zr true (yM (yq (VE.sh (zV xU xT [27] [13])) (yq (VE.sh (zV z5 z4 [27] [13])) [192])))) [206] (zK (yz (za (vV hu) vS [57] [26] [29]) (zK (yC 4 [10] (yD (xB Jo Js Jt zp (pv 4) (zy (VE.data [57] [33]) pa_nil))))) yN)))
   (zD (yz (VW.vt (zcU (za q5 qz (zV yo yn [27] [13]) zF (zt _)) (zar (za (vV hu) vS (zV xU xT [27] zF) [26] [29])))) (zK (yC 4 [10] (yD (xB Jo Js Jt zp (pv 4) (zy (zV xU xT [27] zF) pa_nil))))) yN)
   (zK (yz (VW.vt (zcU (za zjN zjK (zV yo yn [27] [13]) (zV xU xT [13] zF) (zt _)) (zar (za (vV hu) vS (zV z5 z4 [27] zF) [26] [29])))) (zK (yC 4 [10] (yD (xB Jo Js Jt zp (pv 4) (zy (zV z5 z4 [27] zF) pa_nil))))) yN))))) yN))))
   (zK [255]))))
noncomputable abbrev ul:Stmt:=top 38
theorem sc__law_floor:FnScope ["_law_script","_law_at","_law_cell_here","_law_wide","_law_high","_law_every","_law_drawn","_law_some","_law_fields","_law_bare","_law_rims","_law_out"] ["_law_script","_law_at"] (zR ul):=⟨rfl,rfl,rfl,by decide +kernel,rfl,by decide +kernel,by decide +kernel⟩
theorem zcf(F:Fun K "_law_floor" "_law_floor" ul f fd)(B:Blt mg)
  (c__law_cell:Fn P w K mg base "_law_cell" 1 ["_law_script","_law_k"] (spV K 2 yR))
  (c__law_digits:Fn P w K mg base "_law_digits" 1 ["_law_cell_here","_law_many","_law_base"] (spV K 3 ye))
  (c__law_come:Fn P w K mg base "_law_come" 1 ["_law_wide","_law_starts","_law_some"] (spV K 3 xa)):FnOk P w K mg base CX0 2 f fd ["_law_script","_law_at"] (spV K 2 wg):=
 xC (g:=vE) (n:=2) (m:=12) [] rfl rfl [10] F sc__law_floor fun cdv A outer s H E hr=>by
  have nd:=sc__law_floor.nd
  have hu:=yL hr
  have hu64:=hr.units
  exact (zD (zM (i:=2) rfl (zP (i:=2) nd rfl [9] (VE.sh (zQ c__law_cell [23] rfl [97]))))
   (zD (zM (i:=3) rfl (zP (i:=3) nd rfl [9] (VE.sh (zV z5 z4 zF (zV yo yn [26] zF)))))
   (zD (zM (i:=4) rfl (zP (i:=4) nd rfl [9] (VE.sh (zV z5 z4 zF (zV yo yn (zV wm wl [26] zF) zF)))))
   (zD (zM (i:=5) rfl (zP (i:=5) nd rfl [9] (VE.sh (zht [70] [70] B.list_ [70] B.range_ (zH (zV xu xt [34] [28]) [15])))))
   (zD (zM (i:=6) rfl (zP (i:=6) nd rfl [9] (VE.sh (zQ c__law_digits [23] rfl (zH (zQ c__law_cell [23] rfl (zH [13] (zH (zV z5 z4 [16] zF) [15]))) (zH (zV xu xt [34] [28]) (zH (zV z5 z4 zF (zV yo yn (zV wm wl [26] zF) zF)) [15])))))))
   (zD (zM (i:=7) rfl (by first | exact zaY (zcv (i:=7) (ow:=["_law_place"]) (js:=[6]) [33] nd rfl [9] [77] [10] rfl (zr false [27]) (fun _ _ _ _=>(zW 0 rfl (zU (i:=0) (show (["_law_place","_law_drawn"]:List Str).Nodup by decide +kernel) rfl [9]))) (fun _ _ _ _=>(xp (za q5 qz (zT hu [16] [13] [17]) zF (zt _)))) [44]) | exact (zP (i:=7) nd rfl [9] (VE.sh (wR (ow:=["_law_place"]) (js:=[6]) [33] [77] [10] rfl (zr false [27]) (fun _ _ _ _=>(zW 0 rfl (zU (i:=0) (show (["_law_place","_law_drawn"]:List Str).Nodup by decide +kernel) rfl [9]))) (fun _ _ _ _=>(xp (za q5 qz (zT hu [16] [13] [17]) zF (zt _)))) [44])))))
   (zD (yz (za (xv hu64) vT [130] (yM [15]) (zt _)) (zK (zM (i:=7) rfl (zP (i:=7) nd rfl [9] (VE.sh (zdN [27] zgo (zgn zF)))))) yN)
   (zD (zM (i:=8) rfl (zP (i:=8) nd rfl [9] (VE.sh (zQ c__law_come [23] rfl (zH [34] (zH (zdN [130] zgo (zgn zF)) (zH [130] [15])))))))
   (zD (zM (i:=9) rfl (by first | exact zaY (zcv (i:=9) (ow:=["_law_place"]) (js:=[8]) [33] nd rfl [9] [77] [10] rfl (zr false [27]) (fun _ _ _ _=>(zW 0 rfl (zU (i:=0) (show (["_law_place","_law_fields"]:List Str).Nodup by decide +kernel) rfl [9]))) [189] [44]) | exact (zP (i:=9) nd rfl [9] (VE.sh (wR (ow:=["_law_place"]) (js:=[8]) [33] [77] [10] rfl (zr false [27]) (fun _ _ _ _=>(zW 0 rfl (zU (i:=0) (show (["_law_place","_law_fields"]:List Str).Nodup by decide +kernel) rfl [9]))) [189] [44])))))
   (zD (zM (i:=10) rfl (by first | exact zaY (zcv (i:=10) (ow:=["_law_place"]) (js:=[3,4]) [33] nd rfl [9] [77] [10] rfl (zr false [92]) (fun _ _ _ _=>(zW 0 rfl (zU (i:=0) (show (["_law_place","_law_wide","_law_high"]:List Str).Nodup by decide +kernel) rfl [9]))) (fun _ _ _ _=>(xp (VW.vt (qr (za (vV hu) vS (zV yo yn [13] [16]) (yA (zH zF (zH (zV xU xT [16] zF) [15]))) [29]) (j9 (za (vV hu) vS (zV wm wl [13] [16]) (yA (zH zF (zH (zV xU xT [26] zF) [15]))) [29])))))) [44]) | exact (zP (i:=10) nd rfl [9] (VE.sh (wR (ow:=["_law_place"]) (js:=[3,4]) [33] [77] [10] rfl (zr false [92]) (fun _ _ _ _=>(zW 0 rfl (zU (i:=0) (show (["_law_place","_law_wide","_law_high"]:List Str).Nodup by decide +kernel) rfl [9]))) (fun _ _ _ _=>(xp (VW.vt (qr (za (vV hu) vS (zV yo yn [13] [16]) (yA (zH zF (zH (zV xU xT [16] zF) [15]))) [29]) (j9 (za (vV hu) vS (zV wm wl [13] [16]) (yA (zH zF (zH (zV xU xT [26] zF) [15]))) [29])))))) [44])))))
   (zD (zM (i:=11) rfl (zP (i:=11) nd rfl [9] (VE.sh (zQ c__law_come [23] rfl (zH [34] (zH (zB 10 rfl (pv 10)) (zH [92] [15])))))))
   (zK (ze (yA (z3 (VE.data [34] [33]) (z3 [298] (z3 (yv zeT j8 [70] B.tuple_ boot_tuple (zH (wR (ow:=["_law_place"]) (js:=[11]) [33] [77] [10] rfl (zr false [27]) (fun _ _ _ _=>(zW 0 rfl (zU (i:=0) (show (["_law_place","_law_out"]:List Str).Nodup by decide +kernel) rfl [9]))) [189] [44]) [15])) [36])))))))))))))))))
noncomputable abbrev uF:Stmt:=top 41
theorem sc__law_braces:FnScope ["_law_script","_law_at","_law_floor_here","_law_cell_here","_law_drawn","_law_least"] ["_law_script","_law_at","_law_floor_here"] (zR uF):=⟨rfl,rfl,rfl,by decide +kernel,rfl,by decide +kernel,by decide +kernel⟩
theorem zbh(F:Fun K "_law_braces" "_law_braces" uF f fd)(B:Blt mg)
  (c__law_cell:Fn P w K mg base "_law_cell" 1 ["_law_script","_law_k"] (spV K 2 yR))
  (c__law_digits:Fn P w K mg base "_law_digits" 1 ["_law_cell_here","_law_many","_law_base"] (spV K 3 ye)):FnOk P w K mg base CX0 2 f fd ["_law_script","_law_at","_law_floor_here"] (spV K 3 xO):=
 xC (g:=uQ) (n:=3) (m:=6) [] rfl rfl [10] F sc__law_braces fun cdv A outer s H E hr=>by
  have nd:=sc__law_braces.nd
  have hu:=yL hr
  have hu64:=hr.units
  exact (zD (zM (i:=3) rfl (zP (i:=3) nd rfl [9] (VE.sh (zQ c__law_cell [23] rfl [97]))))
   (zD (zM (i:=4) rfl (zP (i:=4) nd rfl [9] (VE.sh (zQ c__law_digits [23] rfl (zH (zQ c__law_cell [23] rfl (zH [13] (zH (zV z5 z4 [16] zF) [15]))) (zH (zo xx xy [70] B.len_ JV (zH (zT hu [26] zF [17]) [15])) (zH (zV z5 z4 zF (zV yo yn [34] zF)) [15])))))))
   (zD (zM (i:=5) rfl (zP (i:=5) nd rfl [9] (VE.sh (zV yo yn (zV wm wl [34] zF) zF))))
   (zK (ze (wR (ow:=["_law_field","_law_number"]) (js:=[5]) [33] [77] [10] rfl (ziJ false [70] B.zip_ (yq (zT hu [26] zF [17]) (yq [28] [192]))) (fun _ _ _ _=>(qM 2 rfl (yg (zW 0 rfl (zU (i:=0) (show (["_law_field","_law_number","_law_least"]:List Str).Nodup by decide +kernel) rfl [9])) (yg (zW 1 rfl (zU (i:=1) (show (["_law_field","_law_number","_law_least"]:List Str).Nodup by decide +kernel) rfl [9])) jk)))) (fun _ _ _ _=>(xp (za (xv hu64) vT (jE q5 qz [16] zF (zt _)) (jE q5 qz [26] zF (zt _)) (zt _)))) [44]))))))
noncomputable abbrev v8:Stmt:=top 12
theorem sc_onward_from:FnScope ["steps","found","step"] ["steps"] (zR v8):=⟨rfl,rfl,rfl,by decide +kernel,rfl,by decide +kernel,by decide +kernel⟩
theorem zbb(F:Fun K "onward_from" "onward_from" v8 f fd)(B:Blt mg):FnOk P w K mg base CX0 1 f fd ["steps"] (spV K 1 wG):=
 xC (g:=uK) (n:=1) (m:=3) [1] rfl rfl [10] F sc_onward_from fun cdv A outer s H E hr=>by
  have nd:=sc_onward_from.nd
  have hu:=yL hr
  have hu64:=hr.units
  exact (zD (zi (i:=1) [10] (zP (i:=1) nd rfl [9] (uU uY)))
   (zD (yf JA rfl (zr true [13]) [207] (zK (zhs 1 [10] (yD (xB Jo Js Jt zp (zlL (pv 1) (zT hu [26] zF [17]) (yM [36]) ⟨rfl,rfl,rfl,rfl⟩) (zy (VE.data [26] [33]) pa_nil))))))
   (zK (ze (uT 1 rfl (pv 1))))))
noncomputable abbrev uh:Stmt:=top 13
theorem sc_walks_from:FnScope ["steps","start","found","onward","waiting","here","step"] ["steps","start"] (zR uh):=⟨rfl,rfl,rfl,by decide +kernel,rfl,by decide +kernel,by decide +kernel⟩
theorem zcb(F:Fun K "walks_from" "walks_from" uh f fd)(B:Blt mg)
  (c_onward_from:Fn P w K mg base "onward_from" 1 ["steps"] (spV K 1 wG)):FnOk P w K mg base CX0 2 f fd ["steps","start"] (spV K 2 ya):=
 xC (g:=ut) (n:=2) (m:=7) [2,4] rfl rfl [10] F sc_walks_from fun cdv A outer s H E hr=>by
  have nd:=sc_walks_from.nd
  have hu:=yL hr
  have hu64:=hr.units
  exact (zD (zi (i:=2) [10] (zP (i:=2) nd rfl [9] (ziM [16] (yM [36]))))
   (zD (zM (i:=3) rfl (zP (i:=3) nd rfl [9] (VE.sh (zQ c_onward_from [23] rfl [56]))))
   (zD (zi (i:=4) [10] (zP (i:=4) nd rfl [9] (yM (z3 (VE.data [16] [33]) [36]))))
   (zD (zaE 1000000 JA (za q5 qz (zo xx xy [70] B.len_ JV (zH (yh 4 (pv 4)) [15])) zF (zt _)) (zD (zlh 5 4 [10] [10] (zP (i:=5) nd rfl [9] (xB Jo PySem.F.slot_list_pop PySem.F.type_list_pop zjV (pv 4) (zy zjF pa_nil))))
   (zK (yf JA rfl (zr true (zli hu [34] [27] (yM [192]) ⟨rfl,rfl,rfl,rfl⟩)) [206] (zK (yz (za (vU hu) vR [234] (yh 2 (pv 2)) [29]) (zD (zlg 2 [10] (um hu (pv 2) [234] (zV z5 z4 (zT hu (yh 2 (pv 2)) [27] [17]) (yM (zH [234] [15]))) rfl))
   (zK (yC 4 [10] (yD (xB Jo Js Jt zp (pv 4) (zy (VE.data [234] [33]) pa_nil)))))) yN))))))
   (zK (ze (uT 2 rfl (pv 2))))))))
noncomputable abbrev zft:Stmt:=top 6
theorem sc_runs:FnScope ["fields","aheads","found","run_at","field","ahead"] ["fields","aheads"] (zR zft):=⟨rfl,rfl,rfl,by decide +kernel,rfl,by decide +kernel,by decide +kernel⟩
theorem zlS(F:Fun K "runs" "runs" zft f fd)(B:Blt mg):FnOk P w K mg base CX0 1 f fd ["fields","aheads"] (spV K 2 ue):=
 xC (g:=zfR) (n:=2) (m:=6) [2,3] rfl rfl [10] F sc_runs fun cdv A outer s H E hr=>by
  have nd:=sc_runs.nd
  have hu:=yL hr
  have hu64:=hr.units
  exact (zD (zi (i:=2) [10] (zP (i:=2) nd rfl [9] (yM [36])))
   (zD (zi (i:=3) [10] (zP (i:=3) nd rfl [9] (uU uY)))
   (zD (yf JA rfl (ziJ true [70] B.zip_ (yq [13] (yq [16] [192]))) (qM 2 rfl (yg [87] (yg [69] jk))) (zK (yz (za (vV hu) vS [27] [246] [29]) (zD (ji 3 [10] (kK (zT hu [246] [27] [17]) (qW (pv 3) [28] uW)) (um hu (pv 3) [28] (zT hu [246] [27] [17]) rfl))
   (zK (qt 2 [10] (yD (xB Jo Js Jt zp (zjE zfN (pv 2) (zT hu [246] [28] [17]) [17]) (zy [298] pa_nil)))))) (zD (ji 3 [10] (kK [116] (qW (pv 3) [28] uW)) (um hu (pv 3) [28] [116] rfl))
   (zK (yC 2 [10] (yD (xB Jo Js Jt zp (pv 2) (zy (yM (z3 [298] [36])) pa_nil)))))))))
   (zK (ze (zlj (wR (ow:=["run"]) (js:=[]) [33] [77] [10] rfl (zr false [26]) [39] [117] (fun _ _ _ _=>(yv zeT j8 [70] B.tuple_ boot_tuple [56])))))))))
noncomputable abbrev ui:Stmt:=top 4
theorem sc_field_left:FnScope ["floor","field"] ["floor","field"] (zR ui):=⟨rfl,rfl,rfl,by decide +kernel,rfl,by decide +kernel,by decide +kernel⟩
theorem zcc(F:Fun K "field_left" "field_left" ui f fd)(B:Blt mg):FnOk P w K mg base CX0 1 f fd ["floor","field"] (spV K 2 xF):=
 xC (g:=vD) (n:=2) (m:=2) [] rfl rfl [10] F sc_field_left fun cdv A outer s H E hr=>by
  have nd:=sc_field_left.nd
  have hu:=yL hr
  have hu64:=hr.units
  exact (zK (ze (zgp (za (xv hu64) vT (zV yo yn [16] [51]) zF (zt _)) kA (zV xU xT [16] zF))))
noncomputable abbrev kG:Stmt:=top 7
theorem sc_row_runs:FnScope ["floor"] ["floor"] (zR kG):=⟨rfl,rfl,rfl,by decide +kernel,rfl,by decide +kernel,by decide +kernel⟩
theorem zeo(F:Fun K "row_runs" "row_runs" kG f fd)(B:Blt mg)
  (c_runs:Fn P w K mg base "runs" 1 ["fields","aheads"] (spV K 2 ue))
  (c_field_left:Fn P w K mg base "field_left" 1 ["floor","field"] (spV K 2 xF)):FnOk P w K mg base CX0 2 f fd ["floor"] (spV K 1 wo):=
 xC (g:=kO) (n:=1) (m:=1) [] rfl rfl [10] F sc_row_runs fun cdv A outer s H E hr=>by
  have nd:=sc_row_runs.nd
  have hu:=yL hr
  have hu64:=hr.units
  exact (zK (ze (zQ c_runs [23] rfl (zH [51] (zH (wR (ow:=["field"]) (js:=[0]) [33] [77] [10] rfl (zr false [51]) (fun _ _ _ _=>(zW 0 rfl (zU (i:=0) (show (["field","floor"]:List Str).Nodup by decide +kernel) rfl [9]))) [117] (fun _ _ _ _=>(zQ c_field_left [23] rfl (zH [16] [56])))) [15])))))
noncomputable abbrev uA:Stmt:=top 5
theorem sc_field_below:FnScope ["floor","field"] ["floor","field"] (zR uA):=⟨rfl,rfl,rfl,by decide +kernel,rfl,by decide +kernel,by decide +kernel⟩
theorem zbc(F:Fun K "field_below" "field_below" uA f fd)(B:Blt mg):FnOk P w K mg base CX0 1 f fd ["floor","field"] (spV K 2 xL):=
 xC (g:=uL) (n:=2) (m:=2) [] rfl rfl [10] F sc_field_below fun cdv A outer s H E hr=>by
  have nd:=sc_field_below.nd
  have hu:=yL hr
  have hu64:=hr.units
  exact (zK (ze (zV xU xT [16] [51])))
noncomputable abbrev uB:Stmt:=top 8
theorem sc_column_runs:FnScope ["floor"] ["floor"] (zR uB):=⟨rfl,rfl,rfl,by decide +kernel,rfl,by decide +kernel,by decide +kernel⟩
theorem zbd(F:Fun K "column_runs" "column_runs" uB f fd)(B:Blt mg)
  (c_runs:Fn P w K mg base "runs" 1 ["fields","aheads"] (spV K 2 ue))
  (c_field_below:Fn P w K mg base "field_below" 1 ["floor","field"] (spV K 2 xL)):FnOk P w K mg base CX0 2 f fd ["floor"] (spV K 1 xM):=
 xC (g:=uM) (n:=1) (m:=1) [] rfl rfl [10] F sc_column_runs fun cdv A outer s H E hr=>by
  have nd:=sc_column_runs.nd
  have hu:=yL hr
  have hu64:=hr.units
  exact (zK (ze (zQ c_runs [23] rfl (zH [51] (zH (wR (ow:=["field"]) (js:=[0]) [33] [77] [10] rfl (zr false [51]) (fun _ _ _ _=>(zW 0 rfl (zU (i:=0) (show (["field","floor"]:List Str).Nodup by decide +kernel) rfl [9]))) [117] (fun _ _ _ _=>(zQ c_field_below [23] rfl (zH [16] [56])))) [15])))))
noncomputable abbrev zaS:Stmt:=top 9
theorem sc_strips:FnScope ["floor","rows","columns"] ["floor"] (zR zaS):=⟨rfl,rfl,rfl,by decide +kernel,rfl,by decide +kernel,by decide +kernel⟩
theorem zhR(F:Fun K "strips" "strips" zaS f fd)(B:Blt mg)
  (c_row_runs:Fn P w K mg base "row_runs" 2 ["floor"] (spV K 1 wo))
  (c_column_runs:Fn P w K mg base "column_runs" 2 ["floor"] (spV K 1 xM)):FnOk P w K mg base CX0 3 f fd ["floor"] (spV K 1 zY):=
 xC (g:=zby) (n:=1) (m:=3) [] rfl rfl [10] F sc_strips fun cdv A outer s H E hr=>by
  have nd:=sc_strips.nd
  have hu:=yL hr
  have hu64:=hr.units
  exact (zD (zM (i:=1) rfl (by first | exact zaY (zcv (i:=1) (ow:=["run"]) (js:=[]) [33] nd rfl [9] [77] [10] rfl (zr false (VE.sh (zQ c_row_runs [23] rfl [56]))) [39] [117] [98]) | exact (zP (i:=1) nd rfl [9] (VE.sh (wR (ow:=["run"]) (js:=[]) [33] [77] [10] rfl (zr false (VE.sh (zQ c_row_runs [23] rfl [56]))) [39] [117] [98])))))
   (zD (zM (i:=2) rfl (by first | exact zaY (zcv (i:=2) (ow:=["run"]) (js:=[]) [33] nd rfl [9] [77] [10] rfl (zr false (VE.sh (zQ c_column_runs [23] rfl [56]))) [39] [117] [98]) | exact (zP (i:=2) nd rfl [9] (VE.sh (wR (ow:=["run"]) (js:=[]) [33] [77] [10] rfl (zr false (VE.sh (zQ c_column_runs [23] rfl [56]))) [39] [117] [98])))))
   (zK (ze (zV z5 z4 [16] [26])))))
noncomputable abbrev jK:Stmt:=top 10
theorem sc_crossings:FnScope ["floor","found","number","strip","field"] ["floor"] (zR jK):=⟨rfl,rfl,rfl,by decide +kernel,rfl,by decide +kernel,by decide +kernel⟩
theorem zdj(F:Fun K "crossings" "crossings" jK f fd)(B:Blt mg)
  (c_strips:Fn P w K mg base "strips" 3 ["floor"] (spV K 1 zY)):FnOk P w K mg base CX0 4 f fd ["floor"] (spV K 1 zq):=
 xC (g:=jW) (n:=1) (m:=5) [1] rfl rfl [10] F sc_crossings fun cdv A outer s H E hr=>by
  have nd:=sc_crossings.nd
  have hu:=yL hr
  have hu64:=hr.units
  exact (zD (zi (i:=1) [10] (zP (i:=1) nd rfl [9] (uU uY)))
   (zD (yf JA rfl (ziK true [70] B.enumerate_ (yq (VE.sh (zQ c_strips [23] rfl [56])) [192])) (qM 2 rfl (yg [207] (yg (zW 3 rfl (zU (i:=3) nd rfl [9])) jk))) (zK (yf JA rfl (zr true (zT hu [34] zF [17])) [87] (zK (ji 1 [10] (kK (zV z5 z4 (zgq hu (yh 1 (pv 1)) [28] (yA [15]) ⟨rfl,rfl,rfl,rfl⟩) (yA [272])) (qW (pv 1) [28] uW)) (um hu (pv 1) [28] (zV z5 z4 (zgq hu (yh 1 (pv 1)) [28] (yA [15]) ⟨rfl,rfl,rfl,rfl⟩) (yA [272])) rfl))))))
   (zK (ze (uT 1 rfl (pv 1))))))
noncomputable abbrev wU:Stmt:=top 14
theorem sc_there_and_back:FnScope ["start","end","mark"] ["start","end","mark"] (zR wU):=⟨rfl,rfl,rfl,by decide +kernel,rfl,by decide +kernel,by decide +kernel⟩
theorem ku(F:Fun K "there_and_back" "there_and_back" wU f fd)(B:Blt mg):FnOk P w K mg base CX0 1 f fd ["start","end","mark"] (spV K 3 yG):=
 xC (g:=wa) (n:=3) (m:=3) [] rfl rfl [10] F sc_there_and_back fun cdv A outer s H E hr=>by
  have nd:=sc_there_and_back.nd
  have hu:=yL hr
  have hu64:=hr.units
  exact (zK (ze (yM (z3 (yA (z3 (VE.data [13] [33]) (z3 (VE.data [16] [33]) (z3 (VE.data [26] [33]) [36])))) (z3 (yA (z3 (VE.data [16] [33]) (z3 (VE.data [13] [33]) (z3 (VE.data [26] [33]) [36])))) [36])))))
noncomputable abbrev uC:Stmt:=top 15
theorem sc_brace_steps:FnScope ["floor","braces","at","found","field"] ["floor","braces"] (zR uC):=⟨rfl,rfl,rfl,by decide +kernel,rfl,by decide +kernel,by decide +kernel⟩
theorem zbe(F:Fun K "brace_steps" "brace_steps" uC f fd)(B:Blt mg)
  (c_crossings:Fn P w K mg base "crossings" 4 ["floor"] (spV K 1 zq))
  (c_there_and_back:Fn P w K mg base "there_and_back" 1 ["start","end","mark"] (spV K 3 yG)):FnOk P w K mg base CX0 5 f fd ["floor","braces"] (spV K 2 yd):=
 xC (g:=uN) (n:=2) (m:=5) [3] rfl rfl [10] F sc_brace_steps fun cdv A outer s H E hr=>by
  have nd:=sc_brace_steps.nd
  have hu:=yL hr
  have hu64:=hr.units
  exact (zD (zM (i:=2) rfl (zP (i:=2) nd rfl [9] [118]))
   (zD [83]
   (zD (yf JA rfl (zr true [16]) [87] (zK (zaF 3 [10] (yD (xB Jo PySem.F.slot_list_extend PySem.F.type_list_extend zbm (pv 3) (zy (zQ c_there_and_back [23] rfl (zH [163] (zH [163] (zH [28] [15])))) pa_nil))))))
   (zK [255]))))
noncomputable abbrev jI:Stmt:=top 21
theorem sc_ways_from:FnScope ["floor","braces","strip"] ["floor","braces","strip"] (zR jI):=⟨rfl,rfl,rfl,by decide +kernel,rfl,by decide +kernel,by decide +kernel⟩
theorem zdh(F:Fun K "ways_from" "ways_from" jI f fd)(B:Blt mg)
  (c_walks_from:Fn P w K mg base "walks_from" 2 ["steps","start"] (spV K 2 ya))
  (c_brace_steps:Fn P w K mg base "brace_steps" 5 ["floor","braces"] (spV K 2 yd)):FnOk P w K mg base CX0 6 f fd ["floor","braces","strip"] (spV K 3 xZ):=
 xC (g:=jV) (n:=3) (m:=3) [] rfl rfl [10] F sc_ways_from fun cdv A outer s H E hr=>by
  have nd:=sc_ways_from.nd
  have hu:=yL hr
  have hu64:=hr.units
  exact (zK (ze (zQ c_walks_from [23] rfl (zH (zQ c_brace_steps [23] rfl [97]) [272]))))
noncomputable abbrev qO:Stmt:=top 17
theorem sc_lean_up:FnScope ["floor","up"] ["floor","up"] (zR qO):=⟨rfl,rfl,rfl,by decide +kernel,rfl,by decide +kernel,by decide +kernel⟩
theorem zfD(F:Fun K "lean_up" "lean_up" qO f fd)(B:Blt mg)
  (c_strips:Fn P w K mg base "strips" 3 ["floor"] (spV K 1 zY)):FnOk P w K mg base CX0 4 f fd ["floor","up"] (spV K 2 vM):=
 xC (g:=qd) (n:=2) (m:=2) [] rfl rfl [10] F sc_lean_up fun cdv A outer s H E hr=>by
  have nd:=sc_lean_up.nd
  have hu:=yL hr
  have hu64:=hr.units
  exact (zK (ze (wR (ow:=["number"]) (js:=[1]) [33] [77] [10] rfl (jj false [70] B.range_ (zH [136] [15])) (fun _ _ _ _=>(zW 0 rfl (zU (i:=0) (show (["number","up"]:List Str).Nodup by decide +kernel) rfl [9]))) [117] (fun _ _ _ _=>(zgp (za (vV hu) vS [13] [16] [29]) zF zF)))))
noncomputable abbrev zaW:Stmt:=top 22
theorem sc_judged:FnScope ["floor","braces","ways"] ["floor","braces"] (zR zaW):=⟨rfl,rfl,rfl,by decide +kernel,rfl,by decide +kernel,by decide +kernel⟩
theorem zhU(F:Fun K "judged" "judged" zaW f fd)(B:Blt mg)
  (c_ways_from:Fn P w K mg base "ways_from" 6 ["floor","braces","strip"] (spV K 3 xZ))
  (c_strips:Fn P w K mg base "strips" 3 ["floor"] (spV K 1 zY))
  (c_lean_up:Fn P w K mg base "lean_up" 4 ["floor","up"] (spV K 2 vM)):FnOk P w K mg base CX0 7 f fd ["floor","braces"] (spV K 2 yu):=
 xC (g:=k9) (n:=2) (m:=3) [2] rfl rfl [10] F sc_judged fun cdv A outer s H E hr=>by
  have nd:=sc_judged.nd
  have hu:=yL hr
  have hu64:=hr.units
  exact (zD (zi (i:=2) [10] (zP (i:=2) nd rfl [9] (zQ c_ways_from [23] rfl (zH [13] (zH [16] (zH zF [15]))))))
   (zD (yz (za zjN zjK [116] [136] (zt _)) (zK (ze (yA (z3 wH (z3 (zQ c_lean_up [23] rfl (zH [13] (zH (yh 2 (pv 2)) [15]))) [36]))))) yN)
   (zK (ze (yA (z3 wH (z3 (ziL (xn:="strip") 2 [10] rfl (jj false [70] B.range_ (zH [116] [15])) (fun _ _ _ _=>(zW 0 rfl (zU (i:=0) (show (["strip","ways"]:List Str).Nodup by decide +kernel) rfl [9]))) (fun _ _ _ _=>zgE hu (pv 1) (pv 0) [17])) [36])))))))
noncomputable abbrev kF:Stmt:=top 33
theorem sc_turns_of:FnScope ["floor","braces","verdict"] ["floor","braces"] (zR kF):=⟨rfl,rfl,rfl,by decide +kernel,rfl,by decide +kernel,by decide +kernel⟩
theorem zen(F:Fun K "turns_of" "turns_of" kF f fd)(B:Blt mg)
  (c_judged:Fn P w K mg base "judged" 7 ["floor","braces"] (spV K 2 yu)):FnOk P w K mg base CX0 8 f fd ["floor","braces"] (spV K 2 yb):=
 xC (g:=uv) (n:=2) (m:=3) [2] rfl rfl [10] F sc_turns_of fun cdv A outer s H E hr=>by
  have nd:=sc_turns_of.nd
  have hu:=yL hr
  have hu64:=hr.units
  exact (zD (zi (i:=2) [10] (zP (i:=2) nd rfl [9] (zQ c_judged [23] rfl [97])))
   (zK (ze (zgp (za (xv hu64) vT (zT hu (yh 2 (pv 2)) zF [17]) wH (zt _)) (zT hu (uT 2 rfl (pv 2)) zF [17]) (VE.mvL [2] kA)))))
noncomputable abbrev uD:Stmt:=top 39
theorem sc__law_strips:FnScope ["_law_floor_here","_law_wide","_law_high","_law_fields","_law_rows","_law_place","_law_strip"] ["_law_floor_here"] (zR uD):=⟨rfl,rfl,rfl,by decide +kernel,rfl,by decide +kernel,by decide +kernel⟩
theorem zbf(F:Fun K "_law_strips" "_law_strips" uD f fd)(B:Blt mg):FnOk P w K mg base CX0 1 f fd ["_law_floor_here"] (spV K 1 xN):=
 xC (g:=uO) (n:=1) (m:=7) [4,6] rfl rfl [10] F sc__law_strips fun cdv A outer s H E hr=>by
  have nd:=sc__law_strips.nd
  have hu:=yL hr
  have hu64:=hr.units
  exact (zD (zmQ [13] (qM 3 rfl (yg (zW 1 rfl (zU (i:=1) nd rfl [9])) (yg [207] (yg (zW 3 rfl (zU (i:=3) nd rfl [9])) jk)))))
   (zD (zi (i:=4) [10] (zP (i:=4) nd rfl [9] (yM [36])))
   (zD (yf JA rfl (zr true [34]) [69] (zK (yz (VW.vt (zcU (za q5 qz (zV yo yn [27] [16]) zF (zt _)) (zar (za (vV hu) vS (zV xU xT [27] zF) [34] [29])))) (zK (qt 4 [10] (yD (xB Jo Js Jt zp (zjE zfN (pv 4) (qu jH jG zF) [17]) (zy [297] pa_nil))))) (zK (yC 4 [10] (yD (xB Jo Js Jt zp (pv 4) (zy (yM (z3 [297] [36])) pa_nil))))))))
   (zD (yf JA rfl (zr true [34]) [69] (zK (yz (za (vU hu) vR (zV xU xT [27] [16]) [34] [29]) (zD (zi (i:=6) [10] (zP (i:=6) nd rfl [9] (yM (z3 [297] [36]))))
   (zD (zaE 1000000 JA (za (vV hu) vS (zV z5 z4 (zT hu (yh 6 (pv 6)) (qu jH jG zF) [17]) [16]) [34] [29]) (zK (yC 6 [10] (yD (xB Jo Js Jt zp (pv 6) (zy (zV z5 z4 (zT hu (yh 6 (pv 6)) (qu jH jG zF) [17]) [16]) pa_nil))))))
   (zK (zdL 4 6 [10] [10] [10] (yD (xB Jo Js Jt zp (pv 4) (zy (pv 6) pa_nil))))))) yN)))
   (zK (ze (uT 4 rfl (pv 4))))))))
noncomputable abbrev wV:Stmt:=top 44
theorem sc__law_are_turns:FnScope ["_law_turns","_law_many"] ["_law_turns","_law_many"] (zR wV):=⟨rfl,rfl,rfl,by decide +kernel,rfl,by decide +kernel,by decide +kernel⟩
theorem kw(F:Fun K "_law_are_turns" "_law_are_turns" wV f fd)(B:Blt mg):FnOk P w K mg base CX0 1 f fd ["_law_turns","_law_many"] (spV K 2 yU):=
 xC (g:=wb) (n:=2) (m:=2) [] rfl rfl [10] F sc__law_are_turns fun cdv A outer s H E hr=>by
  have nd:=sc__law_are_turns.nd
  have hu:=yL hr
  have hu64:=hr.units
  exact (zD (yz (VW.vt (qr (zfd (zaD (zo qm qo [70] B.isinstance_ boot_isinstance (zH [13] (zH (zff (c:=.mv []) (fun _ _=>.mkTy _) (zfB rfl B.list_ boot_list)) [15]))) (fun _=>rfl))) (qr (za (jO hu64) qy [233] [16] (zt _)) (j9 (za (xv hu64) vT (zo znW (zoc rfl) [70] B.min_ boot_min [56]) (zo znX (zod rfl) [70] B.max_ boot_max [56]) (zt _)))))) (zK (ze zdO)) yN)
   (zK (ze (zo znZ (ziB rfl) [70] B.all_ boot_all (zH (wR (ow:=["_law_one"]) (js:=[]) [33] [77] [10] rfl (zr false [13]) (fun _ _ _ _=>(zW 0 rfl (zU (i:=0) (show (["_law_one"]:List Str).Nodup by decide +kernel) rfl [9]))) [117] (fun _ _ _ _=>(zaG (zo qm qo [70] B.isinstance_ boot_isinstance (zH [13] (zH (zff (c:=.mv []) (fun _ _=>.mkTy _) (zfB rfl B.int_ boot_int)) [15]))) (zaG (zmS (zo qm qo [70] B.isinstance_ boot_isinstance (zH [13] (zH (zff (c:=.mv []) (fun _ _=>.mkTy _) (zfB rfl B.bool_ boot_bool)) [15])))) (zcV (ziN zmH zmH zmG zmG (qu jH jG zF) [13] zF)))))) [15])))))
noncomputable abbrev uj:Stmt:=top 1
theorem sc_corners_at:FnScope ["floor","field","wide","lower","upper"] ["floor","field"] (zR uj):=⟨rfl,rfl,rfl,by decide +kernel,rfl,by decide +kernel,by decide +kernel⟩
theorem zcd(F:Fun K "corners_at" "corners_at" uj f fd)(B:Blt mg):FnOk P w K mg base CX0 1 f fd ["floor","field"] (spV K 2 xG):=
 xC (g:=uw) (n:=2) (m:=5) [] rfl rfl [10] F sc_corners_at fun cdv A outer s H E hr=>by
  have nd:=sc_corners_at.nd
  have hu:=yL hr
  have hu64:=hr.units
  exact (zD (zM (i:=2) rfl (zP (i:=2) nd rfl [9] [51]))
   (zD (zM (i:=3) rfl (zP (i:=3) nd rfl [9] (VE.sh (zV z5 z4 [16] (zV wm wl [16] [26])))))
   (zD (zM (i:=4) rfl (zP (i:=4) nd rfl [9] (VE.sh (zV z5 z4 (zV z5 z4 [34] [26]) zF))))
   (zK (ze (yA (z3 (VE.data [34] [33]) (z3 (zV z5 z4 [34] zF) (z3 [298] (z3 (zV z5 z4 [28] zF) [36]))))))))))
noncomputable abbrev qR:Stmt:=top 2
theorem sc_corners:FnScope ["floor","found","field"] ["floor"] (zR qR):=⟨rfl,rfl,rfl,by decide +kernel,rfl,by decide +kernel,by decide +kernel⟩
theorem zfG(F:Fun K "corners" "corners" qR f fd)(B:Blt mg)
  (c_corners_at:Fn P w K mg base "corners_at" 1 ["floor","field"] (spV K 2 xG)):FnOk P w K mg base CX0 2 f fd ["floor"] (spV K 1 ug):=
 xC (g:=qg) (n:=1) (m:=3) [1] rfl rfl [10] F sc_corners fun cdv A outer s H E hr=>by
  have nd:=sc_corners.nd
  have hu:=yL hr
  have hu64:=hr.units
  exact (zD (zi (i:=1) [10] (zP (i:=1) nd rfl [9] (yM [36])))
   (zD (yf JA rfl (zr true [51]) [207] (zK (zaF 1 [10] (yD (xB Jo PySem.F.slot_list_extend PySem.F.type_list_extend zbm (pv 1) (zy (zQ c_corners_at [23] rfl (zH [13] [272])) pa_nil))))))
   (zK (ze (zfe rfl [70] B.sorted_ [70] B.set_ (zH (yh 1 (pv 1)) [15]))))))
noncomputable abbrev vQ:Stmt:=top 18
theorem sc_growth_steps:FnScope ["floor","stretches","at","found","field","about","row","across","up","start","end","growth"] ["floor","stretches"] (zR vQ):=⟨rfl,rfl,rfl,by decide +kernel,rfl,by decide +kernel,by decide +kernel⟩
theorem zam(F:Fun K "growth_steps" "growth_steps" vQ f fd)(B:Blt mg)
  (c_crossings:Fn P w K mg base "crossings" 4 ["floor"] (spV K 1 zq))
  (c_corners_at:Fn P w K mg base "corners_at" 1 ["floor","field"] (spV K 2 xG)):FnOk P w K mg base CX0 5 f fd ["floor","stretches"] (spV K 2 xo):=
 xC (g:=vb) (n:=2) (m:=12) [3] rfl rfl [10] F sc_growth_steps fun cdv A outer s H E hr=>by
  have nd:=sc_growth_steps.nd
  have hu:=yL hr
  have hu64:=hr.units
  exact (zD (zM (i:=2) rfl (zP (i:=2) nd rfl [9] [118]))
   (zD [83]
   (zD (yf JA rfl (zr true [51]) [87] (zD (zM (i:=5) rfl (zP (i:=5) nd rfl [9] (VE.sh (zQ c_corners_at [23] rfl (zH [13] (zH [28] [15]))))))
   (zD (zM (i:=6) rfl (zP (i:=6) nd rfl [9] (zT hu [16] [163] [17])))
   (zD (zM (i:=7) rfl (zP (i:=7) nd rfl [9] (zT hu [16] [163] [17])))
   (zD (zM (i:=8) rfl (zP (i:=8) nd rfl [9] (yA (yq (VE.sh (qu jH jG [234])) (yq [234] [192])))))
   (zK (yf JA rfl (zr true (yA (yq (yA (yq (VE.sh zF) (yq (VE.sh zF) (yq [130] [192])))) (yq (yA (yq (VE.sh zF) (yq (VE.sh zF) (yq [130] [192])))) (yq (yA (yq (VE.sh zF) (yq (VE.sh zF) (yq (zB 8 rfl (pv 8)) [192])))) (yq (yA (yq (VE.sh zF) (yq (VE.sh zF) (yq (zB 8 rfl (pv 8)) [192])))) [192])))))) (qM 3 rfl (yg (zW 9 rfl (zU (i:=9) nd rfl [9])) (yg (zW 10 rfl (zU (i:=10) nd rfl [9])) (yg (zW 11 rfl (zU (i:=11) nd rfl [9])) jk)))) (zD (yC 3 [10] (yD (xB Jo Js Jt zp (pv 3) (zy (yA (z3 (VE.data (zT hu [27] [92] [17]) [33]) (z3 (VE.data (zT hu [27] (zB 10 rfl (pv 10)) [17]) [33]) (z3 (VE.data (zB 11 rfl (pv 11)) [33]) [36])))) pa_nil))))
   (zK (yC 3 [10] (yD (xB Jo Js Jt zp (pv 3) (zy (yA (z3 (VE.data (zT hu [27] (zB 10 rfl (pv 10)) [17]) [33]) (z3 (VE.data (zT hu [27] [92] [17]) [33]) (z3 (yA (z3 (qu jH jG (zT hu (zB 11 rfl (pv 11)) zF [17])) (z3 (qu jH jG (zT hu (zB 11 rfl (pv 11)) zF [17])) [36]))) [36])))) pa_nil)))))))))))))
   (zK [255]))))
noncomputable abbrev kH:Stmt:=top 19
theorem sc_laid_out:FnScope ["floor","stretches","known","walks","found","corner","across","up"] ["floor","stretches"] (zR kH):=⟨rfl,rfl,rfl,by decide +kernel,rfl,by decide +kernel,by decide +kernel⟩
theorem zep(F:Fun K "laid_out" "laid_out" kH f fd)(B:Blt mg)
  (c_corners:Fn P w K mg base "corners" 2 ["floor"] (spV K 1 ug))
  (c_walks_from:Fn P w K mg base "walks_from" 2 ["steps","start"] (spV K 2 ya))
  (c_growth_steps:Fn P w K mg base "growth_steps" 5 ["floor","stretches"] (spV K 2 xo)):FnOk P w K mg base CX0 6 f fd ["floor","stretches"] (spV K 2 vh):=
 xC (g:=kP) (n:=2) (m:=8) [4] rfl rfl [10] F sc_laid_out fun cdv A outer s H E hr=>by
  have nd:=sc_laid_out.nd
  have hu:=yL hr
  have hu64:=hr.units
  exact (zD (zM (i:=2) rfl (zP (i:=2) nd rfl [9] (VE.sh (zQ c_corners [23] rfl [56]))))
   (zD (zM (i:=3) rfl (zP (i:=3) nd rfl [9] (VE.sh (zQ c_walks_from [23] rfl (zH (zQ c_growth_steps [23] rfl [97]) (zH (zT hu [26] zF [17]) [15]))))))
   (zD (zi (i:=4) [10] (zP (i:=4) nd rfl [9] (yM [36])))
   (zD (yf JA rfl (zr true [26]) [69] (zD (zM (i:=6) rfl (zP (i:=6) nd rfl [9] (VE.sh (zo zkL (zcM rfl) [70] B.sum_ boot_sum (zH (wR (ow:=["growth"]) (js:=[]) [33] [77] [10] rfl (zr false (zT hu [34] [27] [17])) (fun _ _ _ _=>(zW 0 rfl (zU (i:=0) (show (["growth"]:List Str).Nodup by decide +kernel) rfl [9]))) [117] (fun _ _ _ _=>(VE.data [51] [33]))) [15])))))
   (zD (zM (i:=7) rfl (zP (i:=7) nd rfl [9] (VE.sh (zo zkL (zcM rfl) [70] B.sum_ boot_sum (zH (wR (ow:=["growth"]) (js:=[]) [33] [77] [10] rfl (zr false (zT hu [34] [27] [17])) (fun _ _ _ _=>(zW 0 rfl (zU (i:=0) (show (["growth"]:List Str).Nodup by decide +kernel) rfl [9]))) [117] (fun _ _ _ _=>(VE.data [51] [33]))) [15])))))
   (zK (yC 4 [10] (yD (xB Jo Js Jt zp (pv 4) (zy (yA (z3 [297] (z3 (VE.data [57] [33]) (z3 (VE.data [130] [33]) [36])))) pa_nil))))))))
   (zK (ze (uT 4 rfl (pv 4))))))))
noncomputable abbrev jJ:Stmt:=top 30
theorem sc_turned_by:FnScope ["k","stretch"] ["k"] (zR jJ):=⟨rfl,rfl,rfl,by decide +kernel,rfl,by decide +kernel,by decide +kernel⟩
theorem zdi(F:Fun K "turned_by" "turned_by" jJ f fd)(B:Blt mg)
  (h_TURNED:GC K mg "TURNED" (.tup [(.tup [.int (125),.int (0)]),(.tup [.int (100),.int (75)]),(.tup [.int (35),.int (120)]),(.tup [.int (-44),.int (117)])])):FnOk P w K mg base CX0 1 f fd ["k"] (spV K 1 wF):=
 xC (g:=zaf) (n:=1) (m:=2) [] rfl rfl [10] F sc_turned_by fun cdv A outer s H E hr=>by
  have nd:=sc_turned_by.nd
  have hu:=yL hr
  have hu64:=hr.units
  exact (zD (zM (i:=1) rfl (zP (i:=1) nd rfl [9] (VE.sh (zT hu (zoo rfl h_TURNED) (zo zoa zkQ [70] B.abs_ boot_abs [56]) [17]))))
   (zK (ze (zgp (za zoP zoO [13] zF (zt _)) (VE.data [16] [33]) (yA (z3 (VE.data (zT hu [16] zF [17]) [33]) (z3 (qu jH jG (zT hu [16] zF [17])) [36])))))))
noncomputable abbrev zfu:Stmt:=top 31
theorem sc_pose:FnScope ["floor","turns"] ["floor","turns"] (zR zfu):=⟨rfl,rfl,rfl,by decide +kernel,rfl,by decide +kernel,by decide +kernel⟩
theorem zlT(F:Fun K "pose" "pose" zfu f fd)(B:Blt mg)
  (c_laid_out:Fn P w K mg base "laid_out" 6 ["floor","stretches"] (spV K 2 vh))
  (c_turned_by:Fn P w K mg base "turned_by" 1 ["k"] (spV K 1 wF)):FnOk P w K mg base CX0 7 f fd ["floor","turns"] (spV K 2 zao):=
 xC (g:=zfS) (n:=2) (m:=2) [] rfl rfl [10] F sc_pose fun cdv A outer s H E hr=>by
  have nd:=sc_pose.nd
  have hu:=yL hr
  have hu64:=hr.units
  exact (zK (ze (zQ c_laid_out [23] rfl (zH [13] (zH (wR (ow:=["k"]) (js:=[]) [33] [77] [10] rfl (zr false [16]) (fun _ _ _ _=>(zW 0 rfl (zU (i:=0) (show (["k"]:List Str).Nodup by decide +kernel) rfl [9]))) [117] (fun _ _ _ _=>(zQ c_turned_by [23] rfl [56]))) [15])))))
noncomputable abbrev zaT:Stmt:=top 23
theorem sc_pieces:FnScope ["floor","braces","steps","found","met","strip","ways"] ["floor","braces"] (zR zaT):=⟨rfl,rfl,rfl,by decide +kernel,rfl,by decide +kernel,by decide +kernel⟩
theorem zhS(F:Fun K "pieces" "pieces" zaT f fd)(B:Blt mg)
  (c_brace_steps:Fn P w K mg base "brace_steps" 5 ["floor","braces"] (spV K 2 yd))
  (c_strips:Fn P w K mg base "strips" 3 ["floor"] (spV K 1 zY))
  (c_walks_from:Fn P w K mg base "walks_from" 2 ["steps","start"] (spV K 2 ya)):FnOk P w K mg base CX0 6 f fd ["floor","braces"] (spV K 2 vI):=
 xC (g:=zbz) (n:=2) (m:=7) [3,4] rfl rfl [10] F sc_pieces fun cdv A outer s H E hr=>by
  have nd:=sc_pieces.nd
  have hu:=yL hr
  have hu64:=hr.units
  exact (zD (zM (i:=2) rfl (zP (i:=2) nd rfl [9] (VE.sh (zQ c_brace_steps [23] rfl [97]))))
   (zD [83]
   (zD (zi (i:=4) [10] (zP (i:=4) nd rfl [9] (uU uY)))
   (zD (yf JA rfl (jj true [70] B.range_ (zH [136] [15])) [69] (zK (yz (za (vU hu) vR [27] (yh 4 (pv 4)) [29]) (zD (zM (i:=6) rfl (zP (i:=6) nd rfl [9] (VE.sh (zQ c_walks_from [23] rfl (zH [26] (zH [27] [15]))))))
   (zD (zhr 4 [10] (yD (xB PySem.F.plainAttrs_dict PySem.F.slot_dict_update PySem.F.type_dict_update zhW (pv 4) (zy [57] pa_nil))))
   (zK (yC 3 [10] (yD (xB Jo Js Jt zp (pv 3) (zy (zo zbM (zbP rfl) [70] B.sorted_ boot_sorted (zH [57] [15])) pa_nil))))))) yN)))
   (zK [255])))))
noncomputable abbrev zaV:Stmt:=top 24
theorem sc_labels:FnScope ["floor","braces","found","piece","strip"] ["floor","braces"] (zR zaV):=⟨rfl,rfl,rfl,by decide +kernel,rfl,by decide +kernel,by decide +kernel⟩
theorem zhT(F:Fun K "labels" "labels" zaV f fd)(B:Blt mg)
  (c_pieces:Fn P w K mg base "pieces" 6 ["floor","braces"] (spV K 2 vI)):FnOk P w K mg base CX0 7 f fd ["floor","braces"] (spV K 2 vJ):=
 xC (g:=zbA) (n:=2) (m:=5) [2] rfl rfl [10] F sc_labels fun cdv A outer s H E hr=>by
  have nd:=sc_labels.nd
  have hu:=yL hr
  have hu64:=hr.units
  exact (zD (zi (i:=2) [10] (zP (i:=2) nd rfl [9] (uU uY)))
   (zD (yf JA rfl (zr true (VE.sh (zQ c_pieces [23] rfl [97]))) (zW 3 rfl (zU (i:=3) nd rfl [9])) (zK (yf JA rfl (zr true [34]) [87] (zK (ji 2 [10] (kK (zT hu [34] zF [17]) (qW (pv 2) [28] uW)) (um hu (pv 2) [28] (zT hu [34] zF [17]) rfl))))))
   (zK (ze (uT 2 rfl (pv 2))))))
noncomputable abbrev zfv:Stmt:=top 25
theorem sc_held:FnScope ["floor","braces","label","at"] ["floor","braces"] (zR zfv):=⟨rfl,rfl,rfl,by decide +kernel,rfl,by decide +kernel,by decide +kernel⟩
theorem zlU(F:Fun K "held" "held" zfv f fd)(B:Blt mg)
  (c_labels:Fn P w K mg base "labels" 7 ["floor","braces"] (spV K 2 vJ))
  (c_crossings:Fn P w K mg base "crossings" 4 ["floor"] (spV K 1 zq)):FnOk P w K mg base CX0 8 f fd ["floor","braces"] (spV K 2 zap):=
 xC (g:=zfT) (n:=2) (m:=4) [] rfl rfl [10] F sc_held fun cdv A outer s H E hr=>by
  have nd:=sc_held.nd
  have hu:=yL hr
  have hu64:=hr.units
  exact (zD (zM (i:=2) rfl (zP (i:=2) nd rfl [9] (VE.sh (zQ c_labels [23] rfl [97]))))
   (zD (zM (i:=3) rfl (zP (i:=3) nd rfl [9] [118]))
   (zK (ze (wR (ow:=["field"]) (js:=[2,3]) [33] [77] [10] rfl (zr false [51]) (fun _ _ _ _=>(zW 0 rfl (zU (i:=0) (show (["field","label","at"]:List Str).Nodup by decide +kernel) rfl [9]))) (fun _ _ _ _=>(xp (za (xv hu64) vT (zT hu [16] (zT hu (zT hu [26] [13] [17]) zF [17]) [17]) (zT hu [16] (zT hu (zT hu [26] [13] [17]) zF [17]) [17]) (zt _)))) [44])))))
noncomputable abbrev kI:Stmt:=top 42
theorem sc__law_far:FnScope ["_law_one","_law_other"] ["_law_one","_law_other"] (zR kI):=⟨rfl,rfl,rfl,by decide +kernel,rfl,by decide +kernel,by decide +kernel⟩
theorem zeq(F:Fun K "_law_far" "_law_far" kI f fd)(B:Blt mg):FnOk P w K mg base CX0 1 f fd ["_law_one","_law_other"] (spV K 2 zc):=
 xC (g:=kQ) (n:=2) (m:=2) [] rfl rfl [10] F sc__law_far fun cdv A outer s H E hr=>by
  have nd:=sc__law_far.nd
  have hu:=yL hr
  have hu64:=hr.units
  exact (zK (ze (zV z5 z4 (zV xu xt [176] [176]) (zV xu xt [176] [176]))))
noncomputable abbrev uk:Stmt:=top 43
theorem sc__law_shape:FnScope ["_law_table","_law_floor_here","_law_field","_law_wide","_law_left","_law_four"] ["_law_table","_law_floor_here","_law_field"] (zR uk):=⟨rfl,rfl,rfl,by decide +kernel,rfl,by decide +kernel,by decide +kernel⟩
theorem zce(F:Fun K "_law_shape" "_law_shape" uk f fd)(B:Blt mg)
  (c__law_far:Fn P w K mg base "_law_far" 1 ["_law_one","_law_other"] (spV K 2 zc)):FnOk P w K mg base CX0 2 f fd ["_law_table","_law_floor_here","_law_field"] (spV K 3 xi):=
 xC (g:=uz) (n:=3) (m:=6) [] rfl rfl [10] F sc__law_shape fun cdv A outer s H E hr=>by
  have nd:=sc__law_shape.nd
  have hu:=yL hr
  have hu64:=hr.units
  exact (zD (zM (i:=3) rfl (zP (i:=3) nd rfl [9] (zT hu [16] zF [17])))
   (zD (zM (i:=4) rfl (zP (i:=4) nd rfl [9] (VE.sh (zV z5 z4 (zV xu xt (zV wm wl [26] [34]) (zV z5 z4 [34] zF)) (zV yo yn [26] [34])))))
   (zD (zM (i:=5) rfl (zP (i:=5) nd rfl [9] (yM (yq (zT hu [13] [28] [17]) (yq (zT hu [13] (zV z5 z4 [28] zF) [17]) (yq (zT hu [13] (zV z5 z4 (zV z5 z4 [28] [34]) zF) [17]) (yq (zT hu [13] (zV z5 z4 (zV z5 z4 [28] [34]) zF) [17]) [192])))))))
   (zD (yz (za (jO hu64) qy (wR (ow:=["_law_k"]) (js:=[5]) [33] [77] [10] rfl (jj false [70] B.range_ (zH zF [15])) (fun _ _ _ _=>(zW 0 rfl (zU (i:=0) (show (["_law_k","_law_four"]:List Str).Nodup by decide +kernel) rfl [9]))) (fun _ _ _ _=>(xp (za (jO hu64) qy (zQ c__law_far [23] rfl (zH (zT hu [16] (zV xU xT [13] zF) [17]) (zH (zT hu [16] [13] [17]) [15]))) zF (zt _)))) [44]) (yM [15]) (zt _)) (zK (ze wH)) yN)
   (zK (ze (zT hu (yM (z3 wH (z3 wH [36]))) (yv znY ziA [70] B.int_ boot_int (zH (zaG (jE (xv hu64) vT (zQ c__law_far [23] rfl (zH (zT hu [27] zF [17]) (zH (zT hu [27] zF [17]) [15]))) zF (zt _)) (zcV (jE (xv hu64) vT (zQ c__law_far [23] rfl (zH (zT hu [27] zF [17]) (zH (zT hu [27] zF [17]) [15]))) zF (zt _)))) [15])) [17])))))))
noncomputable abbrev kE:Stmt:=top 32
theorem sc_unsquare:FnScope ["floor","braces","turns","at","field"] ["floor","braces","turns"] (zR kE):=⟨rfl,rfl,rfl,by decide +kernel,rfl,by decide +kernel,by decide +kernel⟩
theorem zem(F:Fun K "unsquare" "unsquare" kE f fd)(B:Blt mg)
  (c_crossings:Fn P w K mg base "crossings" 4 ["floor"] (spV K 1 zq)):FnOk P w K mg base CX0 5 f fd ["floor","braces","turns"] (spV K 3 wn):=
 xC (g:=uu) (n:=3) (m:=5) [] rfl rfl [10] F sc_unsquare fun cdv A outer s H E hr=>by
  have nd:=sc_unsquare.nd
  have hu:=yL hr
  have hu64:=hr.units
  exact (zD (zM (i:=3) rfl (zP (i:=3) nd rfl [9] [118]))
   (zD (yf JA rfl (zr true [16]) [87] (zK (yz (za (jO hu64) qy (zT hu [26] (zT hu (zT hu [34] [28] [17]) zF [17]) [17]) (zT hu [26] (zT hu (zT hu [34] [28] [17]) zF [17]) [17]) (zt _)) (zK (ze [298])) yN)))
   (zK (ze kA))))
noncomputable abbrev wt:Stmt:=top 45
theorem sc__law_put_down:FnScope ["_law_floor_here","_law_braces_here","_law_turns","_law_table","_law_corner","_law_x","_law_y","_law_kept","_law_leaned","_law_field","_law_shape_here"] ["_law_floor_here","_law_braces_here","_law_turns"] (zR wt):=⟨rfl,rfl,rfl,by decide +kernel,rfl,by decide +kernel,by decide +kernel⟩
theorem qX(F:Fun K "_law_put_down" "_law_put_down" wt f fd)(B:Blt mg)
  (c_pose:Fn P w K mg base "pose" 7 ["floor","turns"] (spV K 2 zao))
  (c_held:Fn P w K mg base "held" 8 ["floor","braces"] (spV K 2 zap))
  (c__law_shape:Fn P w K mg base "_law_shape" 2 ["_law_table","_law_floor_here","_law_field"] (spV K 3 xi))
  (c_unsquare:Fn P w K mg base "unsquare" 5 ["floor","braces","turns"] (spV K 3 wn)):FnOk P w K mg base CX0 9 f fd ["_law_floor_here","_law_braces_here","_law_turns"] (spV K 3 yc):=
 xC (g:=wu) (n:=3) (m:=11) [3,8] rfl rfl [10] F sc__law_put_down fun cdv A outer s H E hr=>by
  have nd:=sc__law_put_down.nd
  have hu:=yL hr
  have hu64:=hr.units
  exact (zD (zi (i:=3) [10] (zP (i:=3) nd rfl [9] (uU uY)))
   (zD (yf JA rfl (zr true (VE.sh (zQ c_pose [23] rfl (zH [13] (zH (yv vv (vw rfl) [70] B.list_ boot_list [272]) [15]))))) (qM 3 rfl (yg [87] (yg [69] (yg [206] jk)))) (zK (ji 3 [10] (kK (yA (zH [27] (zH [57] [15]))) (qW (pv 3) [28] uW)) (um hu (pv 3) [28] (yA (zH [27] (zH [57] [15]))) rfl))))
   (zD (zM (i:=7) rfl (zP (i:=7) nd rfl [9] (VE.sh (zQ c_held [23] rfl (zH [13] (zH (yv vv (vw rfl) [70] B.list_ boot_list (zH [16] [15])) [15]))))))
   (zD (zi (i:=8) [10] (zP (i:=8) nd rfl [9] (yM [36])))
   (zD (yf JA rfl (zr true [51]) (zW 9 rfl (zU (i:=9) nd rfl [9])) (zD (zM (i:=10) rfl (zP (i:=10) nd rfl [9] (VE.sh (zQ c__law_shape [23] rfl (zH [246] (zH [13] (zH [92] [15])))))))
   (zD (yz (VW.vt (qr [208] (j9 (VW.vt (zcU [208] (zar (VW.vt (qr (za (vV hu) vS [92] [16] [29]) (j9 (za (vV hu) vS [92] [130] [29])))))))))) (zK (ze zdO)) yN)
   (zK (yz [208] (zK (yC 8 [10] (yD (xB Jo Js Jt zp (pv 8) (zy (VE.data [92] [33]) pa_nil))))) yN)))))
   (zK (ze (zaG (jE (jO hu64) qy (yh 8 (pv 8)) (yM [15]) (zt _)) (zcV (jE zjO zjL (zQ c_unsquare [23] rfl (zH [13] (zH (yv vv (vw rfl) [70] B.list_ boot_list (zH [16] [15])) (zH (yv vv (vw rfl) [70] B.list_ boot_list [272]) [15])))) kA (zt _)))))))))))
noncomputable abbrev qQ:Stmt:=top 26
theorem sc_joining:FnScope ["floor","braces","fields","label","at","found","field","one","other","strip"] ["floor","braces","fields"] (zR qQ):=⟨rfl,rfl,rfl,by decide +kernel,rfl,by decide +kernel,by decide +kernel⟩
theorem zfF(F:Fun K "joining" "joining" qQ f fd)(B:Blt mg)
  (c_labels:Fn P w K mg base "labels" 7 ["floor","braces"] (spV K 2 vJ))
  (c_crossings:Fn P w K mg base "crossings" 4 ["floor"] (spV K 1 zq)):FnOk P w K mg base CX0 8 f fd ["floor","braces","fields"] (spV K 3 uf):=
 xC (g:=qf) (n:=3) (m:=10) [3,5] rfl rfl [10] F sc_joining fun cdv A outer s H E hr=>by
  have nd:=sc_joining.nd
  have hu:=yL hr
  have hu64:=hr.units
  exact (zD (zi (i:=3) [10] (zP (i:=3) nd rfl [9] (zQ c_labels [23] rfl [97])))
   (zD (zM (i:=4) rfl (zP (i:=4) nd rfl [9] [118]))
   (zD (zi (i:=5) [10] (zP (i:=5) nd rfl [9] (yM [36])))
   (zD (yf JA rfl (zr true [26]) [206] (zD (zM (i:=7) rfl (zP (i:=7) nd rfl [9] (VE.data (zT hu [246] (zT hu (zT hu [28] [57] [17]) zF [17]) [17]) .sh)))
   (zD (zM (i:=8) rfl (zP (i:=8) nd rfl [9] (VE.data (zT hu [246] (zT hu (zT hu [28] [57] [17]) zF [17]) [17]) .sh)))
   (zK (yz (za (jO hu64) qy [130] (zB 8 rfl (pv 8)) (zt _)) (zD (yC 5 [10] (yD (xB Jo Js Jt zp (pv 5) (zy (VE.data [57] [33]) pa_nil))))
   (zK (yf JA rfl (zr true (VE.sh (yv vv (vw rfl) [70] B.list_ boot_list (zH [246] [15])))) (zW 9 rfl (zU (i:=9) nd rfl [9])) (zK (yz (za (xv hu64) vT (zT hu [246] [92] [17]) (zB 8 rfl (pv 8)) (zt _)) (zK (ji 3 [10] (kK [130] (qW (pv 3) [92] uW)) (um hu (pv 3) [92] [130] rfl))) yN))))) yN)))))
   (zK (ze (uT 5 rfl (pv 5))))))))
noncomputable abbrev qP:Stmt:=top 27
theorem sc_lacking:FnScope ["floor","braces"] ["floor","braces"] (zR qP):=⟨rfl,rfl,rfl,by decide +kernel,rfl,by decide +kernel,by decide +kernel⟩
theorem zfE(F:Fun K "lacking" "lacking" qP f fd)(B:Blt mg)
  (c_joining:Fn P w K mg base "joining" 8 ["floor","braces","fields"] (spV K 3 uf)):FnOk P w K mg base CX0 9 f fd ["floor","braces"] (spV K 2 vN):=
 xC (g:=qe) (n:=2) (m:=2) [] rfl rfl [10] F sc_lacking fun cdv A outer s H E hr=>by
  have nd:=sc_lacking.nd
  have hu:=yL hr
  have hu64:=hr.units
  exact (zK (ze (zQ c_joining [23] rfl (zH [13] (zH [16] (zH [51] [15]))))))
noncomputable abbrev zaU:Stmt:=top 46
theorem sc_law:FnScope ["_law_script","_law_floor_here","_law_many","_law_braces_here","_law_stiff","_law_k","_law_handed","_law_turns","_law_more","_law_bare"] ["_law_script"] (zR zaU):=⟨rfl,rfl,rfl,by decide +kernel,rfl,by decide +kernel,by decide +kernel⟩
theorem znB(F:Fun K "law" "law" zaU f fd)(B:Blt mg)
  (c__law_floor:Fn P w K mg base "_law_floor" 2 ["_law_script","_law_at"] (spV K 2 wg))
  (c__law_braces:Fn P w K mg base "_law_braces" 2 ["_law_script","_law_at","_law_floor_here"] (spV K 3 xO))
  (c_turns_of:Fn P w K mg base "turns_of" 8 ["floor","braces"] (spV K 2 yb))
  (c__law_strips:Fn P w K mg base "_law_strips" 1 ["_law_floor_here"] (spV K 1 xN))
  (c__law_are_turns:Fn P w K mg base "_law_are_turns" 1 ["_law_turns","_law_many"] (spV K 2 yU))
  (c__law_put_down:Fn P w K mg base "_law_put_down" 9 ["_law_floor_here","_law_braces_here","_law_turns"] (spV K 3 yc))
  (c_judged:Fn P w K mg base "judged" 7 ["floor","braces"] (spV K 2 yu))
  (c_lacking:Fn P w K mg base "lacking" 9 ["floor","braces"] (spV K 2 vN)):FnOk P w K mg base CX0 10 f fd ["_law_script"] (spV K 1 zaA):=
 xC (g:=zky) (n:=1) (m:=10) [7] rfl rfl [10] F sc_law fun cdv A outer s H E hr=>by
  have nd:=sc_law.nd
  have hu:=yL hr
  have hu64:=hr.units
  exact (zD (zM (i:=1) rfl (zP (i:=1) nd rfl [9] (VE.sh (zQ c__law_floor [23] rfl (zH [13] (zH zF [15]))))))
   (zD (zM (i:=2) rfl (zP (i:=2) nd rfl [9] (VE.sh (zo xx xy [70] B.len_ JV (zH (zQ c__law_strips [23] rfl (zH [16] [15])) [15])))))
   (zD (zM (i:=3) rfl (zP (i:=3) nd rfl [9] (VE.sh (zQ c__law_braces [23] rfl (zH [13] (zH zF (zH [16] [15])))))))
   (zD (zM (i:=4) rfl (zP (i:=4) nd rfl [9] (VE.sh (jE (xv hu64) vT (zT hu (zQ c_judged [23] rfl (zH [16] (zH [164] [15]))) zF [17]) wH (zt _)))))
   (zD (yf JA rfl (jj true [70] B.range_ (zH zF [15])) [69] (zD (zM (i:=6) rfl (zP (i:=6) nd rfl [9] (VE.sh [164])))
   (zD (zi (i:=7) [10] (zP (i:=7) nd rfl [9] (zQ c_turns_of [23] rfl (zH [16] (zH [57] [15])))))
   (zD (yz (VW.vt (qr (za (jO hu64) qy [57] [34] (zt _)) (j9 (za (jO hu64) qy (jE zjO zjL (yh 7 (pv 7)) kA (zt _)) [28] (zt _))))) (zK (ze zdO)) yN)
   (zK (yz (za zgH zgF (yh 7 (pv 7)) kA (zt _)) (zD (yz (VW.vt (qr (zfd (zaD (zQ c__law_are_turns [23] rfl (zH (yh 7 (pv 7)) [272])) (fun _=>rfl))) (j9 (zfd (zaD (zQ c__law_put_down [23] rfl (zH [16] (zH [34] (zH (yh 7 (pv 7)) [15])))) (fun _=>rfl)))))) (zK (ze zdO)) yN)
   (zK (yC 7 [10] (yD (xB Jo Js Jt zp (pv 7) (zy zF pa_nil)))))) yN))))))
   (zD (zM (i:=8) rfl (zP (i:=8) nd rfl [9] (VE.sh (zo zbM (zbP rfl) [70] B.sorted_ boot_sorted (zH (zV z5 z4 [34] (zQ c_lacking [23] rfl (zH [16] (zH [164] [15])))) [15])))))
   (zD (yz (za zgH zgF (zQ c_turns_of [23] rfl (zH [16] (zH (zB 8 rfl (pv 8)) [15]))) kA (zt _)) (zK (ze zdO)) yN)
   (zD (zM (i:=9) rfl (zP (i:=9) nd rfl [9] (VE.sh (zQ c_turns_of [23] rfl (zH [16] (zH (yM [15]) [15]))))))
   (zK (ze (zaG (zQ c__law_are_turns [23] rfl (zH [92] [272])) (zcV (zQ c__law_put_down [23] rfl (zH [16] (zH (yM [15]) (zH [92] [15]))))))))))))))))
open PySem.W
theorem zds{us:List Value}(h:us.length=1):∃ a,us=[a]:=List.length_eq_one_iff.mp h
theorem uI{us:List Value}(h:us.length=2):∃ a0 a1,us=[a0,a1]:=by
 cases us with
 | nil=>cases h
 | cons a0 r=>obtain ⟨a1,rfl⟩:=zds (us:=r) (Nat.succ.inj h);exact ⟨a0,a1,rfl⟩
theorem zdr{us:List Value}(h:us.length=3):∃ a0 a1 a2,us=[a0,a1,a2]:=by
 cases us with
 | nil=>cases h
 | cons a0 r=>obtain ⟨a1,a2,rfl⟩:=uI (us:=r) (Nat.succ.inj h);exact ⟨a0,a1,a2,rfl⟩
theorem all_mk {l : PySem.W.OpenLaw} {w : World} {K : PySem.W.Frag} {h : Heap} {mg : Str → Option Value} {fa : Addr} (X : K.In h) (G : h.Ns mainGlobals mg) (hfa : mg "law" = some (.ref fa))
    {a_TURNED_0 : Addr} {d_TURNED_0 : Option Addr} {n_TURNED_0 : Nat} {sl_TURNED_0 : Array [161]} {t_TURNED_0_0 t_TURNED_0_1 : Tok}
    {a_TURNED_1 : Addr} {d_TURNED_1 : Option Addr} {n_TURNED_1 : Nat} {sl_TURNED_1 : Array [161]} {t_TURNED_1_0 t_TURNED_1_1 : Tok}
    {a_TURNED_2 : Addr} {d_TURNED_2 : Option Addr} {n_TURNED_2 : Nat} {sl_TURNED_2 : Array [161]} {t_TURNED_2_0 t_TURNED_2_1 : Tok}
    {a_TURNED_3 : Addr} {d_TURNED_3 : Option Addr} {n_TURNED_3 : Nat} {sl_TURNED_3 : Array [161]} {t_TURNED_3_0 t_TURNED_3_1 : Tok}
    {a_TURNED : Addr} {d_TURNED : Option Addr} {n_TURNED : Nat} {sl_TURNED : Array [161]}
    (k_TURNED : nsIn K mainGlobals "TURNED" = some (some (.ref a_TURNED)))
    (m_TURNED : K.lookup a_TURNED = some ⟨.type "tuple", d_TURNED, .seq #[.ref a_TURNED_0, .ref a_TURNED_1, .ref a_TURNED_2, .ref a_TURNED_3] n_TURNED, sl_TURNED⟩)
    (m_TURNED_0 : K.lookup a_TURNED_0 = some ⟨.type "tuple", d_TURNED_0, .seq #[.int (125) t_TURNED_0_0, .int (0) t_TURNED_0_1] n_TURNED_0, sl_TURNED_0⟩)
    (m_TURNED_1 : K.lookup a_TURNED_1 = some ⟨.type "tuple", d_TURNED_1, .seq #[.int (100) t_TURNED_1_0, .int (75) t_TURNED_1_1] n_TURNED_1, sl_TURNED_1⟩)
    (m_TURNED_2 : K.lookup a_TURNED_2 = some ⟨.type "tuple", d_TURNED_2, .seq #[.int (35) t_TURNED_2_0, .int (120) t_TURNED_2_1] n_TURNED_2, sl_TURNED_2⟩)
    (m_TURNED_3 : K.lookup a_TURNED_3 = some ⟨.type "tuple", d_TURNED_3, .seq #[.int (-44) t_TURNED_3_0, .int (117) t_TURNED_3_1] n_TURNED_3, sl_TURNED_3⟩)
    (d0 : Df K "_law_cell" jM)
    (d1 : Df K "_law_digits" uE)
    (d2 : Df K "_law_come" jL)
    (d3 : Df K "_law_floor" ul)
    (d4 : Df K "_law_braces" uF)
    (d5 : Df K "onward_from" v8)
    (d6 : Df K "walks_from" uh)
    (d7 : Df K "runs" zft)
    (d8 : Df K "field_left" ui)
    (d9 : Df K "row_runs" kG)
    (d10 : Df K "field_below" uA)
    (d11 : Df K "column_runs" uB)
    (d12 : Df K "strips" zaS)
    (d13 : Df K "crossings" jK)
    (d14 : Df K "there_and_back" wU)
    (d15 : Df K "brace_steps" uC)
    (d16 : Df K "ways_from" jI)
    (d17 : Df K "lean_up" qO)
    (d18 : Df K "judged" zaW)
    (d19 : Df K "turns_of" kF)
    (d20 : Df K "_law_strips" uD)
    (d21 : Df K "_law_are_turns" wV)
    (d22 : Df K "corners_at" uj)
    (d23 : Df K "corners" qR)
    (d24 : Df K "growth_steps" vQ)
    (d25 : Df K "laid_out" kH)
    (d26 : Df K "turned_by" jJ)
    (d27 : Df K "pose" zfu)
    (d28 : Df K "pieces" zaT)
    (d29 : Df K "labels" zaV)
    (d30 : Df K "held" zfv)
    (d31 : Df K "_law_far" kI)
    (d32 : Df K "_law_shape" uk)
    (d33 : Df K "unsquare" kE)
    (d34 : Df K "_law_put_down" wt)
    (d35 : Df K "joining" qQ)
    (d36 : Df K "lacking" qP)
    (d37 : Df K "law" zaU)
    (z_abs : nsIn K mainGlobals "abs" = some none)
    (z_all : nsIn K mainGlobals "all" = some none)
    (z_bool : nsIn K mainGlobals "bool" = some none)
    (z_enumerate : nsIn K mainGlobals "enumerate" = some none)
    (z_int : nsIn K mainGlobals "int" = some none)
    (z_isinstance : nsIn K mainGlobals "isinstance" = some none)
    (z_len : nsIn K mainGlobals "len" = some none)
    (z_list : nsIn K mainGlobals "list" = some none)
    (z_max : nsIn K mainGlobals "max" = some none)
    (z_min : nsIn K mainGlobals "min" = some none)
    (z_range : nsIn K mainGlobals "range" = some none)
    (z_set : nsIn K mainGlobals "set" = some none)
    (z_sorted : nsIn K mainGlobals "sorted" = some none)
    (z_sum : nsIn K mainGlobals "sum" = some none)
    (z_tuple : nsIn K mainGlobals "tuple" = some none)
    (z_zip : nsIn K mainGlobals "zip" = some none)
    : ∃ fd : FuncData, (∀ (s : Shared) (v : Value), BindsTo s fd ⟨[v], []⟩ [("_law_script", v)]) ∧ ∀ base : Heap, K.In base → base.Ns mainGlobals mg → FnOk l.prog w K mg base CX0 10 fa fd ["_law_script"] (spV K 1 zaA) := by
  obtain @⟨f, oc, od, kV, dc, pm, an, cd, ct, sl, a, lk, c, k⟩ := d37
  cases hfa.symm.trans (mg_of X G a)
  have B : Blt mg := ⟨mg_none_of X G z_abs, mg_none_of X G z_all, mg_none_of X G z_bool, mg_none_of X G z_enumerate, mg_none_of X G z_int, mg_none_of X G z_isinstance, mg_none_of X G z_len, mg_none_of X G z_list, mg_none_of X G z_max, mg_none_of X G z_min, mg_none_of X G z_range, mg_none_of X G z_set, mg_none_of X G z_sorted, mg_none_of X G z_sum, mg_none_of X G z_tuple, mg_none_of X G z_zip⟩
  have h_TURNED : GC K mg "TURNED" (.tup [(.tup [.int (125), .int (0)]), (.tup [.int (100), .int (75)]), (.tup [.int (35), .int (120)]), (.tup [.int (-44), .int (117)])]) := ⟨_, mg_of X G k_TURNED, fun _ => (.modT m_TURNED (show 4 ≤ sizeLine by decide) (zcW (zcW (zcW (zcW .nil)))) (.cons0 (.modT m_TURNED_0 [225] (jF (jF .nil)) [147]) (.cons0 (.modT m_TURNED_1 [225] (jF (jF .nil)) [147]) (.cons0 (.modT m_TURNED_2 [225] (jF (jF .nil)) [147]) (.cons0 (.modT m_TURNED_3 [225] (jF (jF .nil)) [147]) .nil0)))))⟩
  refine ⟨fnOf "law" "law" (u5 zaU) (vG zaU) (zR zaU) .none kV dc pm an cd ct, fun s v => .of_eq rfl, fun base _ _ => ?_⟩
  have c__law_cell : Fn l.prog w K mg base _ _ _ _ := d0.fn X G (fun _ _ F => zdl F B) fun _ _ _ _ _ _ us hl => by obtain ⟨_, _, rfl⟩ := uI hl; rfl
  have c__law_digits : Fn l.prog w K mg base _ _ _ _ := d1.fn X G (fun _ _ F => zbg F B) fun _ _ _ _ _ _ us hl => by obtain ⟨_, _, _, rfl⟩ := zdr hl; rfl
  have c__law_come : Fn l.prog w K mg base _ _ _ _ := d2.fn X G (fun _ _ F => zdk F B) fun _ _ _ _ _ _ us hl => by obtain ⟨_, _, _, rfl⟩ := zdr hl; rfl
  have c__law_floor : Fn l.prog w K mg base _ _ _ _ := d3.fn X G (fun _ _ F => zcf F B c__law_cell c__law_digits c__law_come) fun _ _ _ _ _ _ us hl => by obtain ⟨_, _, rfl⟩ := uI hl; rfl
  have c__law_braces : Fn l.prog w K mg base _ _ _ _ := d4.fn X G (fun _ _ F => zbh F B c__law_cell c__law_digits) fun _ _ _ _ _ _ us hl => by obtain ⟨_, _, _, rfl⟩ := zdr hl; rfl
  have c_onward_from : Fn l.prog w K mg base _ _ _ _ := d5.fn X G (fun _ _ F => zbb F B) fun _ _ _ _ _ _ us hl => by obtain ⟨_, rfl⟩ := zds hl; rfl
  have c_walks_from : Fn l.prog w K mg base _ _ _ _ := d6.fn X G (fun _ _ F => zcb F B c_onward_from) fun _ _ _ _ _ _ us hl => by obtain ⟨_, _, rfl⟩ := uI hl; rfl
  have c_runs : Fn l.prog w K mg base _ _ _ _ := d7.fn X G (fun _ _ F => zlS F B) fun _ _ _ _ _ _ us hl => by obtain ⟨_, _, rfl⟩ := uI hl; rfl
  have c_field_left : Fn l.prog w K mg base _ _ _ _ := d8.fn X G (fun _ _ F => zcc F B) fun _ _ _ _ _ _ us hl => by obtain ⟨_, _, rfl⟩ := uI hl; rfl
  have c_row_runs : Fn l.prog w K mg base _ _ _ _ := d9.fn X G (fun _ _ F => zeo F B c_runs c_field_left) fun _ _ _ _ _ _ us hl => by obtain ⟨_, rfl⟩ := zds hl; rfl
  have c_field_below : Fn l.prog w K mg base _ _ _ _ := d10.fn X G (fun _ _ F => zbc F B) fun _ _ _ _ _ _ us hl => by obtain ⟨_, _, rfl⟩ := uI hl; rfl
  have c_column_runs : Fn l.prog w K mg base _ _ _ _ := d11.fn X G (fun _ _ F => zbd F B c_runs c_field_below) fun _ _ _ _ _ _ us hl => by obtain ⟨_, rfl⟩ := zds hl; rfl
  have c_strips : Fn l.prog w K mg base _ _ _ _ := d12.fn X G (fun _ _ F => zhR F B c_row_runs c_column_runs) fun _ _ _ _ _ _ us hl => by obtain ⟨_, rfl⟩ := zds hl; rfl
  have c_crossings : Fn l.prog w K mg base _ _ _ _ := d13.fn X G (fun _ _ F => zdj F B c_strips) fun _ _ _ _ _ _ us hl => by obtain ⟨_, rfl⟩ := zds hl; rfl
  have c_there_and_back : Fn l.prog w K mg base _ _ _ _ := d14.fn X G (fun _ _ F => ku F B) fun _ _ _ _ _ _ us hl => by obtain ⟨_, _, _, rfl⟩ := zdr hl; rfl
  have c_brace_steps : Fn l.prog w K mg base _ _ _ _ := d15.fn X G (fun _ _ F => zbe F B c_crossings c_there_and_back) fun _ _ _ _ _ _ us hl => by obtain ⟨_, _, rfl⟩ := uI hl; rfl
  have c_ways_from : Fn l.prog w K mg base _ _ _ _ := d16.fn X G (fun _ _ F => zdh F B c_walks_from c_brace_steps) fun _ _ _ _ _ _ us hl => by obtain ⟨_, _, _, rfl⟩ := zdr hl; rfl
  have c_lean_up : Fn l.prog w K mg base _ _ _ _ := d17.fn X G (fun _ _ F => zfD F B c_strips) fun _ _ _ _ _ _ us hl => by obtain ⟨_, _, rfl⟩ := uI hl; rfl
  have c_judged : Fn l.prog w K mg base _ _ _ _ := d18.fn X G (fun _ _ F => zhU F B c_ways_from c_strips c_lean_up) fun _ _ _ _ _ _ us hl => by obtain ⟨_, _, rfl⟩ := uI hl; rfl
  have c_turns_of : Fn l.prog w K mg base _ _ _ _ := d19.fn X G (fun _ _ F => zen F B c_judged) fun _ _ _ _ _ _ us hl => by obtain ⟨_, _, rfl⟩ := uI hl; rfl
  have c__law_strips : Fn l.prog w K mg base _ _ _ _ := d20.fn X G (fun _ _ F => zbf F B) fun _ _ _ _ _ _ us hl => by obtain ⟨_, rfl⟩ := zds hl; rfl
  have c__law_are_turns : Fn l.prog w K mg base _ _ _ _ := d21.fn X G (fun _ _ F => kw F B) fun _ _ _ _ _ _ us hl => by obtain ⟨_, _, rfl⟩ := uI hl; rfl
  have c_corners_at : Fn l.prog w K mg base _ _ _ _ := d22.fn X G (fun _ _ F => zcd F B) fun _ _ _ _ _ _ us hl => by obtain ⟨_, _, rfl⟩ := uI hl; rfl
  have c_corners : Fn l.prog w K mg base _ _ _ _ := d23.fn X G (fun _ _ F => zfG F B c_corners_at) fun _ _ _ _ _ _ us hl => by obtain ⟨_, rfl⟩ := zds hl; rfl
  have c_growth_steps : Fn l.prog w K mg base _ _ _ _ := d24.fn X G (fun _ _ F => zam F B c_crossings c_corners_at) fun _ _ _ _ _ _ us hl => by obtain ⟨_, _, rfl⟩ := uI hl; rfl
  have c_laid_out : Fn l.prog w K mg base _ _ _ _ := d25.fn X G (fun _ _ F => zep F B c_corners c_walks_from c_growth_steps) fun _ _ _ _ _ _ us hl => by obtain ⟨_, _, rfl⟩ := uI hl; rfl
  have c_turned_by : Fn l.prog w K mg base _ _ _ _ := d26.fn X G (fun _ _ F => zdi F B h_TURNED) fun _ _ _ _ _ _ us hl => by obtain ⟨_, rfl⟩ := zds hl; rfl
  have c_pose : Fn l.prog w K mg base _ _ _ _ := d27.fn X G (fun _ _ F => zlT F B c_laid_out c_turned_by) fun _ _ _ _ _ _ us hl => by obtain ⟨_, _, rfl⟩ := uI hl; rfl
  have c_pieces : Fn l.prog w K mg base _ _ _ _ := d28.fn X G (fun _ _ F => zhS F B c_brace_steps c_strips c_walks_from) fun _ _ _ _ _ _ us hl => by obtain ⟨_, _, rfl⟩ := uI hl; rfl
  have c_labels : Fn l.prog w K mg base _ _ _ _ := d29.fn X G (fun _ _ F => zhT F B c_pieces) fun _ _ _ _ _ _ us hl => by obtain ⟨_, _, rfl⟩ := uI hl; rfl
  have c_held : Fn l.prog w K mg base _ _ _ _ := d30.fn X G (fun _ _ F => zlU F B c_labels c_crossings) fun _ _ _ _ _ _ us hl => by obtain ⟨_, _, rfl⟩ := uI hl; rfl
  have c__law_far : Fn l.prog w K mg base _ _ _ _ := d31.fn X G (fun _ _ F => zeq F B) fun _ _ _ _ _ _ us hl => by obtain ⟨_, _, rfl⟩ := uI hl; rfl
  have c__law_shape : Fn l.prog w K mg base _ _ _ _ := d32.fn X G (fun _ _ F => zce F B c__law_far) fun _ _ _ _ _ _ us hl => by obtain ⟨_, _, _, rfl⟩ := zdr hl; rfl
  have c_unsquare : Fn l.prog w K mg base _ _ _ _ := d33.fn X G (fun _ _ F => zem F B c_crossings) fun _ _ _ _ _ _ us hl => by obtain ⟨_, _, _, rfl⟩ := zdr hl; rfl
  have c__law_put_down : Fn l.prog w K mg base _ _ _ _ := d34.fn X G (fun _ _ F => qX F B c_pose c_held c__law_shape c_unsquare) fun _ _ _ _ _ _ us hl => by obtain ⟨_, _, _, rfl⟩ := zdr hl; rfl
  have c_joining : Fn l.prog w K mg base _ _ _ _ := d35.fn X G (fun _ _ F => zfF F B c_labels c_crossings) fun _ _ _ _ _ _ us hl => by obtain ⟨_, _, _, rfl⟩ := zdr hl; rfl
  have c_lacking : Fn l.prog w K mg base _ _ _ _ := d36.fn X G (fun _ _ F => zfE F B c_joining) fun _ _ _ _ _ _ us hl => by obtain ⟨_, _, rfl⟩ := uI hl; rfl
  exact znB (zkz (st := zaU) lk c k) B c__law_floor c__law_braces c_turns_of c__law_strips c__law_are_turns c__law_put_down c_judged c_lacking
theorem walk{l:PySem.W.OpenLaw}{q:Program}{loose:List Str}{XP:(Str->Option Value)->Heap->Prop}{YP:World->Heap->Prop}{d:DefRec}{K:Params->PySem.W.Frag}(hn:l.most=some 63)(hdf:d.params.defaults=[])
  (hY:∀ (w:World) (h:Heap),YP w h->[248].In h)
  (F:∀ (w:World) (mg:Str->Option Value) (fa:Addr) (h:Heap),[248].In h->h.Ns mainGlobals mg->mg d.name=some (.ref fa)->
   ∃ fd:FuncData,(∀ (s:Shared) (u:Value),BindsTo s fd ⟨[u],[]⟩ [("_law_script",u)])/\∀ base:Heap,[248].In base->base.Ns mainGlobals mg->FnOk l.prog w [248] mg base CX0 10 fa fd ["_law_script"] (spV [248] 1 zaA)):
  PySem.W.WalkO q loose XP YP l.row.toRowW d [] (fun f vs=>PySem.call f vs):=
 L2.walk_ofB (n:=63) (k:=10) (x:="_law_script") (CX:=fun _=>CX0) (sp:=fun w=>spV [248] 1 zaA) hn [10] hdf ⟨rfl,by decide,by decide⟩ hY F (fun _ _ a ns hl hb ho hS=>znF ho hS (zkd ns hl hb)) fun _ _ _ _ _ z=>z
end Cb
namespace PySem.W.Fast
def tw10757475605962538220:=0
def tw7181663023584758753:=0
def tw14465122310770135441:=0
def tw2494764000313151951:=0
def tw9485096359358260856:=0
def tw12853804021862844449:=0
def tw2928920033755801880:=0
def tw4832031893003151497:=0
def tw10982782995593852539:=0
def tw14262978754581958739:=0
def tw3087612092447795501:=0
def tw12230945883375756718:=0
def tw10098918403390909351:=0
def tw1224632984497271135:=0
def tw13796515727366358334:=0
def tw9188932666922658042:=0
def tw2987598193028821436:=0
def tw17192967989346911140:=0
def tw7181750838348815306:=0
def tw18011193613512349721:=0
def tw3269042671713661227:=0
def tw15619599615372490360:=0
def tw3316388618893634165:=0
def tw16169014822922122452:=0
def tw5312251240885432377:=0
def tw18335796802120080820:=0
def tw7204793882321164156:=0
def tw13535482735936869031:=0
def tw7753533153401195297:=0
def tw18410852402847384550:=0
def tw582921117285766407:=0
def tw10755829023430029783:=0
def tw11659233185252286270:=0
def tw1462487565677007275:=0
def tw15608561409493276872:=0
def tw13151303586098323792:=0
def tw15712182286684602419:=0
def tw8129336770212961484:=0
def tw10000054367546078560:=0
def tw702597540247357586:=0
def tw15729751333645223762:=0
def tw8395004820326100293:=0
def tw17853367381498483352:=0
def tw17918485000552898487:=0
def tw14247491559837407034:=0
def tw7030420360764802657:=0
def tw6366506208417169267:=0
def tw6241234445781266830:=0
def tw747481235819806269:=0
def tw4583024612717523000:=0
def tw4128988211382914906:=0
def tw1181052968124133893:=0
def tw5059455714297697159:=0
def tw15069871999372785148:=0
def tw1276361279976166649:=0
def tw6062298549249528671:=0
def tw2777529783946505242:=0
def tw143149359809790:=0
def tw5585409761289254599:=0
def tw15525042187428937562:=0
def tw3709984090361244118:=0
def tw16202672975605151246:=0
end PySem.W.Fast
open PySem PySem.W PyProof.Rows
set_option maxRecDepth 100000 in
set_option maxHeartbeats 0 in
theorem PySem.Challenge.cw_crossbrace_k43_whole_what_leans_is_put_d_holds : PySem.Challenge.rw_crossbrace_k43_whole_what_leans_is_put_d.Holds := by
 w_on;o_law;k_head;(case hw=>w_witness2)
 k_fill
 refine Cb.walk (l:=PySem.Challenge.rw_crossbrace_k43_whole_what_leans_is_put_d) rfl rfl (fun w h Y=>PySem.W.kIn_of Y) ?F
 case F=>
  intro w mg fa h KX G hmg
  refine' Cb.all_mk KX G hmg ?_ ?_ ?_ ?_ ?_ ?_ ?_ ?_ ?_ ?_ ?_ ?_ ?_ ?_ ?_ ?_ ?_ ?_ ?_ ?_ ?_ ?_ ?_ ?_ ?_ ?_ ?_ ?_ ?_ ?_ ?_ ?_ ?_ ?_ ?_ ?_ ?_ ?_ ?_ ?_ ?_ ?_ ?_ ?_ ?_ ?_ ?_ ?_ ?_ ?_ ?_ ?_ ?_ ?_ ?_ ?_ ?_ ?_ ?_ ?_
  try any_goals k_is
  try any_goals k_is
  try any_goals k_is
  try any_goals k_is
  any_goals exact .mk (by k_is) (by k_is) (by k_is) (by k_is)
