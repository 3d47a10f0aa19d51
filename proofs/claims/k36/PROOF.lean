import PyProof.Rows.All
import Wide.All
import OpenK.AllK
import Wide.FinOn
import Lean
import PyProof.EqAt
import PyProof.EqKinds
import PyProof.TupleCall
import PyProof.ListRange
import PyProof.NeKinds
import PyProof.ZipIter
import PyProof.FactsAll.tuple_2
import PyProof.FactsAll.tuple_3
import PyProof.Rows.SortShell
import PyProof.Rows.SortWalk
import PyProof.Rows.MinMaxN
import PyProof.AttrMissHeap
import PyProof.ListNew
import PyProof.FactsAll.dict_1
import KE.KDictSum
import PyProof.SetKind
import PyProof.Rows.SetFrom
import PyProof.CollectIter
import PyProof.Rows.TopTwo
import KE.KIsAll
import KE.KTryMore
import PyProof.ExcArgsOwn
import PyProof.NsDelKeeps
import KE.KSortTup
import KE.KRevIter
import KE.KRevSl
import PyProof.Rows.IntBool
import PyProof.TupleOfSeq
import KE.KIntText
import PyProof.StrWalks
import PyProof.StrCalls2
import PyProof.StrBlock2
import PyProof.FString5
import PyProof.StrLawsTight
import PyProof.StrLawsChain
import PyProof.Rows.SortStr
import PyProof.StationsW
import PyProof.Rows.Catch
import PyProof.ExcClass3
import PyProof.ExcInit
import PyProof.Ns1
import PyProof.DictCompW
import PyProof.ListMulRoad
import PyProof.PureStr
import KE.KPairComp
import PyProof.Rows.TupTab
import PyProof.TupleIter
import PySem.Challenge.RW_hungwords_k36_what_a_step_costs
set_option Elab.async false
set_option linter.all false
set_option maxRecDepth 100000
set_option maxHeartbeats 8000000
section
open PySem PySem.W PyProof.Rows
def bb.q'v:PySem.Program:={PySem.Challenge.rw_hungwords_k36_what_a_step_costs.row.prog with main:={PySem.Challenge.rw_hungwords_k36_what_a_step_costs.row.prog.main with body:=([1,2,3,4,5,6,7,8,9,11,12,14,15,16,17,18,19,21,22,23,24,26,27,28,29,30,31,32,33,35,36,37,38,39,40,41,42,43,44,45,46,47,48]:List Nat).filterMap fun i=>PySem.Challenge.rw_hungwords_k36_what_a_step_costs.row.prog.main.body[i]?}}
set_option maxRecDepth 100000 in
theorem bb.q'w:OpenLaw.wellSaid PySem.Challenge.rw_hungwords_k36_what_a_step_costs=true:=by kernel_rfl
section
local macro_rules
|`(tactic|o_law)=>`(tactic|refine holds_law bb.q'w fun said=>?_)
local macro_rules
|`(tactic|o_head $H)=>`(tactic|(have hh:=$H;assumption))
set_option maxRecDepth 100000 in
set_option maxHeartbeats 0 in
theorem bb.q'0(q'h:PySem.Challenge.rw_hungwords_k36_what_a_step_costs.row.Holds):PySem.Challenge.rw_hungwords_k36_what_a_step_costs.Holds:=by
 w_on;o_law;k_head
end
noncomputable abbrev bb.q'H:Hook:=kHook bb.q'0.heap_1 [2,3,15,22,23,24,25,28,35,36,37,40,47,48,49,52,59,60,61,64,71,72,73,76,83,84,85,88,95,96,97,100,107,109,110,112,113,114,115,116,119,126,128,129,131,132,133,134,135,138,140,141,143,144,145,147,148,150,151,152,154,155,157,158,159,162,163,164,167,168,169,172,173,174,176,177,179,180,181,183,184,186,187,188,190,191,193,194,195,198,199,200,203,204,205,208,209,210,213,214,215,218,219,220,223,224,225,227,228,230,231,232,234,235,237,238,239,241,242,244,245,246,248,249,251,252,253,256,257,258,260,261,263,264,265,267,268,270,271,272,275,276,277,279,280,282,283,284,286,287,289,290,291,293,294,296,297,298,300,301,303,304,305,307,308,310,311,312,314,315,317,318,319,322,323,324,326,327,329,330,331,333,334,336,337,338,341,342,343,346,347] (fun _=>rfl)
set_option maxRecDepth 100000 in
theorem bb.q't:∀w,(openEnds treeTable PySem.Challenge.rw_hungwords_k36_what_a_step_costs.row.prog w 6180).map (Hook.obs (bb.q'H))=some (Hook.val (bb.q'H) w):=by intro w;kernel_rfl
set_option maxRecDepth 100000 in
theorem bb.q's:∀w,(openEnds treeTable PySem.Challenge.rw_hungwords_k36_what_a_step_costs.row.prog w 6180).map (fun s=>openSeen bb.q'v [] (importedModules PySem.Challenge.rw_hungwords_k36_what_a_step_costs.row.prog.main.body) (fun s=>xlAt bb.q'v [] s && recOk (RowW.records (OpenRow.toRowW (OpenLaw.row PySem.Challenge.rw_hungwords_k36_what_a_step_costs))) s) true s)=some (openGood bb.q'v []):=by intro w;kernel_rfl
theorem bb.q'l{p q:Program}{loose:List Str}{Xt:Shared->Bool}{α:Type}{Yf:Shared->α}{Ya:World->α}{N:Nat}(h1:∀w,(openEnds treeTable p w N).map (fun s=>openSeen q loose (importedModules p.main.body) Xt true s)=some (openGood q loose))(h2:∀w,(openEnds treeTable p w N).map Yf=some (Ya w)):LeftO p q loose Xt Yf Ya N:=fun w=>by
 obtain⟨s,a,b⟩:=Option.map_eq_some_iff.mp (h1 w)
 obtain⟨s2,a2,b2⟩:=Option.map_eq_some_iff.mp (h2 w)
 cases a.symm.trans a2
 rw[a,Option.map_some,b,b2]
end
noncomputable section
abbrev aa8:=@PySem.wpAny_bind
abbrev aa9:=@List.length_map
abbrev ab0:=@PySem.wpAny_pure
abbrev ab1:=@PySem.Heap.get?_push_of_some
abbrev ab2:=@List.getElem?_eq_getElem
abbrev ab3:=@List.not_mem_nil
abbrev ab4:=@List.mem_singleton
abbrev ab5:=@PyProof.Rows.wpS_bind
abbrev ab6:=@Nat.le_refl
abbrev ab7:=@PyProof.Rows.wpS_pure
abbrev ab8:=@List.getElem?_map
abbrev ab9:=@Bool.false_ne_true
abbrev ac0:=@List.mem_cons_of_mem
abbrev ac1:=@List.getElem?_eq_some_iff
abbrev ac2:=@List.getElem?_set_ne
abbrev ac3:=@PySem.Heap.get?_push_size
abbrev ac4:=@beq_iff_eq
abbrev ac5:=@PySem.Heap.lt_size
abbrev ac6:=@List.length_append
abbrev ac7:=@Array.length_toList
abbrev ac8:=@List.mem_append_right
abbrev ac9:=@List.mem_cons_self
abbrev ad0:=@List.size_toArray
abbrev ad1:=@List.map_append
abbrev ad2:=@List.mem_append
abbrev ad3:=@List.mem_map
abbrev ad4:=@List.map_cons
abbrev ad5:=@List.getElem?_set_self
abbrev ad6:=@List.length_cons
abbrev ad7:=@List.getElem?_replicate
abbrev ad8:=@List.mem_cons
abbrev ad9:=@Nat.le_trans
abbrev ae0:=@List.map_congr_left
abbrev ae1:=@of_decide_eq_true
abbrev ae2:=@Nat.lt_of_lt_of_le
abbrev ae3:=@PySem.wpAny_mono
abbrev ae4:=@List.mem_of_getElem?
abbrev ae5:=@List.length_set
abbrev ae6:=@List.map_map
abbrev ae7:=@List.length_range'
abbrev ae8:=@decide_eq_false
abbrev ae9:=@List.getElem?_append_left
abbrev af0:=@List.length_range
abbrev af1:=@Nat.ne_of_lt
abbrev af2:=@Nat.zero_le
abbrev af3:=@decide_eq_true
abbrev af4:=@List.getElem?_append_right
abbrev af5:=@List.mem_append_left
abbrev af6:=@PySem.wpAny_holding
abbrev af7:=@Nat.lt_irrefl
abbrev af8:=@Array.getElem?_eq_getElem
abbrev af9:=@List.append_assoc
abbrev ag0:=@of_decide_eq_false
abbrev ag1:=@Bool.false_eq_true
abbrev ag2:=@PySem.wpAny_newObj_type
abbrev ag3:=@List.lookup_cons
abbrev ag4:=@List.all_eq_true
abbrev ag5:=@PySem.W.mg_none_of
abbrev ag6:=@List.filter_eq_self
abbrev ag7:=@Array.toList_append
abbrev ag8:=@List.flatten_cons
abbrev ag9:=@Int.mul_le_mul_of_nonneg_right
abbrev ah0:=@PyProof.Rows.wpS_forRange
abbrev ah1:=@PySem.wpAny_standAt
abbrev ah2:=@Array.getElem?_toList
abbrev ah3:=@PySem.Heap.get?_update_other
abbrev ah4:=@congrArg
abbrev ah5:=@PySem.wpAny_loadPart'
abbrev ah6:=@PySem.mem_of_lookup
abbrev ah7:=@List.getElem_of_mem
abbrev ah8:=@PySem.Heap.size_push
abbrev ah9:=@Bool.and_eq_true
abbrev ai0:=@List.mem_range'_1
abbrev ai1:=@List.append_nil
abbrev ai2:=@PySem.wpAny_field
abbrev ai3:=@beq_eq_false_iff_ne
abbrev ai4:=@PySem.wpAny_call_entry
abbrev ai5:=@PySem.wpAny_loadPart_at
abbrev ai6:=@Int.toNat_natCast
abbrev ai7:=@PySem.W.kia_one
abbrev ai8:=@List.forIn_cons
abbrev ai9:=@List.mem_flatMap
abbrev aj0:=@List.replicate_succ
abbrev aj1:=@List.getElem?_eq_none
abbrev aj2:=@PySem.Heap.get?_update_self
abbrev aj3:=@PyProof.Rows.callWith_type1
abbrev aj4:=@List.nodup_append
abbrev aj5:=@PyProof.Rows.wpS_mono
abbrev aj6:=@PySem.wpAny_callSpecial?_slot
abbrev aj7:=@PySem.W.mg_of
abbrev aj8:=@List.nodup_nil
abbrev aj9:=@Array.getElem?_eq_some_iff
abbrev ak0:=@if_false
abbrev ak1:=@Option.map_eq_some_iff
abbrev ak2:=@List.getElem?_range
abbrev ak3:=@PySem.wpAny_rule
abbrev ak4:=@PySem.wpAny_seqItems
abbrev ak5:=@List.mem_range
abbrev ak6:=@List.length_replicate
abbrev ak7:=@Int.le_refl
abbrev ak8:=@PySem.PassesOwn.never
abbrev ak9:=@List.length_nil
abbrev al0:=@PySem.wpAny_pyIter_tuple
abbrev al1:=@List.take_length
abbrev al2:=@Array.perm_iff_toList_perm
abbrev al3:=@PySem.wpAny_truthy_bool
abbrev al4:=@List.ext_getElem?
abbrev al5:=@List.find?_cons
abbrev al6:=@List.pairwise_iff_getElem
abbrev al7:=@List.eq_nil_iff_forall_not_mem
abbrev al8:=@List.take_append_drop
abbrev al9:=@List.length_filter_le
abbrev am0:=@List.length_take
abbrev am1:=@PySem.wpAny_Call_Name_kw
abbrev am2:=@List.mem_filterMap
abbrev am3:=@Bool.not_true
abbrev am4:=@List.getElem?_range'
abbrev am5:=@List.nodup_cons
abbrev am6:=@Int.le_of_lt
abbrev am7:=@PyProof.Rows.wpS_modify
abbrev am8:=@decide_eq_decide
abbrev am9:=@PySem.Obj.data_mapFields
abbrev an0:=@Array.size_extract
abbrev an1:=@PyProof.Rows.slot_tuple_getitem
abbrev an2:=@Int.add_mul
abbrev an3:=@PySem.wpAny_specialOf
abbrev an4:=@PySem.pushCells_keeps
abbrev an5:=@List.mem_filter
abbrev an6:=@PySem.codeAny_call_builtin
abbrev an7:=@Option.isSome_iff_exists
abbrev an8:=@PySem.wpAny_pyIter_list
abbrev an9:=@Nat.lt_succ_of_lt
abbrev ao0:=@List.any_cons
abbrev ao1:=@PySem.wpAny_typeNameOfWhole_keyiter
abbrev ao2:=@List.length_zipWith
abbrev ao3:=@PySem.F.slot_dict_keyiterator_next
abbrev ao4:=@PySem.sizeLine_eq
abbrev ao5:=@PySem.codeAny_mono
abbrev ao6:=@Nat.ne_of_gt
abbrev ao7:=@PySem.wpAny_setField_rec
abbrev ao8:=@PyProof.Rows.assignInOrder_cons
abbrev ao9:=@Nat.lt_of_le_of_lt
abbrev ap0:=@List.pairwise_cons
abbrev ap1:=@PySem.Calls.spliced_cons
abbrev ap2:=@PySem.wpAny_passesOwn
abbrev ap3:=@PySem.codeAny_builtin
abbrev ap4:=@Bool.eq_iff_iff
abbrev ap5:=@PySem.F.slot_tuple_iterator_next
abbrev ap6:=@PySem.wpAny_dictEntries
abbrev ap7:=@List.take_add_one
abbrev ap8:=@Array.toList_push
abbrev ap9:=@List.range'_append_1
abbrev aq0:=@List.length_dropLast
abbrev aq1:=@List.getElem?_mapIdx
abbrev aq2:=@List.forall_mem_cons
abbrev aq3:=@PySem.Around.under_plainId
abbrev aq4:=@List.getLastD_eq_getLast?
abbrev aq5:=@List.drop_eq_getElem_cons
abbrev aq6:=@PySem.wpAny_setField
abbrev aq7:=@List.forIn_nil
abbrev aq8:=@List.length_drop
abbrev aq9:=@List.getElem_mem
abbrev ar0:=@PySem.F.plain_max_loop
abbrev ar1:=@PySem.wpAny_typeNameOf_keyiter
abbrev ar3:=@PySem.wpAny_comprehension_free
abbrev ar4:=@List.range'_eq_map_range
abbrev ar5:=@PySem.Heap.SameBut.update
abbrev ar6:=@decide_eq_false_iff_not
abbrev ar7:=@PySem.call_meets
abbrev ar8:=@PySem.wpAny_execs_nil
abbrev ar9:=@PySem.IsiPair.tupleOf
abbrev as0:=@List.length_mapIdx
abbrev as2:=@List.filter_append
abbrev as3:=@List.zipWith_cons_cons
abbrev as4:=@List.take_of_length_le
abbrev as5:=@Nat.le_of_succ_le
abbrev as6:=@List.flatMap_cons
abbrev as7:=@PyProof.Rows.wpS_get
abbrev as8:=@if_true
abbrev as9:=@PySem.W.looks_findIn
abbrev at0:=@List.take_zero
abbrev at1:=@List.drop_zero
abbrev at3:=@PySem.Obj.isFreed_of_fields
abbrev at4:=@List.dropLast_concat_getLast
abbrev at5:=@Int.not_lt
abbrev at6:=@PySem.wpAny_isInstance
abbrev at7:=@Option.getD_some
abbrev at8:=@List.range'_succ
abbrev at9:=@List.mem_flatten
abbrev au0:=@List.any_eq_true
abbrev au1:=@Array.toList_inj
abbrev au2:=@List.pairwise_append
abbrev au3:=@PySem.plainId_quiet
abbrev au4:=@PySem.wpAny_letGo
abbrev au5:=@Int.one_mul
abbrev au6:=@Nat.sub_zero
abbrev au7:=@Nat.add_zero
abbrev au8:=@PySem.tupleKind_room_in1
abbrev au9:=@List.map_inj_right
abbrev av0:=@Int.emod_lt_of_pos
abbrev av1:=@PySem.Code.quiet_builtin
abbrev av2:=@PySem.F.args_tuple_add_2
abbrev av3:=@PySem.wpAny_bindName
abbrev av4:=@PySem.F.plainAttrs_list
abbrev av5:=@PySem.F.entry_tuple_add
abbrev av6:=@List.pairwise_singleton
abbrev av7:=@Nat.lt_succ_of_le
abbrev av8:=@List.reverse_cons
abbrev av9:=@List.pairwise_map
abbrev aw0:=@List.map_dropLast
abbrev aw1:=@PySem.Heap.get?_push_ne
abbrev aw2:=@PySem.Calls.spliced_nil
abbrev aw3:=@Nat.le_succ
abbrev aw4:=@PySem.wpAny_attempt
abbrev aw5:=@List.all_cons
set_option hygiene false
local macro_rules|`(205)=>`(s.heap.objs.size)
local macro_rules|`(206)=>`(List.replicate)
local macro_rules|`(207)=>`(PySem.W.Frag)
local macro_rules|`(208)=>`(sizeLine)
local macro_rules|`(209)=>`(starEach)
local macro_rules|`(210)=>`(Option)
local macro_rules|`(211)=>`(Shared)
local macro_rules|`(212)=>`(Value)
local macro_rules|`(213)=>`(absurd)
local macro_rules|`(214)=>`(Program)
local macro_rules|`(215)=>`(Option.some.inj)
local macro_rules|`(216)=>`(X.env)
local macro_rules|`(217)=>`(mainGlobals)
local macro_rules|`(218)=>`(wpAny)
local macro_rules|`(219)=>`(List.range)
local macro_rules|`(220)=>`(xs.length)
local macro_rules|`(221)=>`(Value.none)
local macro_rules|`(222)=>`(assignEach)
local macro_rules|`(223)=>`(PySem.W.nsIn)
local macro_rules|`(224)=>`(NameKind.free)
local macro_rules|`(225)=>`(foldedSetIterable)
local macro_rules|`(226)=>`(Value.ref)
local macro_rules|`(227)=>`(bootBuiltins)
local macro_rules|`(228)=>`(X.env.locals)
local macro_rules|`(229)=>`(Builtin.SmallTypes.nextOf)
local macro_rules|`(230)=>`(a.size)
local macro_rules|`(231)=>`(h.objs.size)
local macro_rules|`(232)=>`(X.s₀.heap.objs.size)
local macro_rules|`(233)=>`(w.toArray.size)
local macro_rules|`(234)=>`(vs.length)
local macro_rules|`(235)=>`(s.toks)
local macro_rules|`(236)=>`(X.N.Nodup)
local macro_rules|`(237)=>`(World)
local macro_rules|`(238)=>`(Keyed)
local macro_rules|`(239)=>`(P.heap.objs.size)
local macro_rules|`(240)=>`(b.size)
local macro_rules|`(241)=>`(X.A.units)
local macro_rules|`(242)=>`(True.intro)
local macro_rules|`(243)=>`(PySem.W.findIn)
local macro_rules|`(244)=>`(Around)
local macro_rules|`(101)=>`(⟨rfl,rfl,rfl,by decide+kernel,rfl,by decide+kernel,by decide+kernel⟩)
local macro_rules|`(102)=>`(by lia)
local macro_rules|`(103)=>`(by first | exact Or.inl rfl | exact Or.inr rfl)
local macro_rules|`(104)=>`(by decide)
local macro_rules|`(105)=>`(model prog w)
local macro_rules|`(106)=>`(s.heap.push {cls:= .type "list",data:= .seq ([]:List 212).toArray})
local macro_rules|`(107)=>`(model X.prog X.w)
local macro_rules|`(108)=>`(.ListComp elt [⟨tg,iter,ifs,0⟩,⟨iz,iter2,dA,0⟩] scope pos)
local macro_rules|`(109)=>`(aj5 (ah0 (I:=fun i c B=>B=U/\c.1=none/\c.2=i/\bA R (arrOf U) lo (lo+i)) (Q:=fun c B=>B=U/\c.1=none/\1<=c.2/\c.2<=o/\bA R (arrOf U) lo (lo+c.2)/\(c.2 < o->rk R (arrOf U) (lo+c.2) < rk R (arrOf U) (lo+c.2 - 1))) ?_ ?_ ⟨rfl,rfl,rfl,v⟩) ?_)
local macro_rules|`(110)=>`(⟨rfl,by decide+kernel,by decide,rfl,by decide+kernel,(by show∀x∈(_:List (Str × NameKind)),x.2=224->(ae iK).names.lookup x.1=some .cell\/(ae iK).names.lookup x.1=some .free;decide+kernel)⟩)
local macro_rules|`(111)=>`(by simp)
local macro_rules|`(112)=>`(s.heap.push {cls:= .type "dict",data:= .dict #[]})
local macro_rules|`(113)=>`(⟨⟨_,rfl⟩,.inr ⟨rfl,by dsimp only;exact J,by dsimp only;lia,by dsimp only;lia,by dsimp only;lia,by dsimp only;lia,by dsimp only;lia⟩⟩)
local macro_rules|`(114)=>`(fun b=>M b\/b=D)
local macro_rules|`(115)=>`(eO X N scope s H i C t)
local macro_rules|`(116)=>`(List.range' 1 n)
local macro_rules|`(117)=>`(⟨rfl,rfl,by dsimp only;lia,by dsimp only;lia,by dsimp only;exact C,fun _=>by dsimp only;exact ae1 O⟩)
local macro_rules|`(118)=>`(.ref 205)
local macro_rules|`(119)=>`(⟨⟨_,rfl⟩,rfl,by dsimp only;exact J,by dsimp only;lia,by dsimp only;lia,by dsimp only;lia,by dsimp only;lia,by dsimp only;lia⟩)
local macro_rules|`(120)=>`(.builtin "BaseException.__getattribute__")
local macro_rules|`(121)=>`(Addr × Obj)
local macro_rules|`(122)=>`(fun _ _=>False)
local macro_rules|`(123)=>`(x==("__debug__":Str))
local macro_rules|`(124)=>`(.ListComp elt [⟨tg,iter,ifs,0⟩] scope pos)
local macro_rules|`(125)=>`(excClassObj nm q C N bs bm hdct sn sub ab col dd k0 k1 k2 k3 k5 newId)
local macro_rules|`(126)=>`(⟨_,_,rfl,⟨_,rfl,rfl⟩,⟨_,rfl,rfl⟩,rfl,fun _=>?_⟩)
local macro_rules|`(129)=>`(backTo pos (209 es 216))
local macro_rules|`(130)=>`(⟨⟨_,rfl⟩,.inr ⟨rfl,by dsimp only;exact J,by dsimp only;lia,by dsimp only;lia,by dsimp only;lia⟩⟩)
local macro_rules|`(131)=>`(Str × NameKind)
local macro_rules|`(132)=>`(⟨⟨_,rfl⟩,rfl,by dsimp only;exact J,by dsimp only;lia,by dsimp only;lia,by dsimp only;lia⟩)
local macro_rules|`(133)=>`(N.length - ps.length)
local macro_rules|`(134)=>`(.builtin "object.__class__")
local macro_rules|`(135)=>`(.Call (.Name x p) (e::es) [] pos)
local macro_rules|`(136)=>`(backToKw pos (keywordEach mJ 216))
local macro_rules|`(137)=>`(209 [] 216)
local macro_rules|`(138)=>`(arrOf st)
local macro_rules|`(139)=>`(A.deeper (envOfC qual (ae st) s.heap.objs.size f bC))
local macro_rules|`(140)=>`(((s.aC.getLastD 1:Nat):Int))
local macro_rules|`(141)=>`(fun _ _ _ _ _=>dE)
local macro_rules|`(142)=>`(Nat × Nat × Nat)
local macro_rules|`(143)=>`(aj (bj (v:= .ty "bool") (by rfl) T.bool dJ rfl) aM)
local macro_rules|`(144)=>`(.type "BaseException")
local macro_rules|`(145)=>`(⟨N,g,by dsimp only;lia,ab6 _,J,fun z=>213 z (af7 _)⟩)
local macro_rules|`(146)=>`(k==224 && env.scope.kind== .function && env.kindOf n==some .cell)
local macro_rules|`(147)=>`(qL (aa (dv 0) (aa (dv 1) af)) fun z=>lX (by rfl) T.zip z)
local macro_rules|`(148)=>`(show false=true from n)
local macro_rules|`(149)=>`(aa (dv 0) af)
local macro_rules|`(151)=>`(h.push {cls:= .type "dict",data:= .dict #[]})
local macro_rules|`(152)=>`(({s with heap:=s.heap.push {cls:= .type "dict",data:= .dict #[]}}:211))
local macro_rules|`(153)=>`(upd H s.heap.objs.size (.lst []))
local macro_rules|`(154)=>`(vs.toArray.zip vs.toArray)
local macro_rules|`(155)=>`(aa (dv 1) af)
local macro_rules|`(156)=>`(205+1)
local macro_rules|`(157)=>`(fun z=>nomatch z)
local macro_rules|`(158)=>`(by rfl)
local macro_rules|`(159)=>`(.tup [.ref c1,.ref c2,.ref c3,.ref c4,.ref c5,.ref c6,.ref c7])
local macro_rules|`(160)=>`((es.toList.map (·.key)))
local macro_rules|`(161)=>`(222 [.Name x px,.Name y py] 216)
local macro_rules|`(162)=>`(ac4.mpr z)
local macro_rules|`(163)=>`(by omega)
local macro_rules|`(164)=>`((219 (n+1)).map fun o=>cV (w i o))
local macro_rules|`(165)=>`(rk R (arrOf B) (lo+n) < rk R (arrOf B) (lo+n - 1))
local macro_rules|`(166)=>`(arrOf B)
local macro_rules|`(167)=>`(⟨_,ag,fun xs z=>by cases z⟩)
local macro_rules|`(168)=>`(show(["_law_one","_law_other"]:List Str).Nodup by decide+kernel)
local macro_rules|`(169)=>`(([]:List Addr))
local macro_rules|`(170)=>`(209 [e] 216)
local macro_rules|`(171)=>`(List.range' l (h - l))
local macro_rules|`(172)=>`(S.map V.int)
local macro_rules|`(173)=>`(.ref D)
local macro_rules|`(174)=>`(by decide+kernel)
local macro_rules|`(175)=>`((n:Int)+1)
local macro_rules|`(176)=>`(⟨by lia,by lia⟩)
local macro_rules|`(177)=>`(eO X N scope s H j C t)
local macro_rules|`(178)=>`(backToKw pos (keywordEach mJ env))
local macro_rules|`(179)=>`(List Addr)
local macro_rules|`(180)=>`(s.aC.dropLast.getLastD 1)
local macro_rules|`(181)=>`(aW I q rfl)
local macro_rules|`(182)=>`(fun b=>if b=D then none else L b)
local macro_rules|`(183)=>`(wpS_lift (ak3 ⟨rfl,?_⟩))
local macro_rules|`(184)=>`(dS s.heap b1 b2 a1 a2)
local macro_rules|`(185)=>`(upd H s.heap.objs.size (.dT []))
local macro_rules|`(186)=>`(.ref C)
local macro_rules|`(187)=>`(fun _ _ z=>z)
local macro_rules|`(188)=>`(List Nat)
local macro_rules|`(189)=>`(.type "object")
local macro_rules|`(190)=>`(.ref a)
local macro_rules|`(191)=>`(.Tuple es x1 tp)
local macro_rules|`(192)=>`(fun t G h=>?_)
local macro_rules|`(193)=>`(216::X.outer)
local macro_rules|`(194)=>`(s.bZ.map oD)
local macro_rules|`(195)=>`(by simpa using h)
local macro_rules|`(196)=>`(.inl ⟨_,rfl⟩)
local macro_rules|`(197)=>`(upd H d (.dK (bx c (t+1))))
local macro_rules|`(198)=>`(eO X N scope s H j C z)
local macro_rules|`(199)=>`(s.aC.getLastD 1 - 1)
local macro_rules|`(201)=>`(by rw[e];exact 242)
local macro_rules|`(202)=>`((P.toList.map (·.key)))
local macro_rules|`(203)=>`(⟨_,rfl,_,rfl,?_⟩)
local macro_rules|`(204)=>`(ab0 ?_)
namespace L2
open PySem PySem.Spec PyProof.Rows
abbrev Key:=Sum Int Str
def qJ:Key->212->Bool
 | .inl k,v=>Value.isInt k v
 | .inr x,v=>Value.isStrOf x v
def Xe(w:237):Key->Int
 | .inl k=>hashInt k
 | .inr x=>hashStr w x
def bG: ∀{k:Key} {v:212},qJ k v=true->(∃i t,k=Sum.inl i/\v=Value.int i t)\/(∃x t,k=Sum.inr x/\v=Value.str x t)
 | .inl i,v,h=>by
  obtain⟨t,e⟩:=Value.isInt_shape (k:=i) (v:=v) h;exact .inl ⟨i,t,rfl,e⟩
 | .inr x,v,h=>by
  obtain⟨t,e⟩:=Value.isStrOf_shape (x:=x) (v:=v) h;exact .inr ⟨x,t,rfl,e⟩
def Bs(i:Int)(t:Tok):qJ (.inl i) (.int i t)=true:=by simp [qJ,Value.isInt]
def Br(x:Str)(t:Tok):qJ (.inr x) (.str x t)=true:=by simp [qJ,Value.isStrOf]
def OA(a b:Int):decide ((Sum.inl a:Key)=Sum.inl b)=(a==b):=by
 by_cases e:a=b
 . subst e;simp
 . have h: ¬(Sum.inl a:Key)=Sum.inl b:=fun q=>e (Sum.inl.inj q);rw[ae8 h];exact(ai3.mpr e).symm
def Ox(a b:Str):decide ((Sum.inr a:Key)=Sum.inr b)=decide (a=b):=by
 by_cases e:a=b
 . subst e;simp
 . have h: ¬(Sum.inr a:Key)=Sum.inr b:=fun q=>e (Sum.inr.inj q);rw[ae8 h,ae8 e]
def Oz(a:Int)(b:Str):decide ((Sum.inl a:Key)=Sum.inr b)=false:=ae8 (fun q=>nomatch q)
def Oy(a:Str)(b:Int):decide ((Sum.inr a:Key)=Sum.inl b)=false:=ae8 (fun q=>nomatch q)
def a8(prog:214)(w:237):PySem.KeyKind prog w Key where
 is:=qJ
 hash:=Xe w
 inj:=fun v a b f c=>by
  rcases bG f with ⟨i,t,rfl,rfl⟩ | ⟨x,t,rfl,rfl⟩
  . rcases bG c with ⟨j,u,rfl,e⟩ | ⟨y,u,rfl,e⟩
    . injection e with e1 _;rw[e1]
    . exact nomatch e
  . rcases bG c with ⟨j,u,rfl,e⟩ | ⟨y,u,rfl,e⟩
    . exact nomatch e
    . injection e with e1 _;rw[e1]
 byValue:=fun k v h=>by
  rcases bG h with ⟨i,t,rfl,rfl⟩ | ⟨x,t,rfl,rfl⟩ <;> rfl
 pyHash:=fun z h=>by
  rcases bG z with ⟨i,t,rfl,rfl⟩ | ⟨x,t,rfl,rfl⟩
  . exact wpAny_pyHash_int h
  . exact wpAny_pyHash_str h
 eqBool:=fun m z h=>by
  rcases bG m with ⟨i,t,rfl,rfl⟩ | ⟨x,t,rfl,rfl⟩
  . rcases bG z with ⟨j,u,rfl,rfl⟩ | ⟨y,u,rfl,rfl⟩
    . rw[OA] at h;exact wpAny_eqBool_int h
    . rw[Oz] at h;exact SeqAt.EqAt.int_str i t y u _ _ _ _ h
  . rcases bG z with ⟨j,u,rfl,rfl⟩ | ⟨y,u,rfl,rfl⟩
    . rw[Oy] at h;exact SeqAt.EqAt.str_int x t j u _ _ _ _ h
    . rw[Ox] at h;exact wpAny_eqBool_str h
 «strs» :=fun k x t v h=>by
  rcases bG h with ⟨i,u,rfl,e⟩ | ⟨y,u,rfl,e⟩
  . exact nomatch e
  . injection e with e1 _
    subst e1;cases v <;> rfl
def uV(prog:214)(w:237)(i:Int)(t:Tok):(a8 prog w).is (.inl i) (.int i t)=true:=Bs i t
def uU(prog:214)(w:237)(x:Str)(t:Tok):(a8 prog w).is (.inr x) (.str x t)=true:=Br x t
inductive V where
 | aO | bl (b:Bool) | int (i:Int) | str (x:Str) | Af (b:Array UInt8) | CC (b:UInt64) | ref (a:Addr) | ty (n:String)
 deriving DecidableEq
def RelV:V->212->Prop
 | .aO,u=>u=221
 | .bl b,u=>u=Value.bool b
 | .int i,u=> ∃t,u=Value.int i t
 | .str x,u=> ∃t,u=Value.str x t
 | .Af b,u=> ∃t,u=Value.bytes b t
 | .CC b,u=> ∃t,u=Value.float b t
 | .ref a,u=>u=226 a
 | .ty n,u=>u=Value.type n
abbrev Vals:List V->List 212->Prop:=Paired RelV
def Vals.length(r:Vals xs us):220=us.length:=Paired.length r
def Vals.get: ∀{xs:List V} {us:List 212} {i:Nat} {x:V},Vals xs us->xs[i]?=some x-> ∃u,us[i]?=some u/\RelV x u
 | _,_,_,_,.nil,e=>by simp at e
 | _,_,0,_,.cons r _,e=>by simp at e;subst e;exact⟨_,rfl,r⟩
 | _,_,i+1,x,.cons _ t,e=>by
  obtain⟨u,d,f⟩:=Vals.get (i:=i) (x:=x) t (by simpa using e);exact⟨u,by simpa using d,f⟩
def Vals.set(r:RelV x u): ∀{xs:List V} {us:List 212} (i:Nat),Vals xs us->Vals (xs.set i x) (us.set i u)
 | _,_,_,.nil=> .nil
 | _,_,0,.cons _ t=> .cons r t
 | _,_,i+1,.cons q t=> .cons q (Vals.set r i t)
def Vals.append: ∀{xs ys:List V} {us ws:List 212},Vals xs us->Vals ys ws->Vals (xs++ys) (us++ws)
 | _,_,_,_,.nil,s=>s
 | _,_,_,_,.cons r t,s=> .cons r (Vals.append t s)
def Vals.take: ∀{xs:List V} {us:List 212} (n:Nat),Vals xs us->Vals (xs.take n) (us.take n)
 | _,_,0,_=> .nil
 | _,_,_+1,.nil=> .nil
 | _,_,n+1,.cons r t=> .cons r (Vals.take n t)
def Vals.drop: ∀{xs:List V} {us:List 212} (n:Nat),Vals xs us->Vals (xs.drop n) (us.drop n)
 | _,_,0,r=>r
 | _,_,_+1,.nil=> .nil
 | _,_,n+1,.cons _ t=>Vals.drop n t
def jT:210 V->210 212->Prop
 | some v,some u=>RelV v u
 | none,none=>True
 | _,_=>False
def KV{u:Type}:List (u × V)->List (u × 212)->Prop:=Paired fun(p:u × V) (q:u × 212)=>p.1=q.1/\RelV p.2 q.2
def kV:Key->V
 | .inl i=> .int i
 | .inr x=> .str x
def pV(h:Heap)(a:Addr)(items:Array 212):Prop:= ∃o,h.get? a=some o/\o.cls= .type "tuple"/\o.dict=none/\ ∃n,o.data= .seq items n
def pV.tup{h:Heap}{a:Addr}{items:Array 212}(x:pV h a items):IsTup h a items:=let ⟨o,e,c,_,d⟩:=x;⟨o,e,c,d⟩
def pV.lt(x:pV h a items):a < h.objs.size:=let ⟨_,e,_⟩:=x;ac5 e
def pV.new(h:Heap)(items:Array 212):pV (h.push {cls:= .type "tuple",data:= .seq items}) h.objs.size items:=⟨_,ac3 _ rfl,rfl,rfl,_,rfl⟩
inductive HO where
  | lst (xs:List V)
  | tup (xs:List V)
  | dK (aJ:List (Key × V)) | dT (aJ:List (List Key × V))
  | set (S:Int->Bool) (n:Nat)
  | ins (C dx:Addr) (fs:List (Str × V))
  | own (x:Addr)
  | xd (fs:List (Str × V))
  | met (f x:Addr)
  | je (lo hi:Int)
  | vq (o:Obj) (u:HO)
  | K0 (ps:Array 212)
  | ext (φ:Heap->Prop)
abbrev Hp:=Addr->210 HO
def upd(H:Hp)(a:Addr)(o:HO):Hp:=fun b=>if b=a then some o else H b
def ag:upd H a o a=some o:=by unfold upd;rw[if_pos rfl]
def ah(h:b≠a):upd H a o b=H b:=by unfold upd;rw[if_neg h]
def zo{H:Hp}(h:H a=some o)(h':H b=some u)(d:o≠u):a≠b:=by
 intro e;subst e;rw[h] at h';exact d (215 h')
def au{H:Hp}(h:H a=some o)(h':H b=none):a≠b:=by
 intro e;subst e;rw[h] at h';cases h'
section
variable (P:214) (w:237)
def aX(H:Hp)(h:Heap)(a:Addr):HO->Prop
 | .lst g=>g.length<=208/\ ∃(y:List 212) (n:Nat),Vals g y/\h.get? a=some {cls:= .type "list",data:= .seq y.toArray n}
 | .tup g=>g.length<=208/\ ∃y:List 212,Vals g y/\pV h a y.toArray
 | .dK aJ=>aJ.length<=208/\(a==sysModules)=false/\ ∃z,KV aJ z/\h.DictOf (a8 P w) a z
 | .dT aJ=>aJ.length<=sizeLine/\(a==sysModules)=false/\ ∃g:List (List Key × Addr × Value),
   Paired (fun(p:List Key × V) (q:List Key × Addr × 212)=>p.1=q.1/\H q.2.1=some (.tup (p.1.map kV))/\RelV p.2 q.2.2) aJ g/\
   ∃o Q A,h.get? a=some o/\o.ExactDict/\o.data= .dict Q A/\Q.toList=g.map (entryOfKey (tupleKind (a8 P w)))/\(g.map (·.1)).Nodup
 | .set S n=>h.SetOf (intKind P w) a S n
 | .ins C dx fs=>H dx=some (.own a)/\fs.length<=1000/\dx≠a/\h.get? a=some (PySem.W.instObj C dx)/\
   ∃U,h.Ns1 dx U/\(∀f,jT (fs.lookup f) (U f))/\PySem.Within U (fs.map (·.1))
 | .own _=> ∃o,h.get? a=some o
 | .xd fs=> ∃U,h.Ns1 a U/\ ∀f,jT (fs.lookup f) (U f)
 | .je lo hi=> ∃t u v,h.get? a=some {cls:= .type "range",data:= .fields #[.int lo t,.int hi u,.int 1 v]}
 | .vq o u=>h.get? a=some o/\aX H h a u
 | .K0 ps=>h.get? a=some {cls:= .none,data:= .fields ps}
 | .met f x=>h.get? a=some (PySem.W.methodObj (.ref f) (.ref x))
 | .ext φ=>φ h/\(∃o,h.get? a=some o)/\ ∀d e:Heap,φ d->(∀o,d.get? a=some o->e.get? a=some o)->φ e
def gG(H:Hp)(h:Heap):Prop:= ∀a o,H a=some o->aX P w H h a o
end
def aX.lt(x:aX P w H h a o):a < h.objs.size:=by
 cases o with
 | lst xs=>obtain⟨_,_,_,_,e⟩:=x;exact ac5 e
 | tup xs=>obtain⟨_,_,_,p⟩:=x;exact p.lt
 | dK aJ=>obtain⟨_,_,_,_,o,_,_,e,_⟩:=x;exact ac5 e
 | dT aJ=>obtain⟨_,_,_,_,o,_,_,e,_⟩:=x;exact ac5 e
 | set S n=>obtain⟨o,_,_,_,e,_⟩:=x;exact ac5 e
 | ins C dx fs=>obtain⟨_,_,_,e,_⟩:=x;exact ac5 e
 | own y=>obtain⟨_,e⟩:=x;exact ac5 e
 | xd fs=>obtain⟨_,⟨_,_,_,e,_⟩,_⟩:=x;exact ac5 e
 | je lo hi=>obtain⟨_,_,_,e⟩:=x;exact ac5 e
 | vq ob u=>obtain⟨e,_⟩:=x;exact ac5 e
 | K0 ps=>exact ac5 (show h.get? a=some _ from x)
 | met f y=>exact ac5 (show h.get? a=some _ from x)
 | ext φ=>obtain⟨_,⟨_,e⟩,_⟩:=x;exact ac5 e
def Paired.Oj: ∀{l₁:List α} {l₂:List β},Paired F l₁ l₂->(∀a b,F a b->G a b)->Paired G l₁ l₂
 | _,_,.nil,_=> .nil
 | _,_,.cons r t,f=> .cons (f _ _ r) (Paired.Oj t f)
def aX.gM(x:aX P w H h a o)(k: ∀b u,(b=a\/H b=some (.own a))->h.get? b=some u->h'.get? b=some u)
  (F: ∀b,H b=some (.own a)->H' b=some (.own a)) (X: ∀b g,H b=some (.tup g)->H' b=some (.tup g)):aX P w H' h' a o:=by
 induction o with
 | lst g=>obtain⟨z,D,n,r,e⟩:=x;exact⟨z,D,n,r,k _ _ (.inl rfl) e⟩
 | tup g=>obtain⟨z,D,r,A,e,c⟩:=x;exact⟨z,D,r,A,k _ _ (.inl rfl) e,c⟩
 | dK aJ=>obtain⟨z,y,G,r,A,Q,B,e,c⟩:=x;exact⟨z,y,G,r,A,Q,B,k _ _ (.inl rfl) e,c⟩
 | dT aJ=>
  obtain⟨z,y,g,r,A,Q,B,e,c⟩:=x;exact⟨z,y,g,Paired.Oj r fun p q z=>⟨z.1,X _ _ z.2.1,z.2.2⟩,A,Q,B,k _ _ (.inl rfl) e,c⟩
 | set S n=>obtain⟨A,Q,B,t,e,c⟩:=x;exact⟨A,Q,B,t,k _ _ (.inl rfl) e,c⟩
 | ins C dx fs=>
  obtain⟨d,z,R,e,U,⟨I,Q,B,E,c⟩,r⟩:=x;exact⟨F _ d,z,R,k _ _ (.inl rfl) e,U,⟨I,Q,B,k _ _ (.inr d) E,c⟩,r⟩
 | own y=>obtain⟨A,e⟩:=x;exact⟨A,k _ _ (.inl rfl) e⟩
 | xd fs=>obtain⟨U,⟨I,Q,B,e,c⟩,r⟩:=x;exact⟨U,⟨I,Q,B,k _ _ (.inl rfl) e,c⟩,r⟩
 | je lo hi=>obtain⟨t,u,v,e⟩:=x;exact⟨t,u,v,k _ _ (.inl rfl) e⟩
 | vq A u ih=>obtain⟨e,q⟩:=x;exact⟨k _ _ (.inl rfl) e,ih q⟩
 | K0 ps=>
  have e:h.get? a=some {cls:= .none,data:= .fields ps}:=x;show h'.get? a=some {cls:= .none,data:= .fields ps};exact k a _ (.inl rfl) e
 | met f y=>
  have e:h.get? a=some (PySem.W.methodObj (.ref f) (.ref y)):=x;show h'.get? a=some (PySem.W.methodObj (.ref f) (.ref y));exact k a _ (.inl rfl) e
 | ext φ=>obtain⟨p,⟨o,e⟩,s⟩:=x;exact⟨s _ _ p fun o q=>k _ _ (.inl rfl) q,⟨o,k _ _ (.inl rfl) e⟩,s⟩
def gG.lt(x:gG P w H h)(e:H a=some o):a < h.objs.size:=(x a o e).lt
def gG.fresh(x:gG P w H h)(e:231<=a):H a=none:=by
 cases q:H a with
 | none=>rfl
 | some u=>exact 213 (ae2 (x.lt q) e) (af7 _)
def gG.kept(x:gG P w H h)(k: ∀b u,h.get? b=some u->h'.get? b=some u):gG P w H h':=fun a o e=>
 (x a o e).gM (fun b u _ q=>k b u q) (fun _ q=>q) fun _ _ q=>q
def gG.laid(x:gG P w H h)(k: ∀b u,h.get? b=some u->h'.get? b=some u)(B:231<=a)(p:aX P w (upd H a o) h' a o):gG P w (upd H a o) h':=fun b u e=>by
 have V:=x.fresh B;by_cases d:b=a
 . subst d;rw[ag] at e;cases e;exact p
 . rw[ah d] at e;exact(x b u e).gM (fun c v _ q=>k c v q) (fun c q=>by rw[ah (au q V)];exact q) fun c g q=>by rw[ah (au q V)];exact q
def Rd(H:Hp)(a:Addr)(u:HO):Prop:=H a=some u\/ ∃o,H a=some (.vq o u)
def Rd.ok(r:Rd H a u)(x:gG P w H h):aX P w H h a u:=by
 rcases r with r | ⟨o,r⟩
 . exact x a u r
 . obtain⟨_,q⟩:=x a _ r;exact q
def UG:210 HO->Prop
 | some (.lst _)=>True
 | some (.dK _)=>True
 | some (.dT _)=>True
 | some (.set _ _)=>True
 | some (.ins _ _ _)=>True
 | some (.ext _)=>True
 | _=>False
def gG.write(l:gG P w H h)(U:UG (H x))(A:e=x\/H e=some (.own x))(k: ∀b u,b≠e->h.get? b=some u->h'.get? b=some u)(i: ∃u,h'.get? e=some u)
  (o:aX P w (upd H x o') h' x o'):gG P w (upd H x o') h':=fun b u q=>by
 have N: ∀c y,H c=some (.own y)->c≠x:=fun c y r z=>by subst z;rw[r] at U;exact U
 have L: ∀c g,H c=some (.tup g)->c≠x:=fun c g r z=>by subst z;rw[r] at U;exact U
 by_cases d:b=x
 . subst d;rw[ag] at q;cases q;exact o
 . rw[ah d] at q;by_cases f:b=e
   . have G : H b = some (.own x) := by
       rcases A with z | z
       . exact 213 (f.trans z) d
       . rw[f];exact z
     rw[q] at G;cases G;obtain⟨v,B⟩:=i;exact⟨v,by rw[f];exact B⟩
   . refine(l b u q).gM (fun c v m r=>k c v ?_ r) (fun c r=>by rw[ah (N c b r)];exact r) fun c g r=>by rw[ah (L c g r)];exact r
     rcases m with rfl | m
     . exact f
     . rintro rfl
       rcases A with z | z
       . exact N c b m z
       . rw[m] at z;cases z;exact d rfl
structure Un(fs ex:List Addr)(H H':Hp)(h h':Heap):Prop where
 keep: ∀b o,h.get? b=some o->H b=none->b∉fs->b∉ex->h'.get? b=some o
 slot: ∀b o,h.get? b=some o->H b=none->b∈fs->b∉ex-> ∃sl,h'.get? b=some {o with slots:=sl}
 free: ∀b o,h.get? b=some o->H b=none->b∉ex->H' b=none
 there: ∀b o,h.get? b=some o->b∉ex-> ∃o',h'.get? b=some o'
 jB: ∀b xs,H b=some (.tup xs)->H' b=some (.tup xs)
 kO: ∀b o u,H b=some (.vq o u)->H' b=some (.vq o u)
 lQ: ∀b ps,H b=some (.K0 ps)-> ∃more,H' b=some (.K0 (ps++more))
section
variable{fs fs' ex ex':List Addr}{H H1 H2:Hp}{h h1 h2 h':Heap}{a x e:Addr}{o:HO}
def Un.any(u:Un fs ex H H1 h h1)(q:h.get? b=some ob)(n:H b=none)(i:b∉ex): ∃M,h1.get? b=some {ob with slots:=M}:=by
 by_cases c:b∈fs
 . exact u.slot b ob q n c i
 . exact⟨ob.slots,u.keep b ob q n c i⟩
def Un.kept(k: ∀b u,h.get? b=some u->h'.get? b=some u):Un fs ex H H h h':=
 ⟨fun b v q _ _ _=>k b v q,fun b v q _ _ _=>⟨v.slots,k b v q⟩,fun _ _ _ n _=>n,fun b v q _=>⟨v,k b v q⟩,fun _ _ q=>q,fun _ _ _ q=>q,fun _ z q=>⟨#[],by rw[q];simp⟩⟩
def Un.refl:Un fs ex H H h h:=Un.kept fun _ _ q=>q
def Un.laid(k: ∀b u,h.get? b=some u->h'.get? b=some u)(B:231<=a)(V:H a=none):Un fs ex H (upd H a o) h h' where
 keep:=fun b u q _ _ _=>k b u q
 slot:=fun b u q _ _ _=>⟨u.slots,k b u q⟩
 free:=fun b u q n _=>by rw[ah (af1 (ae2 (ac5 q) B))];exact n
 there:=fun b u q _=>⟨u,k b u q⟩
 jB:=fun b g q=>by rw[ah (au q V)];exact q
 kO:=fun b u g q=>by rw[ah (au q V)];exact q
 lQ:=fun b z q=>⟨#[],by rw[ah (au q V),q];simp⟩
def Un.write(U:UG (H x))(y:e=x\/H e=some (.own x))(k: ∀b u,b≠e->h.get? b=some u->h'.get? b=some u)(d: ∃u,h'.get? e=some u):Un fs ex H (upd H x o) h h':=by
 have i: ∀b,H b=none->b≠x:=fun b n z=>by subst z;rw[n] at U;exact U
 have c: ∀b,H b=none->b≠e:=fun b n z=>by
  subst z;rcases y with r | r
  . exact i b n r
  . rw[n] at r;cases r
 have O: ∀b u,H b=some u-> ¬UG (some u)->b≠x:=fun b u q g z=>by subst z;rw[q] at U;exact g U
 refine⟨fun b u q n _ _=>k b u (c b n) q,fun b u q n _ _=>⟨u.slots,k b u (c b n) q⟩,fun b u q n _=>by rw[ah (i b n)];exact n,fun b u q _=>?_,
  fun b j q=>by rw[ah (O b _ q fun z=>z)];exact q,fun b u j q=>by rw[ah (O b _ q fun z=>z)];exact q,fun b A q=>⟨#[],by rw[ah (O b _ q fun z=>z),q];simp⟩⟩
 by_cases f:b=e
 . subst f;exact d
 . exact⟨u,k b u f q⟩
end
def Hd(h:Heap)(H:Hp):List Addr:=(219 231).filter fun a=>(H a).isSome
def sW(h:Heap)(H:Hp):Heap:=PySem.W.hideAll h (Hd h H)
def Bz(h:Heap)(H:Hp):(sW h H).objs.size=h.objs.size:=PySem.W.hideAll_size _ _
def Fx{h:Heap}(e:h.get? b=some o)(n:H b=none):(sW h H).get? b=some o:=
 PySem.W.hideAll_get _ e fun O=>by
  have q:(H b).isSome=true:=(an5.mp O).2;rw[n] at q;simp at q
def Jc(e:(sW h H).get? b=some o):h.get? b=some o/\H b=none:=by
 have I:h.get? b=some o:=PySem.W.of_hideAll (Hd h H) e;refine⟨I,?_⟩;cases q:H b with
 | none=>rfl
 | some x=>
  have O:b∈Hd h H:=an5.mpr ⟨ak5.mpr (ac5 I),by simp [q]⟩;have z:(sW h H).get? b=none:=PySem.W.hideAll_none (Hd h H) O;rw[z] at e;cases e
structure Mod(K:207)(mg:Str->210 212)(base:Heap):Prop where
 Sq:K.In base
 glob:base.Ns 217 mg
 blt: ∃mb,base.Ns builtinsNs mb/\ ∀x:Str,x≠"__name__"->mb x=227 x
 nolimit:base.NoLimit
structure Cx where
 prog:214
 w:237
 K:207
 mg:Str->210 212
 base:Heap
 A:244
 N:List Str
 s₀:211
 H₀:Hp
 env:Env
 outer:List Env
 stack:List Env
 ex:List Addr
 fn:Str->Bool
 calm:Bool
 pn:List 121
 xe:212->211->Prop
def ik(l:List Env):List Addr:=l.filterMap (·.frame)
noncomputable abbrev Cx.fs (X:Cx):List Addr:=ik X.outer
def Vv(j:Scope)(x:Str):Prop:=j.names.lookup x=some .local\/j.names.lookup x=some .cell\/j.names.lookup x=some .free
def Loc(j:Scope)(x:Str):Prop:=j.names.lookup x=some .local\/j.names.lookup x=some .cell
def Look(env:Env)(h:Heap)(m:Str->210 212)(x:Str)(u:212):Prop:=
 (env.kindOf x=some .local/\m x=some u)\/((env.kindOf x=some .cell\/env.kindOf x=some .free)/\ ∃c,env.cells.lookup x=some c/\h.IsCell c (some u))
structure Cx.Ok(X:Cx):Prop where
 mod:Mod X.K X.mg X.base
 kind:X.env.scope.kind= .function
 glob:X.env.globals=217
 blt:X.env.builtins=builtinsNs
 above:232<=228
 inj: ∀x y c,X.env.cells.lookup x=some c->X.env.cells.lookup y=some c->x=y
 has: ∀x,(X.env.kindOf x=some .cell\/X.env.kindOf x=some .free)-> ∃c,X.env.cells.lookup x=some c
 QR: ∀x c,X.fn x=true->X.env.cells.lookup x=some c->232<=c
 hd:X.calm=true->X.A.handled=none
 frames:X.A.frames=some X.stack
 Ru:X.stack=X.outer\/(X.stack=216::X.outer/\X.env.frame=some 228)
 JQ: ∀b∈X.ex,b≠228/\ ∀x c,X.env.cells.lookup x=some c->c≠b
 bs: ∀b o,X.base.get? b=some o->X.s₀.heap.get? b=some o/\X.H₀ b=none
 Hn:X.base.objs.size<=232
 Bc: ∀b o,X.base.get? b=some o->b∉X.ex
 vA: ∀b∈X.ex,b∉X.fs
 kM:X.s₀.heap.FunFrames X.base X.outer
 L8: ∀b∈X.fs,X.H₀ b=none
structure Inv(X:Cx)(pins:List 121)(σ:List (210 V))(H:Hp)(s:211):Prop where
 ok:X.Ok
 os:s.os=X.s₀.os
 bare:AllBare s.gens
 base:Un X.fs X.ex X.H₀ H X.s₀.heap s.heap
 loc: ∃m,s.heap.Ns X.env.locals m/\ ∀(i:Nat) (x:Str) (v:V),X.N[i]?=some x->σ[i]?=some (some v)->Vv X.env.scope x-> ∃u,RelV v u/\Look X.env s.heap m x u
 cell: ∀x c,X.env.cells.lookup x=some c-> ∃v,s.heap.IsCell c v
 free:H 228=none
 fF: ∀x c,X.env.cells.lookup x=some c->H c=none
 pin: ∀p∈X.pn++pins,s.heap.get? p.1=some p.2/\H p.1=none/\p.1≠228/\p.1∉X.fs/\ ∀v,p.2.data≠ .cell v
 aQ:gG X.prog X.w H s.heap
 len:σ.length=X.N.length
section
variable{X:Cx}{pins:List 121}{σ:List (210 V)}{H H':Hp}{s:211}{h':Heap}
def Cx.Ok.W5(l:X.Ok)(e:X.base.get? b=some o):b∉X.fs:=fun c=>by
 have:=(l.kM.mem c).1;rw[e] at this;cases this
def Inv.bs(I:Inv X pins σ H s): ∀b o,X.base.get? b=some o->s.heap.get? b=some o/\H b=none:=fun b o e=>
 ⟨I.base.keep b o (I.ok.bs b o e).1 (I.ok.bs b o e).2 (I.ok.W5 e) (I.ok.Bc b o e),I.base.free b o (I.ok.bs b o e).1 (I.ok.bs b o e).2 (I.ok.Bc b o e)⟩
def Inv.bk(I:Inv X pins σ H s): ∀b o,X.base.get? b=some o->s.heap.get? b=some o:=fun b o e=>(I.bs b o e).1
def Inv.mod(I:Inv X pins σ H s):Mod X.K X.mg X.base:=I.ok.mod
def Inv.l7(I:Inv X pins σ H s):X.K.In s.heap:=I.ok.mod.Sq.keeps I.bk
def Inv.lt(I:Inv X pins σ H s):228 < s.heap.objs.size:=let ⟨_,hn,_⟩:=I.loc;hn.lt
def Inv.sz(I:Inv X pins σ H s):232<=s.heap.objs.size:=ad9 I.ok.above (Nat.le_of_lt I.lt)
def Inv.W4(I:Inv X pins σ H s)(h:205<=a):a∉X.fs:=fun c=>by
 obtain⟨_,o,x,_⟩:=I.ok.kM.mem c;exact 213 (ae2 (ac5 x) (ad9 I.sz h)) (af7 _)
def Inv.Kt(I:Inv X pins σ H s): ∀x c,X.env.cells.lookup x=some c->c≠X.env.locals:=fun x c e z=>by
 obtain⟨v,o,y,D⟩:=I.cell x c e;obtain⟨m,⟨a,P,w,j,q,_⟩,_⟩:=I.loc;rw[z,j] at y;cases y;rw[q] at D;cases D
def Inv.kM(I:Inv X pins σ H s):s.heap.FunFrames X.base X.outer:=by
 have f: ∀(l:List Env),(∀b∈ik l,b∈X.fs)->X.s₀.heap.FunFrames X.base l->s.heap.FunFrames X.base l:=by
  intro l;induction l with
  | nil=>intro _ _;trivial
  | cons env r ih=>
   intro n A;obtain⟨E,⟨L,o,j,W,x,D⟩,p⟩:=A;have k:L∈X.fs:=n L (by unfold ik;rw[List.filterMap_cons,j];exact ac9);obtain⟨M,e⟩:=I.base.slot L o x (I.ok.L8 L k) k fun z=>I.ok.vA L z k;exact⟨E,⟨L,_,j,W,e,D⟩,ih (fun b c=>n b (by unfold ik;rw[List.filterMap_cons,j];exact ac0 _ c)) p⟩
 exact f X.outer (fun _ c=>c) I.ok.kM
def Inv.stack(I:Inv X pins σ H s):s.heap.FunFrames X.base X.stack:=by
 rcases I.ok.Ru with e | ⟨e,j⟩
 . rw[e];exact I.kM
 . rw[e];obtain⟨m,W,_⟩:=I.loc;refine .cons (by rw[I.ok.kind];decide) j W ?_ I.kM;exact Heap.get?_none_of_le (ad9 I.ok.Hn I.ok.above)
def Inv.wH(I:Inv X pins σ H s): ∀b∈ik X.stack,b∈228::X.fs:=fun b c=>by
 rcases I.ok.Ru with e | ⟨e,j⟩
 . rw[e] at c;exact ac0 _ c
 . rw[e] at c;unfold ik at c;rw[List.filterMap_cons,j] at c;exact c
def Inv.ny(I:Inv X pins σ H s): ∀b∈ik X.stack,H b=none:=fun b c=>by
 rcases ad8.mp (I.wH b c) with e | c
 . rw[e];exact I.free
 . obtain⟨_,o,x,_⟩:=I.ok.kM.mem c;exact I.base.free b o x (I.ok.L8 b c) fun z=>I.ok.vA b z c
def Inv.step{g':Array GenState}{t':Nat}{d':Drawn}{ch:List Addr}(I:Inv X pins σ H s)
  (L: ∀b∈ch,(b∈X.ex\/232<=b)/\b≠228/\(∀x c,X.env.cells.lookup x=some c->c≠b)/\ ∀p∈X.pn++pins,p.1≠b)
  (M: ∀b o,b≠228->b∉X.fs->b∉ch->s.heap.get? b=some o->H b=none->h'.get? b=some o)
  (G: ∀b o,b≠228->b∈X.fs->b∉ch->s.heap.get? b=some o->H b=none-> ∃P,h'.get? b=some {o with slots:=P}) (E: ∀b o,b∉ch->s.heap.get? b=some o->H b=none->H' b=none)
  (N: ∀b o,b∉ch->s.heap.get? b=some o-> ∃a,h'.get? b=some a)
  (jB: ∀b g,H b=some (.tup g)->H' b=some (.tup g)) (kO: ∀b o u,H b=some (.vq o u)->H' b=some (.vq o u)) (lQ: ∀b B,H b=some (.K0 B)-> ∃A,H' b=some (.K0 (B++A)))
  (ns: ∀m,s.heap.Ns X.env.locals m->h'.Ns X.env.locals m) (W:gG X.prog X.w H' h') (hg:AllBare g'):
  Inv X pins σ H' {s with heap:=h',gens:=g',drawn:=d',toks:=t'}:=by
 have Q: ∀b o,X.s₀.heap.get? b=some o->b≠X.env.locals:=fun b o e=>af1 (ae2 (ac5 e) I.ok.above);have R: ∀b o,X.s₀.heap.get? b=some o->b∉X.ex->b∉ch:=fun b o e h f=>by
  rcases(L b f).1 with z | z
  . exact h z
  . exact 213 (ae2 (ac5 e) z) (af7 _)
 have J: ∀x c,X.env.cells.lookup x=some c-> ∀v,s.heap.IsCell c v->h'.IsCell c v:=fun x c e v Y=>(by obtain⟨o,y,D⟩:=Y;exact(by
  have O:c∉ch:=fun z=>(L c z).2.2.1 x c e rfl;by_cases C:c∈X.fs
  . obtain⟨P,q⟩:=G c o (I.Kt x c e) C O y (I.fF x c e);exact⟨_,q,D⟩
  . exact⟨o,M c o (I.Kt x c e) C O y (I.fF x c e),D⟩))
 refine⟨I.ok,I.os,hg,⟨fun b o e n f h=>?_,fun b o e n f h=>?_,fun b o e n h=>?_,fun b o e h=>?_,fun b g e=>jB b g (I.base.jB b g e),fun b o g e=>kO b o g (I.base.kO b o g e),fun b B e=>?_⟩,?_,fun x c e=>?_,?_,fun x c e=>?_,fun p F=>?_,W,I.len⟩
 . exact M b o (Q b o e) f (R b o e h) (I.base.keep b o e n f h) (I.base.free b o e n h)
 . obtain⟨P,j⟩:=I.base.slot b o e n f h;obtain⟨U,t⟩:=G b _ (Q b o e) f (R b o e h) j (I.base.free b o e n h);exact⟨U,t⟩
 . obtain⟨a,j⟩:=I.base.there b o e h;exact E b a (R b o e h) j (I.base.free b o e n h)
 . obtain⟨a,j⟩:=I.base.there b o e h;exact N b a (R b o e h) j
 . obtain⟨m1,j⟩:=I.base.lQ b B e;obtain⟨m2,t⟩:=lQ b _ j;exact⟨m1++m2,by rw[t,Array.append_assoc]⟩
 . obtain⟨m,hn,hl⟩:=I.loc;refine⟨m,ns m hn,fun i x v j t Z=>?_⟩;obtain⟨u,r,l⟩:=hl i x v j t Z;refine⟨u,r,?_⟩;rcases l with l | ⟨k,c,e,z⟩
   . exact .inl l
   . exact .inr ⟨k,c,e,J x c e _ z⟩
 . obtain⟨v,z⟩:=I.cell x c e;exact⟨v,J x c e v z⟩
 . obtain⟨m,⟨o,_,_,y,_⟩,_⟩:=I.loc;exact E _ o (fun z=>(L _ z).2.1 rfl) y I.free
 . obtain⟨v,o,y,D⟩:=I.cell x c e;exact E c o (fun z=>(L c z).2.2.1 x c e rfl) y (I.fF x c e)
 . obtain⟨e,n,S,T,d⟩:=I.pin p F;have O:p.1∉ch:=fun z=>(L p.1 z).2.2.2 p F rfl;exact⟨M p.1 p.2 S T O e n,E p.1 p.2 O e n,S,T,d⟩
def Inv.un(I:Inv X pins σ H s)(u:Un X.fs [] H H' s.heap h')(k:gG X.prog X.w H' h'):Inv X pins σ H' {s with heap:=h',toks:=t'}:=by
 obtain⟨m,⟨o,P,v,x,r⟩,_⟩:=id I.loc;obtain⟨M,l⟩:=u.any x I.free 111;exact I.step (g':=s.gens) (d':=s.drawn) (ch:= []) (fun _ z=>nomatch z) (fun b o _ c _ e n=>u.keep b o e n c 111) (fun b o _ c _ e n=>u.slot b o e n c 111) (fun b o _ e n=>u.free b o e n 111) (fun b o _ e=>u.there b o e 111) u.jB u.kO u.lQ (fun N O=>by
  obtain⟨a,J,h,j,Y⟩:=O;rw[x] at j;cases j;exact⟨_,J,h,l,Y⟩) k I.bare
def Inv.call(I:Inv X pins σ H s)(u:Un (ik X.stack) ch H H' s.heap h')(l:gG X.prog X.w H' h')(f:AllBare g')(J: ∀b∈ch,(b∈X.ex\/X.s₀.heap.objs.size<=b)/\b≠X.env.locals/\(∀x c,X.env.cells.lookup x=some c->c≠b)/\ ∀p∈X.pn++pins,p.1≠b):
  Inv X pins σ H' {s with heap:=h',gens:=g',drawn:=d',toks:=t'}:=by
 obtain⟨m,⟨o,P,v,y,r⟩,_⟩:=id I.loc;obtain⟨M,k⟩:=u.any y I.free fun z=>(J _ z).2.1 rfl;exact I.step (ch:=ch) J (fun b o k d q e n=>u.keep b o e n (fun z=>(ad8.mp (I.wH b z)).elim k d) q) (fun b o _ _ q e n=>u.any e n q) (fun b o q e n=>u.free b o e n q) (fun b o q e=>u.there b o e q) u.jB u.kO u.lQ (fun N O=>by
  obtain⟨a,L,h,j,Y⟩:=O;rw[y] at j;cases j;exact⟨_,L,h,k,Y⟩) l f
def Inv.turned(I:Inv X pins σ H s)(k: ∀b o,b≠it->s.heap.get? b=some o->h'.get? b=some o)(W:H it=none)(l:it≠228)(d:it∈X.ex\/232<=it)(f: ∀x c,X.env.cells.lookup x=some c->c≠it)(C: ∀p∈X.pn++pins,p.1≠it):Inv X pins σ H {s with heap:=h',toks:=t'}:=by
 have P: ∀b u,H b=some u->b≠it:=fun b u e z=>by rw[z,W] at e;cases e
 refine I.step (g':=s.gens) (d':=s.drawn) (ch:= [it]) (fun b g=>?_) (fun b o _ _ t e _=>k b o (fun z=>t (by simp [z])) e) (fun b o _ _ t e _=>⟨o.slots,k b o (fun z=>t (by simp [z])) e⟩) (fun _ _ _ _ n=>n)
  (fun b o t e=>⟨o,k b o (fun z=>t (by simp [z])) e⟩) (fun _ _ e=>e) (fun _ _ _ e=>e) (fun b A e=>⟨#[],by rw[e];simp⟩) (fun m O=>?_) (fun b u e=>?_) I.bare
 . have e:b=it:=by simpa using g
   subst e;exact⟨d,l,f,C⟩
 . obtain⟨o,Q,w,y,r⟩:=O;exact⟨o,Q,w,k _ o (Ne.symm l) y,r⟩
 . refine(I.aQ b u e).gM (fun c v t q=>k c v ?_ q) (fun _ q=>q) fun _ _ q=>q;rcases t with z | z
   . rw[z];exact P b u e
   . exact P c _ z
def Inv.tok(I:Inv X pins σ H s)(t:Nat):Inv X pins σ H {s with toks:=t}:=I.un (h':=s.heap) (t':=t) Un.refl I.aQ
def Inv.kept(I:Inv X pins σ H s)(k: ∀b u,s.heap.get? b=some u->h'.get? b=some u):Inv X pins σ H {s with heap:=h',toks:=t'}:=I.un (Un.kept k) (I.aQ.kept k)
def Inv.laid(I:Inv X pins σ H s)(k: ∀b u,s.heap.get? b=some u->h'.get? b=some u)(B:s.heap.objs.size<=a)(p:aX X.prog X.w (upd H a o) h' a o):
  Inv X pins σ (upd H a o) {s with heap:=h',toks:=t'}:=I.un (Un.laid k B (I.aQ.fresh B)) (I.aQ.laid k B p)
def Inv.write(I:Inv X pins σ H s)(U:UG (H x))(y:e=x\/H e=some (.own x))(k: ∀b u,b≠e->s.heap.get? b=some u->h'.get? b=some u)(c: ∃u,h'.get? e=some u)(p:aX X.prog X.w (upd H x o) h' x o):Inv X pins σ (upd H x o) {s with heap:=h',toks:=t'}:=I.un (Un.write U y k c) (I.aQ.write U y k c p)
def Inv.weak{R:List (210 V)}(I:Inv X pins σ H s)(z:R.length=σ.length)(w: ∀(i:Nat) v,R[i]?=some (some v)->σ[i]?=some (some v)):Inv X pins R H s:=
 ⟨I.ok,I.os,I.bare,I.base,let ⟨m,hn,S2⟩:=I.loc;⟨m,hn,fun i x v j p y=>S2 i x v j (w i v p) y⟩,I.cell,I.free,I.fF,I.pin,I.aQ,z.trans I.len⟩
def Inv.zj(I:Inv X pins σ H s)(h: ∀p∈RU,s.heap.get? p.1=some p.2/\H p.1=none/\p.1≠228/\p.1∉X.fs/\ ∀v,p.2.data≠ .cell v):Inv X RU σ H s:=
 ⟨I.ok,I.os,I.bare,I.base,I.loc,I.cell,I.free,I.fF,fun p B=>(ad2.mp B).elim (fun z=>I.pin p (af5 _ z)) (h p),I.aQ,I.len⟩
def oz{N:List Str}(c:N.Nodup){i j:Nat}(a:N[i]?=some x)(b:N[j]?=some x):i=j:=by
 obtain⟨d,k⟩:=ac1.mp a;obtain⟨e,p⟩:=ac1.mp b;exact(List.getElem_inj c).mp (k.trans p.symm)
def qD(I:Inv X pins σ H s)(hN:236)(hi:X.N[i]?=some x)(D:Loc X.env.scope x)(r:RelV v u)(h: ∀s',Inv X pins (σ.set i (some v)) H s'->(∃a,Heap.SameBut a s.heap s'.heap/\(a=X.env.locals\/X.env.cells.lookup x=some a))->Q () s')(hf:X.fn x=true\/X.env.scope.names.lookup x=some .local:=by first | exact .inl rfl | exact .inr rfl | assumption):218 M A (storeName X.env x u) Q E s:=by
 obtain⟨m,W,hl⟩:=id I.loc;have xP:(X.env.scope.kind== .class || (X.env.scope.kind== .module && X.env.locals !=X.env.globals))=false:=by rw[I.ok.kind];rfl
 have JB:i < σ.length:=by rw[I.len];exact(ac1.mp hi).1
 have L:=I.Kt;have B: ∀{a:Addr} {h':Heap},(∃o,s.heap.get? a=some o/\H a=none)->Heap.SameBut a s.heap h'->gG X.prog X.w H h':=fun{a h'} ha t b ob e=>by
  obtain⟨_,_,mO⟩:=ha;refine(I.aQ b ob e).gM (fun c J C q=>(t.2 c ?_).trans q) (fun _ q=>q) fun _ _ q=>q;rintro rfl
  rcases C with rfl | C
  . rw[mO] at e;cases e
  . rw[mO] at C;cases C
 rcases D with G | G
 . refine wpAny_storeName_local G W (fun h' QH t=>?_) xP;obtain⟨oL,_,_,Z9,_⟩:=id W;refine h _ ⟨I.ok,I.os,I.bare,⟨fun b o e n f D=>?_,fun b o e n f D=>?_,I.base.free,fun b o e D=>?_,I.base.jB,I.base.kO,I.base.lQ⟩,⟨_,QH,fun j y v' l F P=>?_⟩,fun y c e=>?_,I.free,I.fF,fun p U=>?_,B ⟨oL,Z9,I.free⟩ t,by simpa using I.len⟩ ⟨_,t, .inl rfl⟩
   . exact(t.2 b (af1 (ae2 (ac5 e) I.ok.above))).trans (I.base.keep b o e n f D)
   . obtain⟨sl,l⟩:=I.base.slot b o e n f D;exact⟨sl,(t.2 b (af1 (ae2 (ac5 e) I.ok.above))).trans l⟩
   . obtain⟨Z,l⟩:=I.base.there b o e D;exact⟨Z,(t.2 b (af1 (ae2 (ac5 e) I.ok.above))).trans l⟩
   . by_cases g:j=i
     . subst g;rw[hi] at l;cases l;rw[ad5 JB] at F;cases F;exact⟨u,r,.inl ⟨G,by simp⟩⟩
     . rw[ac2 (Ne.symm g)] at F;obtain⟨u',r',q⟩:=hl j y v' l F P;refine⟨u',r',?_⟩;rcases q with ⟨k,e⟩ | ⟨k,c,e,z⟩
       . refine .inl ⟨k,?_⟩;have:y≠x:=fun e=>g (oz hN l (e▸hi));simp [this,e]
       . exact .inr ⟨k,c,e,z.sameBut t (L y c e)⟩
   . obtain⟨J,z⟩:=I.cell y c e;exact⟨J,z.sameBut t (L y c e)⟩
   . obtain⟨e,n,S,Y,d⟩:=I.pin p U;exact⟨(t.2 p.1 S).trans e,n,S,Y,d⟩
 . have O : X.fn x = true := by
     rcases hf with z | z
     . exact z
     . rw[z] at G;cases G
   obtain⟨c,C⟩:=I.ok.has x (.inl G);obtain⟨J,z⟩:=I.cell x c C;refine wpAny_storeName_cell I.ok.kind G C z (fun h' L5 t=>?_);obtain⟨oc,Vd,Xz⟩:=id z;refine h {s with heap:=h'} ⟨I.ok,I.os,I.bare,⟨fun b o e n f D=>?_,fun b o e n f D=>?_,I.base.free,fun b o e D=>?_,I.base.jB,I.base.kO,I.base.lQ⟩,⟨m,W.sameBut t (Ne.symm (L x c C)),fun j y v' l F P=>?_⟩,fun y T e=>?_,I.free,I.fF,fun p U=>?_,B ⟨oc,Vd,I.fF x c C⟩ t,by simpa using I.len⟩ ⟨c,t,.inr C⟩
   . exact(t.2 b (af1 (ae2 (ac5 e) (I.ok.QR x c O C)))).trans (I.base.keep b o e n f D)
   . obtain⟨sl,l⟩:=I.base.slot b o e n f D;exact⟨sl,(t.2 b (af1 (ae2 (ac5 e) (I.ok.QR x c O C)))).trans l⟩
   . obtain⟨Z,l⟩:=I.base.there b o e D;exact⟨Z,(t.2 b (af1 (ae2 (ac5 e) (I.ok.QR x c O C)))).trans l⟩
   . by_cases g:j=i
     . subst g;rw[hi] at l;cases l;rw[ad5 JB] at F;cases F;exact⟨u,r,.inr ⟨.inl G,c,C,L5⟩⟩
     . rw[ac2 (Ne.symm g)] at F;obtain⟨u',r',q⟩:=hl j y v' l F P;refine⟨u',r',?_⟩;rcases q with q | ⟨k,T,e,z'⟩
       . exact .inl q
       . refine .inr ⟨k,T,e,z'.sameBut t ?_⟩;rintro rfl
         exact g (oz hN l (I.ok.inj _ _ _ e C▸hi))
   . by_cases R:T=c
     . subst R;exact⟨_,L5⟩
     . obtain⟨w2,z2⟩:=I.cell y T e;exact⟨w2,z2.sameBut t R⟩
   . obtain⟨e,n,S,Y,d⟩:=I.pin p U;refine⟨(t.2 p.1 ?_).trans e,n,S,Y,d⟩;intro q;rw[q,Vd] at e;have q':oc=p.2:=215 e;exact d J (by rw[<-q'];exact Xz)
def cY(I:Inv X pins σ H s)(c:236)(hi:X.N[i]?=some x)(k:Loc X.env.scope x)(r:RelV v u)(h: ∀S,Inv X pins (σ.set i (some v)) H S->Q () S)(j:X.fn x=true\/X.env.scope.names.lookup x=some .local:=by first | exact .inl rfl | exact .inr rfl | assumption):218 M A (storeName X.env x u) Q E s:=
 qD I c hi k r (fun S J _=>h S J) j
def Inv.Ae{s':211}(I:Inv X pins σ H s)(y:s'.os=s.os)(u:Un (ik X.stack) ch H H' s.heap s'.heap)(k:gG X.prog X.w H' s'.heap)(d:AllBare s'.gens)(J: ∀b∈ch,(b∈X.ex\/232<=b)/\b≠228/\(∀x c,X.env.cells.lookup x=some c->c≠b)/\ ∀p∈X.pn++pins,p.1≠b):Inv X pins σ H' s':=by
 obtain⟨h',W,l,o,a⟩:=s';have e:a=s.os:=y;subst e;exact I.call (g':=W) (t':=o) (d':=l) u k d J
end
abbrev XK:=212->210 Addr->Hp->Prop
abbrev St:=List (210 V)
abbrev VK:=V->Hp->Prop
abbrev TE:=St->Hp->VK->Prop
abbrev TT:=St->Hp->(Bool->Hp->Prop)->Prop
abbrev TA:=St->Hp->(List V->Hp->Prop)->Prop
structure Ends where
 nx:St->Hp->Prop
 rt:VK
 bk:St->Hp->Prop:=fun _ _=>False
 ct:St->Hp->Prop:=fun _ _=>False
abbrev TS:=Ends->St->Hp->Prop
inductive EP(X:Cx)(pins:List 121)(σ:St)(Q:VK)(u:212)(s':211):Prop
 | mk (v:V) (H':Hp) (h1:Inv X pins σ H' s') (h2:RelV v u) (h3:Q v H')
inductive TP(X:Cx)(pins:List 121)(σ:St)(Q:Bool->Hp->Prop)(b:Bool)(s':211):Prop
 | mk (H':Hp) (h1:Inv X pins σ H' s') (h2:Q b H')
inductive AP(X:Cx)(pins:List 121)(σ:St)(Q:List V->Hp->Prop)(us:List 212)(s':211):Prop
 | mk (vs:List V) (H':Hp) (h1:Inv X pins σ H' s') (h2:Vals vs us) (h3:Q vs H')
inductive Uu(X:Cx)(pins:List 121)(P:St->Hp->Prop)(s':211):Prop
 | mk (σ':St) (H':Hp) (h1:Inv X pins σ' H' s') (h2:P σ' H')
inductive SPr(X:Cx)(pins:List 121)(P:VK)(u:212)(s':211):Prop
 | mk (v:V) (σ':St) (H':Hp) (h1:Inv X pins σ' H' s') (h2:RelV v u) (h3:P v H')
def SP(X:Cx)(a:List 121)(D:Ends)(f:Flow)(s':211):Prop:=
 match f with
 | .next=>Uu X a D.nx s'
 | .brk=>Uu X a D.bk s'
 | .cont=>Uu X a D.ct s'
 | .ret u=>SPr X a D.rt u s'
def PE(X:Cx)(e:Expr)(t:TE):Prop:=
 ∀(pins:List 121) (s:211) (σ:St) (H:Hp) (Q:VK),Inv X pins σ H s->t σ H Q->218 107 X.A (eval e 216) (EP X pins σ Q) X.xe s
def PT(X:Cx)(e:Expr)(t:TT):Prop:=
 ∀(pins:List 121) (s:211) (σ:St) (H:Hp) (Q:Bool->Hp->Prop),Inv X pins σ H s->t σ H Q->218 107 X.A (isTrue e X.env (eval e 216)) (TP X pins σ Q) X.xe s
def PW(X:Cx)(e:Expr)(t:TT):Prop:=
 ∀(whole:Sem 212) (pins:List 121) (s:211) (σ:St) (H:Hp) (Q:Bool->Hp->Prop),Inv X pins σ H s->t σ H Q->218 107 X.A (isTrue e X.env whole) (TP X pins σ Q) X.xe s
def PW.pt(h:PW X e t):PT X e t:=h _
def PA(X:Cx)(es:List Expr)(t:TA):Prop:=
 ∀(pos:Pos) (pins:List 121) (s:211) (σ:St) (H:Hp) (Q:List V->Hp->Prop),Inv X pins σ H s->t σ H Q->218 107 X.A (spliced 129) (AP X pins σ Q) X.xe s
def PS(X:Cx)(st:Stmt)(t:TS):Prop:=
 ∀(pins:List 121) (s:211) (σ:St) (H:Hp) (D:Ends),Inv X pins σ H s->t D σ H->218 107 X.A (exec st 216) (SP X pins D) X.xe s
def jw(X:Cx)(st:List Stmt)(t:TS):Prop:=
 ∀(pins:List 121) (s:211) (σ:St) (H:Hp) (D:Ends),Inv X pins σ H s->t D σ H->218 107 X.A (execs st 216) (SP X pins D) X.xe s
def aV(h:218 M A t Q E s)(W: ∀a s,Q a s->Q' a s):218 M A t Q' E s:=ae3 h W fun _ _ x=>x
section
variable{X:Cx}
def fg(i:Nat):TE:=fun b H Q=> ∃v,b[i]?=some (some v)/\Q v H
def tC(v:V):TE:=fun _ H Q=>Q v H
def Ej(d:X.N[i]?=some x)(w:Vv X.env.scope x)(hd:123=false:=by decide)(T:(x==("__classdict__":Str))=false:=by decide):PE X (.Name x pos) (fg i):=by
 intro a s b H Q I h;obtain⟨v,e,h⟩:=h;obtain⟨m,V,z⟩:=I.loc;obtain⟨u,r,l⟩:=z i x v d e w;have fin:EP X a b Q u s:=⟨v,H,I,r,h⟩
 rcases l with ⟨E,O⟩ | ⟨E,c,n,f⟩
 . exact wpAny_Name (wpAny_loadName_local I.ok.kind E V O fin) hd
 . rcases E with E | E
   . exact wpAny_Name (wpAny_loadName_cell I.ok.kind E n f fin) hd
   . exact wpAny_Name (wpAny_loadName_free I.ok.kind E n f fin T) hd
def ck{i j pos}:PE X (.Constant (.int i) j pos) (tC (.int i)):=fun _ _ _ H _ I h=>wpAny_Constant_int ⟨.int i,H,I.tok _,⟨_,rfl⟩,h⟩
def Et{b j pos}:PE X (.Constant (.bool b) j pos) (tC (.bl b)):=fun _ _ _ H _ I h=>Constant_bool ⟨.bl b,H,I,rfl,h⟩
def sF{j pos}:PE X (.Constant .none j pos) (tC .aO):=fun _ _ _ H _ I h=>Constant_none ⟨.aO,H,I,rfl,h⟩
def fZ{x j pos}:PE X (.Constant (.str x) j pos) (tC (.str x)):=fun _ _ _ H _ I h=>Calls.Constant_str ⟨.str x,H,I.tok _,⟨_,rfl⟩,h⟩
def Gl(X:Cx)(x:Str):Prop:=X.env.kindOf x=some .globalImplicit
def kB(I:Inv X pins σ H s)(b:Gl X x)(O:X.mg x=some u)(h:Q u s)(hd:123=false:=by decide):218 107 X.A (eval (.Name x pos) 216) Q E s:=
 Calls.Name_function_global I.ok.kind b (Calls.loadGlobal_global (by rw[I.ok.glob];exact I.mod.glob.keeps I.bk) O h) hd
def dj(I:Inv X pins σ H s)(b:Gl X x)(O:X.mg x=none)(v:227 x=some u)(h:Q u s)(V:x≠"__name__":=by decide)(hd:123=false:=by decide):218 107 X.A (eval (.Name x pos) 216) Q E s:=by
 obtain⟨P,d,e⟩:=I.mod.blt;exact Calls.Name_function_global I.ok.kind b (Calls.loadGlobal_builtin (by rw[I.ok.glob];exact I.mod.glob.keeps I.bk) O (by rw[I.ok.blt];exact d.keeps I.bk) ((e x V).trans v) h) hd
def eV(b:Gl X x)(O:X.mg x=some u)(r:RelV v u)(hd:123=false:=by decide):PE X (.Name x pos) (tC v):=
 fun _ _ _ H _ I h=>kB I b O ⟨v,H,I,r,h⟩ hd
def bj(b:Gl X x)(O:X.mg x=none)(w:227 x=some u)(r:RelV v u)(V:x≠"__name__":=by decide)(hd:123=false:=by decide):PE X (.Name x pos) (tC v):=
 fun _ _ _ H _ I h=>dj I b O w ⟨v,H,I,r,h⟩ V hd
variable{a b:Expr}{ta tb:TE}{pos:Pos}
def PC(X:Cx)(op:CmpOp)(a b:Expr)(t:TE):Prop:=
 ∀(pins:List 121) (s:211) (σ:St) (H:Hp) (Q:VK),Inv X pins σ H s->t σ H Q->
  218 107 X.A (eval a 216) (fun v R=>218 107 X.A (eval b 216) (fun u I=>218 107 X.A (compareOp op v u) (EP X pins σ Q) X.xe I) X.xe R) X.xe s
def uT(b:Expr)(h:op≠ .In)(e:op≠ .NotIn):behindInMarks op b=false:=by
 have j:(op==CmpOp.In)=false:=by cases op <;> first | rfl | exact 213 rfl h
 have p:(op==CmpOp.NotIn)=false:=by cases op <;> first | rfl | exact 213 rfl e
 cases b <;> simp [behindInMarks,j,p]
def Ro(ta:TE):TE:=fun c H Q=>ta c H fun x l=>Q (.bl (decide (x= .aO))) l
def K6(ta:TE):TE:=fun c H Q=>ta c H fun x l=>Q (.bl (!decide (x= .aO))) l
def RelV.uS(r:RelV x v):(v==221)=decide (x= .aO):=by
 cases x with
 | aO=>cases r;rfl
 | bl _=>cases r;rfl
 | int _=>obtain⟨t,rfl⟩:=r;rfl
 | str _=>obtain⟨t,rfl⟩:=r;rfl
 | Af _=>obtain⟨t,rfl⟩:=r;rfl
 | CC _=>obtain⟨t,rfl⟩:=r;rfl
 | ref _=>cases r;rfl
 | ty _=>cases r;rfl
def xi{j pos'}(f:PE X a ta):PC X .Is a (.Constant .none j pos') (Ro ta):=by
 intro c s d H Q I h;refine aV (f c s d H _ I h) fun v P Z=>?_;obtain⟨x,l,Y,w,t⟩:=Z;exact Constant_none (is_none_gen ⟨.bl _,l,Y,by rw[w.uS];rfl,t⟩)
def IG{j pos'}(f:PE X a ta):PC X .IsNot a (.Constant .none j pos') (K6 ta):=by
 intro c s d H Q I h;refine aV (f c s d H _ I h) fun v P N=>?_;obtain⟨x,l,Y,w,t⟩:=N;exact Constant_none (isnot_none_gen ⟨.bl _,l,Y,by rw[w.uS];rfl,t⟩)
def tB(t:TE):TT:=fun d H Q=>t d H fun x l=> ∃c,x= .bl c/\Q c l
def NX(h:PC X op a b t)(d:behindInMarks op b=false:=by first | exact uT _ 104 104 | rfl):PE X (.Compare a [op] [b] pos) t:=fun c s e H Q I z=>wpAny_Compare1 (h c s e H Q I z) d
def xa(h:PC X op a b t)(f:behindInMarks op b=false:=by first | exact uT _ 104 104 | rfl):PT X (.Compare a [op] [b] pos) (tB t):=by
 intro e s i H Q I z;refine wpAny_isTrue_Compare1 (aV (h e s i H _ I z) fun v P f=>aV f fun u A g=>aV g fun c j Z=>?_) f;obtain⟨x,l,Y,y,w⟩:=Z;obtain⟨d,rfl,q⟩:=w;cases y;exact al3 ⟨l,Y,q⟩
def w9(h:PE X e t)(y: ∀N,isTrue e X.env N=(do let v<-N;standAt e.pos;holding [v] (truthy v)):=by intro _;rfl):PT X e (tB t):=by
 intro c s f H Q I z;refine isTrue_plain (aV (h c s f H _ I z) fun v P C=>?_) (y _);obtain⟨x,l,Y,w,u⟩:=C;obtain⟨d,rfl,q⟩:=u;cases w;exact al3 ⟨l,Y,q⟩
variable{tA UY:TT}{rest:List Expr}
def WB(t u:TT):TT:=fun d H Q=>t d H fun c l=>if c=true then u d l Q else Q false l
def tOr(t u:TT):TT:=fun d H Q=>t d H fun c l=>if c=true then Q true l else u d l Q
def Wu(t:TT):TT:=fun d H Q=>t d H fun c l=>Q (!c) l
def pw_and1(f:PT X a tA):PW X (.BoolOp .And [a] pos) tA:=by
 intro R d s g H Q I h;refine isTrue_and (aV (f d s g H Q I h) fun c P e=>?_);cases c with
 | true=>exact isTrue_and_nil e
 | false=>exact e
def pw_or1(f:PT X a tA):PW X (.BoolOp .Or [a] pos) tA:=by
 intro R d s g H Q I h;refine isTrue_or (aV (f d s g H Q I h) fun c P e=>?_);cases c with
 | false=>exact isTrue_or_nil e
 | true=>exact e
def pw_and(f:PT X a tA)(g:PW X (.BoolOp .And (b::rest) pos) UY):PW X (.BoolOp .And (a::b::rest) pos) (WB tA UY):=by
 intro R d s e H Q I h;refine isTrue_and (aV (f d s e H _ I h) fun c P W=>?_);obtain⟨l,Y,t⟩:=W;cases c with
 | true=>exact g R d P e l Q Y t
 | false=>exact⟨l,Y,t⟩
def pw_or(f:PT X a tA)(g:PW X (.BoolOp .Or (b::rest) pos) UY):PW X (.BoolOp .Or (a::b::rest) pos) (tOr tA UY):=by
 intro S d s e H Q I h;refine isTrue_or (aV (f d s e H _ I h) fun c P R=>?_);obtain⟨l,Y,t⟩:=R;cases c with
 | true=>exact⟨l,Y,t⟩
 | false=>exact g S d P e l Q Y t
def D4(f:PT X a tA):PT X (.UnaryOp .Not a pos) (Wu tA):=by
 intro d s e H Q I h;refine isTrue_not (ae3 (f d s e H (fun c l=>Q (!c) l) I h) (fun c S z=>?_) fun _ _ z=>z);obtain⟨r,J,q⟩:=z;exact⟨r,J,q⟩
def Rr(ta tb:TE):TE:=fun d H Q=>ta d H fun x l=> ∃c,x= .bl c/\if c=true then tb d l Q else Q (.bl false) l
def Rk(ta:TE):TE:=fun d H Q=>ta d H fun x l=> ∃c,x= .bl c/\Q (.bl (!c)) l
def NV{op}(h:PE X a t):PE X (.BoolOp op [a] pos) t:=fun c s d H Q I z=>BoolOp_one (h c s d H Q I z)
def NY(f:PE X a ta)(g:PE X (.BoolOp .And (b::rest) pos) tb):PE X (.BoolOp .And (a::b::rest) pos) (Rr ta tb):=by
 intro d s e H Q I h;refine BoolOp_and (aV (f d s e H _ I h) fun v P Z=>?_);obtain⟨x,l,Y,w,t⟩:=Z;obtain⟨c,rfl,t⟩:=t;cases w;refine al3 ?_;cases c with
 | true=>exact g d P e l Q Y t
 | false=>exact⟨.bl false,l,Y,rfl,t⟩
def NW(f:PE X a ta):PE X (.UnaryOp .Not a pos) (Rk ta):=by
 intro d s e H Q I h;refine UnaryOp_ (aV (f d s e H _ I h) fun v P L=>?_);obtain⟨x,l,Y,w,t⟩:=L;obtain⟨c,rfl,t⟩:=t;cases w;exact not_of (al3 ⟨.bl (!c),l,Y,rfl,t⟩)
def tIf(t:TT)(ta tb:TE):TE:=fun d H Q=>t d H fun c l=>if c=true then ta d l Q else tb d l Q
def uN(m:PT X c tA)(g:PE X a ta)(i:PE X b tb):PE X (.IfExp c a b pos) (tIf tA ta tb):=by
 intro e s f H Q I h;refine wpAny_IfExp (aV (m e s f H _ I h) fun d P j=>?_);obtain⟨l,Y,t⟩:=j;cases d with
 | true=>exact g e P f l Q Y t
 | false=>exact i e P f l Q Y t
end
def dr(K:207)(H:Hp)(a:Addr)(xs:List V):Prop:=
 Rd H a (.lst xs)\/
  ∃(o:Obj) (aq:Array 212) (n:Nat),K.lookup a=some o/\o.cls= .type "list"/\o.dict=none/\o.data= .seq aq n/\aq.size<=208/\Vals xs aq.toList
def dH(K:207)(H:Hp)(a:Addr)(xs:List V):Prop:=
 Rd H a (.tup xs)\/
  ∃(o:Obj) (aq:Array 212) (n:Nat),K.lookup a=some o/\o.cls= .type "tuple"/\o.data= .seq aq n/\aq.size<=208/\Vals xs aq.toList
def KG:212->210 V
 | .none=>some .aO
 | .bool b=>some (.bl b)
 | .int i _=>some (.int i)
 | .str x _=>some (.str x)
 | .bytes b _=>some (.Af b)
 | .float b _=>some (.CC b)
 | .ref a=>some 190
 | .type n=>some (.ty n)
 | _=>none
def RelV.abs(r:RelV x u):KG u=some x:=by
 cases x with
 | aO=>cases r;rfl
 | bl _=>cases r;rfl
 | int _=>obtain⟨t,rfl⟩:=r;rfl
 | str _=>obtain⟨t,rfl⟩:=r;rfl
 | Af _=>obtain⟨t,rfl⟩:=r;rfl
 | CC _=>obtain⟨t,rfl⟩:=r;rfl
 | ref _=>cases r;rfl
 | ty _=>cases r;rfl
def RelV.inj(r:RelV x u)(q:RelV y u):x=y:=215 (r.abs.symm.trans q.abs)
def Vals.inj: ∀{xs ys:List V} {us:List 212},Vals xs us->Vals ys us->xs=ys
 | _,_,_,.nil,.nil=>rfl
 | _,_,_,.cons r t,.cons r' t'=>by rw[r.inj r',Vals.inj t t']
def dr.of{K:207}(h:H a=some (.lst xs)):dr K H a xs:= .inl (.inl h)
def dH.of{K:207}(h:H a=some (.tup xs)):dH K H a xs:= .inl (.inl h)
def Inv.list(I:Inv X pins σ H s)(h:dr X.K H a xs): ∃v:List 212,Vals xs v/\PlainL s.heap a v.toArray/\220<=sizeLine:=by
 rcases h with h | ⟨o,v,n,E,m,D,p,f,r⟩
 . obtain⟨z,v,n,r,e⟩:=h.ok I.aQ;exact⟨v,r,⟨_,n,e,rfl,rfl,rfl⟩,z⟩
 . refine⟨v.toList,r,⟨o,n,I.l7 a o E,m,D,by simpa using p⟩,?_⟩;have e:=r.length;simp only [ac7] at e;lia
def Inv.tuple(I:Inv X pins σ H s)(h:dH X.K H a xs): ∃v:List 212,Vals xs v/\IsTup s.heap a v.toArray/\220<=sizeLine:=by
 rcases h with h | ⟨o,v,n,E,m,q,f,r⟩
 . obtain⟨z,v,r,p⟩:=h.ok I.aQ;exact⟨v,r,p.tup,z⟩
 . refine⟨v.toList,r,⟨o,I.l7 a o E,m,n,by simpa using q⟩,?_⟩;have e:=r.length;simp only [ac7] at e;lia
def Inv.EV(I:Inv X pins σ H s)(h:dr X.K H a xs)(h':dr X.K H a ys):xs=ys:=by
 obtain⟨v,r,⟨o,n,e,_,_,d⟩,_⟩:=I.list h;obtain⟨M,Y,⟨b,U,J,_,_,l⟩,_⟩:=I.list h';rw[e] at J;cases J;rw[d] at l;injection l with d1 _
 have:v=M:=by simpa using ah4 Array.toList d1
 subst this;exact r.inj Y
def Inv.qw(I:Inv X pins σ H s)(h:dH X.K H a xs)(h':dH X.K H a ys):xs=ys:=by
 obtain⟨v,r,⟨o,e,_,n,d⟩,_⟩:=I.tuple h;obtain⟨M,Y,⟨b,J,_,U,l⟩,_⟩:=I.tuple h';rw[e] at J;cases J;rw[d] at l;injection l with d1 _
 have:v=M:=by simpa using ah4 Array.toList d1
 subst this;exact r.inj Y
noncomputable abbrev Cx.nP (X:Cx) (E:212->211->Prop):Cx:={X with xe:=E}
noncomputable abbrev Cx.EM (X:Cx):Cx:=X.nP fun _ _=>False
def Cx.Ok.nP{X:Cx}(l:X.Ok)(E:212->211->Prop):(X.nP E).Ok:=
 ⟨l.mod,l.kind,l.glob,l.blt,l.above,l.inj,l.has,l.QR,l.hd,l.frames,l.Ru,l.JQ,l.bs,l.Hn,l.Bc,l.vA,l.kM,l.L8⟩
def Cx.Ok.gL{X:Cx}(l:(X.nP E).Ok):X.Ok:=
 ⟨l.mod,l.kind,l.glob,l.blt,l.above,l.inj,l.has,l.QR,l.hd,l.frames,l.Ru,l.JQ,l.bs,l.Hn,l.Bc,l.vA,l.kM,l.L8⟩
def Inv.nP(I:Inv X pins σ H s)(E:212->211->Prop):Inv (X.nP E) pins σ H s:=⟨I.ok.nP E,I.os,I.bare,I.base,I.loc,I.cell,I.free,I.fF,I.pin,I.aQ,I.len⟩
def Inv.gL(I:Inv (X.nP E) pins σ H s):Inv X pins σ H s:=⟨I.ok.gL,I.os,I.bare,I.base,I.loc,I.cell,I.free,I.fF,I.pin,I.aQ,I.len⟩
def SP.gL(h:SP (X.nP E) pins D f s'):SP X pins D f s':=by
 cases f with
 | next=>obtain⟨R,s,I,q⟩:=h;exact⟨R,s,I.gL,q⟩
 | brk=>obtain⟨R,s,I,q⟩:=h;exact⟨R,s,I.gL,q⟩
 | cont=>obtain⟨R,s,I,q⟩:=h;exact⟨R,s,I.gL,q⟩
 | ret u=>obtain⟨v,R,s,I,r,q⟩:=h;exact⟨v,R,s,I.gL,r,q⟩
def jw.EM{st:List Stmt}(h:jw X.EM st t):jw X st t:=fun a s b H D I A=>
 ae3 (h a s b H D (I.nP _) A) (fun _ _ q=>q.gL) fun _ _ z=>False.elim z
section
variable{X:Cx}{st:Stmt}{rest:List Stmt}{t u:TS}{e:Expr}{te:TE}{pos:Pos}
def Rl:TS:=fun D b H=>D.nx b H
def Wn(t u:TS):TS:=fun D b H=>t {D with nx:=u D} b H
def ko:jw X [] Rl:=fun _ _ b H _ I h=>ar8 ⟨b,H,I,h⟩
def bf(d:PS X st t)(g:jw X rest u):jw X (st::rest) (Wn t u):=by
 intro a s b H D I h;refine wpAny_execs_cons (aV (d a s b H {D with nx:=u D} I h) fun f P q=>?_);cases f with
 | next=>
  obtain⟨R,r,J,q⟩:=q;exact g a P R r D J q
 | ret v=>exact q
 | brk=>exact q
 | cont=>exact q
def dQ(d:PS X st t):jw X [st] t:=by
 intro a s b H D I h;refine wpAny_execs_cons (aV (d a s b H D I h) fun f P q=>?_);cases f with
 | next=>exact ar8 q
 | ret v=>exact q
 | brk=>exact q
 | cont=>exact q
def Inv.quiet(I:Inv X pins σ H s):interactive 216=false:=by simp [interactive,I.ok.kind]
def Rp(te:TE):TS:=fun D b H=>te b H fun _ l=>D.nx b l
def Ir(y:PE X e te)(n:swapsWith e none pos.line 216=pure false:=by rfl):PS X (.Expr e pos) (Rp te):=by
 intro a s b H D I h;exact wpAny_Expr_any (aV (y a s b H _ I h) fun v P S=>(by obtain⟨x,l,Y,z,w⟩:=S;exact(⟨b,l,Y,w⟩))) I.quiet n
def Wq(te:TE):TS:=fun D b H=>te b H D.rt
def lV(y:PE X e te):PS X (.Return (some e) pos) (Wq te):=by
 intro a s b H D I h;exact wpAny_Return_some (aV (y a s b H _ I h) fun v P T=>(by obtain⟨x,l,Y,z,w⟩:=T;exact(⟨x,b,l,Y,z,w⟩)))
def Ww(c:TT)(t u:TS):TS:=fun D d H=>c d H fun b l=>if b=true then t D d l else u D d l
def uI(m:PT X c tc)(i:jw X a t)(j:jw X b u):PS X (.If c a b pos) (Ww tc t u):=by
 intro f s g H D I h;refine wpAny_If (aV (m f s g H _ I h) fun d P U=>?_);obtain⟨l,Y,v⟩:=U;cases d with
 | true=>exact i f P g l D Y v
 | false=>exact j f P g l D Y v
end
abbrev TG:=V->St->Hp->(St->Hp->Prop)->Prop
abbrev MI:=List V->St->Hp->(St->Hp->Prop)->Prop
def PG(X:Cx)(i:Expr)(t:TG):Prop:=
 ∀(pins:List 121) (s:211) (σ:St) (H:Hp) (v:V) (u:212) (Q:St->Hp->Prop),Inv X pins σ H s->RelV v u->t v σ H Q->
  218 107 X.A (assign i X.env u) (fun _ S=>Uu X pins Q S) X.xe s
def Uw(X:Cx)(ts:List Expr)(t:MI):Prop:=
 ∀(pins:List 121) (s:211) (σ:St) (H:Hp) (vs:List V) (us:List 212) (Q:St->Hp->Prop),Inv X pins σ H s->Vals vs us->t vs σ H Q->
  218 107 X.A (assignInOrder ((222 ts 216).map (·.2)) us) (fun _ S=>Uu X pins Q S) X.xe s
abbrev Ut:=V->V->V->Hp->(Hp->Prop)->Prop
def Uv(X:Cx)(t:Ut):Prop:=
 ∀(pins:List 121) (s:211) (σ:St) (H:Hp) (o i v:V) (ov iv u:212) (Q:Hp->Prop),Inv X pins σ H s->RelV o ov->RelV i iv->RelV v u->t o i v H Q->
  218 107 X.A (setItem ov iv u) (fun _ S=> ∃q,Inv X pins σ q S/\Q q) X.xe s
section
variable{X:Cx}{pos:Pos}
def bY(i:Nat):TG:=fun v b H Q=>Q (b.set i (some v)) H
def az(c:236)(hi:X.N[i]?=some x)(k:Loc X.env.scope x)(j:X.fn x=true\/X.env.scope.names.lookup x=some .local:=by first | exact .inl rfl | exact .inr rfl | assumption):PG X (.Name x pos) (bY i):=by
 intro a s b H v u Q I r h;exact wpAny_assign_Name (cY I c hi k r (fun S J=>⟨_,H,J,h⟩) j)
def vp:MI:=fun u b H Q=>u= []/\Q b H
def eJ(t:TG)(u:MI):MI:=fun w b H Q=> ∃v r,w=v::r/\t v b H fun R q=>u r R q Q
def bO:Uw X [] vp:=by
 intro a s b H u Y Q I r h;obtain⟨e,h⟩:=h;subst e;cases r;exact assignInOrder_nil ⟨b,H,I,h⟩
def aH(d:PG X e t)(f:Uw X es u)(n:(222 (e::es) 216).map (·.2)=assign e 216::(222 es 216).map (·.2):=by rfl):Uw X (e::es) (eJ t u):=by
 intro a s b H x Z Q I r h;obtain⟨v,q,j,h⟩:=h;subst j;cases r with
 | cons r rr=>
  rw[n];refine ao8 (aV (d a s b H _ _ _ I r h) fun _ P V=>?_);obtain⟨S,l,Y,w⟩:=V;exact f a P S l _ _ Q Y rr w
def BH(K:207)(n:Nat)(t:MI):TG:=fun v b H Q=> ∃a g,v= .ref a/\dH K H a g/\g.length=n/\t g b H Q
def cM(m:X.calm=true)(h:Uw X es t)(V:(222 es 216).length=n:=by rfl)(R:(222 es 216).findIdx? (·.1)=none:=by rfl):PG X (.Tuple es k pos) (BH X.K n t):=by
 intro c s d H v u Q I r z;obtain⟨a,g,j,U,A,z⟩:=z;subst j;cases r;obtain⟨x,F,Z,f⟩:=I.tuple U;refine assign_Tuple_tuple (I.ok.hd m) Z (by simp [V,<-A,F.length]) R fun w i=>?_;have Y:Inv X c d H {s with heap:=w}:=I.kept (t':=235) fun b o e=>i b o (af1 (ac5 e)) e;exact h c _ d H g _ Q Y (by simpa using F) z
def Yj(W R:TE)(t:Ut):TG:=fun v b H Q=>W b H fun o l=>R b l fun i J=>t o i v J fun O=>Q b O
def NS (z : PE X o to) (hi : PE X i ti) (n : Uv X t) (g : ∀ v, assign (.Subscript o i pos) X.env v = (do
   let T<-holding [v] (eval o 216)
   let F<-holding [v,T] (eval i 216)
   standAt pos
   holding [v,T,F] (setItem T F v)
   release [v,T,F] []):=by intro _;rfl):PG X (.Subscript o i pos) (Yj to ti t):=by
 intro a s b H v u Q I r h;rw[g];refine aa8 (af6 (aV (z a s b H _ I h) fun T P R=>?_));obtain⟨x,l,Z,A,w⟩:=R;refine aa8 (af6 (aV (hi a P b l _ Z w) fun F B k=>?_));obtain⟨y,J,f,j,e⟩:=k;refine aa8 (ah1 (aa8 (af6 (aV (n a B b J x y v T F u _ f A j r e) fun _ c Y=>?_))));obtain⟨O,D,C⟩:=Y;exact wpAny_release ⟨b,O,D,C⟩
def Dm(v:TE)(g:TG):TS:=fun D b H=>v b H fun x l=>g x b l D.nx
def xf(y:PE X e te)(c:PG X tg g)(n:swapsWithSole [tg] e pos.line 216=pure false:=by rfl)(z:swappedStores [tg] e 216=pure none:=by rfl)(d:(222 [tg] 216).map (·.2)= [assign tg 216]:=by rfl):PS X (.Assign [tg] e pos) (Dm te g):=by
 intro a s b H D I h;refine wpAny_Assign_stores (aV (y a s b H _ I h) fun v P i=>?_) n z;obtain⟨x,l,Y,w,t⟩:=i;rw[d];exact aV (c a P b l x v _ Y w t) fun _ u q=>q
def df(c:X.N.Nodup)(hi:X.N[i]?=some x)(m:Loc X.env.scope x)(z:PE X e te)(n:swapsWith e (some (.Name x pos')) pos.line X.env=pure false:=by rfl)(k:X.fn x=true\/X.env.scope.names.lookup x=some .local:=by first | exact .inl rfl | exact .inr rfl | assumption):
  PS X (.Assign [.Name x pos'] e pos) (Dm te (bY i)):=by
 intro a s b H D I h;refine wpAny_Assign_Name (aV (z a s b H _ I h) fun v P j=>?_) n;obtain⟨y,l,Y,w,t⟩:=j;exact cY Y c hi m w (fun u f=>⟨_,l,f,t⟩) k
def Wt(i j:Nat)(Y:TA):TS:=fun D b H=>Y b H fun u l=> ∃v w,u= [v,w]/\D.nx ((b.set i (some v)).set j (some w)) l
def NO{kt k2 xb}(G:X.calm=true)(d:X.N.Nodup)(hi:X.N[i]?=some x)(L:X.N[j]?=some y)(z:i≠j)(k:X.env.scope.names.lookup x=some .local)(r:X.env.scope.names.lookup y=some .local)(F:PA X [a,b] ta)(O:swappedStores [.Tuple [.Name x px, .Name y py] kt pt] (.Tuple [a,b] k2 xb) X.env=pure (some [x,y]))(M:swapsWithSole [.Tuple [.Name x px, .Name y py] kt pt] (.Tuple [a,b] k2 xb) pos.line X.env=pure false:=by rfl):
  PS X (.Assign [.Tuple [.Name x px,.Name y py] kt pt] (.Tuple [a,b] k2 xb) pos) (Wt i j ta):=by
 intro c s f H D I h;rw[exec_Assign_arm];refine aa8 (ah1 ?_);rw[M];refine aa8 204;rw[if_neg 104];refine aa8 (Tuple_ (aV (F _ c s f H _ I h) fun T P Y=>?_));obtain⟨vs,l,Z,Q,t⟩:=Y;obtain⟨v,w,B,t⟩:=t;subst B;obtain⟨J,U,rfl,R,S⟩: ∃J U,T= [J,U]/\RelV v J/\RelV w U:=by
  cases Q with
  | cons p q=>
   cases q with
   | cons p' q'=>
    cases q';exact⟨_,_,rfl,p,p'⟩
 refine ag2 ?_ (by show 2<=208;decide);have g:Inv X c f l {P with heap:=P.heap.push {cls:= .type "tuple",data:= .seq [J,U].toArray}}:=Z.kept (t':=P.toks) fun b o e=>ab1 _ e;rw[O];refine aa8 204;show 218 107 X.A (do rule "assign.swapped-stores";let m<-unpackItems (.ref 239) 2 none;assignInOrder [fun v=>bindName X.env y v,fun v=>bindName X.env x v] m.reverse;pure Flow.next) _ _ _;refine aa8 (ak3 (aa8 (unpackItems_tuple (items:= #[J,U]) (I.ok.hd G) (IsTup.new P.heap _) fun C V=>?_)));have E:=g.kept (h':=C) (t':=P.toks) fun b o e=>V b o (af1 (ac5 e)) e;show 218 _ _ (assignInOrder [fun v=>bindName X.env y v,fun v=>bindName X.env x v] [U,J] >>=fun _=>pure Flow.next) _ _ _;refine aa8 (ao8 (av3 (cY E d L (.inl r) S (fun W u=>?_) (.inr r))));refine ao8 (av3 (cY u d hi (.inl k) R (fun s3 n=>assignInOrder_nil 204) (.inr k)));rw[List.set_comm _ _ (Ne.symm z)] at n;exact⟨_,l,n,t⟩
end
section
variable{X:Cx}{pos:Pos}
def Nj(c:TT)(Y:TS):TS:=fun D d H=> ∃W:Nat->St->Hp->Prop,(∃m,W m d H)/\ ∀m d H,W m d H->
 c d H fun b l=>if b=true then∃N:St->Hp->Prop,(∀R q,N R q-> ∃O,O < m/\W O R q)/\Y {D with nx:=N,ct:=N,bk:=D.nx} d l else D.nx d l
def D5(B:PassesOwn 107 X.A X.env X.xe)(m:PT X c tc)(k:jw X body tb):PS X (.While c body [] pos) (Nj tc tb):=by
 intro a s u H D I h;obtain⟨W,⟨o,p⟩,turn⟩:=h;refine wpAny_While (codeAny_whileLoop (fun n V=> ∃R q,Inv X a R q V/\W n R q) ?_ o ⟨u,H,I,p⟩);rintro n Z ⟨S,l,Y,r⟩
 refine ap2 B (aV (m a Z S l _ Y (turn n S l r)) fun b t U=>?_);obtain⟨J,i,e⟩:=U;cases b with
 | true=>
  obtain⟨N,d,e⟩:=e;rw[if_pos rfl];refine ap2 B (aV (k a t S J _ i e) fun f x C=>?_);cases f with
  | next=>
   obtain⟨O,P,E,g⟩:=C;obtain⟨T,Q,j⟩:=d O P g;exact⟨T,Q,O,P,E,j⟩
  | cont=>
   obtain⟨O,P,E,g⟩:=C;obtain⟨T,Q,j⟩:=d O P g;exact⟨T,Q,O,P,E,j⟩
  | brk=>exact C
  | ret v=>exact C
 | false=>
  rw[if_neg ab9];exact ar8 ⟨S,J,i,e⟩
end
structure It where
 go:Nat->Hp->Prop
 wy:Nat->Hp->V->Hp->Prop
 stop:Nat->Hp->Prop
def dZ(X:Cx)(a:List 121)(H:Hp)(b:Addr):Prop:=
 H b=none/\b≠228/\b∉X.fs/\(b∈X.ex\/232<=b)/\(∀x c,X.env.cells.lookup x=some c->c≠b)/\ ∀p∈X.pn++a,p.1≠b
def Inv.vt(I:Inv X pins σ H s)(d:205<=b)(V:H' b=none):dZ X pins H' b:=by
 refine⟨V,ao6 (ae2 I.lt d),I.W4 d,.inr (ad9 I.sz d),fun x c e z=>?_,fun p B z=>?_⟩
 . obtain⟨v,q⟩:=I.cell x c e;exact 213 (ae2 q.lt (by rw[z];exact d)) (af7 _)
 . exact 213 (ae2 (ac5 (I.pin p B).1) (by rw[z];exact d)) (af7 _)
structure Turn(P:214)(w:237)(K:207)(tg:Expr)(J:It)(fp:List Addr)(it:Addr)(tn:Nat->Heap->Prop):Prop where
 mem:it∈fp
 obj: ∀i h,tn i h-> ∀b∈fp,∃o,h.get? b=some o/\ ∀v,o.data≠ .cell v
 keep: ∀i h h',tn i h->(∀b∈fp,∀o,h.get? b=some o->h'.get? b=some o)->tn i h'
 item: ∀(X:Cx),X.prog=P->X.w=w->X.K=K->X.calm=true-> ∀(i:Nat) (pins:List 121) (s:211) (σ:St) (H:Hp) (E:212->211->Prop),Inv X pins σ H s->(∀b∈fp,dZ X pins H b)->tn i s.heap->J.go i H->
  218 (model P w) X.A (pyNext (.ref it)) (fun r s1=> ∃u,r=some u/\
   218 (model P w) X.A (letOwnedTupleGo tg (.ref it) u) (fun _ s2=> ∃x H',Inv X pins σ H' s2/\RelV x u/\J.wy i H x H'/\tn (i+1) s2.heap/\ ∀b∈fp,H' b=none) E s1) E s
 done: ∀(X:Cx),X.prog=P->X.w=w->X.K=K->X.calm=true-> ∀(i:Nat) (pins:List 121) (s:211) (σ:St) (H:Hp) (E:212->211->Prop),Inv X pins σ H s->(∀b∈fp,dZ X pins H b)->tn i s.heap->J.stop i H->
  218 (model P w) X.A (pyNext (.ref it)) (fun r s1=>r=none/\Inv X pins σ H s1) E s
 self: ∀(A:244) (i:Nat) (s:211) (Q:212->211->Prop) (E:212->211->Prop),tn i s.heap->Q (.ref it) s->218 (model P w) A (pyIter (.ref it)) Q E s
abbrev TI:=St->Hp->(It->Hp->Prop)->Prop
def Vz(X:Cx)(a:List 121)(c:St)(tg:Expr)(R:It->Hp->Prop)(g:212)(t:211):Prop:=
 ∃(it:Addr) (fp:List Addr) (tn:Nat->Heap->Prop) (J:It) (H':Hp),g= .ref it/\Inv X a c H' t/\Turn X.prog X.w X.K tg J fp it tn/\tn 0 t.heap/\(∀b∈fp,dZ X a H' b)/\R J H'
def PI(X:Cx)(tg iter:Expr)(k:TI):Prop:=
 ∀(pins:List 121) (s:211) (σ:St) (H:Hp) (R:It->Hp->Prop),Inv X pins σ H s->k σ H R->
  218 107 X.A (eval iter 216) (fun v P=>218 107 X.A (pyIter v) (Vz X pins σ tg R) X.xe P) X.xe s
def FF{s:211}(x:s.heap.get? it=some o)(m:o.cls= .type n)(hd:o.data= .fields vs)(V: ["enumerate","zip","dict_itemiterator","dict_reverseitemiterator","odict_iterator","itertools.zip_longest","itertools.pairwise"].contains n=false)(W:Q () s):218 M A (letOwnedTupleGo tg (.ref it) u) Q E s:=by
 unfold letOwnedTupleGo;cases tg <;> first
  | exact ab0 W
  | (cases u <;> first
    | exact ab0 W
    | (refine aa8 (wpAny_load x ?_)
       rw[m,hd];show 218 M A (if (["enumerate","zip","dict_itemiterator","dict_reverseitemiterator","odict_iterator","itertools.zip_longest","itertools.pairwise"].contains n && vs[0]?==some (rawInt _))=true then _ else _) Q E s;rw[if_neg (by intro h;rw[V,Bool.false_and] at h;cases h)];exact ab0 W))
def Zq(K:207)(a:Addr):It:=
 ⟨fun i H=> ∃g x,dr K H a g/\g[i]?=some x,fun i H x q=>q=H/\ ∀g,dr K H a g->g[i]?=some x,fun i H=> ∃g,dr K H a g/\g.length<=i⟩
def Zp(K:207)(a:Addr):It:=
 ⟨fun i H=> ∃g x,dH K H a g/\g[i]?=some x,fun i H x q=>q=H/\ ∀g,dH K H a g->g[i]?=some x,fun i H=> ∃g,dH K H a g/\g.length<=i⟩
def UI(L:Int)(n:Nat):It:=⟨fun i _=>i < n,fun i H x q=>q=H/\x= .int (L+i),fun i _=>n<=i⟩
def AB{P:214}{w:237}{K:207}{tg:Expr}(a Z:Addr):Turn P w K tg (Zq K a) [Z] Z (fun i h=>h.IsListIter Z a i) where
 mem:=by simp
 obj:=fun i h q b g=>by
  have e:b=Z:=by simpa using g
  subst e;obtain⟨o,e,c,d⟩:=q;exact⟨o,e,fun v z=>by rw[d] at z;cases z⟩
 keep:=fun i h r q k=>q.at fun o e=>k Z 111 o e
 item:=by
  intro X L B n G i f s M H E I j q A;subst L B n;obtain⟨xs,x,U,C⟩:=A;obtain⟨N,F,p,T⟩:=I.list U;obtain⟨u,R,V⟩:=F.get C;obtain⟨l,m,Q,J,t,y⟩:=j Z 111;refine wpAny_pyNext_list_item q p.isList (x:=u) (by simpa using R) fun r D sb=>?_;have Y:Inv X f M H {s with heap:=r}:=I.turned (t':=235) (fun b o g e=>(sb.2 b g).trans e) l m J t y;obtain⟨o,e,c,d⟩:=id D;exact⟨u,rfl,FF (s:={s with heap:=r}) e c d 104 ⟨x,H,Y,V,⟨rfl,fun ys S=>by rw[I.EV S U];exact C⟩,D,fun b g=>(j b g).1⟩⟩
 done:=by
  intro X L B n G i f s M H E I j q A;subst L B n;obtain⟨xs,U,C⟩:=A;obtain⟨N,F,p,T⟩:=I.list U;obtain⟨l,m,Q,J,t,y⟩:=j Z 111;have hl:=F.length;exact wpAny_pyNext_list_end (I.ok.hd G) q p.isList (by simp;lia) fun r O=>⟨rfl,I.turned (t':=235) (fun b o g e=>O b o g e) l m J t y⟩
 self:=fun _ _ _ _ _ q h=>wpAny_pyIter_listiter q h
def wC{P:214}{w:237}{K:207}{tg:Expr}(a Z:Addr):Turn P w K tg (Zp K a) [Z] Z (fun i h=>h.IsTupleIter Z a i) where
 mem:=by simp
 obj:=fun i h q b g=>by
  have e:b=Z:=by simpa using g
  subst e;obtain⟨o,e,c,d⟩:=q;exact⟨o,e,fun v z=>by rw[d] at z;cases z⟩
 keep:=fun i h r q k=>q.at fun o e=>k Z 111 o e
 item:=by
  intro X L C n M i f s N H E I j q B;subst L C n;obtain⟨xs,x,U,D⟩:=B;obtain⟨y,F,p,T⟩:=I.tuple U;obtain⟨u,R,V⟩:=F.get D;obtain⟨l,m,Q,J,t,A⟩:=j Z 111;refine wpAny_pyNext_tuple_item q (show s.heap.IsTuple a y.toArray from p) (x:=u) (by simpa using R) fun r G sb=>?_;have Y:Inv X f N H {s with heap:=r}:=I.turned (t':=235) (fun b o g e=>(sb.2 b g).trans e) l m J t A;obtain⟨o,e,c,d⟩:=id G;exact⟨u,rfl,FF (s:={s with heap:=r}) e c d 104 ⟨x,H,Y,V,⟨rfl,fun ys S=>by rw[I.qw S U];exact D⟩,G,fun b g=>(j b g).1⟩⟩
 done:=by
  intro X L C n M i f s N H E I j q B;subst L C n;obtain⟨xs,U,D⟩:=B;obtain⟨y,F,p,T⟩:=I.tuple U;obtain⟨l,m,Q,J,t,A⟩:=j Z 111;have hl:=F.length;exact wpAny_pyNext_tuple_end (I.ok.hd M) q (show s.heap.IsTuple a y.toArray from p) (by simp;lia) fun r O=>⟨rfl,I.turned (t':=235) (fun b o g e=>O b o g e) l m J t A⟩
 self:=fun _ _ _ _ _ q h=>wpAny_pyIter_tupleiter q h
def wD{P:214}{w:237}{K:207}{tg:Expr}(Z:Addr)(L:Int)(n:Nat):Turn P w K tg (UI L n) [Z] Z (fun i h=>IsRangeIter h Z (L+(i:Nat)*1) ((n:Int) - (i:Nat)) 1) where
 mem:=by simp
 obj:=fun i h p b c=>by
  have e:b=Z:=by simpa using c
  subst e;exact⟨_,p,fun v z=>by
   have V:Data.fields _=Data.cell v:=z;cases V⟩
 keep:=fun i h r p k=>k Z 111 _ p
 item:=by
  intro X M A f m i a s u H E I j p d;subst M A f;obtain⟨g,l,C,J,q,x⟩:=j Z 111;have W:=Walks.range (prog:=X.prog) (w:=X.w) (I.ok.hd m) Z L 1 n;refine W.item i s _ _ d p fun v r G D B Q=>?_;obtain⟨t,rfl⟩:=D;have Y:Inv X a u H {s with heap:=r,toks:=G}:=I.turned (fun b o c e=>Q b o (by simpa using c) e) g l J q x;refine⟨_,rfl,FF (s:={s with heap:=r,toks:=G}) (n:="range_iterator") B rfl rfl 104 ⟨.int (L+i),H,Y,⟨t,?_⟩,⟨rfl,rfl⟩,B,fun b c=>(j b c).1⟩⟩;rw[Int.mul_one]
 done:=by
  intro X M A f m i a s u H E I j p d;subst M A f;obtain⟨g,l,C,J,q,x⟩:=j Z 111;exact wpAny_pyNext_range_end (I.ok.hd m) p (by have:n<=i:=d;lia) fun r y=>⟨rfl,I.turned (t':=235) (fun b o c e=>y b o c e) g l J q x⟩
 self:=fun _ _ _ _ _ p h=>wpAny_pyIter_rangeiter p h
section
variable{X:Cx}{tg:Expr}
def SD(K:207)(m:TE):TI:=fun b H R=>m b H fun x l=> ∃a,x= .ref a/\(∃g,dr K l a g)/\R (Zq K a) l
def Xk(K:207)(m:TE):TI:=fun b H R=>m b H fun x l=> ∃a,x= .ref a/\(∃g,dH K l a g)/\R (Zp K a) l
def Iz(z:PE X l tl):PI X tg l (SD X.K tl):=by
 intro c s f H R I h;refine aV (z c s f H _ I h) fun v P S=>?_;obtain⟨x,m,Y,w,t⟩:=S;obtain⟨a,e,⟨i,U⟩,q⟩:=t;subst e;cases w;obtain⟨y,F,p,g⟩:=Y.list U;refine an8 p.isList ?_;refine⟨239,[239],_,_,m,rfl,Y.kept (t':=P.toks) fun b o e=>ab1 _ e,AB a _,⟨_,ac3 _ rfl,rfl,rfl⟩,fun b d=>?_,q⟩;have e:b=P.heap.objs.size:=by simpa using d
 subst e;exact Y.vt (ab6 _) (Y.aQ.fresh (ab6 _))
def NR(z:PE X l tl):PI X tg l (Xk X.K tl):=by
 intro c s f H R I h;refine aV (z c s f H _ I h) fun v P T=>?_;obtain⟨x,m,Y,y,t⟩:=T;obtain⟨a,e,⟨i,U⟩,q⟩:=t;subst e;cases y;obtain⟨w,F,p,g⟩:=Y.tuple U;refine al0 (show P.heap.IsTuple a w.toArray from p) ?_;refine⟨239,[239],_,_,m,rfl,Y.kept (t':=P.toks) fun b o e=>ab1 _ e,wC a _,⟨_,ac3 _ rfl,rfl,rfl⟩,fun b d=>?_,q⟩;have e:b=P.heap.objs.size:=by simpa using d
 subst e;exact Y.vt (ab6 _) (Y.aQ.fresh (ab6 _))
def uD{L hi:Int}(I:Inv X pins σ H s)(d: -(2^62)<=L)(f:L < 2^62)(C: -(2^62)<=hi)(B:hi < 2^62)(q:R (UI L (hi - L).toNat) H):218 107 X.A (pyIter 118) (Vz X pins σ tg R) E {s with heap:=s.heap.push {cls:= .type "range",data:= .fields #[.int L t,.int hi u,.int 1 v]},toks:=tk}:=by
 refine wpAny_pyIter_range (IsRange.new ..) (small_one d f C B) ?_;have Y:Inv X pins σ H {s with heap:=s.heap.push {cls:= .type "range",data:= .fields #[.int L t,.int hi u,.int 1 v]},toks:=tk}:=I.kept fun b o e=>ab1 _ e;refine⟨(s.heap.push {cls:= .type "range",data:= .fields #[.int L t,.int hi u,.int 1 v]}).objs.size,[(s.heap.push {cls:= .type "range",data:= .fields #[.int L t,.int hi u,.int 1 v]}).objs.size],_,_,H,rfl,
  Y.kept (t':=tk) fun b o e=>ab1 _ e,wD _ L (hi - L).toNat,?_,fun b c=>?_,q⟩
 . have j:L+((0:Nat):Int)*1=L:=by simp
   have p:(((hi - L).toNat:Nat):Int) - ((0:Nat):Int)=Builtin.Range.rangeSize L hi 1:=by rw[rangeSize_one];split <;> lia
   show IsRangeIter _ _ (L+((0:Nat):Int)*1) ((((hi - L).toNat:Nat):Int) - ((0:Nat):Int)) 1;rw[j,p];exact ac3 _ rfl
 . have e:b=(s.heap.push {cls:= .type "range",data:= .fields #[.int L t, .int hi u, .int 1 v]}).objs.size:=by simpa using c
   subst e;exact Y.vt (ab6 _) (Y.aQ.fresh (ab6 _))
def SA(Y:TA):TI:=fun b H R=>Y b H fun u l=> ∃j:Int,u= [.int j]/\ -(2^62)<=j/\j < 2^62/\R (UI 0 j.toNat) l
def Sz(Y:TA):TI:=fun b H R=>Y b H fun u l=> ∃i j:Int,u= [.int i,.int j]/\(-(2^62)<=i/\i < 2^62/\ -(2^62)<=j/\j < 2^62)/\R (UI i (j - i).toNat) l
def AX(c:Gl X "range")(O:X.mg "range"=none)(f:PA X [a] ta)(n:209 [a] 216= [(false,eval a 216)]:=by rfl):PI X tg (.Call (.Name "range" p) [a] [] pos) (SA ta):=by
 intro b s d H R I h;refine Call_ (dj I c O boot_range (aj3 (aV (f pos b s d H _ I h) fun Z P U=>?_) n rfl));obtain⟨v,l,Y,w,u⟩:=U;obtain⟨j,e,u,g,q⟩:=u;subst e;cases w with
 | cons r rr=>
  cases rr;obtain⟨t,rfl⟩:=r;exact call_range_1 (uD Y 102 102 u g (by simpa using q))
def AW(d:Gl X "range")(O:X.mg "range"=none)(f:PA X [a,b] ta)(n:starEach [a,b] X.env= [(false,eval a X.env),(false,eval b X.env)]:=by rfl)(S:starEach [b] X.env= [(false,eval b X.env)]:=by rfl):
  PI X tg (.Call (.Name "range" p) [a,b] [] pos) (Sz ta):=by
 intro c s k H R I h;refine Call_ (dj I d O boot_range (aj3 (aV (f pos c s k H _ I h) fun Z P V=>?_) (by rw[n,S]) (by rw[S];rfl)));obtain⟨v,l,Y,x,u⟩:=V;obtain⟨i,j,e,⟨u,g,C,w⟩,q⟩:=u;subst e;cases x with
 | cons r rr=>
  cases rr with
  | cons r' rr=>
   cases rr;obtain⟨t,rfl⟩:=r;obtain⟨o,rfl⟩:=r';exact call_range_2 (uD Y u g C w q)
def Wy(k:TI)(g:TG)(Y:TS):TS:=fun D b H=>k b H fun J l=> ∃W:Nat->Nat->St->Hp->Prop,(∃m,W 0 m b l)/\ ∀i m b H,W i m b H->
 (J.stop i H/\D.nx b H)\/(J.go i H/\ ∃N:St->Hp->Prop,(∀R q,N R q-> ∃O,O < m/\W (i+1) O R q)/\ ∀x q,J.wy i H x q->g x b q fun h L=>Y {D with nx:=N,ct:=N,bk:=D.nx} h L)
def jH(s:List Addr)(h:Heap):List 121:=s.filterMap fun b=>(h.get? b).map fun o=>(b,o)
def bH{h:Heap}(c:b∈fp)(e:h.get? b=some o):(b,o)∈jH fp h:=am2.mpr ⟨b,c,by rw[e];rfl⟩
def Ba(B:p∈jH fp h):p.1∈fp/\h.get? p.1=some p.2:=by
 obtain⟨b,c,e⟩:=am2.mp B;cases q:h.get? b with
 | none=>rw[q] at e;cases e
 | some o=>
  rw[q] at e;have H:(b,o)=p:=215 e;subst H;exact⟨c,q⟩
def Inv.pinned(I:Inv X pins σ H s)(j: ∀b∈fp,dZ X pins H b)(x: ∀b∈fp,∃o,s.heap.get? b=some o/\ ∀v,o.data≠ .cell v):Inv X (pins++jH fp s.heap) σ H s:=
 I.zj fun p B=>(ad2.mp B).elim (fun z=>I.pin p (ac8 _ z)) fun z=>by
  obtain⟨c,e⟩:=Ba z;obtain⟨g,h,i,_⟩:=j p.1 c;obtain⟨o,J,d⟩:=x p.1 c;rw[e] at J;cases J;exact⟨e,g,h,i,d⟩
def Inv.fb(I:Inv X (pins++pl) σ H s):Inv X pins σ H s:=I.zj fun p B=>I.pin p (ac8 _ (af5 _ B))
def NP(C:PassesOwn 107 X.A X.env X.xe)(hc:X.calm=true)(hi:PI X tg iter wi)(hg:PG X tg g)(c:jw X body tb)(hs: ∀x,225 iter X.env x=pure x:=by intro _;rfl):PS X (.For tg iter body [] pos) (Wy wi g tb):=by
 intro a s σ H D I h;refine wpAny_For (aV (hi a s σ H _ I h) fun v s1 h1=>aV h1 fun QG s2 h2=>?_) hs;obtain⟨it,t,tn,J,H2,e,I2,T,iq,V,W,⟨m0,w0⟩,turn⟩:=h2;subst e;have Q: ∀{q:Hp},(∀b∈t,q b=none)-> ∀b∈t,dZ X a q b:=fun hn b c=>⟨hn b c,(V b c).2⟩
 refine codeAny_forLoop_any (fun n s'=> ∃i R q,Inv X a R q s'/\tn i s'.heap/\(∀b∈t,q b=none)/\W i n R q) ?_ m0 ⟨0,σ,H2,I2,iq,fun b c=>(V b c).1,w0⟩;rintro n s3 ⟨i,O,P,S,gE,Z,w3⟩
 rcases turn i n O P w3 with ⟨l,qn⟩ | ⟨go,N,hN,k⟩
 . refine ap2 C (aV (T.done X rfl rfl rfl hc i a s3 O P X.xe S (Q Z) gE l) fun r s4 VY=>?_);obtain⟨E,I4⟩:=VY;subst E;exact ar8 ⟨O,P,I4,qn⟩
 . refine ap2 C (aV (T.item X rfl rfl rfl hc i a s3 O P X.xe S (Q Z) gE go) fun r s4 VX=>?_);obtain⟨u,E,h4⟩:=VX;subst E;refine ap2 C (aV h4 fun _ s5 VW=>?_);obtain⟨x,M,I5,r5,y5,G,BJ⟩:=VW;have p:=I5.pinned (Q BJ) (T.obj _ _ G);refine ap2 C (aV (hg _ s5 O M x u _ p r5 (k x M y5)) fun _ s6 VU=>?_);obtain⟨L,H6,I6,q6⟩:=VU;refine ap2 C (aV (c _ s6 L H6 _ I6 q6) fun f F Y=>?_);have B: ∀{U:St} {y:Hp},Inv X (a++jH t s5.heap) U y F->N U y-> ∃m,m < n/\ ∃i R q,Inv X a R q F/\tn i F.heap/\(∀b∈t,q b=none)/\W i m R q:=fun{U y} z j=>by
    obtain⟨m',hm,w7⟩:=hN U y j;refine⟨m',hm,i+1,U,y,z.fb,T.keep _ _ _ G fun b c o e=>(z.pin (b,o) (ac8 _ (ac8 _ (bH c e)))).1,fun b c=>?_,w7⟩;obtain⟨o,e,d⟩:=T.obj _ _ G b c;exact(z.pin (b,o) (ac8 _ (ac8 _ (bH c e)))).2.1
   cases f with
   | next=>obtain⟨U,y,z,j⟩:=Y;exact B z j
   | cont=>obtain⟨U,y,z,j⟩:=Y;exact B z j
   | brk=>obtain⟨U,y,z,Y⟩:=Y;exact⟨U,y,z.fb,Y⟩
   | ret v=>obtain⟨x7,U,y,z,r7,Y⟩:=Y;exact⟨x7,U,y,z.fb,r7,Y⟩
end
abbrev R2:=V->V->Hp->VK->Prop
def jU(X:Cx)(f:212->212->Sem 212)(r:R2):Prop:=
 ∀(pins:List 121) (s:211) (σ:St) (H:Hp) (x y:V) (v u:212) (Q:VK),Inv X pins σ H s->RelV x v->RelV y u->r x y H Q->
  218 107 X.A (f v u) (EP X pins σ Q) X.xe s
def Zd(X:Cx)(f:212->Sem 212)(r:V->Hp->VK->Prop):Prop:=
 ∀(pins:List 121) (s:211) (σ:St) (H:Hp) (x:V) (v:212) (Q:VK),Inv X pins σ H s->RelV x v->r x H Q->
  218 107 X.A (f v) (EP X pins σ Q) X.xe s
def fK(X:Cx)(f:212)(r:List V->Hp->VK->Prop):Prop:=
 ∀(pins:List 121) (s:211) (σ:St) (H:Hp) (xs:List V) (us:List 212) (Q:VK),Inv X pins σ H s->Vals xs us->r xs H Q->
  218 107 X.A (call f us) (EP X pins σ Q) X.xe s
def Ze(X:Cx)(r:V->Hp->(Bool->Hp->Prop)->Prop):Prop:=
 ∀(pins:List 121) (s:211) (σ:St) (H:Hp) (x:V) (v:212) (Q:Bool->Hp->Prop),Inv X pins σ H s->RelV x v->r x H Q->
  218 107 X.A (truthy v) (TP X pins σ Q) X.xe s
def K5(r:R2)(Y X:TE):TE:=fun b H Q=>Y b H fun x l=>X b l fun y J=>r x y J Q
def tUn(r:V->Hp->VK->Prop)(Y:TE):TE:=fun b H Q=>Y b H fun x l=>r x l Q
def rI(C:Int->Int->Prop)(g:Int->Int->V):R2:=fun x y H Q=> ∃i j,x= .int i/\y= .int j/\C i j/\Q (g i j) H
def Lg(g:Int->Int->V):R2:=fun x y H Q=> ∃i j,x= .int i/\y= .int j/\Q (g i j) H
def rU(g:Int->V):V->Hp->VK->Prop:=fun x H Q=> ∃i,x= .int i/\Q (g i) H
section
variable{X:Cx}{a b c:Expr}{ta tb tc:TE}{pos:Pos}
def P9(k:PE X a ta)(m:PE X b tb){d:List 121}{s:Shared}{e:St}{H:Hp}{R:V->V->Hp->Prop}(I:Inv X d e H s)
  (h:ta e H fun x l=>tb e l fun y J=>R x y J) {Q:212->211->Prop} {f:212->212->Sem 212}
  (n: ∀v u t x y J,Inv X d e J t->RelV x v->RelV y u->R x y J->218 107 X.A (f v u) Q X.xe t):
  218 107 X.A (eval a 216) (fun v S=>218 107 X.A (eval b 216) (fun u L=>218 107 X.A (f v u) Q X.xe L) X.xe S) X.xe s:=by
 refine aV (k d s e H _ I h) fun v P j=>?_;obtain⟨x,l,Y,B,z⟩:=j;refine aV (m d P e l _ Y z) fun u t i=>?_;obtain⟨y,J,g,p,o⟩:=i;exact n v u t x y J g B p o
def dh(z:jU X (binaryOp op) r)(g:PE X a ta)(e:PE X b tb):PE X (.BinOp a op b pos) (K5 r ta tb):=by
 intro d s j H Q I h;exact wpAny_BinOp (P9 g e I h fun v u t x y J f i o q=>z d t j J x y v u Q f i o q)
def RV(y:Zd X (unaryOp op) r)(f:PE X a ta):PE X (.UnaryOp op a pos) (tUn r ta):=by
 intro d s e H Q I h;exact UnaryOp_ (aV (f d s e H _ I h) fun v P g=>(by obtain⟨x,l,Y,w,t⟩:=g;exact(y d P e l x v Q Y w t)))
def U4{C:Int->Int->Prop}{g:Int->Int->Int}(U: ∀(i j:Int) (t u:Tok) (s:Shared) (Q:Value->Shared->Prop) (E:Value->Shared->Prop),C i j->Q (.int (g i j) s.toks) {s with toks:=s.toks+1}->wpAny 107 X.A (f (.int i t) (.int j u)) Q E s):
  jU X f (rI C fun i j=> .int (g i j)):=by
 intro d s k H x y v u Q I e o h;obtain⟨i,j,rfl,rfl,m,q⟩:=h;obtain⟨t,rfl⟩:=e;obtain⟨p,rfl⟩:=o;exact U i j t p s _ _ m ⟨.int (g i j),H,I.tok _,⟨_,rfl⟩,q⟩
def R0{g:Int->Int->Int}(U: ∀(i j:Int) (t u:Tok) (s:Shared) (Q:Value->Shared->Prop) (E:Value->Shared->Prop),Q (.int (g i j) s.toks) {s with toks:=s.toks+1}->wpAny 107 X.A (f (.int i t) (.int j u)) Q E s):
  jU X f (Lg fun i j=> .int (g i j)):=by
 intro d s k H x y v u Q I e o h;obtain⟨i,j,rfl,rfl,q⟩:=h;obtain⟨t,rfl⟩:=e;obtain⟨p,rfl⟩:=o;exact U i j t p s _ _ ⟨.int (g i j),H,I.tok _,⟨_,rfl⟩,q⟩
def N3{g:Int->Int->Bool}(U: ∀(i j:Int) (t u:Tok) (s:Shared) (Q:Value->Shared->Prop) (E:Value->Shared->Prop),Q (.bool (g i j)) s->wpAny 107 X.A (f (.int i t) (.int j u)) Q E s):
  jU X f (Lg fun i j=> .bl (g i j)):=by
 intro d s k H x y v u Q I e o h;obtain⟨i,j,rfl,rfl,q⟩:=h;obtain⟨t,rfl⟩:=e;obtain⟨p,rfl⟩:=o;exact U i j t p s _ _ ⟨.bl (g i j),H,I,rfl,q⟩
def Zt(i j:Int):Prop:=0 < j/\j < 1073741824
def Cn(i j:Int):Prop:=0<=j/\j<=1000000/\i.natAbs < 2^64
def yE(i j:Int):Prop:=(-(2^64) < i/\i < 2^64)\/(-(2^64) < j/\j < 2^64)
def yE.ok(h:yE i j):IntMulOk i j:=by
 rcases h with ⟨d,e⟩ | ⟨d,e⟩
 . exact .of_left (intBits_le_64 d e)
 . exact .of_right (intBits_le_64 d e)
def oy:jU X (binaryOp .Add) (Lg fun i j=> .int (i+j)):=R0 fun _ _ _ _ _ _ _ q=>add_int q
def N0:jU X (binaryOp .Sub) (Lg fun i j=> .int (i - j)):=R0 fun _ _ _ _ _ _ _ q=>sub_int q
def jI:jU X (binaryOp .Mult) (rI yE fun i j=> .int (i*j)):=U4 fun _ _ _ _ _ _ _ m q=>mul_int q m.ok
def IJ:jU X (binaryOp .FloorDiv) (rI Zt fun i j=> .int (i / j)):=U4 fun i j _ _ _ _ _ m q=>by
 have d:(0:Int) < j:=m.1;have e:j < 1073741824:=m.2;exact floordiv_int 102 (by rw[Int.fdiv_eq_ediv_of_nonneg i 102];exact q) (.inl (PyProof.noPylong_small 102))
def lZ:jU X (binaryOp .Mod) (rI (fun _ j=>0 < j) fun i j=> .int (i % j)):=U4 fun i j _ _ _ _ _ m q=>by
 have d:(0:Int) < j:=m;exact mod_int' 102 (by rw[Int.fmod_eq_emod_of_nonneg i 102];exact q)
def Ez:jU X (binaryOp .Pow) (rI Cn fun i j=> .int (i^j.toNat)):=U4 fun _ _ _ _ _ _ _ m q=>pow_int_small m.1 m.2.1 m.2.2 q
def unI{g:Int->Int}(U: ∀(i:Int) (t:Tok) (s:Shared) (Q:Value->Shared->Prop) (E:Value->Shared->Prop),Q (.int (g i) s.toks) {s with toks:=s.toks+1}->wpAny 107 X.A (f (.int i t)) Q E s):
  Zd X f (rU fun i=> .int (g i)):=by
 intro d s j H x v Q I e h;obtain⟨i,rfl,q⟩:=h;obtain⟨t,rfl⟩:=e;exact U i t s _ _ ⟨.int (g i),H,I.tok _,⟨_,rfl⟩,q⟩
def M8:Zd X (unaryOp .USub) (rU fun i=> .int (-i)):=unI fun _ _ _ _ _ q=>neg_int q
end
def HV:V->V->Bool
 | .aO,.aO=>true | .aO,.int _=>true | .int _,.aO=>true | .aO,.bl _=>true | .bl _,.aO=>true | .aO,.str _=>true | .str _,.aO=>true
 | .int _,.int _=>true | .bl _,.bl _=>true | .str _,.str _=>true | .Af _,.Af _=>true
 | .int _,.str _=>true | .str _,.int _=>true | .bl _,.str _=>true | .str _,.bl _=>true
 | _,_=>false
def ZH:R2:=fun x y H Q=>HV x y=true/\Q (.bl (decide (x=y))) H
def ZF:R2:=fun x y H Q=>HV x y=true/\Q (.bl (!decide (x=y))) H
def zW:decide (V.int i=V.int j)=(i==j):=by
 rw[ap4];simp
def Ge:decide (V.bl i=V.bl j)=(i==j):=by
 rw[ap4];simp
def zV:decide (V.str i=V.str j)=(i==j):=by
 rw[ap4];simp
def zX:decide (V.Af i=V.Af j)=(i.toList==j.toList):=by
 rw[ap4];cases i;cases j;simp
section
variable{X:Cx}{a b c:Expr}{ta tb tc:TE}{pos:Pos}
def aW(I:Inv X pins σ H s)(q:Q (.bl k) H)(e:k=k'):EP X pins σ Q (.bool k') s:=by
 subst e;exact⟨.bl k,H,I,rfl,q⟩
def Ls:jU X (compareOp .Eq) ZH:=by
 intro e s f H x y v u Q I d o h;obtain⟨n,q⟩:=h;cases x with
 | aO=>
  cases d;cases y with
  | aO=>cases o;exact PySem.EqNone.eq_none_none 181
  | bl j=>cases o;exact PySem.EqNone.eq_none_bool 181
  | int j=>obtain⟨p,rfl⟩:=o;exact PySem.EqNone.eq_none_int 181
  | str j=>obtain⟨p,rfl⟩:=o;exact PySem.EqNone.eq_none_str 181
  | _=>exact 213 148 ab9
 | bl i=>
  cases d;cases y with
  | aO=>cases o;exact PySem.EqNone.eq_bool_none 181
  | bl j=>cases o;exact eq_bool (aW I q Ge)
  | str j=>obtain⟨p,rfl⟩:=o;exact PySem.EqMixed.eq_bool_str 181
  | _=>exact 213 148 ab9
 | int i=>
  obtain⟨t,rfl⟩:=d;cases y with
  | aO=>cases o;exact PySem.EqNone.eq_int_none 181
  | int j=>obtain⟨p,rfl⟩:=o;exact eq_int (aW I q zW)
  | str j=>obtain⟨p,rfl⟩:=o;exact PySem.EqMixed.eq_int_str 181
  | _=>exact 213 148 ab9
 | str i=>
  obtain⟨t,rfl⟩:=d;cases y with
  | aO=>cases o;exact PySem.EqNone.eq_str_none 181
  | bl j=>cases o;exact PySem.EqMixed.eq_str_bool 181
  | int j=>obtain⟨p,rfl⟩:=o;exact PySem.EqMixed.eq_str_int 181
  | str j=>obtain⟨p,rfl⟩:=o;exact eq_str (aW I q zV)
  | _=>exact 213 148 ab9
 | Af i=>
  obtain⟨t,rfl⟩:=d;cases y with
  | Af j=>obtain⟨p,rfl⟩:=o;exact PySem.W.eq_bytes (aW I q zX)
  | _=>exact 213 148 ab9
 | _=>exact 213 148 ab9
def RY:jU X (compareOp .NotEq) ZF:=by
 intro e s f H x y v u Q I d o h;obtain⟨n,q⟩:=h;cases x with
 | aO=>
  cases d;cases y with
  | aO=>cases o;exact PySem.EqNone.ne_none_none 181
  | bl j=>cases o;exact PySem.EqNone.ne_none_bool 181
  | int j=>obtain⟨p,rfl⟩:=o;exact PySem.EqNone.ne_none_int 181
  | str j=>obtain⟨p,rfl⟩:=o;exact PySem.EqNone.ne_none_str 181
  | _=>exact 213 148 ab9
 | bl i=>
  cases d;cases y with
  | aO=>cases o;exact PySem.EqNone.ne_bool_none 181
  | bl j=>cases o;exact ne_bool (aW I q (ah4 not Ge))
  | str j=>obtain⟨p,rfl⟩:=o;exact PySem.EqMixed.ne_bool_str 181
  | _=>exact 213 148 ab9
 | int i=>
  obtain⟨t,rfl⟩:=d;cases y with
  | aO=>cases o;exact PySem.EqNone.ne_int_none 181
  | int j=>obtain⟨p,rfl⟩:=o;exact ne_int (aW I q (ah4 not zW))
  | str j=>obtain⟨p,rfl⟩:=o;exact PySem.EqMixed.ne_int_str 181
  | _=>exact 213 148 ab9
 | str i=>
  obtain⟨t,rfl⟩:=d;cases y with
  | aO=>cases o;exact PySem.EqNone.ne_str_none 181
  | bl j=>cases o;exact PySem.EqMixed.ne_str_bool 181
  | int j=>obtain⟨p,rfl⟩:=o;exact PySem.EqMixed.ne_str_int 181
  | str j=>obtain⟨p,rfl⟩:=o;exact ne_str (aW I q (ah4 not zV))
  | _=>exact 213 148 ab9
 | Af i=>
  obtain⟨t,rfl⟩:=d;cases y with
  | Af j=>obtain⟨p,rfl⟩:=o;exact PySem.W.ne_bytes (aW I q (ah4 not zX))
  | _=>exact 213 148 ab9
 | _=>exact 213 148 ab9
def Lq:jU X (compareOp .LtE) (Lg fun i j=> .bl (decide (i<=j))):=N3 fun _ _ _ _ _ _ _ q=>le_int q
def Lr:jU X (compareOp .Gt) (Lg fun i j=> .bl (decide (j < i))):=N3 fun _ _ _ _ _ _ _ q=>gt_int q
def RZ:jU X (compareOp .GtE) (Lg fun i j=> .bl (decide (j<=i))):=N3 fun _ _ _ _ _ _ _ q=>ge_int q
def dI(b:Expr)(h:op≠ .In:=by decide)(e:op≠ .NotIn:=by decide):behindInMarks op b=false:=by
 have j:(op==CmpOp.In)=false:=by cases op <;> first | rfl | exact 213 rfl h
 have p:(op==CmpOp.NotIn)=false:=by cases op <;> first | rfl | exact 213 rfl e
 cases b <;> simp [behindInMarks,j,p]
def zk(z:jU X (compareOp op) r)(g:PE X a ta)(e:PE X b tb)(O:behindInMarks op b=false):PE X (.Compare a [op] [b] pos) (K5 r ta tb):=by
 intro d s j H Q I h;exact wpAny_Compare1 (P9 g e I h fun v u t x y J f i o q=>z d t j J x y v u Q f i o q) O
def Rh(t:TE):TT:=fun d H Q=>t d H fun x q=> ∃k,x= .bl k/\Q k q
def i6(A:jU X (compareOp op) r)(i:PE X a ta)(j:PE X b tb)(P:behindInMarks op b=false):PT X (.Compare a [op] [b] pos) (Rh (K5 r ta tb)):=by
 intro d s f H Q I h;refine wpAny_isTrue_Compare1 (aV (i d s f H _ I h) fun v R ⟨x,l,Y,w,t⟩=>aV (j d R f l _ Y t) fun u E ⟨y,J,g,n,m⟩=>
  aV (A d E f J x y v u _ g w n m) fun c o ⟨z,O,D,B,k,e,C⟩=>?_) P
 subst e;cases B;exact al3 ⟨O,D,C⟩
def Us(K:207)(x:V)(H:Hp)(k:Bool):Prop:=
 match x with
 | .aO=>k=false
 | .bl b=>k=b
 | .int i=>k=(i !=0)
 | .str y=>y.length<=208/\k=((y.length:Int) !=0)
 | .Af y=>y.size<=208/\k=((y.size:Int) !=0)
 | .ref p=>(∃g,dr K H p g/\k=!g.isEmpty)\/(∃g,dH K H p g/\k=!g.isEmpty)\/ ∃J,H p=some (.dK J)/\k=!J.isEmpty
 | _=>False
def xJ(r:KV aJ vs):(!vs.isEmpty)=!aJ.isEmpty:=by
 cases r <;> rfl
def oO(r:Vals xs aq):(!aq.toArray.isEmpty)=!xs.isEmpty:=by
 cases r <;> simp
def l6:(sizeLine:Nat) < 2^63:=by rw[ao4];decide
def Na:Ze X (fun x H Q=> ∃k,Us X.K x H k/\Q k H):=by
 intro o s D H x v Q I d h;obtain⟨k,e,q⟩:=h;have B:=l6;have C:208=16777216:=ao4;cases x with
 | aO=>
  cases d;have J:k=false:=e;subst J;exact truthy_none ⟨H,I,q⟩
 | bl b=>
  cases d;have J:k=b:=e;subst J;exact al3 ⟨H,I,q⟩
 | int i=>
  obtain⟨t,rfl⟩:=d;have J:k=(i !=0):=e;subst J;exact PySem.P.truthy_int ⟨H,I,q⟩
 | str y=>
  obtain⟨t,rfl⟩:=d;obtain⟨A,J⟩:y.length<=sizeLine/\k=((y.length:Int) !=0):=e;subst J;exact PySem.P.truthy_str 102 ⟨H,I.tok _,q⟩
 | Af y=>
  obtain⟨t,rfl⟩:=d;obtain⟨A,J⟩:y.size<=sizeLine/\k=((y.size:Int) !=0):=e;subst J;exact PySem.W.truthy_bytes 102 ⟨H,I.tok _,q⟩
 | ref p=>
  cases d;have J:(∃g,dr X.K H p g/\k=!g.isEmpty)\/(∃g,dH X.K H p g/\k=!g.isEmpty)\/ ∃L,H p=some (.dK L)/\k=!L.isEmpty:=e;rcases J with ⟨g,j,J⟩ | ⟨g,j,J⟩ | ⟨L,j,J⟩
  . subst J;obtain⟨z,r,f,l⟩:=I.list j;have n:=r.length;exact wpAny_truthy_list f.isList (by simp only [ad0];lia) ⟨H,I.tok _,by rw[oO r];exact q⟩
  . subst J;obtain⟨z,r,f,l⟩:=I.tuple j;have n:=r.length;exact truthy_tuple f (by simp only [ad0];lia) ⟨H,I.tok _,by rw[oO r];exact q⟩
  . subst J;obtain⟨l,M,u,r,m⟩:L.length<=sizeLine/\(p==sysModules)=false/\ ∃u,KV L u/\s.heap.DictOf (a8 X.prog X.w) p u:=I.aQ p _ j;have n:L.length=u.length:=Paired.length r;exact wpAny_truthy_dict M m 102 ⟨H,I.tok _,by rw[xJ r];exact q⟩
 | _=>exact(show False from e).elim
def D3(f:PE X a ta)(y: ∀N,isTrue a X.env N=(do let v<-N;standAt a.pos;holding [v] (truthy v))):
  PT X a (fun e H Q=>ta e H fun x q=> ∃k,Us X.K x q k/\Q k q):=by
 intro d s e H Q I h;exact isTrue_plain (aV (f d s e H _ I h) fun v P i=>(by obtain⟨x,l,Y,w,t⟩:=i;exact(Na d P e l x v Q Y w t))) (y _)
def vals1(r:Vals [x] us): ∃u,us= [u]/\RelV x u:=by
 cases r with
 | cons r1 r2=>cases r2;exact⟨_,rfl,r1⟩
def vals2(r:Vals [x,y] us): ∃u j,us= [u,j]/\RelV x u/\RelV y j:=by
 cases r with
 | cons r1 r2=>
  cases r2 with
  | cons r3 r4=>cases r4;exact⟨_,_,rfl,r1,r3⟩
def B5:fK X (.type "int") (fun g H Q=>(∃i,g= [.int i]/\Q (.int i) H)\/ ∃k,g= [.bl k]/\Q (.int (if k then 1 else 0)) H):=by
 intro d s e H g Y Q I r h;rcases h with ⟨i,rfl,q⟩ | ⟨k,rfl,q⟩
 . obtain⟨u,rfl,t,rfl⟩:=vals1 r;exact call_int_int ⟨.int i,H,I,⟨_,rfl⟩,q⟩
 . obtain⟨u,rfl,w⟩:=vals1 r;cases w;exact call_int_bool ⟨.int (if k then 1 else 0),H,I.tok _,⟨_,rfl⟩,q⟩
end
structure Qe(h:Heap)(x dx C:Addr)(mA:Str->210 212):Prop where
 obj:h.get? x=some (PySem.W.instObj C dx)
 ns:h.Ns1 dx mA
 ne:dx≠x
def Bo{h:Heap}(n:h.Ns1 dx mA): ∃I,h.get? dx=some I/\ ∀u,PySem.W.lookIn u I=some (mA u):=by
 obtain⟨o,P,v,x,D,E,_,O⟩:=n;refine⟨o,x,fun u=>?_⟩;have e:=O u;unfold nsFind findBy at e;rw[<-Array.find?_toList] at e;unfold PySem.W.lookIn;rw[D];dsimp only;split
 . rename_i y q;rw[q] at e;exact ah4 some e
 . rename_i q;rw[q] at e;have a:P.toList.any (·.refKey)=false:=by
    rw[List.any_eq_false];intro y k;obtain⟨z,t,r⟩:=E y (Array.mem_toList_iff.mp k);simp [DictEntry.refKey,r]
   have l: ¬P.toList.any (·.refKey)=true:=by rw[a];exact ab9
   rw[if_neg l];exact ah4 some e
def Qe.look(I:Qe h x dx C mA): ∃J,PySem.W.InstAt h x (PySem.W.instObj C dx) C (some J)/\ ∀t,PySem.W.lookIn t J=some (mA t):=
 let ⟨J,ho,hl⟩:=Bo I.ns
 ⟨J,⟨I.obj,rfl,rfl,ho⟩,hl⟩
def jT.some_of(r:jT (some v) o): ∃u,o=some u/\RelV v u:=by
 cases o with
 | none=>exact(show False from r).elim
 | some u=>exact⟨u,rfl,r⟩
def Jr(k:gG P w H h)(e:H a=some (.ins C dx fs)): ∃U,Qe h a dx C U/\(∀f,jT (fs.lookup f) (U f))/\PySem.Within U (fs.map (·.1))/\fs.length<=1000/\H dx=some (.own a):=by
 obtain⟨d,z,Q,u,U,n,r,q⟩:=(show aX P w H h a (.ins C dx fs) from k a _ e)
 exact⟨U,⟨u,n,Q⟩,r,q,z,d⟩
structure Zs(K:207)(C:Addr):Prop where
 pg:PySem.W.plainGet K C Str.empty=true
 hd:PySem.W.hasDictIn K C=true
 po:PySem.W.plainOver K C=true
 sa:243 K 186 "__setattr__"=some (some (.builtin "object.__setattr__"))
def Zs.get{K:207}(c:Zs K C)(f:Str):PySem.W.plainGet K C f=true:=c.pg
def Kz(c:attributeBase e f env (eval e env)=eval e env)(h:218 105 A (eval e env) (fun o R=>218 105 A (getAttr o f true) Q E R) E s):218 105 A (eval (.Attribute e f pos) env) Q E s:=
 Attribute_any_ h (by rw[arm_eval_Attribute,c])
section
variable{X:Cx}{pins:List 121}{σ:St}{H:Hp}{s:211}{A:244}{E:212->211->Prop}{Q:212->211->Prop}{c:212}{b:Bool}
inductive m9(K:207)(H:Hp):V->212->Prop where
 | aO:m9 K H .aO (.type "NoneType")
 | bl (x:Bool):m9 K H (.bl x) (.type "bool")
 | int (i:Int):m9 K H (.int i) (.type "int")
 | str (x:Str):m9 K H (.str x) (.type "str")
 | CC (x:UInt64):m9 K H (.CC x) (.type "float")
 | lst {a:Addr} {xs:List V} (e:H a=some (.lst xs)):m9 K H 190 (.type "list")
 | vq {a:Addr} {o:Obj} {xs:List V} (e:H a=some (.vq o (.lst xs))):m9 K H 190 (.type "list")
 | tup {a:Addr} {xs:List V} (e:H a=some (.tup xs)):m9 K H 190 (.type "tuple")
 | dK {a:Addr} {aJ:List (Key × V)} (e:H a=some (.dK aJ)):m9 K H 190 (.type "dict")
 | dT {a:Addr} {aJ:List (List Key × V)} (e:H a=some (.dT aJ)):m9 K H 190 (.type "dict")
 | ins {a C dx:Addr} {fs:List (Str × V)} (e:H a=some (.ins C dx fs)) (cl:Zs K C) (ha:PySem.W.findIn K 186 "__class__"=some (some 134))
   (hn:PySem.W.specialIn K 134 "__get__"=some (some (.builtin "getset_descriptor.__get__"))) (Z7:PySem.W.takesIn K 134=some true)
   (hm:PySem.W.mroIn K C 189=some true):m9 K H 190 186
def eY(I:Inv X pins σ H s)(d:RelV x u)(V:m9 X.K H x t)(e:PySem.W.kitOne X.K t c=some b)(h: ∀G,Q (.bool b) {s with toks:=G}):
  218 107 A (call (.builtin "isinstance") [u,c]) Q E s:=by
 cases V with
 | aO=>cases (show u=Value.none from d);exact ai7 PySem.W.kitx_none I.l7 242 e 157 h
 | bl y=>cases (show u=Value.bool y from d);exact ai7 PySem.W.kitx_bool I.l7 242 e 157 h
 | int i=>obtain⟨t,q⟩:=(show∃t,u=Value.int i t from d);cases q;exact ai7 PySem.W.kitx_int I.l7 242 e 157 h
 | str y=>obtain⟨t,q⟩:=(show∃t,u=Value.str y t from d);cases q;exact ai7 PySem.W.kitx_str I.l7 242 e 157 h
 | CC y=>obtain⟨t,q⟩:=(show∃t,u=Value.float y t from d);cases q;exact ai7 PySem.W.kitx_float I.l7 242 e 157 h
 | @lst a g ea=>
  cases (show u=Value.ref a from d);obtain⟨_,_,n,_,f⟩:=(show aX X.prog X.w H s.heap a (.lst g) from I.aQ a _ ea)
  exact ai7 PySem.W.kitx_list I.l7 ⟨_,f,rfl⟩ e 157 h
 | @vq a ob g ea=>
  cases (show u=Value.ref a from d);obtain⟨_,_,_,n,_,f⟩:=(show aX X.prog X.w H s.heap a (.vq ob (.lst g)) from I.aQ a _ ea)
  exact ai7 PySem.W.kitx_list I.l7 ⟨_,f,rfl⟩ e 157 h
 | @tup a g ea=>
  cases (show u=Value.ref a from d);obtain⟨_,_,_,p⟩:=(show aX X.prog X.w H s.heap a (.tup g) from I.aQ a _ ea)
  obtain⟨o,f,j,_⟩:=p;exact ai7 PySem.W.kitx_tuple I.l7 ⟨o,f,j⟩ e 157 h
 | @dK a aJ ea=>
  cases (show u=Value.ref a from d);obtain⟨_,_,B,_,p⟩:=(show aX X.prog X.w H s.heap a (.dK aJ) from I.aQ a _ ea)
  obtain⟨o,P,v,f,j,_⟩:=p;exact ai7 PySem.W.kitx_dict I.l7 ⟨o,f,j.1⟩ e 157 h
 | @dT a aJ ea=>
  cases (show u=Value.ref a from d);obtain⟨_,_,g,_,o,P,v,f,j,_⟩:=(show aX X.prog X.w H s.heap a (.dT aJ) from I.aQ a _ ea)
  exact ai7 PySem.W.kitx_dict I.l7 ⟨o,f,j.1⟩ e 157 h
 | @ins a C dx fs ea cl ha hn Z7 hm=>
  cases (show u=Value.ref a from d);obtain⟨U,O,_⟩:=Jr I.aQ ea;obtain⟨L,J,_⟩:=O.look;exact ai7 (PySem.W.kitx_own (cl.get _) cl.hd ha hn Z7 hm) I.l7 J e 157 h
end
structure bN(k:Nat)(A:244):Prop where
 hd:A.handled=none
 dp:A.depth+3*k+5 < recursionLimit
 un:A.units+16*k+200 < cLine
 gd:A.guards=some []
def bN.mono(r:bN k A)(h:j<=k):bN j A:=⟨r.hd,by have:=r.dp;lia,by have:=r.un;lia,r.gd⟩
def bN.deeper(r:bN (k+1) A)(env:Env):bN k (A.deeper env):=
 ⟨r.hd,by have:=r.dp;show A.depth+1+3*k+5 < _;lia,by have:=r.un;show A.units+3+16*k+200 < _;lia,r.gd⟩
def xE{A:244}:(A.under (.builtin "type.__call__" ⟨.ref C::us,kw⟩)).depth=A.depth+1:=by
 first | rfl | simp [Around.under,Code.weight,Code.isCreation,Code.isGuard,Code.isCaller,Code.frames,Code.isFrame,guardIds]
def xD{A:244}:(A.under (.builtin "type.__call__" ⟨.ref C::us,kw⟩)).units=A.units+1:=by
 first | rfl | simp [Around.under,Code.cUnits,Code.frames,Code.isFrame]
def uZ{A:244}:(A.under (.builtin "type.__call__" ⟨.ref C::us,kw⟩)).guards=A.guards:=by
 first | rfl | simp [Around.under,Code.weight,Code.isCreation,Code.isGuard,Code.isCaller,Code.frames,Code.isFrame,guardIds]
def bN.make(r:bN (k+1) A)(C:Addr)(us:List 212)(R:List (Str × 212)):bN k (A.under (.builtin "type.__call__" ⟨.ref C::us,R⟩)):=
 ⟨r.hd,by have:=r.dp;rw[xE];lia,by have:=r.un;rw[xD];lia,by rw[uZ];exact r.gd⟩
def bN.depth(r:bN k A):A.depth < recursionLimit:=by have:=r.dp;lia
def bN.units(r:bN k A):A.units+64 < cLine:=by have:=r.un;lia
def bN.rN(r:bN k A):A.units < cLine:=by have:=r.un;lia
def um:TA:=fun _ H Q=>Q [] H
def qz(Y:TE)(m:TA):TA:=fun b H Q=>Y b H fun x l=>m b l fun g J=>Q (x::g) J
section
variable{X:Cx}{e:Expr}{es:List Expr}{te:TE}{t:TA}{pos:Pos}
def aM:PA X [] um:=fun _ _ _ _ H Q I h=>aw2 ⟨[],H,I,.nil,h⟩
def aj(g:PE X e te)(o:PA X es t)(n:209 (e::es) 216=(false,eval e 216)::209 es X.env:=by rfl):PA X (e::es) (qz te t):=by
 intro pos a s b H Q I h;rw[n];show 218 _ _ (spliced ((false,eval e 216)::backTo pos (209 es 216))) _ _ s;refine ap1 (aV (g a s b H _ I h) fun u P i=>?_);obtain⟨x,l,Y,w,v⟩:=i;exact aV (o pos a P b l _ Y v) fun Z y j=>(by obtain⟨p,J,f,m,k⟩:=j;exact(⟨x::p,J,f,.cons w m,k⟩))
def Rf(t:TA):TE:=fun b H Q=>t b H fun g l=>g.length<=208/\ ∀p,l p=none->Q (.ref p) (upd l p (.tup g))
def Nm(t:TA):TE:=fun b H Q=>t b H fun g l=>g.length<=208/\ ∀p,l p=none->Q (.ref p) (upd l p (.lst g))
def om{x1}(h:PA X es t):PE X (.Tuple es x1 pos) (Rf t):=by
 intro a s c H Q I U;refine wpAny_Tuple_spliced (aV (h pos a s c H _ I U) fun Z P ⟨g,l,Y,r,z,q⟩=>⟨by rw[<-r.length];exact z,?_⟩);have j:l 239=none:=Y.aQ.fresh (ab6 _);refine⟨.ref 239,upd l P.heap.objs.size (.tup g),Y.laid (t':=P.toks) (fun b u e=>ab1 _ e) (ab6 _) ?_,rfl,q _ j⟩;exact⟨z,Z,r,⟨_,ac3 _ rfl,rfl,rfl,_,rfl⟩⟩
def oq(h:PA X es t):PE X (.List es pos) (Nm t):=by
 intro a s c H Q I U;refine wpAny_List_spliced (aV (h pos a s c H _ I U) fun Z P ⟨g,l,Y,r,z,q⟩=>⟨by rw[<-r.length];exact z,?_⟩);have j:l 239=none:=Y.aQ.fresh (ab6 _);refine⟨.ref 239,upd l P.heap.objs.size (.lst g),Y.laid (t':=P.toks) (fun b u e=>ab1 _ e) (ab6 _) ?_,rfl,q _ j⟩;exact⟨z,Z,0,r,ac3 _ rfl⟩
end
abbrev Sp:=List V->Hp->VK->XK->Prop
abbrev Hs:=List Env->Hp->211->XK->212->211->Prop
structure yB(P:214)(w:237)(K:207)(mg:Str->210 212)(base:Heap)(A:244)(outer:List Env)(s:211)(H:Hp):Prop where
 frames:A.frames=some outer
 mod:Mod K mg base
 bs: ∀b o,base.get? b=some o->s.heap.get? b=some o/\H b=none
 Hn:base.objs.size<=205
 kM:s.heap.FunFrames base outer
 L8: ∀b∈ik outer,H b=none
 aQ:gG P w H s.heap
 bare:AllBare s.gens
def CE(outer:List Env)(P:214)(w:237)(H:Hp)(s:211)(Q:VK)(u:212)(s':211):Prop:=
 ∃v q,s'.os=s.os/\AllBare s'.gens/\Un (ik outer) [] H q s.heap s'.heap/\gG P w q s'.heap/\RelV v u/\Q v q
def CR(CX:Hs)(outer:List Env)(P:214)(w:237)(H:Hp)(s:211)(Q:VK)(E:XK)(r:Result)(s':211):Prop:=
 match r with
 | .ok (.ret u)=>CE outer P w H s Q u s'
 | .ok _=>False
 | .error e=>CX outer H s E e s'
structure aU(P:214)(w:237)(K:207)(mg:Str->210 212)(base:Heap)(CX:Hs)(k:Nat)(f:Addr)(fd:FuncData)(ps:List Str)(sp:Sp):Prop where
 len: ∀vs H Q E,sp vs H Q E->234=ps.length
 run: ∀(A:244) (outer:List Env) (s:211) (H:Hp) (args:Args) (us:List 212) (vs:List V) (Q:VK) (E:XK),bN k A->yB P w K mg base A outer s H->BindsTo s fd args (ps.zip us)->Vals vs us->sp vs H Q E->
  codeAny (model P w) A (.call (.ref f) args) (CR CX outer P w H s Q E) s
def aU.imp{P:214}{w:237}{K:207}{k:Nat}(F:aU P w K mg base CX k f fd ps sp)(h: ∀u H Q E,sp' u H Q E->sp u H Q E):aU P w K mg base CX k f fd ps sp':=
 ⟨fun u H Q E q=>F.len u H Q E (h _ _ _ _ q),fun A X s H y Y u Q E o z c v n=>F.run A X s H y Y u Q E o z c v (h _ _ _ _ n)⟩
def yB.make{P:Program}{w:World}{K:PySem.W.Frag}(e:yB P w K mg base A outer s H)(C:Addr)(us:List Value)(R:List (Str × Value)):
  yB P w K mg base (A.under (.builtin "type.__call__" ⟨.ref C::us,R⟩)) outer s H:=⟨by first | exact e.frames | (simpa [Around.under,Code.envs,Code.isFrame,pushEnvs] using e.frames),e.mod,e.bs,e.Hn,e.kM,e.L8,e.aQ,e.bare⟩
def Inv.Pt(I:Inv X pins σ H s):yB X.prog X.w X.K X.mg X.base X.A X.stack s H:=
 ⟨I.ok.frames,I.ok.mod,I.bs,ad9 I.ok.Hn I.sz,I.stack,I.ny,I.aQ,I.bare⟩
def Inv.after(I:Inv X pins σ H s)(h:CE X.stack X.prog X.w H s Q u s'):EP X pins σ Q u s':=by
 obtain⟨v,x,y,V,Z,k,r,q⟩:=h;obtain⟨L,g,d,t,i⟩:=s';obtain rfl:i=s.os:=y;exact⟨v,x,I.call (h':=L) (g':=g) (d':=d) (t':=t) (ch:= []) Z k V (fun b z=>213 z 111),r,q⟩
def Dl(sp:Sp)(dvs:List V)(E:XK)(t:TA):TE:=fun b H Q=>t b H fun u l=>sp (u++dvs) l Q E
def Binds(K:207)(a:FuncData)(z:List Str)(ds:List 212):Prop:=
 ∀(s:211) (us:List 212),K.In s.heap->(us++ds).length=z.length->BindsTo s a ⟨us,[]⟩ (z.zip (us++ds))
def Binds.all{K:207}{z:List Str}(h: ∀Y:List 212,Y.length=z.length->bindArgs fd ⟨Y,[]⟩=pure (z.zip Y)):Binds K fd z []:=fun s Y _ A=>by
 rw[ai1] at A ⊢;exact .of_eq (h Y A)
def Passes(CX:Hs)(X:Cx)(E:XK):Prop:= ∀(pins:List 121) (σ:St) (H:Hp) (s:211) (e:212) (s':211),Inv X pins σ H s->CX X.stack H s E e s'->X.xe e s'
def DQ(F:aU X.prog X.w X.K X.mg X.base CX k f fd ps sp)(o:bN k X.A)(c:Binds X.K fd ps ds)(hd:Vals dvs ds)(j:Passes CX X E)(I:Inv X pins σ H s)(r:Vals vs us)(h:sp (vs++dvs) H Q E):218 107 X.A (call (.ref f) us) (EP X pins σ Q) X.xe s:=by
 have i:Vals (vs++dvs) (us++ds):=r.append hd;have z:(us++ds).length=ps.length:=by rw[<-i.length];exact F.len _ _ _ _ h
 refine wpAny_call (ao5 (F.run X.A X.stack s H ⟨us,[]⟩ (us++ds) (vs++dvs) Q E o I.Pt (c s us I.l7 z) i h) fun r S U=>?_);cases r with
 | error e=>exact j pins σ H s e S I U
 | ok fl=>
  cases fl with
  | ret u=>exact I.after U
  | next=>exact False.elim U
  | brk=>exact False.elim U
  | cont=>exact False.elim U
def IF(F:aU X.prog X.w X.K X.mg X.base CX k f fd ps sp)(o:bN k X.A)(b:Gl X x)(O:X.mg x=some (.ref f))(G:PySem.W.keepIn X.K (.ref f)=true)(c:Binds X.K fd ps ds)(hd:Vals dvs ds)(i:Passes CX X E)
  (g:PA X (e::es) t) (B:123=false:=by decide) (y:209 (e::es) 216=(false,eval e 216)::209 es X.env:=by rfl) (V:(129).any (·.1)=false:=by rfl):
  PE X 135 (Dl sp dvs E t):=by
 intro a s d H Q I h;refine am1 (kB I b O ?_ B);refine PySem.W.callWith_K (h₀:=X.base) I.ok.mod.Sq G (aV (g pos a s d H _ I h) fun Z P ⟨u,l,Y,r,q⟩=>⟨Y.l7,?_⟩) y V;exact DQ F o c hd i Y r q
def PK(X:Cx)(k:List Keyword)(t:TA):Prop:=
 ∀(pos:Pos) (pins:List 121) (s:211) (σ:St) (H:Hp) (Q:List V->Hp->Prop),Inv X pins σ H s->t σ H Q->218 107 X.A (evalAll ((backToKw pos (keywordEach k 216)).map (·.2))) (AP X pins σ Q) X.xe s
def D9:PK X [] um:=fun _ _ _ _ H Q I h=>wpAny_evalAll_nil ⟨[],H,I,.nil,h⟩
def zi(g:PE X e te)(o:PK X mJ t):PK X (⟨nm,e,sS⟩::mJ) (qz te t):=by
 intro P a s b H Q I h;show 218 _ _ (evalAll ((do let v<-eval e 216;standAt P;pure v)::(backToKw P (keywordEach mJ 216)).map (·.2))) _ _ s;refine wpAny_evalAll_cons (aa8 (aV (g a s b H _ I h) fun u R ⟨x,l,Y,y,w⟩=>aa8 (ah1 204)));exact aV (o P a R b l _ Y w) fun Z z m=>(by obtain⟨k,J,f,j,i⟩:=m;exact(⟨x::k,J,f,.cons y j,i⟩))
structure aD(N P:List Str)(sc:Scope):Prop where
 kind:sc.kind= .function
 co:sc.isCoroutine=false
 gen:sc.isGenerator=false
 nd:N.Nodup
 pre:N.take P.length=P
 par: ∀x∈P,sc.names.lookup x=some .local\/sc.names.lookup x=some .cell
 Od: ∀y∈sc.names,y.2≠ .free
def rC{y:Str->210 NameKind}: ∀{binds:List (Str × 212)} {m:Str->210 212},(∀v,(x,v)∉binds)->bindL y binds m x=m x
 | [],_,_=>rfl
 | (n,v)::r,m,h=>by
  unfold bindL;rw[rC fun w z=>h w (ac0 _ z)];split
  . have:x≠n:=by rintro rfl;exact h v ac9
    simp [this]
  . rfl
def rE{y:Str->210 NameKind}: ∀{binds:List (Str × 212)} {m:Str->210 212},(∀v,(x,v)∉binds)->bindC y binds m x=m x
 | [],_,_=>rfl
 | (n,v)::r,m,h=>by
  unfold bindC;rw[rE fun w z=>h w (ac0 _ z)];split
  . rfl
  . have:x≠n:=by rintro rfl;exact h v ac9
    simp [this]
def rD{y:Str->Option NameKind}: ∀{P:List Str} {vs:List Value} {i:Nat} {m:Str->Option Value},P.Nodup->P[i]?=some x->vs[i]?=some v->y x=some .local->
  bindL y (P.zip vs) m x=some v
 | [],_,_,_,_,h,_,_=>by simp at h
 | _::_,[],_,_,_,_,h,_=>by simp at h
 | p::P,w::vs,0,m,nd,h1,h2,hk=>by
  simp at h1 h2;subst h1;subst h2;show bindL y ((p,w)::P.zip vs) m p=_;unfold bindL;rw[rC fun v u=>(am5.mp nd).1 (List.of_mem_zip u).1,if_pos hk];simp
 | p::P,w::vs,i+1,m,nd,h1,h2,hk=>by
  show bindL y ((p,w)::P.zip vs) m x=_;unfold bindL;exact rD (i:=i) (am5.mp nd).2 (by simpa using h1) (by simpa using h2) hk
def rF{y:Str->Option NameKind}: ∀{P:List Str} {vs:List Value} {i:Nat} {m:Str->Option Value},P.Nodup->P[i]?=some x->vs[i]?=some v->y x≠some .local->
  bindC y (P.zip vs) m x=some v
 | [],_,_,_,_,h,_,_=>by simp at h
 | _::_,[],_,_,_,_,h,_=>by simp at h
 | p::P,w::vs,0,m,nd,h1,h2,hk=>by
  simp at h1 h2;subst h1;subst h2;show bindC y ((p,w)::P.zip vs) m p=_;unfold bindC;rw[rE fun v u=>(am5.mp nd).1 (List.of_mem_zip u).1,if_neg hk];simp
 | p::P,w::vs,i+1,m,nd,h1,h2,hk=>by
  show bindC y ((p,w)::P.zip vs) m x=_;unfold bindC;exact rF (i:=i) (am5.mp nd).2 (by simpa using h1) (by simpa using h2) hk
def start(N:List Str)(vs:List V):St:=vs.map some++206 (N.length - 234) none
def jj(CX:Hs)(P:214)(w:237)(K:207)(G:Str->210 212)(base:Heap)(N:List Str)(qual:Str)(scope:Scope)(f:Addr)(X:212)(A:244)(outer:List Env)(s:211)(H:Hp)(E:XK):Cx where
 prog:=P
 w:=w
 K:=K
 mg:=G
 base:=base
 A:=A.deeper (envOfC qual scope s.heap.objs.size f X)
 N:=N
 s₀:=s
 H₀:=H
 env:=envOfC qual scope s.heap.objs.size f X
 outer:=outer
 stack:=envOfC qual scope s.heap.objs.size f X::outer
 ex:= []
 calm:=true
 fn:=fun _=>true
 pn:= []
 xe:=fun e T=>218 (model P w) (A.deeper (envOfC qual scope s.heap.objs.size f X)) (leaving (envOfC qual scope s.heap.objs.size f X) e) (fun _ S=>CX outer H s E e S) (fun I S=>CX outer H s E I S) T
def k9{j:Scope}(h:j.names.lookup x=some .cell): ∃c,(cellsFrom n j.names []).lookup x=some c:=by
 have q:=PySem.W.cellsFrom_some j.names n [] (.inl h);exact an7.mp q
def Bu{CX:Hs}{P:Program}{w:World}{K:PySem.W.Frag}{A:Around}{vs:List V}(S:aD N ps scope)(hd:A.handled=none)(l:yB P w K mg base A outer s H)(D:vs.length=ps.length)(r:Vals vs us)(x:InCallC s s.heap.objs.size (bindL (envOfC qual scope s.heap.objs.size f cd).kindOf (ps.zip us) fun _=>none) (cellsFrom 156 scope.names []) (bindC (envOfC qual scope s.heap.objs.size f cd).kindOf (ps.zip us) fun _=>none) s1):
  Inv (jj CX P w K mg base N qual scope f cd A outer s H E) [] (start N vs) H s1:=by
 have X:ps.length<=N.length:=by have:=ah4 List.length S.pre;rw[am0] at this;lia
 obtain⟨d,J,rfl,F⟩:=x.done;have j: ∀b:Addr,b∉(jj CX P w K mg base N qual scope f cd A outer s H E).ex:=fun b z=>213 (show b∈169 from z) 111;refine⟨⟨l.mod,S.kind,rfl,rfl,ab6 _,fun y z c d g=>?_,fun y m=>?_,fun y c _ h=>?_,fun _=>hd,Around.frames_deeper l.frames,.inr ⟨rfl,rfl⟩,fun b z=>213 z (j b),l.bs,l.Hn,fun b _ _=>j b,fun b z=>213 z (j b),l.kM,l.L8⟩,
  rfl,l.bare,Un.kept F,⟨_,x.toInCall.ns,fun i y v d g C=>?_⟩,fun y c h=>⟨_,x.cell y c h⟩,l.aQ.fresh (ab6 _),fun y c h=>?_,fun p B=>213 (show p∈([]:List 121) from B) 111,l.aQ.kept F,?_⟩
 . exact name_of_addr x.apart (ah6 d) (ah6 g)
 . have m:scope.names.lookup y=some .cell\/scope.names.lookup y=some .free:=m;rcases m with m | m
   . exact k9 m
   . exact 213 rfl (S.Od _ (ah6 m))
 . exact Nat.le_of_lt (x.above y c (ah6 h))
 . have I : i < vs.length := by
     unfold start at g;by_cases I:i < vs.length
     . exact I
     . rw[af4 (by simpa using I)] at g;rw[ad7] at g;split at g <;> cases g
   have t:vs[i]?=some v:=by
    unfold start at g;rw[ae9 (by simpa using I),ab8] at g;cases e:vs[i]? with
    | none=>rw[e] at g;cases g
    | some a=>rw[e] at g;cases g;rfl
   obtain⟨u,o,G⟩:=r.get t;have B:ps[i]?=some y:=by
    rw[<-S.pre,List.getElem?_take_of_lt 102];exact d
   have T:ps.Nodup:=by rw[<-S.pre];exact S.nd.sublist (List.take_sublist _ _)
   refine⟨u,G,?_⟩;rcases S.par y (ae4 B) with k | k
   . exact .inl ⟨k,rD T B o k⟩
   . obtain⟨c,e⟩:=k9 (n:=205+1) k;refine .inr ⟨.inl k,c,e,?_⟩;have q:=x.cell y c e;rw[rF T B o (by show scope.names.lookup y≠_;rw[k];decide)] at q;exact q
 . exact l.aQ.fresh (Nat.le_of_lt (x.above y c (ah6 h)))
 . unfold start;show _=N.length;rw[ac6,aa9,ak6];lia
def L9 {CX : Hs} {P : Program} {w : World} {K : PySem.W.Frag} {L : Str -> Option Value} {base : Heap} {k : Nat} {f : Addr} {name qual : Str} {G : Arguments} {R : List Stmt} {scope : Scope} {Y Z D c p ct oc : Value} (lk : K.lookup f = some ⟨oc, od, .func (PySem.W.fnOf name qual G R scope Y Z D c an p ct), Cs⟩) (jZ : PySem.W.codeIn K p qual = true) (S : aD N ps scope) (i : ∀ z H Q E, sp z H Q E -> z.length = ps.length) (fD : ∀ (A : Around) (outer : List Env) (s : Shared) (H : Hp) (z : List V) (Q : VK) (E : XK), bN k (A.deeper (envOfC qual scope s.heap.objs.size f p)) -> sp z H Q E ->
   ∃t,jw (jj CX P w K L base N qual scope f p A outer s H E) R t/\t {nx:=fun _ B=>Q .aO B,rt:=Q} (start N z) H):
  aU P w K L base CX (k+1) f (PySem.W.fnOf name qual G R scope Y Z D c an p ct) ps sp:=by
 refine⟨i,fun A outer s H X us z Q E F l hb r a=>?_⟩;have hl:=i _ _ _ _ a;have O:K.In s.heap:=l.mod.Sq.keeps fun b o e=>(l.bs b o e).1;have m:s.heap.NoLimit:=l.mod.nolimit.keeps fun b o e=>(l.bs b o e).1;have g: ∀y∈ps.zip us,scope.names.lookup y.1=some .local\/(scope.names.lookup y.1=some .cell/\((cellsFrom 156 scope.names []).lookup y.1).isSome=true):=fun h hy=>(by obtain⟨n,v⟩:=h;exact(by
  rcases S.par n (List.of_mem_zip hy).1 with q | q
  . exact .inl q
  . exact .inr ⟨q,PySem.W.cellsFrom_some _ _ _ (.inl q)⟩))
 refine codeAny_call_function F.depth (O _ _ lk) rfl S.co S.gen rfl (PySem.W.codeRec_of O jZ) (hb _ _ _ _ ?_);refine wpAny_newFunctionEnv_cells S.kind g fun j he d x=>?_;subst he;refine⟨m.keeps x.toInCall.keep,codeAny_func ?_⟩;obtain⟨t,ht,hq⟩:=fD A outer s H z Q E (F.deeper _) a;have I:Inv (jj CX P w K L base N qual scope f p A outer s H E) [] (start N z) H d:=Bu S F.hd l hl r x;refine ae3 (ht [] d (start N z) H _ I hq) (fun fl U C=>?_) fun e U C=>C;have fin: ∀{T:St} {B:Hp} {v:V} {u:212},Inv (jj CX P w K L base N qual scope f p A outer s H E) [] T B U->RelV v u->Q v B->CE outer P w H s Q u U:=
  fun{T B v u} J M q=>⟨v,B,J.os,J.bare,J.base,J.aQ,M,q⟩
 cases fl with
 | ret u=>
  obtain⟨v,T,B,J,M,q⟩:=C;exact fin J M q
 | next=>
  obtain⟨T,B,J,q⟩:=C;exact fin (v:=V.aO) (u:=221) J rfl q
 | brk=>
  obtain⟨_,_,_,q⟩:=C;exact False.elim q
 | cont=>
  obtain⟨_,_,_,q⟩:=C;exact False.elim q
section
variable{X:Cx}{x:Str}{p pos:Pos}{e:Expr}{es:List Expr}{t:TA}{id T:String}{r:List V->Hp->VK->Prop}
def Wz(r:List V->Hp->VK->Prop)(t:TA):TE:=fun b H Q=>t b H fun u l=>r u l Q
def gr(m:fK X (.builtin id) r)(c:Gl X x)(O:X.mg x=none)(u:bootBuiltins x=some (.builtin id))(f:PA X (e::es) t)(Z:x≠"__name__":=by decide)(A:123=false:=by decide)
  (y:209 (e::es) 216=(false,eval e 216)::209 es X.env:=by rfl) (W:(129).any (·.1)=false:=by rfl):PE X 135 (Wz r t):=by
 intro a s b H Q I h;refine am1 (dj I c O u ?_ Z A);exact PyProof.Rows.callWith_builtin1 (aV (f pos a s b H _ I h) fun d P q=>(by obtain⟨z,l,Y,w,v⟩:=q;exact(m a P b l z d Q Y w v))) y W
def gq(m:fK X (.type T) r)(c:Gl X x)(O:X.mg x=none)(u:bootBuiltins x=some (.type T))(f:PA X (e::es) t)(Z:x≠"__name__":=by decide)(A:123=false:=by decide)
  (y:209 (e::es) 216=(false,eval e 216)::209 es X.env:=by rfl) (W:(129).any (·.1)=false:=by rfl):PE X 135 (Wz r t):=by
 intro a s b H Q I h;refine am1 (dj I c O u ?_ Z A);exact aj3 (aV (f pos a s b H _ I h) fun d P q=>(by obtain⟨z,l,Y,w,v⟩:=q;exact(m a P b l z d Q Y w v))) y W
end
end L2
namespace HT
open PySem PyProof.Rows
section
variable{prog:214}{w:237}{A:244}{E:212->211->Prop}{s:211}
def Ku{vs I:List 212}(Z:IsTup s.heap t vs.toArray)(g:IsTup s.heap b I.toArray)(u:vs≠ [])(d:I= []->Q (.ref t) s)(f:I≠ []->Q 118 {s with heap:=s.heap.push {cls:= .type "tuple",data:= .seq (vs++I).toArray}})(hsz:234+I.length<=208):218 105 A (binaryOp .Add (.ref t) (.ref b)) Q E s:=by
 obtain⟨⟨cls,C,data,M⟩,x,m,n,G⟩:=id Z;obtain⟨⟨r,c,l,X⟩,a,Y,R,D⟩:=id g;simp only at m G Y D;subst m G Y D;have e:vs.toArray++I.toArray=(vs++I).toArray:=by simp
 by_cases z:I= []
 . exact concat_meets ⟨_, x, rfl⟩ ⟨_, a, rfl⟩ noFill_tuple_add seq_tuple_add PySem.F.slot_tuple_add av5 (av2 _ _)
     (tuple_addW1 t b vs.toArray I.toArray n R C c M X (by simpa using u) (by simp [z])) ⟨x,a,d z⟩
 . refine concat_meets ⟨_, x, rfl⟩ ⟨_, a, rfl⟩ noFill_tuple_add seq_tuple_add PySem.F.slot_tuple_add av5 (av2 _ _)
     (tuple_addW2 t b vs.toArray I.toArray n R C c M X (by simpa using u) (by simpa using z) (by rw[ad0,ad0];exact hsz)) ⟨x,a,?_⟩
   rw[e];exact f z
def da(n d:Nat):210 Int->Nat
 | none=>d
 | some v=>if v < 0 then(v+(n:Int)).toNat else min v.toNat n
def kj(n d:Nat):da n d none=d:=rfl
def sv(n d k:Nat):da n d (some (k:Int))=min k n:=by
 show(if (k:Int) < 0 then((k:Int)+(n:Int)).toNat else min (k:Int).toNat n)=min k n;rw[if_neg 102,ai6]
def DO(n d:Nat)(hd:d<=n)(o:210 Int):da n d o<=n:=by
 cases o with
 | none=>exact hd
 | some v=>
  show(if v < 0 then(v+(n:Int)).toNat else min v.toNat n)<=n;by_cases u:v < 0
  . rw[if_pos u];lia
  . rw[if_neg u];exact Nat.min_le_right _ _
def Ad(v:Int)(n d:Nat):(if v < 0 then max (v+(n:Int)) 0 else min v (n:Int))=((da n d (some v):Nat):Int):=by
 show(if v < 0 then max (v+(n:Int)) 0 else min v (n:Int))=(((if v < 0 then(v+(n:Int)).toNat else min v.toNat n):Nat):Int)
 by_cases u:v < 0
 . simp only [if_pos u];lia
 . simp only [if_neg u];lia
def yn(L hi:210 Int)(n:Nat):Builtin.Slice.sliceAdjust L hi 1 (n:Int)=(((da n 0 L:Nat):Int),((da n n hi:Nat):Int)):=by
 have d: ¬((1:Int) < 0):=by lia
 unfold Builtin.Slice.sliceAdjust;simp only [d,ak0];refine Prod.ext ?_ ?_
 . cases L with
   | none=>rfl
   | some v=>exact Ad v n 0
 . cases hi with
   | none=>rfl
   | some v=>exact Ad v n n
def xg(i j:Nat):Builtin.Slice.slicePlaces (i:Int) (j:Int) 1=j - i:=by
 unfold Builtin.Slice.slicePlaces;have d:(1:Int) > 0:=by lia
 simp only [d,as8,Int.ediv_one];split <;> lia
def n4(p:IsPart v o)(h:Q o s):218 105 A (Builtin.Slice.slicePartIndex v) Q E s:=by
 cases p with
 | none=>exact slicePart_none h
 | int i t=>exact slicePart_int h
def gm{M:Addr}{V W:Value}{L hi:Option Int}{n:Nat}{Q:Int × Int × Nat->Shared->Prop}(o:s.heap.IsSliceOf M V W .none)(b:IsPart V L)(t:IsPart W hi)
  (h:Q (((da n 0 L:Nat):Int),1,da n n hi - da n 0 L) s):218 105 A (Builtin.Slice.sliceApplied (.ref M) (pure (n:Int))) Q E s:=by
 obtain⟨q,T,Z,U⟩:=id o;unfold Builtin.Slice.sliceApplied Builtin.Slice.sliceFields;refine aa8 (aa8 (ai2 T U (x:=V) rfl (aa8 (ai2 T U (x:=W) rfl (aa8 (ai2 T U (x:= .none) rfl 204))))));refine aa8 (slicePart_none ?_);show 218 _ _ (if ((1:Int)==0)=true then _ else _) _ _ s;rw[if_neg 104];refine aa8 (n4 b (aa8 (n4 t (aa8 204))));show 218 _ _ (match Builtin.Slice.sliceAdjust L hi 1 (n:Int) with | (L,hi)=>pure (L,(1:Int),Builtin.Slice.slicePlaces L hi 1)) _ _ s;rw[yn L hi n];show 218 _ _ (pure (((da n 0 L:Nat):Int),(1:Int),Builtin.Slice.slicePlaces ((da n 0 L:Nat):Int) ((da n n hi:Nat):Int) 1)) _ _ s;rw[xg];exact ab0 h
def Ef(xs:Array 212)(i k:Nat):((219 k).filterMap fun(m:Nat)=>xs[((i:Int)+(m:Int)*1).toNat]?).toArray=((xs.toList.drop i).take k).toArray:=by
 have e:(fun(m:Nat)=>xs[((i:Int)+(m:Int)*1).toNat]?)=fun m=>xs[i+m]?:=by
  funext m
  have:((i:Int)+(m:Int)*1).toNat=i+m:=by lia
  rw[this]
 rw[e];have:=pick_run xs i k;rw[List.filterMap_map] at this;have p:((fun x=>xs[x]?) ∘ fun x=>i+x)=fun m=>xs[i+m]?:=rfl;rw[p] at this;rw[this]
def kK{t M:Addr}{items:Array 212}{V W:212}{L hi:210 Int}(X:IsTup s.heap t items)(n:s.heap.IsSliceOf M V W .none)(b:IsPart V L)(u:IsPart W hi)(z: ¬(da items.size 0 L=0/\da items.size items.size hi=items.size))(h:Q 118 {s with heap:=s.heap.push {cls:= .type "tuple",data:= .seq ((items.toList.drop (da items.size 0 L)).take (da items.size items.size hi - da items.size 0 L)).toArray}})(hsz:items.size<=208):218 105 A (getItem (.ref t) (.ref M)) Q E s:=by
 have a:sizeOk (.seq ((items.toList.drop (da items.size 0 L)).take (da items.size items.size hi - da items.size 0 L)).toArray):=by
  show((items.toList.drop (da items.size 0 L)).take (da items.size items.size hi - da items.size 0 L)).toArray.size<=208;rw[ad0,am0,aq8,ac7];lia
 have g:da items.size items.size hi<=items.size:=DO _ _ (ab6 _) hi;obtain⟨r,T,Z,U⟩:=id n;have p:s.TypeIs (.ref M) "slice":=⟨r,T,Z⟩
 unfold getItem;try with_reducible refine af6 ?_
 first | refine aa8 204 | skip
 refine aa8 (wpAny_sequenceKey X.typeIs 104 ?_);refine aa8 (aj6 (name:=Str.ofString "__getitem__") X.typeIs an1
  (ai4 an1 X.typeIs entry_tuple_getitem ?_ (args_tuple_getitem _ _)))
 show 218 _ _ (Builtin.Tuple.tupleItemsOf (.ref t) >>=_) _ _ s;refine aa8 (tupleItemsOf_ X ?_);refine aa8 (wpAny_typeOf p ?_);rw[if_pos 104];refine aa8 (gm n b u ?_);have o: ¬((((da items.size 0 L:Nat):Int)==0 && (1:Int)==1 && (da items.size items.size hi - da items.size 0 L)==items.size)=true):=by
  intro q;rw[ah9,ah9] at q;have v:((da items.size 0 L:Nat):Int)=0:=eq_of_beq q.1.1;have e:da items.size items.size hi - da items.size 0 L=items.size:=eq_of_beq q.2;exact z 176
 show 218 _ _ (if (((da items.size 0 L:Nat):Int)==0 && (1:Int)==1 && (da items.size items.size hi - da items.size 0 L)==items.size)=true then _ else _) _ _ s;rw[if_neg o,Ef];first
  | exact aa8 (m:=Builtin.Tuple.tupleExact _) (ag2 (ab0 ⟨_,rfl,ab0 h⟩) a)
  | exact aa8 (m:=Builtin.Tuple.tupleExact _) (ag2 (aa8 (ab0 (ab0 ⟨_,rfl,ab0 h⟩))) a)
  | exact aa8 (aa8 (m:=Builtin.Tuple.tupleExact _) (ag2 (ab0 (ab0 ⟨_,rfl,ab0 h⟩)) a))
  | exact aa8 (aa8 (m:=Builtin.Tuple.tupleExact _) (ag2 (ab0 ⟨_,rfl,ab0 h⟩) a))
end
end HT
namespace L2
open PySem PySem.Spec PyProof.Rows
abbrev TO:=St->Hp->(210 Int->Hp->Prop)->Prop
def PO(X:Cx)(e:210 Expr)(t:TO):Prop:=
 ∀(pins:List 121) (s:211) (σ:St) (H:Hp) (Q:210 Int->Hp->Prop),Inv X pins σ H s->t σ H Q->
  218 107 X.A (evalPart e 216) (fun u S=> ∃o q,Inv X pins σ q S/\IsPart u o/\Q o q) X.xe s
def HL:TO:=fun _ H Q=>Q none H
def Ri(t:TE):TO:=fun b H Q=>t b H fun x l=> ∃i,x= .int i/\Q (some i) l
def intsAre_of{S:List Int}: ∀{us:List 212},Vals 172 us->IntsAre us S:=by
 induction S with
 | nil=>intro us r;rw[List.map_nil] at r;cases r;exact .nil
 | cons n S ih=>
  intro us r;rw[ad4] at r;cases r with
  | cons r1 r2=>
   obtain⟨t,e⟩:=r1;subst e;exact .cons n t (ih r2)
section
variable{X:Cx}{e:Expr}{te:TE}{lo hi:210 Expr}{tl th:TO}{pos p2:Pos}
def zh:PO X none HL:=by
 intro a s b H Q I h;rw[evalPart_none];exact ab0 ⟨none,H,I,.none,h⟩
def zf(h:PE X e te):PO X (some e) (Ri te):=by
 intro a s b H Q I z;rw[evalPart_some];refine aV (h a s b H _ I z) fun u P v=>?_;obtain⟨x,l,Y,y,w⟩:=v;obtain⟨i,rfl,q⟩:=w;obtain⟨t,rfl⟩:=y;exact⟨some i,l,Y,.int i t,q⟩
def qk(X:Cx)(r:V->210 Int->210 Int->Hp->VK->Prop):Prop:=
 ∀(pins:List 121) (s:211) (σ:St) (H:Hp) (x:V) (v vl vu:212) (lo hi:210 Int) (sl:Addr) (Q:VK),Inv X pins σ H s->RelV x v->s.heap.IsSliceOf sl vl vu .none->IsPart vl lo->IsPart vu hi->r x lo hi H Q->
  ∃T p,typeLookup (.type T) "__getitem__"=pure (some (.builtin p))/\s.TypeIs v T/\218 107 X.A (getItem v (.ref sl)) (EP X pins σ Q) X.xe s
def tSl(r:V->210 Int->210 Int->Hp->VK->Prop)(te:TE)(tl th:TO):TE:=fun b H Q=>te b H fun x m=>tl b m fun l J=>th b J fun u O=>r x l u O Q
def uM(o:qk X r)(z:PE X e te)(B:PO X lo tl)(n:PO X hi th):PE X (.Subscript e (.Slice lo hi none p2) pos) (tSl r te tl th):=by
 intro a s d H Q I h;refine Subscript_ (aV (z a s d H _ I h) fun v P t=>?_);obtain⟨x,m,Y,G,E⟩:=t;refine wpAny_Slice (aV (B a P d m _ Y E) fun V L ⟨l,J,f,j,k⟩=>aV (n a L d J _ f k) fun W c y=>?_);obtain⟨u,O,D,C,F⟩:=y;rw[evalPart_none];refine ab0 ?_;have Z:Inv X a d O {c with heap:=c.heap.push {cls:= .type "slice",data:= .fields #[V,W,.none]}}:=D.kept (t':=c.toks) fun b M q=>ab1 _ q;obtain⟨T,p,U,i,g⟩:=o a {c with heap:=c.heap.push {cls:= .type "slice",data:= .fields #[V,W,.none]}} d O x v V W l u c.heap.objs.size Q Z G (Heap.IsSliceOf.new ..) j C F;show 218 107 X.A (subscriptTail e (.Slice lo hi none p2) v (.ref c.heap.objs.size)) (EP X a d Q) X.xe {c with heap:=c.heap.push {cls:= .type "slice",data:= .fields #[V,W,.none]}};exact tail_any (ops:= [.ref c.heap.objs.size,v]) i U g (by with_unfolding_all rfl)
def pA(xs:List V)(lo hi:210 Int):List V:=(xs.drop (HT.da xs.length 0 lo)).take (HT.da xs.length xs.length hi - HT.da xs.length 0 lo)
def mU(xs:List V)(lo hi:210 Int):(pA xs lo hi).length<=xs.length:=by
 unfold pA;rw[am0,aq8];lia
def Vals.sM(r:Vals xs us):us= []↔xs= []:=by
 cases r with
 | nil=>simp
 | cons _ _=>simp
end
def zw(n:Nat)(i:Int):210 Nat:=if 0<=i then(if i < n then some i.toNat else none) else if -(n:Int)<=i then some (i+n).toNat else none
def jS{α:Type}(xs:List α)(i:Int):210 α:=(zw xs.length i).bind fun j=>xs[j]?
def zv(h:zw n i=some j):seqIndex? i n=some j/\j < n/\ -(n:Int)<=i/\i < n:=by
 unfold zw at h;by_cases c:0<=i
 . rw[if_pos c] at h;by_cases d:i < n
   . rw[if_pos d] at h;have e:i.toNat=j:=215 h;exact⟨by rw[seqIndex_of c d,e],by lia,by lia,d⟩
   . rw[if_neg d] at h;cases h
 . rw[if_neg c] at h;by_cases d: -(n:Int)<=i
   . rw[if_pos d] at h;have e:(i+n).toNat=j:=215 h;exact⟨by rw[seqIndex_neg 102 d,e],by lia,d,by lia⟩
   . rw[if_neg d] at h;cases h
def tM(h:jS xs i=some v): ∃j,seqIndex? i 220=some j/\xs[j]?=some v/\j < 220/\ -(220:Int)<=i/\i < xs.length:=by
 unfold jS at h;cases e:zw xs.length i with
 | none=>rw[e] at h;cases h
 | some j=>
  rw[e] at h;obtain⟨d,f,C,B⟩:=zv e;exact⟨j,d,h,f,C,B⟩
def aS{j:Nat}(h:xs[j]?=some v):jS xs (j:Int)=some v:=by
 have g:j < xs.length:=(ac1.mp h).1;have e:zw xs.length (j:Int)=some j:=by
  unfold zw;rw[if_pos 102,if_pos 102];simp
 unfold jS;rw[e];exact h
def pL(xs:List α)(v:α):jS (xs++ [v]) (-1)=some v:=by
 have z:(xs++ [v]).length=220+1:=by simp
 have e:zw (xs++ [v]).length (-1)=some xs.length:=by
  unfold zw;rw[z,if_neg 104,if_pos 102];congr 1
  lia
 unfold jS;rw[e];show(xs++ [v])[220]?=some v;simp
def tO(b:Expr):Prop:= ∀o i,subscripted b false o i=operate [o,i] (getItem o i)
def KO(X:Cx)(r:R2):Prop:=
 ∀(value slice:Expr) (pins:List 121) (s:211) (σ:St) (H:Hp) (x y:V) (v u:212) (Q:VK),Inv X pins σ H s->RelV x v->RelV y u->r x y H Q->
  subscripted slice false v u=operate [v,u] (getItem v u)->218 107 X.A (subscriptTail value slice v u) (EP X pins σ Q) X.xe s
def Zm(X:Cx)(id:String)(r:V->List V->Hp->VK->Prop):Prop:=
 ∀(pins:List 121) (s:211) (σ:St) (H:Hp) (x:V) (xs:List V) (v:212) (us:List 212) (Q:VK),Inv X pins σ H s->RelV x v->Vals xs us->r x xs H Q->
  218 107 X.A (call (.builtin id) (v::us)) (EP X pins σ Q) X.xe s
section
variable{X:Cx}{a b:Expr}{ta tb:TE}{pos:Pos}
def KO.or(h:KO X r)(h':KO X r'):KO X (fun x y H Q=>r x y H Q\/r' x y H Q):=by
 intro Z L c s e H x y v u Q I d o q n;rcases q with q | q
 . exact h Z L c s e H x y v u Q I d o q n
 . exact h' Z L c s e H x y v u Q I d o q n
def En(o:KO X r)(g:PE X a ta)(d:PE X b tb)(n:tO b):PE X (.Subscript a b pos) (K5 r ta tb):=by
 intro c s i H Q I h;exact Subscript_ (P9 g d I h fun v u t x y J f e p q=>o a b c t i J x y v u Q f e p q (n _ _))
def RN(K:207):R2:=fun x y H Q=> ∃p g i v,x= .ref p/\y= .int i/\dr K H p g/\jS g i=some v/\Q v H
def RL(K:207):R2:=fun x y H Q=> ∃p g i v,x= .ref p/\y= .int i/\dH K H p g/\jS g i=some v/\Q v H
def RM:R2:=fun x y H Q=> ∃z i c,x= .str z/\y= .int i/\z.length<=208/\jS z.cps.toList i=some c/\Q (.str ⟨#[c]⟩) H
def sU:KO X (RN X.K):=by
 intro Z L c s k H x y v u Q I m F h n;obtain⟨p,N,i,z,rfl,rfl,U,D,q⟩:=h;cases m;obtain⟨t,rfl⟩:=F;obtain⟨A,r,e,M⟩:=I.list U;obtain⟨j,d,l,J,B,C⟩:=tM D;obtain⟨w,o,G⟩:=r.get l;have E:=r.length;have V:=l6;have fin:EP X c k Q w s:=⟨z,H,I,G,q⟩
 by_cases f:0<=i
 . have g : i.toNat = j := by
     rw[seqIndex_of f C] at d;exact 215 d
   exact item_listR e.isList f 102 (by rw[g];simpa using o) fin n
 . have g : (i + (A.toArray.size : Int)).toNat = j := by
     rw[seqIndex_neg 102 B] at d;rw[ad0,<-E];exact 215 d
   exact subscriptTail_builtinR (x:=w) e.isList.typeIs slot_list_getitem.lookup
    (wpAny_getItem_list_neg (Q:=fun r S=>r=w/\EP X c k Q r S) e.isList 102 (by rw[ad0] <;> lia) 102 (by rw[g];simpa using o) ⟨rfl,fin⟩) n
def OE:KO X (RL X.K):=by
 intro Z L c s e H x y v u Q I k C h n;obtain⟨p,J,i,z,rfl,rfl,U,A,q⟩:=h;cases k;obtain⟨t,rfl⟩:=C;obtain⟨D,r,d,m⟩:=I.tuple U;obtain⟨j,f,g,E,F,G⟩:=tM A;obtain⟨w,o,l⟩:=r.get g;have B:=r.length;have V:=l6;have fin:EP X c e Q w s:=⟨z,H,I,l,q⟩
 exact subscriptTail_builtinR (x:=w) d.typeIs slot_tuple_getitem.lookup
  (getItem_tuple (j:=j) (Q:=fun r S=>r=w/\EP X c e Q r S) d 102 102 (by rw[ad0,<-B];exact f) (by simpa using o) ⟨rfl,fin⟩) n
def OF:KO X RM:=by
 intro Z L e s m H x y v u Q I g o h n;obtain⟨z,i,c,rfl,rfl,l,A,q⟩:=h;obtain⟨t,rfl⟩:=g;obtain⟨r,rfl⟩:=o;obtain⟨j,d,f,D,B,w⟩:=tM A;have C:z.cps.toList.length=z.length:=by simp [Str.length]
 rw[C] at d B w;have V:=l6;exact tail_any (typeIs_str s z t) slot_str_getitem.lookup (getItem_str (c:=c) (by
  have k:decide (i < -(2^63:Int))=false:=ae8 102;have p:decide (i>=2^63)=false:=ae8 102;rw[k,p,Bool.or_false]) (by rw[d];simpa using f) ⟨.str ⟨#[c]⟩,H,I.tok _,⟨_,rfl⟩,q⟩) n
def ZG(K:207):R2:=fun x y H Q=>RN K x y H Q\/RL K x y H Q\/RM x y H Q
def OG:KO X (ZG X.K):=sU.or (OE.or OF)
def xC(v:List 212)(n j:Nat)(u:212):Obj.mapSeq (·.setIfInBounds j u) {cls:= .type "list",data:= .seq v.toArray n}={cls:= .type "list",data:= .seq (v.set j u).toArray n}:=by
 simp [Obj.mapSeq]
def Inv.lst{c:List 121}{d:St}{H:Hp}{s:Shared}{p:Addr}{xs:List V}(I:Inv X c d H s)(h:H p=some (.lst xs)):
  ∃(aq:List 212) (n:Nat),Vals xs aq/\s.heap.get? p=some {cls:= .type "list",data:= .seq aq.toArray n}/\220<=sizeLine:=by
 obtain⟨z,aq,n,r,e⟩:=I.aQ p _ h;exact⟨aq,n,r,e,z⟩
def Inv.Om{v its':List Value}(I:Inv X pins σ H s)(h:H p=some (.lst xs))(y:s.heap.get? p=some {cls:= .type "list",data:= .seq v.toArray n})(j:f {cls:= .type "list",data:= .seq v.toArray n}={cls:= .type "list",data:= .seq its'.toArray n'})(r:Vals ys its')(g:ys.length<=sizeLine)(t:Nat):
  Inv X pins σ (upd H p (.lst ys)) {s with heap:=s.heap.update p f,toks:=t}:=by
 have e:(s.heap.update p f).get? p=some {cls:= .type "list",data:= .seq its'.toArray n'}:=by
  rw[aj2 f y (by rw[j] <;> rfl),j]
 refine I.write (x:=p) (e:=p) (by rw[h];trivial) (.inl rfl) (fun b u c q=>(ah3 _ _ (Ne.symm c)).trans q) ⟨_,e⟩ ?_;exact⟨g,its',n',r,e⟩
def RJ:V->V->V->Hp->(Hp->Prop)->Prop:=fun o i v H Q=> ∃p g k j,o= .ref p/\i= .int k/\H p=some (.lst g)/\zw g.length k=some j/\Q (upd H p (.lst (g.set j v)))
def set_list:Uv X RJ:=by
 intro c s m H o i v T L u Q I A y F h;obtain⟨p,l,k,j,rfl,rfl,D,g,q⟩:=h;cases A;obtain⟨t,rfl⟩:=y;obtain⟨w,n,r,x,f⟩:=I.lst D;obtain⟨d,G,C,B⟩:=zv g;have z:=r.length;have V:=l6;have J:Inv X c m (upd H p (.lst (l.set j v))) {s with heap:=s.heap.update p (Obj.mapSeq (·.setIfInBounds j u))}:=
  I.Om D x (xC w n j u) (r.set F j) (by rw[ae5];exact f) 235
 by_cases e:0<=k
 . have E : k.toNat = j := by
     rw[seqIndex_of e B] at d;exact 215 d
   exact PySem.W.ki_setAt x e 102 (by rw[ad0,<-z];exact B) (by rw[E];exact⟨_,J,q⟩)
 . have E : (k + (w.toArray.size : Int)).toNat = j := by
     rw[seqIndex_neg 102 C] at d;rw[ad0,<-z];exact 215 d
   exact PySem.W.ki_setBack x 102 (by rw[ad0,<-z];exact C) 102 (by rw[E];exact⟨_,J,q⟩)
def rV(L hi:210 Int)(n:Nat):(sliceBounds L hi none n).1=((HT.da n 0 L:Nat):Int)/\(sliceBounds L hi none n).2.1=((HT.da n n hi:Nat):Int)/\(sliceBounds L hi none n).2.2=1:=by
 refine⟨?_,?_,rfl⟩
 . cases L with
   | none=>simp [sliceBounds,HT.da]
   | some i=>
    simp only [sliceBounds,HT.da,Option.getD_none,show(1:Int) > 0 by decide,as8];by_cases h:i < 0
    . simp only [h,as8] <;> lia
    . simp only [h,ak0] <;> lia
 . cases hi with
   | none=>simp [sliceBounds,HT.da]
   | some i=>
    simp only [sliceBounds,HT.da,Option.getD_none,show(1:Int) > 0 by decide,as8];by_cases h:i < 0
    . simp only [h,as8] <;> lia
    . simp only [h,ak0] <;> lia
def p4(v:List 212)(L hi:210 Int):slicePick v.toArray L hi none=((v.drop (HT.da v.length 0 L)).take (HT.da v.length v.length hi - HT.da v.length 0 L)).toArray:=by
 obtain⟨d,e,C⟩:=rV L hi v.toArray.size;unfold slicePick;rw[d,e,C];simp only [sliceRange_one,pick_run,ad0] <;> rfl
def WR(K:207):V->210 Int->210 Int->Hp->VK->Prop:=fun x L I H Q=> ∃a g,x= .ref a/\dr K H a g/\ ∀p,H p=none->Q (.ref p) (upd H p (.lst (pA g L I)))
def HR:qk X (WR X.K):=by
 intro c s j H x v V W L J M Q I e p d t h;obtain⟨a,g,rfl,i,q⟩:=h;cases e;obtain⟨w,r,Y,f⟩:=I.list i;have n:=r.length;refine⟨"list",_,slot_list_getitem.lookup,Y.isList.typeIs,?_⟩;refine wpAny_getItem_list_slice Y.isList p d t .none 111 ?_ (by rw[ad0] <;> lia);rw[p4,<-n];refine⟨.ref 205,_,I.laid (t':=235) (o:= .lst (pA g L J)) (fun b u q=>ab1 _ q) (ab6 _) ?_,rfl,q _ (I.aQ.fresh (ab6 _))⟩;exact⟨ad9 (mU g L J) f,_,0,(r.drop (HT.da g.length 0 L)).take (HT.da g.length g.length J - HT.da g.length 0 L),ac3 _ rfl⟩
def eK:V->Bool
 | .aO=>true
 | .bl _=>true
 | .int _=>true
 | .str _=>true
 | _=>false
def wg:V->V->Bool
 | .aO,.aO=>true
 | .bl a,.bl b=>a==b
 | .bl a,.int b=>(if a then 1 else 0)==b
 | .int a,.bl b=>a==(if b then 1 else 0)
 | .int a,.int b=>a==b
 | .str a,.str b=>a==b
 | _,_=>false
def FW(p:RelV y u)(d:RelV x v)(e:eK y=true)(g:eK x=true):SeqAt.EqAt A s u v (wg y x):=by
 cases y with
 | aO=>
  cases p;cases x with
  | aO=>cases d;exact SeqAt.EqAt.same _
  | bl b=>cases d;exact SeqAt.EqAt.none_bool b
  | int b=>obtain⟨t,rfl⟩:=d;exact SeqAt.EqAt.none_int b t
  | str b=>obtain⟨t,rfl⟩:=d;exact SeqAt.EqAt.none_str b t
  | _=>exact 213 (show false=true from g) ab9
 | bl a=>
  cases p;cases x with
  | aO=>cases d;exact SeqAt.EqAt.bool_none a
  | bl b=>cases d;exact SeqAt.EqAt.bool_bool a b
  | int b=>obtain⟨t,rfl⟩:=d;exact SeqAt.EqAt.bool_int a b t
  | str b=>obtain⟨t,rfl⟩:=d;exact SeqAt.EqAt.bool_str a b t
  | _=>exact 213 (show false=true from g) ab9
 | int a=>
  obtain⟨o,rfl⟩:=p;cases x with
  | aO=>cases d;exact SeqAt.EqAt.int_none a o
  | bl b=>cases d;exact SeqAt.EqAt.int_bool a o b
  | int b=>obtain⟨t,rfl⟩:=d;exact SeqAt.EqAt.int_int a o b t
  | str b=>obtain⟨t,rfl⟩:=d;exact SeqAt.EqAt.int_str a o b t
  | _=>exact 213 (show false=true from g) ab9
 | str a=>
  obtain⟨o,rfl⟩:=p;cases x with
  | aO=>cases d;exact SeqAt.EqAt.str_none a o
  | bl b=>cases d;exact SeqAt.EqAt.str_bool a o b
  | int b=>obtain⟨t,rfl⟩:=d;exact SeqAt.EqAt.str_int a o b t
  | str b=>obtain⟨t,rfl⟩:=d;exact SeqAt.EqAt.str_str a o b t
  | _=>exact 213 (show false=true from g) ab9
 | _=>exact 213 (show false=true from e) ab9
def xY(x:V)(u:212):Bool:=match u with
 | .none=>wg .aO x
 | .bool b=>wg (.bl b) x
 | .int i _=>wg (.int i) x
 | .str z _=>wg (.str z) x
 | _=>false
def FV(r:RelV y u)(f:eK y=true):xY x u=wg y x:=by
 cases y with
 | aO=>cases r;rfl
 | bl b=>cases r;rfl
 | int i=>obtain⟨t,rfl⟩:=r;rfl
 | str z=>obtain⟨t,rfl⟩:=r;rfl
 | _=>exact 213 (show false=true from f) ab9
def lx: ∀{xs:List V} {us:List 212},Vals xs us->xs.all eK=true->us.any (xY x)=xs.any fun y=>wg y x
 | _,_,.nil,_=>rfl
 | y::xs,u::us,.cons r t,f=>by
  rw[aw5,ah9] at f;rw[ao0,ao0,FV r f.1,lx t f.2]
def iQ(d:RelV x v)(g:eK x=true): ∀{xs:List V} {us:List 212},Vals xs us->xs.all eK=true-> ∀u∈us,SeqAt.EqAt A s u v (xY x u)
 | _,_,.nil,_=>fun u m=>by cases m
 | y::xs,u::us,.cons r t,f=>fun U m=>by
  rw[aw5,ah9] at f;rcases ad8.mp m with rfl | m
  . rw[FV r f.1];exact FW r d f.1 g
  . exact iQ d g t f.2 U m
def p6(x:V)(xs:List V):Bool:=xs.any fun y=>wg y x
def WU(K:207)(c:Bool):R2:=fun x y H Q=> ∃p g,y= .ref p/\(dr K H p g\/dH K H p g)/\eK x=true/\g.all eK=true/\Q (.bl (if c then !p6 x g else p6 x g)) H
def A3:jU X (compareOp .In) (WU X.K false):=by
 intro d s k H x y v u Q I e o h;obtain⟨p,i,rfl,U,g,j,q⟩:=h;cases o;rcases U with U | U
 . obtain⟨z,r,c,f⟩:=I.list U;refine SeqAt.in_listAt (xY x) c.isList (fun w A=>iQ e g r j w (by simpa using A)) ⟨.bl _,H,I,rfl,?_⟩;rw[show z.toArray.any (xY x)=z.any (xY x) by simp,lx r j];exact q
 . obtain⟨z,r,c,f⟩:=I.tuple U;refine SeqAt.in_tupleAt (xY x) c (fun w A=>iQ e g r j w (by simpa using A)) ⟨.bl _,H,I,rfl,?_⟩;rw[show z.toArray.any (xY x)=z.any (xY x) by simp,lx r j];exact q
def sJ:jU X (compareOp .NotIn) (WU X.K true):=by
 intro d s k H x y v u Q I e o h;obtain⟨p,i,rfl,U,g,j,q⟩:=h;cases o;rcases U with U | U
 . obtain⟨z,r,c,f⟩:=I.list U;refine SeqAt.notIn_listAt (xY x) c.isList (fun w A=>iQ e g r j w (by simpa using A)) ⟨.bl _,H,I,rfl,?_⟩;rw[show z.toArray.any (xY x)=z.any (xY x) by simp,lx r j];exact q
 . obtain⟨z,r,c,f⟩:=I.tuple U;refine SeqAt.notIn_tupleAt (xY x) c (fun w A=>iQ e g r j w (by simpa using A)) ⟨.bl _,H,I,rfl,?_⟩;rw[show z.toArray.any (xY x)=z.any (xY x) by simp,lx r j];exact q
def lr:fK X (.builtin "len") (fun g H Q=> ∃p t,g= [.ref p]/\(dr X.K H p t\/dH X.K H p t)/\Q (.int t.length) H):=by
 intro d s i H g Z Q I r h;obtain⟨p,t,rfl,U,q⟩:=h;obtain⟨u,rfl,e⟩:=vals1 r;cases e;have V:=l6;rcases U with U | U
 . obtain⟨v,Y,c,f⟩:=I.list U;have n:=Y.length;exact Calls.call_len_list c.isList (by simp only [ad0] <;> lia) ⟨.int t.length,H,I.tok _,⟨235+1,by rw[ad0,n]⟩,q⟩
 . obtain⟨v,Y,c,f⟩:=I.tuple U;have n:=Y.length;exact len_tuple c (by simp only [ad0] <;> lia) ⟨.int t.length,H,I.tok _,⟨235+1,by rw[ad0,n]⟩,q⟩
def lq:fK X (.type "list") (fun i H Q=> ∃p x,i= [.ref p]/\(dr X.K H p x\/dH X.K H p x)/\ ∀l,H l=none->Q (.ref l) (upd H l (.lst x))):=by
 intro c s k H i Z Q I r h;obtain⟨p,x,rfl,U,q⟩:=h;obtain⟨u,rfl,j⟩:=vals1 r;cases j;have fin: ∀(v:List Value),Vals x v->x.length<=sizeLine-> ∀(t:Heap) (T:Nat),(∀b g,s.heap.get? b=some g->t.get? b=some g)->
   t.get? 205=some {cls:= .type "list",dict:=none,data:= .seq v.toArray T,slots:= #[]}->EP X c k Q 118 {s with heap:=t}:=fun v Y f t T z e=>
  ⟨.ref 205,_,I.laid (t':=235) z (ab6 _) (show aX X.prog X.w _ t _ (.lst x) from⟨f,v,T,Y,e⟩),rfl,q _ (I.aQ.fresh (ab6 _))⟩
 rcases U with U | U
 . obtain⟨v,Y,d,f⟩:=I.list U;have y:=Y.length;obtain⟨o,A,m,n,D⟩:=d.isList;exact call_list_seq p (.inl rfl) A m D (fun t T z e=>fin v Y f t T z e) (by simp only [ad0] <;> lia)
 . obtain⟨v,Y,d,f⟩:=I.tuple U;have y:=Y.length;obtain⟨o,A,m,n,D⟩:=d;exact call_list_seq p (.inr rfl) A m D (fun t T z e=>fin v Y f t T z e) (by simp only [ad0] <;> lia)
def jv:fK X (.type "tuple") (fun g H Q=> ∃p t,g= [.ref p]/\((dr X.K H p t/\ ∀l,H l=none->Q (.ref l) (upd H l (.tup t)))\/(dH X.K H p t/\Q (.ref p) H))):=by
 intro c s i H g m Q I r h;obtain⟨p,t,rfl,h⟩:=h;obtain⟨u,rfl,k⟩:=vals1 r;cases k;rcases h with ⟨U,q⟩ | ⟨U,q⟩
 . obtain⟨x,Y,d,f⟩:=I.list U;have n:=Y.length;refine call_tuple_list d.isList (fun v y=>?_) (by simp only [ad0] <;> lia);have Z:Inv X c i H {s with heap:=v}:=I.kept (t':=s.toks) y;have j:Inv X c i (upd H v.objs.size (.tup t)) {s with heap:=v.push {cls:= .type "tuple",data:= .seq x.toArray}}:=
    Z.laid (t':=235) (fun b o e=>ab1 _ e) (ab6 _) (show aX X.prog X.w _ _ _ (.tup t) from⟨f,x,Y,pV.new _ _⟩)
   exact⟨.ref v.objs.size,_,j,rfl,q _ (Z.aQ.fresh (ab6 _))⟩
 . obtain⟨x,Y,d,f⟩:=I.tuple U;exact call_tuple_same d ⟨.ref p,H,I,rfl,q⟩
def Wg(K:207)(T:String)(x:V)(H:Hp):Prop:=match x with
 | .str _=>T="str"
 | .int _=>T="int"
 | .ref p=>(T="list"/\ ∃g,dr K H p g)\/(T="tuple"/\ ∃o,K.lookup p=some o/\o.cls= .type "tuple"/\o.dict=none)\/
   (T="dict"/\((∃J,H p=some (.dK J))\/ ∃J,H p=some (.dT J)))\/(T="set"/\ ∃S n,H p=some (.set S n))\/(T="tuple"/\ ∃g,H p=some (.tup g))
 | _=>False
def C7(I:Inv X pins σ H s)(r:RelV x v)(V:Wg X.K T x H):
  s.TypeIs v T/\ ∀a,v= .ref a-> ∃y,s.heap.get? a=some y/\y.dict=none:=by
 cases x with
 | str z=>
  obtain⟨t,rfl⟩:=r;cases (show T="str" from V);exact⟨typeIs_str s z t,fun _ e=>nomatch e⟩
 | int i=>
  obtain⟨t,rfl⟩:=r;cases (show T="int" from V);exact⟨typeIs_int s i t,fun _ e=>nomatch e⟩
 | ref p=>
  cases r;rcases V with ⟨rfl,g,U⟩ | ⟨rfl,o,E,m,D⟩ | ⟨rfl,E⟩ | ⟨rfl,S,n,E⟩ | ⟨rfl,g,E⟩
  . obtain⟨A,_,d,_⟩:=I.list U;refine⟨d.isList.typeIs,fun a e=>?_⟩;cases e;obtain⟨o,n,e,c,D,_⟩:=d;exact⟨o,e,D⟩
  . refine⟨⟨o,I.l7 p o E,m⟩,fun a e=>?_⟩;cases e;exact⟨o,I.l7 _ o E,D⟩
  . have z : ∃ o, s.heap.get? p = some o /\ o.ExactDict := by
      rcases E with ⟨J,E⟩ | ⟨J,E⟩
      . obtain⟨_,_,_,_,o,_,_,e,u,_⟩:=I.aQ p _ E;exact⟨o,e,u⟩
      . obtain⟨_,_,_,_,o,_,_,e,u,_⟩:=I.aQ p _ E;exact⟨o,e,u⟩
    obtain⟨o,e,u⟩:=z;refine⟨⟨o,e,u.1⟩,fun a q=>?_⟩;cases q;exact⟨o,e,u.2.1⟩
  . obtain⟨o,_,_,_,e,u,_⟩:=I.aQ p _ E;refine⟨⟨o,e,u.1⟩,fun a q=>?_⟩;cases q;exact⟨o,e,u.2.1⟩
  . obtain⟨_,_,_,o,e,c,f,_⟩:=(show aX X.prog X.w H s.heap p (.tup g) from I.aQ p _ E)
    refine⟨⟨o,e,c⟩,fun a q=>?_⟩;cases q;exact⟨o,e,f⟩
 | _=>exact False.elim V
def WA(K:207)(T:String)(r:V->List V->Hp->VK->Prop)(Y:TE):TE:=fun c H Q=>Y c H fun x l=>Wg K T x l/\r x [] l Q
def Zz(K:207)(T:String)(r:V->List V->Hp->VK->Prop)(Y:TE)(t:TA):TE:=fun c H Q=>Y c H fun x l=>Wg K T x l/\t c l fun g J=>r x g J Q
variable{o e:Expr}{es:List Expr}{to:TE}{t:TA}{name:Str}{apos bz:Pos}{T id:String}{r:V->List V->Hp->VK->Prop}
def Es(i:PlainAttrs T)(G:Slot T name id)(n:typeOf (.builtin id)=pure (.type "method_descriptor"))(O:Zm X id r)(z:PE X o to)
  (p:attributeBase o name X.env (eval o 216)=eval o X.env:=by rfl) (R:(apos.endLine==bz.line)=true:=by rfl):PE X (.Call (.Attribute o name apos) [] [] bz) (WA X.K T r to):=by
 intro c s d H Q I h;refine wpAny_Call_method0_late p R (aV (z c s d H _ I h) fun v P y=>?_);obtain⟨x,l,Y,w,W,u⟩:=y;obtain⟨f,g⟩:=C7 Y w W;exact⟨T,id,i,G,n,f,g,Calls.callWith_builtin rfl (PySem.evalArgs_none (O c P d l x [] v [] Q Y w .nil u))⟩
def Lm(m:PlainAttrs T)(G:Slot T name id)(n:typeOf (.builtin id)=pure (.type "method_descriptor"))(O:Zm X id r)(A:PE X o to)(k:PA X (e::es) t)
  (p:attributeBase o name X.env (eval o 216)=eval o X.env:=by rfl)
  (f:((backTo bz (209 (e::es) 216)).all (fun x=>!x.1) && (backToKw bz (keywordEach [] 216)).all (fun x=>x.1.isSome)
   && decide ((e::es).length+([]:List Keyword).length+(if ([]:List Keyword).isEmpty then 0 else 1) < 30))=true:=by rfl)
  (R:(apos.endLine==bz.line)=true:=by rfl) (q:209 (e::es) 216=(false,eval e 216)::209 es X.env:=by rfl) (W:(backTo bz (209 es 216)).any (·.1)=false:=by rfl):
  PE X (.Call (.Attribute o name apos) (e::es) [] bz) (Zz X.K T r to t):=by
 intro c s d H Q I h;refine wpAny_Call_method_late p f R rfl (aV (A c s d H _ I h) fun v P y=>?_);obtain⟨x,l,Y,w,E,u⟩:=y;obtain⟨i,j⟩:=C7 Y w E;refine⟨T,id,m,G,n,i,j,?_⟩;have Z:=k bz c P d l _ Y u;rw[q] at Z ⊢;refine Calls.callWith_builtin (by show(false || (backTo bz (209 es 216)).any (·.1))=false;rw[W] <;> rfl) (Calls.evalArgs_plain ?_);exact aV Z fun F D z=>(by obtain⟨L,J,g,C,B⟩:=z;exact(O c D d J x L v F Q g w C B))
end
def Zn(X:Cx)(id:String)(r:V->List V->Hp->VK->Prop):Prop:=
 ∀(pins:List 121) (s:211) (σ:St) (H:Hp) (x:V) (xs:List V) (v:212) (us:List 212) (Q:VK),Inv X pins σ H s->RelV x v->Vals xs us->r x xs H Q->
  218 107 X.A (call (.builtin id) (v::us)) (EP X pins σ Q) X.xe s
def Vals.one: ∀{x:V} {us:List 212},Vals [x] us-> ∃u,us= [u]/\RelV x u
 | _,_,.cons r .nil=>⟨_,rfl,r⟩
def Vals.zero: ∀{us:List 212},Vals [] us->us= []
 | _,.nil=>rfl
def Vals.dropLast(h:Vals xs us):Vals xs.dropLast us.dropLast:=by
 induction h with
 | nil=>exact .nil
 | cons r t ih=>
  cases t with
  | nil=>exact .nil
  | cons q t'=>exact .cons r ih
def Vals.reverse(h:Vals xs us):Vals xs.reverse us.reverse:=by
 induction h with
 | nil=>exact .nil
 | cons r t ih=>rw[av8,av8];exact Vals.append ih (.cons r .nil)
def Vals.rep(h:Vals xs us): ∀k:Nat,Vals (206 k xs).flatten (206 k us).flatten
 | 0=> .nil
 | k+1=>by
  rw[aj0,aj0,ag8,ag8];exact Vals.append h (Vals.rep h k)
def xX{α:Type}(l:List α):l.eraseIdx (l.length - 1)=l.dropLast:=by
 induction l with
 | nil=>rfl
 | cons a r ih=>
  cases r with
  | nil=>rfl
  | cons b r=>
   have e:(a::b::r).length - 1=((b::r).length - 1)+1:=by
    have d:(a::b::r).length=r.length+2:=rfl;have f:(b::r).length=r.length+1:=rfl;lia
   rw[e,List.eraseIdx_cons_succ,ih];all_goals rfl
def foldl_rep(v:List Value): ∀(k:Nat) (acc:List Value),
  List.foldl (fun Q E=>Q++E) acc.toArray (206 k v.toArray)=(acc++(206 k v).flatten).toArray
 | 0,acc=>by simp
 | k+1,acc=>by
  have e:acc.toArray++v.toArray=(acc++v).toArray:=by simp
  have p:(acc++v)++(206 k v).flatten=acc++(206 (k+1) v).flatten:=by
   rw[aj0,ag8,af9]
  rw[<-p,<-foldl_rep v k (acc++v),<-e,aj0,List.foldl_cons]
def Inv.Oo{v its':List Value}(I:Inv X pins σ H s)(c:H l=some (.lst xs))(e:s.heap.get? l=some {cls:= .type "list",data:= .seq v.toArray n})(j:f v.toArray=its'.toArray)(w:Vals ys its')(g:ys.length<=sizeLine):
  Inv X pins σ (upd H l (.lst ys)) {s with heap:=s.heap.update l (Obj.mapSeq f),toks:=t'}:=by
 have q:=PySem.IsL.update e f;rw[j] at q;refine I.write (x:=l) (e:=l) (by rw[c];exact trivial) (.inl rfl) (fun k u d m=>(ah3 s.heap (Obj.mapSeq f) (Ne.symm d)).trans m) ⟨_,q⟩ ?_;exact⟨g,its',_,w,q⟩
def Inv.Sk(I:Inv X pins σ H s)(u:Vals ys aq)(f:ys.length<=sizeLine):
  Inv X pins σ (upd H s.heap.objs.size (.lst ys)) {s with heap:=s.heap.push {cls:= .type "list",data:= .seq aq.toArray},toks:=t'}:=
 I.laid (fun _ _ q=>ab1 _ q) (ab6 _) ⟨f,aq,0,u,ac3 _ rfl⟩
def Inv.fresh(I:Inv X pins σ H s):H 205=none:=I.aQ.fresh (ab6 _)
def Inv.Bl(I:Inv X pins σ H s)(c:H l=some (.lst xs)):220<=208/\ ∃(aq:List 212) (n:Nat),Vals xs aq/\220=aq.length/\s.heap.get? l=some {cls:= .type "list",data:= .seq aq.toArray n}:=by
 obtain⟨z,aq,n,r,e⟩:=I.aQ l _ c;exact⟨z,aq,n,r,r.length,e⟩
def EN(h:n<=208):Builtin.List.listTooLong n=false:=by
 unfold Builtin.List.listTooLong;exact ae8 102
section
variable{X:Cx}
def Il:V->List V->Hp->VK->Prop:=fun x u H Q=> ∃l g y,x= .ref l/\u= [y]/\H l=some (.lst g)/\g.length < 208/\Q .aO (upd H l (.lst (g++ [y])))
def l5:Zn X "list.append" Il:=by
 intro a s b H x B v Y Q I d G h;obtain⟨l,g,y,rfl,rfl,c,f,q⟩:=h;cases d;obtain⟨u,rfl,o⟩:=G.one;obtain⟨z,w,n,r,A,e⟩:=I.Bl c;refine ar7 F.slot_list_append ⟨_,e,rfl⟩ F.entry_list_append (F.args_list_append_2 _ _) (PySem.list_append l w.toArray n u (by rw[ad0];lia)) ⟨e,?_⟩;refine⟨.aO,_,I.Oo (its':=w++ [u]) c e 111 (r.append (.cons o .nil)) ?_,rfl,q⟩;rw[ac6,List.length_singleton];lia
def WT:V->List V->Hp->VK->Prop:=fun x u H Q=> ∃l g y,x= .ref l/\u= []/\H l=some (.lst g)/\g[g.length - 1]?=some y/\Q y (upd H l (.lst g.dropLast))
def Oh:Zn X "list.pop" WT:=by
 intro a s b H x B v Z Q I d G h;obtain⟨l,g,y,rfl,rfl,c,k,q⟩:=h;cases d;have o:=G.zero;subst o;obtain⟨z,w,n,r,A,e⟩:=I.Bl c;obtain⟨u,m,p⟩:=r.get k;have Y:w.toArray[233 - 1]?=some u:=by
  show w.toArray[w.length - 1]?=some u;rw[<-ah2,<-A];exact m
 refine ar7 F.slot_list_pop ⟨_,e,rfl⟩ F.entry_list_pop (F.args_list_pop_1 _) (MeetsSeq.list_pop_last l w.toArray n u Y (by rw[ad0];lia)) ⟨e,?_⟩;refine⟨y,_,I.Oo (its':=w.dropLast) c e ?_ r.dropLast ?_,p,q⟩
 . show w.toArray.eraseIdxIfInBounds (233 - 1)=w.dropLast.toArray;rw[ad0,List.eraseIdxIfInBounds_toArray,xX]
 . rw[aq0];lia
def DY:V->List V->Hp->VK->Prop:=fun x u H Q=> ∃l g,x= .ref l/\u= []/\H l=some (.lst g)/\Q .aO (upd H l (.lst g.reverse))
def xw:Zn X "list.reverse" DY:=by
 intro a s b H x u v Y Q I d G h;obtain⟨l,g,rfl,rfl,c,q⟩:=h;cases d;have o:=G.zero;subst o;obtain⟨z,w,n,r,A,e⟩:=I.Bl c;refine ar7 F.slot_list_reverse ⟨_,e,rfl⟩ F.entry_list_reverse (F.args_list_reverse_1 _) (AutoSeq1.list_reverse_list_0 l w.toArray n (by rw[ad0];lia)) ⟨e,?_⟩;refine⟨.aO,_,I.Oo (its':=w.reverse) c e 111 r.reverse ?_,rfl,q⟩;rw[List.length_reverse];lia
def RP:R2:=fun x y H Q=> ∃l b g A,x= .ref l/\y= .ref b/\H l=some (.lst g)/\H b=some (.lst A)/\g.length+A.length<=208/\ ∀p,H p=none->Q (.ref p) (upd H p (.lst (g++A)))
def N2:jU X (binaryOp .Add) RP:=by
 intro a s m H x y v u Q I d o h;obtain⟨l,b,k,B,rfl,rfl,c,S,g,q⟩:=h;cases d;cases o;obtain⟨z,w,n,r,A,e⟩:=I.Bl c;obtain⟨U,i,R,j,f,p⟩:=I.Bl S;refine PySem.P.add_list e p ?_ (by rw[ad0,ad0];lia);have W:w.toArray++i.toArray=(w++i).toArray:=by simp
 rw[W];exact⟨.ref _,_,I.Sk (t':=235) (r.append j) (by rw[ac6];lia),rfl,q _ I.fresh⟩
def RK:R2:=fun x y H Q=> ∃l k g,x= .ref l/\y= .int k/\H l=some (.lst g)/\ -(2^63)<=k/\k < 2^63/\g.length*k.toNat<=208/\
 ∀p,H p=none->Q (.ref p) (upd H p (.lst (206 k.toNat g).flatten))
def len_rep{α:Type}(xs:List α)(k:Nat):(206 k xs).flatten.length=k*xs.length:=by
 induction k with
 | zero=>simp
 | succ k ih=>rw[aj0,ag8,ac6,ih,Nat.succ_mul,Nat.add_comm]
def N1:jU X (binaryOp .Mult) RK:=by
 intro b s L H x y v u Q I D G h;obtain⟨l,k,J,rfl,rfl,j,d,i,f,q⟩:=h;cases D;obtain⟨t,rfl⟩:=G;obtain⟨z,w,n,r,C,e⟩:=I.Bl j;have o:233*k.toNat<=sizeLine:=by rw[ad0,<-C];exact f
 have p: ¬233*k.toNat > (2^63 - 1) / 8:=by
  have:(sizeLine:Nat)<=(2^63 - 1) / 8:=by decide
  lia
 have A: ¬(!Builtin.List.listFitsIndex k)=true:=by
  rw[fitsIndex_both d i];exact ab9
 have B: ¬Builtin.List.listTooLong (233*k.toNat)=true:=by
  rw[EN o];exact ab9
 have c:List.foldl (fun R E=>R++E) #[] (206 (if w.toArray.isEmpty=true then 0 else k.toNat) w.toArray)=(206 k.toNat w).flatten.toArray:=by
  have g: ∀m:Nat,List.foldl (fun R E=>R++E) #[] (206 m w.toArray)=(206 m w).flatten.toArray:=fun m=>by
   have:=foldl_rep w m [];rw[List.nil_append] at this;exact this
  rw[g];cases w with
  | nil=>simp
  | cons a r'=>rw[if_neg 111]
 refine wpAny_binaryOp_repeat_ref (T:="list") (U:="int") 104 ⟨_,e,rfl⟩ (fun S=>typeIs_int S k t) noFill_list_mul F.fills_int_mul F.slot_int_rmul repeat_list F.slot_int_index.lookup
  (ar7 F.slot_int_rmul (typeIs_int s k t) F.entry_int_rmul (F.args_int_rmul_2 _ _) (int___rmul___int_list k t l w.toArray n)
   ⟨e,rfl,⟨_,e,rfl⟩,ar7 F.slot_list_mul ⟨_,e,rfl⟩ F.entry_list_mul (F.args_list_mul_2 _ _) (AutoListH.list___mul___list_int_3 l w.toArray n k t A p B) ⟨e,?_⟩⟩)
 rw[c];exact⟨.ref _,_,I.Sk (t':=235) (r.rep k.toNat) (by rw[len_rep,Nat.mul_comm];exact f),rfl,q _ I.fresh⟩
end
section
variable{κ:Type}[DecidableEq κ]
def gK(J:List (κ × V))(k:κ):210 V:=(J.find? fun R=>decide (R.1=k)).map (·.2)
def putK(J:List (κ × V))(k:κ)(v:V):List (κ × V):=
 if (J.any fun R=>decide (R.1=k))=true then J.map (fun R=>if R.1=k then(R.1,v) else R) else J++ [(k,v)]
def nS{p:κ × V}(e:p.1=k):gK (p::r) k=some p.2:=by simp [gK,al5,e]
def nU{p:κ × V}(e: ¬p.1=k):gK (p::r) k=gK r k:=by simp [gK,al5,e]
def ub(k:κ): ∀J:List (κ × V),(J.any fun R=>decide (R.1=k))=(gK J k).isSome
 | []=>rfl
 | p::r=>by
  rw[ao0];by_cases e:p.1=k
  . simp only [nS e,af3 e,Bool.true_or,Option.isSome_some]
  . rw[nU e,ae8 e,Bool.false_or];exact ub k r
def dX(J:List (κ × V))(k:κ)(v:V):(putK J k v).length<=J.length+1:=by
 unfold putK;split
 . rw[aa9];lia
 . rw[ac6,ad6,ak9];lia
def jT.l9(r:jT o u):o.isSome=u.isSome:=by
 cases o with
 | none=>cases u with
  | none=>rfl
  | some _=>exact(show False from r).elim
 | some _=>cases u with
  | none=>exact(show False from r).elim
  | some _=>rfl
def KV.val(r:KV aJ vs)(k:κ):jT (gK aJ k) (valueAt vs k):=by
 unfold KV at r;induction r with
 | nil=>exact 242
 | @cons p q ps qs h t ih=>
  obtain⟨d,f⟩:=h;by_cases e:p.1=k
  . have H:q.1=k:=d.symm.trans e;have b:valueAt (q::qs) k=some q.2:=by simp [valueAt,al5,H]
    rw[nS e,b];exact f
  . have H: ¬q.1=k:=fun z=>e (d.trans z);have b:valueAt (q::qs) k=valueAt qs k:=by simp [valueAt,al5,H]
    rw[nU e,b];exact ih
def KV.any(r:KV aJ vs)(k:κ):(aJ.any fun R=>decide (R.1=k))=vs.any fun R=>decide (R.1=k):=by
 unfold KV at r;induction r with
 | nil=>rfl
 | cons h t ih=>rw[ao0,ao0,ih,h.1]
def KV.NJ(r:KV aJ vs)(k:κ)(o:RelV y u):
  KV (aJ.map fun R=>if R.1=k then(R.1,y) else R) (vs.map fun R=>if R.1=k then(R.1,u) else R):=by
 unfold KV at r ⊢;induction r with
 | nil=>exact .nil
 | @cons p q ps qs h t ih=>
  rw[ad4,ad4];refine .cons ?_ ih;obtain⟨d,f⟩:=h;by_cases e:p.1=k
  . rw[if_pos e,if_pos (d.symm.trans e)];exact⟨d,o⟩
  . rw[if_neg e,if_neg (fun z=>e (d.trans z))];exact⟨d,f⟩
def KV.put(r:KV aJ vs)(k:κ)(o:RelV y u):KV (putK aJ k y) (stored vs k u):=by
 unfold putK stored;rw[r.any k];by_cases e:(vs.any fun R=>decide (R.1=k))=true
 . rw[if_pos e,if_pos e];exact r.NJ k o
 . rw[if_neg e,if_neg e];exact Paired.snoc r ⟨rfl,o⟩
def KV.length{J:List (κ × V)}(r:KV J vs):J.length=vs.length:=Paired.length r
end
def va(r:RelV (kV k) u):(a8 P w).is k u=true:=by
 cases k with
 | inl i=>obtain⟨t,e⟩:=(show∃t,u=Value.int i t from r);subst e;exact uV P w i t
 | inr x=>obtain⟨t,e⟩:=(show∃t,u=Value.str x t from r);subst e;exact uU P w x t
def qK: ∀{ks:List Key} {us:List 212},Vals (ks.map kV) us->ItemsAre (a8 P w) ks us
 | [],_,r=>by rw[List.map_nil] at r;cases r;exact .nil
 | k::ks,_,r=>by
  rw[ad4] at r;cases r with
  | cons h t=>exact .cons (va h) (qK t)
abbrev KT(H:Hp):List (List Key × V)->List (List Key × Addr × 212)->Prop:=Paired fun p q=>p.1=q.1/\H q.2.1=some (.tup (p.1.map kV))/\RelV p.2 q.2.2
def KT.val(r:KT H aJ xs)(k:List Key):jT (gK aJ k) ((atKey xs k).map (·.2)):=by
 induction r with
 | nil=>exact 242
 | @cons p q ps qs h t ih=>
  obtain⟨d,_,f⟩:=h;by_cases e:p.1=k
  . have I:q.1=k:=d.symm.trans e;have b:atKey (q::qs) k=some q.2:=by simp [atKey,al5,I]
    rw[nS e,b];exact f
  . have I: ¬q.1=k:=fun z=>e (d.trans z);have b:atKey (q::qs) k=atKey qs k:=by simp [atKey,al5,I]
    rw[nU e,b];exact ih
def KT.NJ(r:KT H aJ xs)(k:List Key)(o:RelV y u):
  KT H (aJ.map fun R=>if R.1=k then(R.1,y) else R) (xs.map (putAt k u)):=by
 induction r with
 | nil=>exact .nil
 | @cons p q ps qs h t ih=>
  rw[ad4,ad4];refine .cons ?_ ih;obtain⟨d,f,C⟩:=h;unfold putAt;by_cases e:p.1=k
  . rw[if_pos e,if_pos (d.symm.trans e)];exact⟨d,f,o⟩
  . rw[if_neg e,if_neg (fun z=>e (d.trans z))];exact⟨d,f,C⟩
def KT.put(r:KT H aJ xs)(k:List Key)(c:H b=some (.tup (k.map kV)))(o:RelV y u):
  KT H (putK aJ k y) (storedH xs k b u):=by
 have e:(aJ.any fun R=>decide (R.1=k))=(atKey xs k).isSome:=by
  rw[ub,(r.val k).l9,Option.isSome_map]
 unfold putK storedH;rw[e];by_cases q:(atKey xs k).isSome=true
 . rw[if_pos q,if_pos q];exact r.NJ k o
 . rw[if_neg q,if_neg q];exact Paired.snoc r ⟨rfl,c,o⟩
def KT.keeps(r:KT H aJ xs)(X: ∀b q,H b=some (.tup q)->H' b=some (.tup q)):KT H' aJ xs:=
 Paired.Oj r fun _ _ z=>⟨z.1,X _ _ z.2.1,z.2.2⟩
def Le(l:gG P w H h)(e:Rd H a u):aX P w H h a u:=e.ok l
def F5(l:gG P w H h)(e:Rd H a (.dK aJ)):aJ.length<=208/\(a==sysModules)=false/\ ∃u,KV aJ u/\h.DictOf (a8 P w) a u:=
 show aX P w H h a (.dK aJ) from Le l e
def F6(l:gG P w H h)(e:H a=some (.dK aJ)):aJ.length<=208/\(a==sysModules)=false/\ ∃u,KV aJ u/\h.DictOf (a8 P w) a u:=F5 l (.inl e)
def sT{O:List Key}(l:gG P w H h)(e:H a=some (.tup (O.map kV))):(tupleKind (a8 P w)).is h O a:=by
 obtain⟨_,v,r,o,d,f,_,n,C⟩:=(show aX P w H h a (.tup (O.map kV)) from l a _ e)
 exact⟨o,v.toArray,n,d,f,C,by simpa using qK r⟩
def F3(n:gG P w H h)(e:Rd H a (.dT aJ)):aJ.length<=sizeLine/\(a==sysModules)=false/\
  ∃g,KT H aJ g/\h.DictOfH (tupleKind (a8 P w)) a g:=by
 obtain⟨z,y,g,r,o,Q,v,d,j,C,B,A⟩:=(show aX P w H h a (.dT aJ) from Le n e)
 refine⟨z,y,g,r,o,Q,v,d,j,C,B,fun x i=>?_,A⟩;have f: ∀{l:List (List Key × V)} {m:List (List Key × Addr × 212)},KT H l m-> ∀x∈m,(tupleKind (a8 P w)).is h x.1 x.2.1:=by
  intro l m q;induction q with
  | nil=>intro x i;exact nomatch i
  | @cons p q ps qs hq t ih=>
   intro x i;rcases ad8.mp i with e | i
   . subst e;exact sT n (by rw[<-hq.1];exact hq.2.1)
   . exact ih x i
 exact f r x i
def vI(l:gG P w H h)(e:H a=some (.dT aJ)):aJ.length<=sizeLine/\(a==sysModules)=false/\
  ∃g,KT H aJ g/\h.DictOfH (tupleKind (a8 P w)) a g:=F3 l (.inl e)
def ni(H:Hp)(a:Addr)(y:V)(r:210 V):Prop:=
 (∃J k,Rd H a (.dK J)/\y=kV k/\r=gK J k)\/ ∃J k b,Rd H a (.dT J)/\y= .ref b/\H b=some (.tup (k.map kV))/\r=gK J k
def ng(H:Hp)(a:Addr)(y v:V)(H':Hp):Prop:=
 (∃J k,H a=some (.dK J)/\y=kV k/\J.length < 208/\H'=upd H a (.dK (putK J k v)))\/
 ∃J k b,H a=some (.dT J)/\y= .ref b/\H b=some (.tup (k.map kV))/\J.length < 208/\H'=upd H a (.dT (putK J k v))
def ni.k{H:Hp}{a:Addr}{J:List (Key × V)}{k:Key}(e:H a=some (.dK J)):ni H a (kV k) (gK J k):= .inl ⟨J,k,.inl e,rfl,rfl⟩
def ni.t{k:List Key}(e:H a=some (.dT aJ))(Z:H b=some (.tup (k.map kV))):ni H a (.ref b) (gK aJ k):= .inr ⟨aJ,k,b,.inl e,rfl,Z,rfl⟩
def ng.k{H:Hp}{a:Addr}{J:List (Key × V)}{k:Key}(e:H a=some (.dK J))(z:J.length < 208):ng H a (kV k) v (upd H a (.dK (putK J k v))):= .inl ⟨J,k,e,rfl,z,rfl⟩
def ng.t{k:List Key}(e:H a=some (.dT aJ))(Z:H b=some (.tup (k.map kV)))(z:aJ.length < sizeLine):
  ng H a (.ref b) v (upd H a (.dT (putK aJ k v))):= .inr ⟨aJ,k,b,e,rfl,Z,z,rfl⟩
def Inv.big(I:Inv X pins σ H s):sysModules < s.heap.objs.size:=by
 have h:217 < s.heap.objs.size:=(I.mod.glob.keeps I.bk).lt;exact Nat.lt_trans 104 h
def BW(n:A.units+1 < cLine)(I:Inv X pins σ H s)(g:ni H a y (some v))(r:RelV y u)(h: ∀j S,Inv X pins σ H S->RelV v j->Q j S):
  218 107 A (getItem 190 u) Q E s:=by
 rcases g with ⟨J,k,e,W,l⟩ | ⟨J,k,b,e,W,Z,l⟩
 . subst W;obtain⟨z,D,x,q,C⟩:=F5 I.aQ e;obtain⟨j,B,m⟩:=jT.some_of (v:=v) (o:=valueAt x k) (by rw[l];exact q.val k);exact wpAny_getItem_of (va r) C.mapOf B (h j _ (I.tok _) m)
 . subst W;cases (show u=Value.ref b from r);obtain⟨z,D,i,q,C⟩:=F3 I.aQ e;obtain⟨j,B,m⟩:=jT.some_of (v:=v) (o:=(atKey i k).map (·.2)) (by rw[l];exact q.val k);obtain⟨p,F,Y⟩:=ak1.mp B;refine wpAny_getItem_heap (au8 n) (sT I.aQ Z) C F ?_;rw[Y];exact h j _ (I.tok _) m
def fS(I:Inv X pins σ H s)(U:UG (H a))(n:Heap.SameBut a s.heap h')(y: ∃q,h'.get? a=some q)(o:aX X.prog X.w (upd H a ob) h' a ob):
  Inv X pins σ (upd H a ob) {s with heap:=h',toks:=t'}:=
 I.write (x:=a) (e:=a) U (.inl rfl) (fun b q c z=>(n.2 b c).trans z) y o
def x6{h':Heap}{J:List (Key × V)}(z:J.length<=sizeLine)(hd:(a==sysModules)=false)(p:KV J vs)(dd:h'.DictOf (a8 P w) a vs):
  aX P w H' h' a (.dK J):=⟨z,hd,vs,p,dd⟩
def BV(m:A.units+1 < cLine)(I:Inv X pins σ H s)(g:ng H a y v H')(o:RelV y u)(G:RelV v r)(h: ∀S,Inv X pins σ H' S->Q () S):
  218 107 A (setItem 190 u r) Q E s:=by
 rcases g with ⟨J,k,e,W,l,B⟩ | ⟨J,k,b,e,W,Z,l,B⟩
 . subst W B;obtain⟨z,D,T,p,C⟩:=F6 I.aQ e;have f:T.length<=sizeLine:=by rw[<-p.length];exact z
   have F:(putK J k v).length<=sizeLine:=by have:=dX J k v;lia
   refine wpAny_setItem_pairs (hsz:=f) (va o) C fun t Y n=>h _ ?_;have R: ∃q,t.get? a=some q:=let ⟨q,_,_,U,_⟩:=Y;⟨q,U⟩;exact fS I 201 n R (x6 F D (p.put k G) Y)
 . subst W B;cases (show u=Value.ref b from o);obtain⟨z,D,j,p,C⟩:=vI I.aQ e;have f:j.length<=sizeLine:=by rw[<-Paired.length p];exact z
   have F:(putK J k v).length<=sizeLine:=by have:=dX J k v;lia
   refine wpAny_setItem_heap (hsz:=f) (au8 m) (sT I.aQ Z) C fun t Y n=>h _ ?_;obtain⟨q,P,x,U,i,M,N,_,O⟩:=Y;refine fS I 201 n ⟨q,U⟩ ⟨F,D,_,(p.put k Z G).keeps fun c V L=>?_,q,P,x,U,i,M,N,O⟩;rw[ah (zo L e 157)];exact L
def Qf(i:Expr):Prop:= ∀T F,subscripted i false T F=operate [T,F] (getItem T F)
def HM{prog:Program}{w:World}{A:Around}{E:Value->Shared->Prop}{s:Shared}{env:Env}{Z L:Expr}{pos:Pos}{T id:String}(z:typeLookup (.type T) "__getitem__"=pure (some (.builtin id)))(n:Qf L)(h:wpAny 105 A (eval Z env) (fun o R=>wpAny 105 A (eval L env) (fun i I=>I.TypeIs o T/\wpAny 105 A (getItem o i) Q E I) E R) E s):
  218 105 A (eval (.Subscript Z L pos) env) Q E s:=by
 refine Subscript_ (ae3 h (fun o R y=>ae3 y (fun i I q=>?_) fun _ _ x=>x) fun _ _ x=>x);obtain⟨U,q⟩:=q;unfold subscriptTail;refine aa8 ?_;rw[getitemInPython_of_ne U.not_modules];refine aa8 (an3 U z ?_);have fin:218 105 A (subscripted L false o i) (fun r t=>218 105 A (letTemporaryGo Z o r >>=fun _=>pure r) Q E t) E I:=by
  rw[n o i];exact wpAny_operating (ae3 q (fun r t P=>aa8 (wpAny_letTemporaryGo (ab0 P))) fun _ _ x=>x)
 first
  | exact ab0 (aa8 fin)
  | exact aa8 (ab0 (aa8 fin))
  | exact aa8 fin
def vK(I:Inv X pins σ H s)(g:ni H a y o):s.TypeIs 190 "dict":=by
 rcases g with ⟨J,k,e,_,_⟩ | ⟨J,k,b,e,_,_,_⟩
 . obtain⟨_,_,u,_,C⟩:=F5 I.aQ e;exact C.typeIs
 . obtain⟨_,_,h,_,C⟩:=F3 I.aQ e;exact C.typeIs
def Rq(g V:TE):TE:=fun b H Q=>g b H fun x l=>V b l fun y J=> ∃a v,x= .ref a/\ni J a y (some v)/\Q v J
def Lb(g V Z:TE):TS:=fun D b H=>Z b H fun v l=>g b l fun x J=>V b J fun y O=> ∃a p,x= .ref a/\ng O a y v p/\D.nx b p
def ku(m:241+1 < cLine)(z:PE X o td)(hi:PE X i ty)(n:Qf i):PE X (.Subscript o i pos) (Rq td ty):=by
 intro b s c H Q I h;refine HM PySem.F.slot_dict_getitem.lookup n (aV (z b s c H _ I h) fun u P ⟨x,l,Y,d,w⟩=>aV (hi b P c l _ Y w) fun G C B=>?_);obtain⟨y,J,f,p,a,v,t,g,e⟩:=B;subst t;obtain rfl:u=Value.ref a:=d;exact⟨vK f g,BW m f g p fun q j D k=>⟨v,J,D,k,e⟩⟩
def sD(m:X.A.units+1 < cLine)(z:PE X o td)(hi:PE X i ty)(B:PE X value tv)(n:swapsWith value (some (.Subscript o i pos')) pos.line X.env=pure false):
  PS X (.Assign [.Subscript o i pos'] value pos) (Lb td ty tv):=by
 intro b s c H D I h;refine wpAny_Assign_Subscript (aV (B b s c H _ I h) fun r P ⟨v,l,Y,G,C⟩=>aV (z b P c l _ Y C) fun u L ⟨x,J,f,d,e⟩=>aV (hi b L c J _ f e) fun M j t=>?_) n;obtain⟨y,O,E,q,a,p,w,g,F⟩:=t;subst w;obtain rfl:u=Value.ref a:=d;exact BV m E g q G fun N Z=>⟨c,p,Z,F⟩
def F7(h:Heap)(c:sysModules < 231):aX P w H 151 h.objs.size (.dK []):=
 ⟨af2 _,ai3.mpr (Ne.symm (af1 c)),[],.nil,Heap.DictOf.new h⟩
def o9(h:Heap)(c:sysModules < 231):aX P w H 151 h.objs.size (.dT []):=
 ⟨af2 _,ai3.mpr (Ne.symm (af1 c)),[],.nil,_,#[],0,ac3 _ rfl,⟨rfl,rfl,rfl⟩,rfl,rfl,aj8⟩
def Nn:TE:=fun _ H Q=> ∀p,H p=none->Q (.ref p) (upd H p (.dT []))
def uO:PE X (.Dict [] [] pos) Nn:=fun b s c H Q I h=>
 wpAny_Dict_empty ⟨.ref 205,_,I.laid (a:=205) (o:= .dT []) (t':=235) (fun _ _ q=>ab1 _ q) (ab6 _) (o9 s.heap I.big),rfl,h _ (I.aQ.fresh (ab6 _))⟩
def wG:List (TE × TE)->St->Hp->(List (V × V)->Hp->Prop)->Prop
 | [],_,H,Q=>Q [] H
 | (tk,tv)::r,σ,H,Q=>tk σ H fun x l=>tv σ l fun y J=>wG r σ J fun z O=>Q ((x,y)::z) O
abbrev VV:List (V × V)->List (212 × 212)->Prop:=Paired fun p q=>RelV p.1 q.1/\RelV p.2 q.2
def Vy(X:Cx)(pos:Pos)(h:List (210 Expr))(q:List Expr)(t:List (TE × TE)):Prop:=
 ∀(pins:List 121) (s:211) (σ:St) (H:Hp) (Q:List (V × V)->Hp->Prop),Inv X pins σ H s->wG t σ H Q->
  218 107 X.A (evalPairs (pairTrees h q X.env pos)) (fun u S=> ∃z r,Inv X pins σ r S/\VV z u/\Q z r) X.xe s
def Iy:Vy X pos [] [] []:=fun a s b H Q I h=>pairTrees_nil_walk ⟨[],H,I,.nil,h⟩
def uK(G:PE X k tk)(w:PE X v tv)(o:Vy X pos ks vs Cp):
  Vy X pos (some k::ks) (v::vs) ((tk,tv)::Cp):=fun a s b H Q I h=>
 pairTrees_cons_walk (aV (G a s b H _ I h) fun u P C=>(by obtain⟨x,l,Y,d,t⟩:=C;exact(aV (w a P b l _ Y t) fun m A F=>(by obtain⟨y,J,f,q,e⟩:=F;exact(
  aV (o a A b J _ f e) fun M c E=>(by obtain⟨z,O,D,p,L⟩:=E;exact(⟨(x,y)::z,O,D,.cons ⟨d,q⟩ p,L⟩)))))))
def jJ(J v:List (Key × V)):List (Key × V):=v.foldl (fun I R=>putK I R.1 R.2) J
def KV.merge: ∀{more:List (Key × V)} {rs:List (Key × 212)} {aJ:List (Key × V)} {vs:List (Key × 212)},KV more rs->KV aJ vs->KV (jJ aJ more) (merged vs rs):=by
 intro more rs aJ vs r;unfold KV at r;induction r generalizing aJ vs with
 | nil=>intro q;exact q
 | @cons p q ps qs h t ih=>
  intro a;have e:KV (putK aJ p.1 p.2) (stored vs q.1 q.2):=by
   have:=a.put p.1 h.2;rw[<-h.1];exact this
  exact ih e
def jo: ∀(more aJ:List (Key × V)),(jJ aJ more).length<=aJ.length+more.length
 | [],aJ=>by show aJ.length<=aJ.length+0;lia
 | p::r,aJ=>by
  have d:=jo r (putK aJ p.1 p.2);have e:=dX aJ p.1 p.2;show(jJ (putK aJ p.1 p.2) r).length<=_;rw[ad6];lia
def pG: ∀{aJ:List (Key × V)} {ws:List (212 × 212)},VV (aJ.map fun R=>(kV R.1,R.2)) ws-> ∃A,Carries (a8 P w) ws A/\KV aJ A
 | [],_,r=>by rw[List.map_nil] at r;cases r;exact⟨[],242,.nil⟩
 | p::aJ,_,r=>by
  rw[ad4] at r;cases r with
  | @cons a b as bs h t=>
   obtain⟨A,c,q⟩:=pG (P:=P) (w:=w) t;obtain⟨Q,j⟩:=b;exact⟨(p.1,j)::A,⟨va h.1,rfl,c⟩,.cons ⟨rfl,h.2⟩ q⟩
def K7(s:List (TE × TE)):TE:=fun b H Q=> ∀p,H p=none->wG s b (upd H p (.dK [])) fun z L=>L p=some (.dK [])/\ ∃J:List (Key × V),z=J.map (fun R=>(kV R.1,R.2))/\J.length<=15/\Q (.ref p) (upd L p (.dK (jJ [] J)))
def ID(h:Vy X pos keys values Cp)(d:keys.all (·.isSome)=true)(A:keys.length=values.length)(g:keys≠ [])(t:keys.length<=15):PE X (.Dict keys values pos) (K7 Cp):=by
 intro b s m H Q I q;have V:=I.aQ.fresh (ab6 205);have Z:=I.laid (a:=205) (o:= .dK []) (h':=s.heap.push {cls:= .type "dict",data:= .dict #[]}) (t':=235) (fun _ _ q=>ab1 _ q) (ab6 _) (F7 s.heap I.big);refine wpAny_Dict_walk (knd:=a8 X.prog X.w) d A g t (aV (h b _ m _ _ Z (q _ V)) fun M G F=>?_);obtain⟨E,L,f,p,e,J,v,x,k⟩:=F;subst v;obtain⟨B,c,u⟩:=pG (P:=X.prog) (w:=X.w) p;obtain⟨z,D,T,l,C⟩:=F6 f.aQ e;cases l;refine⟨B,c,C,fun r Y n=>⟨.ref 205,_,?_,rfl,k⟩⟩;have j:(jJ [] J).length<=sizeLine:=by
  have i:=jo J [];rw[ak9] at i;rw[ao4];lia
 have y: ∃q,r.get? 205=some q:=let ⟨q,_,_,hq,_⟩:=Y;⟨q,hq⟩;exact fS f 201 n y (x6 j D (u.merge .nil) Y)
end L2
namespace Att
open PySem PySem.W PySem.Calls PyProof.Rows
def m5: ∀(ns:List Int) (vs:List 212),WellAll P h vs (ns.map WData.int)->IntsAre vs ns:=by
 intro ns;induction ns with
 | nil=>
  intro vs w;rw[List.map_nil] at w;cases w;exact .nil
 | cons n ns ih=>
  intro vs w;rw[ad4] at w;cases w with
  | cons a b=>
   cases a;exact .cons _ _ (ih _ b)
def AL{l:OpenLaw}(V:l.most=some n)(e:l.row.toRowW.claim.pre args=true)(x:WellAll P h vals args):
  ∃a u S,vals= [226 a]/\args= [WData.list (S.map WData.int)]/\h.get? a=some {cls:= .type "list",data:= .seq u.toArray}/\IntsAre u S/\S.length<=n:=by
 have w:WShape.hasAll [] args [.list .int]=true:=(pre_splitW e).1;have m:l.pre.holds [] {args:=args}=true:=(pre_splitW e).2;obtain⟨d,r,rfl,f,g⟩:=hasAllW_cons w;obtain rfl:=hasAllW_nil g;obtain⟨i,rfl,C⟩:=hasW_list f;obtain⟨S,rfl⟩:=items_int C;have o:S.length<=n:=by
  unfold OpenLaw.pre at m;have B:(WTm.not (.lt (.lit (.int (n:Int))) (.len (.arg 0)))).holds [] {args:= [.list (S.map .int)]}=true:=by
   have B:=(holds_andW m).1;rw[V] at B;exact B
  have v:=condW_of B (w_not (w_lt w_lit (w_len_list (w_arg rfl))));rw[aa9] at v;refine Nat.le_of_not_lt fun q=>?_;have G:(n:Int) < ((S.length:Nat):Int):=by lia
  first
   | (rw[af3 G] at v;exact 213 v 104)
   | (simp at v;lia)
 cases x with
 | cons w1 w2=>
  cases w2;cases w1 with
  | list ho BB=>exact⟨_,_,S,rfl,rfl,ho,m5 S _ BB,o⟩
def AU(l:OpenLaw)(args:List WData):l.row.toRowW.claim.post args (.bool true) args=true:=
 postW_of (r:=l.row.toRowW) (X:=(true==true))
  (show WShape.has [] (.bool true) .bool=true by first | rfl | decide | simp [WShape.has,WShape.arms,WShape.armsAll])
  (show(WTm.eq .res (.lit (.bool true))).value [] {args:=args,res:=some (.bool true),after:=args}=some (.bool (true==true)) from w_eq_bool (w_res rfl) w_lit) rfl
def vV {l : OpenLaw} {d : DefRec} (V : l.most = some n) (i : d.params.defaults = []) (j : ∀ (w : World) (s₀ s₁ : Shared) (mg mb : Str -> Option Value) (fa : Addr) (o : Obj) (pm cd doc : Value) (a : Addr) (u : List Value) (ns : List Int),
   Ground q loose [] XP w s₀ mg mb s₁.heap->YP w s₁.heap->
   s₁.heap.get? fa=some o->o.data= .func (docDef d.name d.params d.body d.scope pm cd doc)->s₁.heap.CodeRec cd d.name->mg d.name=some (.ref fa)->
   s₁.heap.get? a=some {cls:= .type "list",data:= .seq u.toArray}->IntsAre u ns->ns.length<=n->s₁.gens= #[]->
   codeAny (model l.prog w) callerA (.call (.ref fa) ⟨[.ref a],[]⟩) (fun r S=>r= .ok (.ret (.bool true))/\OldK s₁.heap S.heap/\S.os=s₁.os/\AllBare S.gens) s₁):
  WalkO q loose XP YP l.row.toRowW d [] (fun f u=>PySem.call f u):=by
 intro w s₀ s₁ mg mb G Y fa o pm cd doc W m x D T Z k b y U R e H I v A;obtain rfl:W= .none:=Dflts.none Z i;obtain rfl:m= .none:=Dflts.noKw Z;obtain⟨a,u,ns,rfl,rfl,z,s,p⟩:=AL V e v;refine enter_call (ao5 (j w s₀ s₁ mg mb fa o pm cd doc a u ns G Y x (fd_plain D) T k z s p b) fun r S X=>?_);obtain⟨rfl,g,C,B⟩:=X;exact⟨.inl ⟨.bool true,.bool true,[],rfl,fun _=>rfl,.bool true,AU l _,fun _=>⟨List.Pairwise.nil,fun _ O=>(nomatch O)⟩⟩,g,C,B⟩
end Att
namespace L2
open PySem PySem.Spec PyProof.Rows
def qu: ∀{vs:List 212} {ns:List Int},IntsAre vs ns->Vals (ns.map V.int) vs
 | _,_,.nil=> .nil
 | _,_,.cons n t h=> .cons ⟨t,rfl⟩ (qu h)
def Qc(H:Hp):Prop:= ∀b,H b=none\/ ∃o g,H b=some (.vq o (.lst g))
def EX{K:PySem.W.Frag}{Q:Shared}{vs:List Value}(L:K.In Q.heap)(p:Q.heap.Ns mainGlobals mg)(c:Q.heap.Ns builtinsNs mb)(A: ∀x:Str,x≠"__name__"->mb x=bootBuiltins x)(XI:Q.heap.NoLimit)(hg:Q.gens= #[])(i:Q.heap.get? a=some {cls:= .type "list",data:= .seq vs.toArray})(hi:IntsAre vs ns)(G:ns.length<=sizeLine)(hr:bN k callerA)(F: ∀Z:Heap,K.In Z->Z.Ns mainGlobals mg->aU P w K mg Z CX k fa fd [x] sp)(Tg: ∀(s:Shared) (u:Value),BindsTo s fd ⟨[u],[]⟩ [(x,u)])(O: ∀H:Hp,Qc H->dr K H a (ns.map V.int)->sp [.ref a] H (fun v _=>v= .bl true) fun _ _ _=>False)(Yh: ∀H e S,CX [] H Q (fun _ _ _=>False) e S->False):
  codeAny (model P w) callerA (.call (.ref fa) ⟨[.ref a],[]⟩) (fun r S=>r= .ok (.ret (.bool true))/\OldK Q.heap S.heap/\S.os=Q.os/\AllBare S.gens) Q:=by
 have J:=qu hi;have Xc:=hi.length;have f: ∀H:Hp,Qc H->dr K H a (ns.map V.int)->gG P w H Q.heap->(∀b,H b≠none->b=a)->(H a≠none->K.lookup a=none)->
   codeAny (model P w) callerA (.call (.ref fa) ⟨[.ref a],[]⟩) (fun r S=>r= .ok (.ret (.bool true))/\OldK Q.heap S.heap/\S.os=Q.os/\AllBare S.gens) Q:=by
  intro H D hS t C hK;have j: ∀{b:Addr} {o:Obj},Q.heap.get? b=some o->H b=none->(sW Q.heap H).get? b=some o:=fun e n=>Fx e n;have U: ∀{b:Addr} {o:Obj} {R:Array DictEntry} {y:Nat},Q.heap.get? b=some o->o.data= .dict R y->H b=none:=fun{b o R y} e d=>by
   cases q:H b with
   | none=>rfl
   | some u=>
    have I:b=a:=C b (by rw[q];simp);subst I;rw[i] at e;cases e;have d':Data.seq vs.toArray _=Data.dict R y:=d;cases d'
  have g: ∀{b:Addr} {m:Str->210 212},Q.heap.Ns b m->(sW Q.heap H).Ns b m:=fun{b m} T=>(by obtain⟨o,R,y,e,d,r⟩:=T;exact(⟨o,R,y,j e (U e d),d,r⟩))
  have l:K.In (sW Q.heap H):=fun b o e=>j (L b o e) (by
   cases q:H b with
   | none=>rfl
   | some u=>
    have I:b=a:=C b (by rw[q];simp);subst I;rw[hK (by rw[q];simp)] at e;cases e)
  have hM:Mod K mg (sW Q.heap H):=⟨l,g p,⟨mb,g c,A⟩,let ⟨mc,h1,h2⟩:=XI;⟨mc,g h1,h2⟩⟩
  have e0:yB P w K mg (sW Q.heap H) callerA [] Q H:=⟨rfl,hM,fun b o e=>Jc e,Nat.le_of_eq (Bz _ _),trivial,fun b c=>213 (show b∈169 from c) 111,t,.of_eq hg⟩
  refine ao5 ((F _ l (g p)).run callerA [] Q H ⟨[.ref a],[]⟩ [.ref a] [.ref a] _ _ hr e0 (Tg Q 190) (.cons rfl .nil) (O H D hS)) fun r S h=>?_;cases r with
  | error e=>exact(Yh H e S h).elim
  | ok fl=>
   cases fl with
   | next=>exact False.elim h
   | brk=>exact False.elim h
   | cont=>exact False.elim h
   | ret u=>
    obtain⟨v,H',os,X,M,N,r',q⟩:=h;have q':v= .bl true:=q;subst q';obtain rfl:u=Value.bool true:=r';refine⟨rfl,OldK.of_keep fun b o e=>?_,os,X⟩;cases q:H b with
    | none=>exact M.keep b o e q (by intro z;exact 213 (show b∈169 from z) 111) 111
    | some u=>
     rcases D b with z | ⟨ob,xs,z⟩
     . rw[q] at z;cases z
     . have z2:=M.kO b ob _ z;obtain⟨B,_⟩:=t b _ z;obtain⟨e2,_⟩:=N b _ z2;rw[e] at B;cases B;exact e2
 cases E:K.lookup a with
 | some o=>
  have e:=L a o E;rw[i] at e;cases e;refine f (fun _=>none) (fun _=> .inl rfl) (.inr ⟨_,vs.toArray,_,E,rfl,rfl,rfl,by rw[ad0,Xc];exact G,by simpa using J⟩) (fun b u z=>by have Y:(none:210 HO)=some u:=z;cases Y) (fun b z=>213 rfl z) fun z=>213 rfl z
 | none=>
  refine f (fun b=>if b=a then some (.vq {cls:= .type "list",data:= .seq vs.toArray} (.lst (ns.map V.int))) else none) (fun b=>?_) (.inl (.inr ⟨{cls:= .type "list",data:= .seq vs.toArray},if_pos rfl⟩)) (fun b u z=>?_) (fun b z=>?_) fun _=>E
  . by_cases c:b=a
    . exact .inr ⟨_,_,if_pos c⟩
    . exact .inl (if_neg c)
  . by_cases c:b=a
    . have Y:=(if_pos c).symm.trans z;cases Y;subst c;exact⟨i,by rw[aa9];exact G,vs,_,J,i⟩
    . have Y:=(if_neg c).symm.trans z;cases Y
  . by_cases c:b=a
    . exact c
    . exact 213 (if_neg c) z
def HC {l : PySem.W.OpenLaw} {n k : Nat} {q : Program} {t : List Str} {D : (Str -> Option Value) -> Heap -> Prop} {m : World -> Heap -> Prop} {d : DefRec} {K : Params -> PySem.W.Frag} {CX : World -> Hs} {sp : World -> Sp} (X : l.most = some n) (z : n <= sizeLine) (C : d.params.defaults = []) (S : bN k callerA) (O : ∀ (w : World) (h : Heap), m w h -> (K w.params).In h) (F : ∀ (w : World) (mg : Str -> Option Value) (fa : Addr) (h : Heap), (K w.params).In h -> h.Ns mainGlobals mg -> mg d.name = some (.ref fa) ->
   ∃c:FuncData,(∀(s:211) (u:212),BindsTo s c ⟨[u],[]⟩ [(x,u)])/\
    ∀Z:Heap,(K w.params).In Z->Z.Ns 217 mg->aU l.prog w (K w.params) mg Z (CX w) k fa c [x] (sp w)) (j: ∀(w:237) (H:Hp) (a:Addr) (ns:List Int),ns.length<=n->Qc H->dr (K w.params) H a (ns.map V.int)->sp w [.ref a] H (fun v _=>v= .bl true) fun _ _ _=>False) (E: ∀(w:237) (H:Hp) (s:211) (e:212) (s':211),CX w [] H s (fun _ _ _=>False) e s'->False):
  PySem.W.WalkO q t D m l.row.toRowW d [] (fun f y=>PySem.call f y):=by
 refine Att.vV X C fun w i Q mg mb fa o pm U I a y ns G Y ho hd jZ B A r p R=>?_;have L:=O w _ Y;obtain⟨c,P,J⟩:=F w mg fa _ L G.T.g B;exact EX L G.T.g G.T.b G.T.builtins G.T.nolimit R A r (ad9 p z) S J P (fun H M N=>j w H a ns p M N) fun H e s'=>E w H Q e s'
def fR(s:Stmt):Arguments:=match s with
 | .FunctionDef _ a _ _ _ _ _ _ _ _=>a
 | _=>{posonlyargs:= [],args:= [],vararg:=none,kwonlyargs:= [],kw_defaults:= [],kwarg:=none,defaults:= []}
def bS(s:Stmt):List Stmt:=match s with
 | .FunctionDef _ _ b _ _ _ _ _ _ _=>b
 | _=> []
def ae(s:Stmt):Scope:=match s with
 | .FunctionDef _ _ _ _ _ _ sc _ _ _=>sc
 | _=>{kind:= .function,names:= [],isGenerator:=false,isCoroutine:=false}
abbrev dy:Hs:=fun _ _ _ _ _ _=>False
abbrev E0:XK:=fun _ _ _=>False
def Ln:Passes dy X E0:=fun _ _ _ _ _ _ _ h=>h.elim
structure eW(K:207)(x qual:Str)(st:Stmt)(f:Addr)(fd:FuncData):Prop where
 ex: ∃(oc:212) (od:210 Addr) (kV doc pm:212) (an:210 Addr) (bC ct:212) (Cs:Array (210 212)),
  fd=PySem.W.fnOf x qual (fR st) (bS st) (ae st) .none kV doc pm an bC ct/\K.lookup f=some ⟨oc,od,.func fd,Cs⟩/\PySem.W.codeIn K bC qual=true
 kp:PySem.W.keepIn K (.ref f)=true
section
variable{P:214}{w:237}{K:207}{mg:Str->210 212}{base:Heap}
def eW.ok {x qual : Str} {st : Stmt} {k : Nat} (F : eW K x qual st f fd) (S : aD N ps (ae st)) (i : ∀ u H Q E, sp u H Q E -> u.length = ps.length) (n : ∀ (bC : Value) (A : Around) (outer : List Env) (s : Shared) (H : Hp) (u : List V) (Q : VK) (E : XK), bN k 139 -> sp u H Q E ->
   ∃t,jw (jj dy P w K mg base N qual (ae st) f bC A outer s H E).EM (bS st) t/\t {nx:=fun _ r=>Q .aO r,rt:=Q} (start N u) H):aU P w K mg base dy (k+1) f fd ps sp:=by
 obtain⟨g,I,m,y,B,M,bC,X,e,rfl,p,T⟩:=F.ex;refine L9 p T S i fun A outer s H u Q E o a=>?_;obtain⟨t,h,q⟩:=n bC A outer s H u Q E o a;exact⟨t,h.EM,q⟩
def FL{x qual:Str}{st:Stmt}{f:Addr}{g:Value}{od M:Option Addr}{e:Array (Option Value)}{m y B p ct:Value}(l:K.lookup f=some ⟨g,od, .func (PySem.W.fnOf x qual (fR st) (bS st) (ae st) .none m y B M p ct),e⟩)
  (c:PySem.W.codeIn K p qual=true) (k:PySem.W.keepIn K (.ref f)=true):eW K x qual st f (PySem.W.fnOf x qual (fR st) (bS st) (ae st) .none m y B M p ct):=⟨⟨g,od,m,y,B,M,p,ct,e,rfl,l,c⟩,k⟩
end
def eG(o:bN k A):A.units+1 < cLine:=ao9 (Nat.add_le_add_left (by decide:1<=64) _) o.units
def pv(i:Nat)(c:X.N[i]?=some x:=by rfl)(u:Vv X.env.scope x:=by first | exact Or.inl rfl | exact Or.inr (Or.inl rfl) | exact Or.inr (Or.inr rfl))(hd:123=false:=by decide)(T:(x==("__classdict__":Str))=false:=by decide):PE X (.Name x pos) (fg i):=Ej c u hd T
def bo{A B:Prop}(h:B):if false=true then A else B:=by
 rw[if_neg ab9];exact h
def bJ{A B:Prop}(h:A):if true=true then A else B:=by
 rw[if_pos rfl];exact h
def Xg{c A B:Prop} [Decidable c](d:c->A)(e: ¬c->B):if c then A else B:=by
 by_cases h:c
 . rw[if_pos h];exact d h
 . rw[if_neg h];exact e h
def aF(H H':Hp):Prop:= ∀b o,H b=some o->H' b=some o
def pI(scope:Scope)(i:List (Str × Addr))(C:Addr)(env:Env):Env:=
 {scope:=relabel scope env,locals:=C,globals:=env.globals,cells:=cellsFrom (C+1) scope.names i,qual:=env.qual,func:=none,code:=env.code,frame:=env.frame,builtins:=env.builtins}
def eO(X:Cx)(N:List Str)(scope:Scope)(s:211)(H:Hp)(i:List (Str × Addr))(C:Addr)(ex:List Addr):Cx:=
 {X with N:=N,s₀:=s,H₀:=H,env:=pI scope i C 216,outer:=X.stack,ex:=ex,fn:=fun x=>decide (scope.names.lookup x=some .cell),pn:= [],xe:=fun _ _=>False}
def bp: ∀(names:List 131) (n:Nat) (acc:List (Str × Addr)),cellsFrom n names acc=cellsFrom n names []++acc
 | [],_,_=>rfl
 | (name,kind)::r,n,acc=>by
  unfold cellsFrom;split
  . rw[bp r (n+1) ((name,n)::acc),bp r (n+1) [(name,n)],af9];rfl
  . exact bp r n acc
def gg: ∀(names:List 131) (n:Nat) {x:Str} {c:Addr},(x,c)∈cellsFrom n names []->(x,NameKind.cell)∈names
 | [],_,_,_,h=>by simp [cellsFrom] at h
 | (name,kind)::r,n,x,c,h=>by
  unfold cellsFrom at h;split at h
  . rename_i E;rw[bp] at h;rcases ad2.mp h with q | q
    . exact ac0 _ (gg r _ q)
    . have e:(x,c)=(name,n):=by simpa using q
      cases e;have:kind= .cell:=by simpa using E
      subst this;exact ac9
  . exact ac0 _ (gg r _ h)
def gb{α:Type}: ∀{l:List (Str × α)} {x:Str} {v:α},(l.map (·.1)).Nodup->(x,v)∈l->l.lookup x=some v
 | (k,w)::r,x,v,nd,h=>by
  rw[ad4] at nd;obtain⟨d,f⟩:=am5.mp nd;rw[ag3];rcases ad8.mp h with e | s
  . cases e;simp
  . have I : (x == k) = false := by
      rw[ai3];intro e;exact d (e▸ad3.mpr ⟨(x,v),s,rfl⟩)
    rw[I];exact gb f s
def iR{env:Env}: ∀{names:List 131} {x:Str} {k:NameKind},
  (names.map fun(n,k)=>if 146 then(n,NameKind.cell) else(n,k)).lookup x=some k->
  names.lookup x=some k\/(k= .cell/\names.lookup x=some .free)
 | [],_,_,h=>by simp at h
 | (n,k0)::r,x,k,h=>by
  have u:= @iR env r x k;rw[ad4] at h;cases i:x==n with
  | true=>
   by_cases m:(k0==NameKind.free && env.scope.kind== .function && env.kindOf n==some .cell)=true
   . dsimp only at h;rw[if_pos m,ag3,i] at h;cases h;right;refine⟨rfl,?_⟩;rw[ag3,i];simp only [ah9] at m;have:k0= .free:=by simpa using m.1.1
     rw[this]
   . dsimp only at h;rw[if_neg m,ag3,i] at h;left;rw[ag3,i];exact h
  | false=>
   have s:(r.map fun(n,k)=>if 146 then(n,NameKind.cell) else(n,k)).lookup x=some k:=by
    by_cases m:(k0==NameKind.free && env.scope.kind== .function && env.kindOf n==some .cell)=true
    . dsimp only at h;rw[if_pos m,ag3,i] at h;exact h
    . dsimp only at h;rw[if_neg m,ag3,i] at h;exact h
   rw[ag3,i];exact u s
def eF{env:Env}: ∀{names:List 131} {x:Str},names.lookup x=some .free->
  (names.map fun(n,k)=>if 146 then(n,NameKind.cell) else(n,k)).lookup x=some .free\/
  (names.map fun(n,k)=>if 146 then(n,NameKind.cell) else(n,k)).lookup x=some .cell
 | [],_,h=>by simp at h
 | (n,k0)::r,x,h=>by
  have u:= @eF env r x;rw[ad4];dsimp only;cases i:x==n with
  | true=>
   rw[ag3,i] at h;cases h;by_cases m:(NameKind.free==NameKind.free && env.scope.kind== .function && env.kindOf n==some .cell)=true
   . right;rw[if_pos m,ag3,i]
   . left;rw[if_neg m,ag3,i]
  | false=>
   rw[ag3,i] at h;by_cases m:(k0==NameKind.free && env.scope.kind== .function && env.kindOf n==some .cell)=true
   . rw[if_pos m];simp only [ag3,i];exact u h
   . rw[if_neg m];simp only [ag3,i];exact u h
def gY{scope:Scope}{env:Env}(h: ∀x∈scope.names,x.2= .free-> ∃c,env.cells.lookup x.1=some c):
  ∃j,closureFor scope env=pure j/\(∀x c,(x,c)∈j->env.cells.lookup x=some c)/\ ∀x,(x,224)∈scope.names-> ∃c,(x,c)∈j:=by
 have D: ∀(names:List 131) (I:List (Str × Addr)),(∀x∈names,x.2= .free-> ∃c,env.cells.lookup x.1=some c)->(∀x c,(x,c)∈I->env.cells.lookup x=some c)->
   ∃j,(forIn names I (fun(x:Str × NameKind) (o:List (Str × Addr))=>match x with | (name,kind)=>if kind== .free then(do let a<-cellOf env name;pure (ForInStep.yield ((name,a)::o))) else pure (ForInStep.yield o)):Sem (List (Str × Addr)))=pure j/\
    (∀x c,(x,c)∈j->env.cells.lookup x=some c)/\(∀p∈I,p∈j)/\ ∀x,(x,224)∈names-> ∃c,(x,c)∈j:=by
  intro names;induction names with
  | nil=>intro I _ f;exact⟨I,by rw[aq7],f,fun _ B=>B,fun x i=>by simp at i⟩
  | cons p r ih=>
   intro I V f;obtain⟨n,k⟩:=p;rw[ai8];by_cases E:(k==NameKind.free)=true
   . have Y:k= .free:=by simpa using E
     obtain⟨c,m⟩:=V (n,k) ac9 Y;obtain⟨j,l,s,y,t⟩:=ih ((n,c)::I) (fun x i=>V x (ac0 _ i)) (fun x T i=>by
      rcases ad8.mp i with e | i
      . cases e;exact m
      . exact f x T i)
     refine⟨j,?_,s,fun q U=>y q (ac0 _ U),fun x i=>?_⟩
     . dsimp only;rw[if_pos E];have:cellOf env n=pure c:=by unfold cellOf;rw[m]
       rw[this];exact l
     . rcases ad8.mp i with e | i
       . cases e;exact⟨c,y _ ac9⟩
       . exact t x i
   . obtain⟨j,l,s,y,t⟩:=ih I (fun x i=>V x (ac0 _ i)) f;refine⟨j,?_,s,y,fun x i=>?_⟩
     . dsimp only;rw[if_neg E];exact l
     . rcases ad8.mp i with e | i
       . cases e;exact 213 rfl E
       . exact t x i
 obtain⟨j,l,s,_,t⟩:=D scope.names [] h (fun _ _ i=>nomatch i);refine⟨j,?_,s,t⟩;unfold closureFor;first
  | exact l
  | (simp only [bind_pure];exact l)
def tx (I : Nat -> Shared -> Prop) (turn : ∀ n s, I n s -> wpAny 105 A (pyNext it) (fun r Q => match r with
   | none=>R (.ok .next) Q
   | some v=>wpAny 105 A (letOwnedTupleGo target it v) (fun _ d=>wpAny 105 A (assign target env v) (fun _ J=>
     218 105 A (forIn ifs true fun c r=>if r=true then do let l<-isTrue c env (eval c env);pure (ForInStep.yield l) else pure (ForInStep.yield r)) (fun l u=>
      if l=true then 218 105 A (eval elt env) (fun x g=>
       218 105 A (call (.builtin "list.append") [acc,x]) (fun _ z=> ∃m,m < n/\I m z) 122 g) 122 u
      else∃m,m < n/\I m u) 122 J) 122 d) 122 Q) 122 s) (n:Nat) (h:I n s):codeAny 105 A (.compLoop (.ListComp elt [⟨target,iter,ifs,0⟩] scope pos) 0 it acc env) R s:=by
 refine codeAny_loop rfl I (fun n s C=>?_) n h;show 218 _ A ((compTurn (.ListComp elt [⟨target,iter,ifs,0⟩] scope pos) 0 it acc env).onRaise (fun x=>do noteFrame x env;theTreesLotGoes x)) _ _ s;refine wpAny_noted ?_;rw[compTurn_list];refine aa8 (ah1 (aa8 (ae3 (turn n s C) (fun r Q y=>?_) fun _ _ t=>t.elim)));cases r with
 | none=>exact ab0 y
 | some v=>
  refine aa8 (ae3 y (fun _ d W=>?_) fun _ _ t=>t.elim);refine aa8 (ae3 W (fun _ J q=>aa8 (ae3 q (fun l u P=>?_) fun _ _ t=>t.elim)) fun _ _ t=>t.elim);cases l with
  | false=>exact ab0 ⟨rfl,P⟩
  | true=>
   exact aa8 (aa8 (ae3 P (fun x g B=>aa8 (ae3 B (fun _ z i=>ab0 (ab0 ⟨rfl,i⟩)) fun _ _ t=>t.elim)) fun _ _ t=>t.elim))
def PF(X:Cx)(ifs:List Expr)(t:TT):Prop:=
 ∀(pins:List 121) (s:211) (σ:St) (H:Hp) (Q:Bool->Hp->Prop),Inv X pins σ H s->t σ H Q->
  218 107 X.A (forIn ifs true fun c r=>if r=true then do let l<-isTrue c X.env (eval c 216);pure (ForInStep.yield l) else pure (ForInStep.yield r)) (TP X pins σ Q) X.xe s
def Rg:TT:=fun _ H Q=>Q true H
def NU:PF X [] Rg:=fun _ _ _ H _ I h=>wpAny_tests_nil ⟨H,I,h⟩
def NT(h:PT X c t):PF X [c] t:=fun a s b H Q I z=>wpAny_tests_one (h a s b H Q I z)
def hG(nt:Nat)(js:List Nat)(b:St):St:=206 nt none++js.map fun j=>(b[j]?).join
structure lC(X:Cx)(N:List Str)(nt:Nat)(js:List Nat)(scope:Scope):Prop where
 kind:scope.kind= .function
 nd:(scope.names.map (·.1)).Nodup
 len:nt<=N.length
 cap:js.map (fun j=>X.N[j]?)=(N.drop nt).map some
 fr: ∀x∈N.drop nt,scope.names.lookup x=some .free
 QC: ∀x∈scope.names,x.2= .free->X.env.kindOf x.1=some .cell\/X.env.kindOf x.1=some .free
def lC.names(S:lC X N nt js scope): ∀x∈scope.names,x.2= .local->scope.names.lookup x.1=some .local:=fun x h e=>by
 obtain⟨n,k⟩:=x;cases e;exact gb S.nd h
def mB(S:lC X N nt js scope)(hc:X.calm=true)(I:Inv X pins σ H s)(O: ∀b∈fp,dZ X pins H b)(G: ∀b∈fp,b < s.heap.objs.size)(F: ∀x c,(x,c)∈cl->X.env.cells.lookup x=some c)(c2: ∀x,(x,NameKind.free)∈scope.names-> ∃c,(x,c)∈cl):
  Inv (eO X N scope s H cl s.heap.objs.size fp) [] (hG nt js σ) H {s with heap:=pushCells 112 scope.names,toks:=tk}:=by
 have M: ∀b o,s.heap.get? b=some o->(pushCells 112 scope.names).get? b=some o:=fun b o e=>an4 _ _ b o (ab1 _ e);have Q:=cellsFrom_ok scope.names 112 156 [] ⟨fun _ _ hm=>(nomatch hm),List.Pairwise.nil⟩ (by rw[ah8];exact ab6 _);rw[ah8] at Q;have split: ∀x c,(cellsFrom 156 scope.names cl).lookup x=some c->(x,c)∈cellsFrom 156 scope.names []\/(x,c)∈cl:=fun x c e=>by
  rw[bp] at e;exact ad2.mp (ah6 e)
 have J: ∀x c,(x,c)∈cl->c < s.heap.objs.size:=fun x c h=>by
  obtain⟨v,q⟩:=I.cell x c (F x c h);exact q.lt
 have w: ∀x c,(x,c)∈cellsFrom 156 scope.names []->205+1<=c:=fun x c h=>(Q.empty x c h).2;have T: ∀b,205<=b->H b=none:=fun b f=>I.aQ.fresh f;have a: ∀x,scope.names.lookup x=some .free-> ∀c,X.env.cells.lookup x=some c->(cellsFrom 156 scope.names cl).lookup x=some c:=fun x P c U=>by
  obtain⟨c',L5⟩:=c2 x (ah6 P);have C:(cellsFrom 156 scope.names []).lookup x=none:=by
   cases e:(cellsFrom 156 scope.names []).lookup x with
   | none=>rfl
   | some d=>
    have:=gb S.nd (gg _ _ (ah6 e));rw[P] at this;cases this
  have A: ∃d,cl.lookup x=some d:=by
   cases e:cl.lookup x with
   | some d=>exact⟨d,rfl⟩
   | none=>
    exfalso;have: ∀{l:List (Str × Addr)},(x,c')∈l->l.lookup x≠none:=fun{l}=>by
     induction l with
     | nil=>intro h;simp at h
     | cons p r ih=>
      intro h;obtain⟨k,v⟩:=p;rw[ag3];cases f:x==k with
      | true=>simp
      | false=>
       rcases ad8.mp h with q | q
       . cases q;simp at f
       . exact ih q
    exact this L5 e
  obtain⟨d,hd⟩:=A;have:d=c:=by
   have:=F x d (ah6 hd);rw[U] at this;cases this;rfl
  subst this;rw[bp,List.lookup_append,C,hd];rfl
 have R: ∀b,b≠228->b∉X.fs->b∉ik X.stack:=fun b t g f=>(ad8.mp (I.wH b f)).elim t g;refine⟨⟨I.ok.mod,S.kind,I.ok.glob,I.ok.blt,ab6 _,fun x y c C A=>?_,fun x P=>?_,fun x c t g=>?_,I.ok.hd,I.ok.frames,.inl rfl,fun b f=>⟨?_,fun x c e=>?_⟩,fun b o e=>⟨I.bk b o e,(I.bs b o e).2⟩,?_,fun b o e f=>?_,fun b f=>?_,I.stack,I.ny⟩,
  rfl,I.bare,Un.kept M,⟨_,(Heap.Ns.new s.heap (.type "dict")).keeps (an4 _ _),fun i x v C A e3=>?_⟩,fun x c e=>?_,T _ (ab6 _),fun x c e=>?_,fun p hp=>213 (show p∈([]:List 121) from hp) 111,I.aQ.kept M,?_⟩
 . rcases split x c C with t | t <;> rcases split y c A with g | g
   . exact name_of_addr Q.apart t g
   . exact 213 (ae2 (J y c g) (as5 (w x c t))) (af7 _)
   . exact 213 (ae2 (J x c t) (as5 (w y c g))) (af7 _)
   . exact I.ok.inj x y c (F x c t) (F y c g)
 . have Y : scope.names.lookup x = some .cell -> ∃ c, (cellsFrom (s.heap.objs.size + 1) scope.names cl).lookup x = some c := fun h => by
     obtain⟨c,e⟩:=k9 (n:=205+1) h;exact⟨c,by rw[bp,List.lookup_append,e];rfl⟩
   have E:scope.names.lookup x=some .free-> ∃c,(cellsFrom 156 scope.names cl).lookup x=some c:=fun h=>by
    obtain⟨c,e⟩:=I.ok.has x (S.QC _ (ah6 h) rfl);exact⟨c,a x h c e⟩
   rcases P with h | h <;> rcases iR h with q | ⟨z,q⟩
   . exact Y q
   . exact E q
   . exact E q
   . cases z
 . have t:scope.names.lookup x=some .cell:=by simpa [eO] using t
   obtain⟨d,e⟩:=k9 (n:=205+1) t;have g:(cellsFrom 156 scope.names cl).lookup x=some c:=g;rw[bp,List.lookup_append,e] at g;have:d=c:=by simpa using g
   subst this;exact as5 (w x d (ah6 e))
 . exact af1 (G b f)
 . rcases split x c e with h | h
   . exact ao6 (ae2 (G b f) (as5 (w x c h)))
   . exact(O b f).2.2.2.2.1 x c (F x c h)
 . exact ad9 I.ok.Hn I.sz
 . rcases(O b f).2.2.2.1 with z | z
   . exact I.ok.Bc b o e z
   . exact 213 (ae2 (ac5 e) (ad9 I.ok.Hn z)) (af7 _)
 . exact R b (O b f).2.1 (O b f).2.2.1
 . have hi : nt <= i := by
     apply Nat.le_of_not_lt;intro fC;unfold hG at A;rw[ae9 (by simpa using fC),ad7,if_pos fC] at A;cases A
   have B:(js.map fun j=>(σ[j]?).join)[i - nt]?=some (some v):=by
    unfold hG at A;rw[af4 (by simpa using hi),ak6] at A;exact A
   rw[ab8] at B;have D:(N.drop nt)[i - nt]?=some x:=by
    rw[List.getElem?_drop];have:nt+(i - nt)=i:=by lia
    rw[this];exact C
   cases V:js[i - nt]? with
   | none=>rw[V] at B;cases B
   | some j=>
    rw[V] at B;have L:(σ[j]?).join=some v:=by simpa using B
    have Z:σ[j]?=some (some v):=by
     cases q:σ[j]? with
     | none=>rw[q] at L;cases L
     | some o=>rw[q] at L;simpa using L
    have hX:X.N[j]?=some x:=by
     have:=ah4 (fun l=>l[i - nt]?) S.cap;simp only [ab8,V,D,Option.map_some] at this;exact 215 this
    have W:=S.fr x (ae4 D);have hk:=S.QC _ (ah6 W) rfl;obtain⟨m,_,hl⟩:=I.loc;obtain⟨u,ru,lk⟩:=hl j x v hX Z (by rcases hk with q | q;exact .inr (.inl q);exact .inr (.inr q));refine⟨u,ru,?_⟩;rcases lk with ⟨OT,_⟩ | ⟨_,c,O5,qQ⟩
    . rcases hk with q | q <;> rw[q] at OT <;> cases OT
    . refine .inr ⟨?_,c,a x W c O5,qQ.keeps M⟩;rcases eF (env:=X.env) W with q | q
      . exact .inr q
      . exact .inl q
 . rcases split x c e with h | h
   . exact⟨none,(Q.empty x c h).1⟩
   . obtain⟨v,q⟩:=I.cell x c (F x c h);exact⟨v,q.keeps M⟩
 . rcases split x c e with h | h
   . exact T _ (as5 (w x c h))
   . exact I.fF x c (F x c h)
 . unfold hG;show _=N.length;rw[ac6,ak6,aa9];have:=ah4 List.length S.cap;rw[aa9,aa9,aq8] at this;have:=S.len;lia
def lB(nt:Nat)(g:TG):Prop:= ∀v σ H (Q:St->Hp->Prop),g v σ H Q->g v σ H fun R q=>Q R q/\R.length=σ.length/\ ∀k,nt<=k->R[k]?=σ[k]?
def Ao(nt:Nat)(g:MI):Prop:= ∀vs σ H (Q:St->Hp->Prop),g vs σ H Q->g vs σ H fun R q=>Q R q/\R.length=σ.length/\ ∀k,nt<=k->R[k]?=σ[k]?
def bB(h:i < nt:=by decide):lB nt (bY i):=fun v b H Q q=>⟨q,by simp,fun k E=>by rw[ac2 102]⟩
def FH:Ao nt vp:=fun u b H Q w=>(by obtain⟨e,q⟩:=w;exact(⟨e,q,rfl,fun _ _=>rfl⟩))
def An(g:MI):Prop:= ∀vs σ H (Q Q':St->Hp->Prop),(∀R q,Q R q->Q' R q)->g vs σ H Q->g vs σ H Q'
def qS:An vp:=fun u b H Q k U M=>(by obtain⟨e,q⟩:=M;exact(⟨e,U _ _ q⟩))
def xV(m:An u):An (eJ (bY i) u):=fun w b H Q k U n=>(by obtain⟨v,r,e,q⟩:=n;exact(⟨v,r,e,m r _ _ Q k U q⟩))
def qT(h:i < nt:=by decide)(O:An u)(m:Ao nt u):Ao nt (eJ (bY i) u):=fun y b H Q w=>(by obtain⟨v,r,e,q⟩:=w;exact(by
 refine⟨v,r,e,O _ _ _ _ _ (fun R s z=>?_) (m r (b.set i (some v)) H Q q)⟩;obtain⟨l,U,x⟩:=z;refine⟨l,by simpa using U,fun k E=>?_⟩;rw[x k E,ac2 102]))
def FG{nt n:Nat}{K:207}(h:Ao nt t):lB nt (BH K n t):=fun v b H Q N=>(by obtain⟨a,g,e,O,l,q⟩:=N;exact(⟨a,g,e,O,l,h g b H Q q⟩))
def MM(nt:Nat)(js:List Nat)(g:TG)(s:TT)(w:TE)(d:St)(Q:VK)(D:Addr)(J:It)(c:Hp):Prop:=
 ∃W:Nat->Nat->List V->Hp->Prop,(∃m,W 0 m [] c)/\ ∀i m I H,W i m I H->
  (J.stop i H/\Q 173 H)\/(J.go i H/\I.length < 208/\ ∃B:List V->Hp->Prop,(∀n q,B n q-> ∃N,N < m/\W (i+1) N n q)/\ ∀x q,J.wy i H x q->g x (hG nt js d) q fun h L=>
   s h L fun b O=>if b=true then w h O fun v p=>p D=some (.lst I)/\B (I++ [v]) (upd p D (.lst (I++ [v]))) else B I O)
def Dj(nt:Nat)(js:List Nat)(k:TI)(g:TG)(s:TT)(v:TE):TE:=fun b H Q=>k b H fun J l=> ∀D,l D=none->MM nt js g s v b Q D J (upd l D (.lst []))
def fY{s:Shared}(h: ∀u:Env,{u with scope:=relabel scope env}=pI scope cl s.heap.objs.size env->u.locals=s.heap.objs.size->Q u {s with heap:=pushCells 112 scope.names}):
  218 M A (newFunctionEnv scope env.globals cl [] env.qual none .none (some env)) Q E s:=by
 simp only [newFunctionEnv,Option.isSome_some,as8];refine aa8 (wpAny_alloc ?_);refine aa8 (wpAny_layCells _ (fun v t I=>by cases J:t==NameKind.cell <;> simp [J]) _ _ _ _ ?_);rw[show(152).heap.objs.size=s.heap.objs.size+1 from ah8 ..];first
  | exact ab0 (h _ rfl rfl)
  | exact aa8 (ab0 (ab0 (h _ rfl rfl)))
def rh{elt tg iter:Expr}{ifs:List Expr}{pos:Pos}{g:TG}{tc:TT}{te:TE}{j:List (Str × Addr)}{Q:VK}{E:Value->Shared->Prop}{RR:Value->Addr->Result->Shared->Prop}(S:lC X N nt js scope)(hc:X.calm=true)(hg: ∀s H j C P,PG (eO X N scope s H j C P) tg g)(gf:lB nt g)(hf: ∀s H j C P,PF (eO X N scope s H j C P) ifs tc)(he: ∀s H j C P,PE (eO X N scope s H j C P) elt te){tn:Nat->Heap->Prop}(I:Inv X pins σ H s)(T:Turn X.prog X.w X.K tg J fp it tn)(st:tn 0 s.heap)(l: ∀b∈fp,dZ X pins H b)(c1: ∀x c,(x,c)∈j->X.env.cells.lookup x=some c)(c2: ∀x,(x,NameKind.free)∈scope.names-> ∃c,(x,c)∈j)(R: ∀D,H D=none->MM nt js g tc te σ Q D J (upd H D (.lst [])))(fin: ∀(D C:Addr) (s':Shared) (H':Hp),Inv X pins σ H' s'->dZ X pins H' C->(∃m,s'.heap.Ns C m)->Q 173 H'->RR 173 C (.ok .next) s'):
  218 107 X.A (newList []) (fun L s₃=>218 107 X.A (newFunctionEnv scope X.env.globals j [] X.env.qual none .none (some 216)) (fun jQ s₄=>
   codeAny 107 X.A (.compStart 124 0 (.ref it) L {jQ with scope:=relabel scope 216}) (RR L jQ.locals) s₄) E s₃) E s:=by
 refine ag2 (fY fun jQ vH F2=>?_);rw[vH,F2];dsimp only;have hD:H 205=none:=I.aQ.fresh (ab6 _);obtain⟨W,⟨m0,w0⟩,turn⟩:=R s.heap.objs.size hD;have kD: ∀b u,s.heap.get? b=some u->(106).get? b=some u:=fun b u e=>ab1 _ e;have I3:Inv X pins σ 153 {s with heap:=s.heap.push {cls:= .type "list",data:= .seq (([]:List 212)).toArray},toks:=235}:=
  I.laid kD (ab6 _) ⟨af2 _,[],_,.nil,ac3 _ rfl⟩
 have fs: ∀b∈fp,b < s.heap.objs.size:=fun b f=>by
  obtain⟨o,e,_⟩:=T.obj _ _ st b f;exact ac5 e
 have Mb: ∀b∈fp,dZ X pins 153 b:=fun b f=>⟨by rw[ah (af1 (fs b f))];exact(l b f).1,(l b f).2⟩
 have Z:=mB (tk:=235) S hc I3 Mb (fun b f=>by show b < (s.heap.push _).objs.size;rw[ah8];exact an9 (fs b f)) c1 c2;dsimp only at Z;have Tp:(106).objs.size=205+1:=ah8 ..;generalize hY:eO X N scope {s with heap:=s.heap.push {cls:= .type "list",data:= .seq (([]:List 212)).toArray},toks:=235} 153 j (106).objs.size fp=Y at Z;have hY2:=hY;have pO:Y.env=pI scope j (106).objs.size X.env:=by rw[<-hY];rfl
 have h:Y.prog=X.prog:=by rw[<-hY];rfl
 have a:Y.w=X.w:=by rw[<-hY];rfl
 have YA:Y.A=X.A:=by rw[<-hY];rfl
 have YK:Y.K=X.K:=by rw[<-hY];rfl
 have ly:Y.calm=true:=by rw[<-hY];exact hc
 have tX:Y.xe=fun _ _=>False:=by rw[<-hY];rfl
 have vW:Y.ex=fp:=by rw[<-hY];rfl
 have Uo:Y.pn= []:=by rw[<-hY];rfl
 have Up:Y.fs=ik X.stack:=by rw[<-hY];rfl
 have MH:Y.s₀={s with heap:=s.heap.push {cls:= .type "list",data:= .seq (([]:List 212)).toArray},toks:=235}:=by rw[<-hY];rfl
 have Uq:Y.H₀=upd H s.heap.objs.size (.lst []):=by rw[<-hY];rfl
 have S7:PG Y tg g:=by rw[<-hY];exact hg _ _ _ _ _
 have X0:PF Y ifs tc:=by rw[<-hY];exact hf _ _ _ _ _
 have X5:PE Y elt te:=by rw[<-hY];exact he _ _ _ _ _
 have hm:(Y.N.length:Nat)=(hG nt js σ).length:=Z.len.symm;rw[<-pO,<-h,<-a,<-YA];have FP: ∀{H':Hp} (_: ∀b∈fp,H' b=none),∀b∈fp,dZ Y [] H' b:=fun{H'} hn b f=>by
  refine⟨hn b f,(Z.ok.JQ b (by rw[vW];exact f)).1,Z.ok.vA b (by rw[vW];exact f),.inl (by rw[vW];exact f),(Z.ok.JQ b (by rw[vW];exact f)).2,fun p hp=>?_⟩;rw[Uo] at hp;simp at hp
 have O: ∀{H':Hp} {s':211} {σ':St},Inv Y [] σ' H' s'->Inv X pins σ H' s'/\dZ X pins H' Y.env.locals/\ ∃m,s'.heap.Ns Y.env.locals m:=fun{H' s' σ'} J=>by
  have f:Un (ik X.stack) fp 153 H' 106 s'.heap:=by
   have:=J.base;rw[Up,vW,Uq,MH] at this;exact this
  have loc:Y.env.locals=205+1:=by rw[pO];exact Tp
  have os:s'.os=s.os:=by
   have:=J.os;rw[MH] at this;exact this
  have aQ:gG X.prog X.w H' s'.heap:=by
   have:=J.aQ;rw[h,a] at this;exact this
  refine⟨I3.Ae (ch:=fp) os f aQ J.bare fun b f=>⟨(l b f).2.2.2.1,(l b f).2.1,(l b f).2.2.2.2.1,(l b f).2.2.2.2.2⟩,?_,let ⟨m,q,_⟩:=J.loc;⟨m,q⟩⟩;exact I.vt (by rw[loc];exact aw3 _) J.free
 have F:codeAny (model Y.prog Y.w) Y.A (.compLoop 124 0 (.ref it) 118 Y.env) (RR 118 Y.env.locals)
   {s with heap:=pushCells ((106).push {cls:= .type "dict",data:= .dict #[]}) scope.names}:=by
  refine tx (fun n s'=> ∃i L H',Inv Y [] (hG nt js σ) H' s'/\tn i s'.heap/\(∀b∈fp,H' b=none)/\W i n L H') ?_ m0
   ⟨0,[],_,Z,T.keep _ _ _ st fun b _ o e=>an4 _ _ b o (ab1 _ (kD b o e)),fun b f=>(Mb b f).1,w0⟩
  rintro n s5 ⟨i,L,H5,I5,wK,BJ,w5⟩
  rcases turn i n L H5 w5 with ⟨stop,q⟩ | ⟨go,hlen,B,hB,step⟩
  . have U:=T.done Y h a YK ly i [] s5 _ H5 122 I5 (FP BJ) wK stop;rw[<-h,<-a] at U;refine aV U fun r s6 j4=>?_;obtain⟨hr,I6⟩:=j4;subst hr;obtain⟨b1,b2,b3⟩:=O I6;exact fin _ _ _ _ b1 b2 b3 q
  . have U:=T.item Y h a YK ly i [] s5 _ H5 122 I5 (FP BJ) wK go;rw[<-h,<-a] at U;refine aV U fun r s6 mW=>?_;obtain⟨u,hr,h6⟩:=mW;subst hr;refine aV h6 fun _ s7 rK=>?_;obtain⟨x,H7,I7,r7,y7,wJ,Pe⟩:=rK;have Qn:=I7.pinned (FP Pe) (T.obj _ _ wJ);have g7:=gf _ _ _ _ (step x H7 y7);have h7:=S7 _ s7 _ H7 x u _ Qn r7 g7;rw[tX] at h7;refine aV h7 fun _ s8 nM=>?_;obtain⟨t,H8,I8,q8,l8,k8⟩:=nM;have h8:=X0 _ s8 t H8 _ I8 q8;rw[tX] at h8;refine aV h8 fun b s9 gI=>?_;obtain⟨H9,I9,q9⟩:=gI;have z: ∀{G:Hp} {M:Shared} {cf:List V},Inv Y ([]++jH fp s7.heap) t G M->B cf G-> ∃m,m < n/\ ∃i L H',Inv Y [] (hG nt js σ) H' M/\tn i M.heap/\(∀b∈fp,H' b=none)/\W i m L H':=fun{G M cf} v5 CF=>by
     obtain⟨m',Hj,M6⟩:=hB cf G CF;refine⟨m',Hj,i+1,cf,G,v5.fb.weak l8.symm fun k v e=>?_,T.keep _ _ _ wJ fun b f o e=>(v5.pin (b,o) (ac8 _ (ac8 _ (bH f e)))).1,fun b f=>?_,M6⟩
     . by_cases hk:nt<=k
       . rw[k8 k hk];exact e
       . exfalso;unfold hG at e;rw[ae9 (by simp;lia),ad7,if_pos 102] at e;cases e
     . obtain⟨o,e,d⟩:=T.obj _ _ wJ b f;exact(v5.pin (b,o) (ac8 _ (ac8 _ (bH f e)))).2.1
    cases b with
    | false=>
     rw[if_neg ab9] at q9 ⊢;exact z I9 q9
    | true=>
     rw[if_pos rfl] at q9 ⊢;have h9:=X5 _ s9 t H9 _ I9 q9;rw[tX] at h9;refine aV h9 fun y M lL=>?_;obtain⟨v,G,v5,RQ,Pb,NM⟩:=lL;have JK:=(l5 (X:=Y) _ M t G 118 [v] 118 [y] (fun _ H'=>B (L++ [v]) H') v5 rfl (.cons RQ .nil) ⟨_,L,v,rfl,rfl,Pb,hlen,NM⟩)
     rw[tX] at JK;refine aV JK fun _ RE nN=>?_;obtain⟨_,Hr,KP,_,WV⟩:=nN;exact z KP WV
 have vG:(106).objs.size=Y.env.locals:=by rw[pO];rfl
 rw[vG];exact codeAny_compStart_list F (by rw[h,a,YA] at*;exact T.self _ 0 _ _ _ (T.keep _ _ _ st fun b _ o e=>an4 _ _ b o (ab1 _ (kD b o e))) F)
def IE(S:lC X N nt js scope)(G:X.calm=true)(hi:PI X tg iter wi)(V: ∀s H i C t,PG 115 tg g)(z:lB nt g)(U: ∀s H i C t,PF 115 ifs tc)(P: ∀s H i C t,PE 115 elt te)(Y: ∀x,225 iter X.env x=pure x:=by intro _;rfl):PE X 124 (Dj nt js wi g tc te):=by
 intro a s c H Q I h;obtain⟨i,mj,F,d⟩:=gY (scope:=scope) (env:=216) fun x Z e=>I.ok.has x.1 (S.QC x Z e);rw[eval_ListComp];refine ar3 (use:=none) rfl Y mj S.kind S.names (aV (hi a s c H _ I h) fun v s1 u=>aV u fun QG s2 B=>?_);obtain⟨it,fp,tn,J,H2,rfl,f,T,iq,l,R⟩:=B;refine rh (RR:=fun L C=>compPost 107 X.A X.xe none (EP X a c Q) L C) S G V z U P f T iq l F d R fun D C s' r M n jz q=>?_;obtain⟨m,W⟩:=jz;refine⟨m,W,fun h' sb=>⟨.ref D,r,?_,rfl,q⟩⟩;obtain⟨j,k,_,O,p,y⟩:=n;exact M.turned (t':=s'.toks) (fun b o E e=>(sb.2 b E).trans e) j k O p y
def Iu{pos u d:Pos}(hN:X.N.Nodup)(P:X.N[i]?=some y)(hy:Loc X.env.scope y)(S:lC X N nt js scope)(hc:X.calm=true)(hi:PI X tg iter wi)(hg: ∀s H j C t,PG 177 tg g)(gf:lB nt g)(hf: ∀s H j C t,PF 177 ifs tc)(he: ∀s H j C t,PE 177 elt te)(F:swapsWith 124 (some (.Name y d)) u.line X.env=pure true:=by rfl)(hs: ∀x,foldedSetIterable iter X.env x=pure x:=by intro _;rfl)(O:X.fn y=true\/X.env.scope.names.lookup y=some .local:=by first | exact .inl rfl | exact .inr rfl | assumption):
  PS X (.Assign [.Name y d] 124 u) (Dm (Dj nt js wi g tc te) (bY i)):=by
 intro c s f H D I h;obtain⟨j,mj,G,c2⟩:=gY (scope:=scope) (env:=216) fun x hx e=>I.ok.has x.1 (S.QC x hx e);rw[exec_Assign_Name_used _ _ _ _ F];refine aa8 (ah1 (aa8 ?_));show 218 _ _ (do let _<-comprehension 124 scope X.env _ (newList []) false (eval iter 216) (some (assign (.Name y d) 216))) _ _ s;refine aa8 (ae3 (ar3 (use:=some (assign (.Name y d) 216)) (Q:=fun _ U=>SP X c D .next U) rfl hs mj S.kind S.names
  (aV (hi c s f H _ I h) fun v s1 h1=>aV h1 fun QG s2 h2=>?_)) (fun _ U hq=>ab0 (ab0 hq)) fun _ _ e=>e)
 obtain⟨it,fp,tn,J,H2,rfl,n,T,iq,f2,R⟩:=h2;refine rh (RR:=fun L C=>compPost 107 X.A X.xe (some (assign (.Name y d) 216)) (fun _ U=>SP X c D .next U) L C) (Q:=fun x l=>bY i x f l D.nx) S hc hg gf hf he n T iq f2 G c2 R fun Z C U r M fo E q=>?_;obtain⟨m,hn⟩:=E;show 218 _ _ (assign (.Name y d) X.env (.ref Z)) _ _ _;obtain⟨f0,k,_,f3,p,f5⟩:=fo;refine wpAny_assign_Name (qD M hN P hy (v:= .ref Z) rfl (fun B V wo=>?_) O);obtain⟨a,sb,ha⟩:=wo;have W:C≠a:=by
  rcases ha with z | z
  . rw[z];exact k
  . exact Ne.symm (p _ _ z)
 refine⟨m,hn.sameBut sb W,fun h' Y=>⟨_,r,?_,q⟩⟩;exact V.turned (t':=B.toks) (fun b o hb e=>(Y.2 b hb).trans e) f0 k f3 p f5
open AutoSeq1 (wpAny_loadPart')
def OI(t:typeLookup (.type T) "__init__"=pure (some (.builtin "object.__init__")))(e:Bind.madeBy (.type T)=pure (some newId))(C:(some newId !=some "object.__new__")=true):Meets (Builtin.«object.__init__» ⟨me::more,kw⟩) (fun _ R s=>s.TypeIs me T/\R (.ok (.ret .none)) s):=by
 refine Meets.of_wp fun y w A R s x=>?_;obtain⟨V,U⟩:=x;cases more with
 | nil=>
  cases kw with
  | nil=>exact ab0 ⟨_,rfl,U⟩
  | cons p r=>
   repeat (any_goals (first | assumption | wp_step))
   all_goals exact⟨_,rfl,U⟩
 | cons a r=>
  repeat (any_goals (first | assumption | wp_step))
  all_goals exact⟨_,rfl,U⟩
def pH(G:TypeCalled T newId "object.__init__")(I:(some newId !=some "object.__new__")=true)(H:checkTypeCall T ⟨xs,kw⟩=pure ())(a:checkBuiltinCall newId ⟨.type T::xs,kw⟩=pure ())(m: ∀u,argsOk "object.__init__" ⟨u::xs,kw⟩)(O:entryFor table newId=some B)(l:Meets (B ⟨.type T::xs,kw⟩) S)(h:S A.in1 (wants (fun u z=>z.TypeIs u T/\Q u z) E) s):218 105 A (call (.type T) xs kw) Q E s:=by
 obtain⟨c,p,P⟩:=G.mro;have R:=G.made;have n:=G.sub;refine wpAny_call (codeAny_of_tree (show 218 _ _ (callAny (.type T) _) _ _ _ from ab0 ⟨av1 _ 174,ap3 F.entry_type_call ?_⟩));rw[Around.under_plain (weight_type_call_type T xs kw) (units_type_call_type T xs kw)];have J:=G.notType;have x:=G.canCreate;repeat (any_goals (first | assumption | wp_step))
 refine ao5 (an6 G.plain O (wpAny_of_eq a (l prog w A.in1 _ s h))) fun r z o=>?_;match r,o with
 | .error e,o=>exact o
 | .ok (.ret u),o=>
  obtain⟨U,V⟩:=o;have b:=G.init.lookup;have y:=G.init.bind u;repeat (any_goals (first | assumption | wp_step))
  refine ao5 (an6 G.init.plain F.entry_object_init (G.init.check _ _ _ _ _ _ _ _ U (m u) (OI G.init.lookup G.made I prog w A.in1 (wants (fun v W=>v= .none/\Q u W) E) z ⟨U,rfl,V⟩))) fun i X d=>?_;match i,d with
  | .error e,d=>exact d
  | .ok (.ret v),d=>
   obtain⟨rfl,Z⟩:=d;repeat (any_goals (first | assumption | wp_step))
  | .ok .next,d=>exact d.elim
  | .ok .brk,d=>exact d.elim
  | .ok .cont,d=>exact d.elim
 | .ok .next,o=>exact o.elim
 | .ok .brk,o=>exact o.elim
 | .ok .cont,o=>exact o.elim
open AutoSeq1 (wpAny_loadPart')
def kR(h:Heap)(t:Addr)(k:Int):Heap:=
 (h.push {cls:= .type "tuple_iterator",data:= .fields #[.ref t,.int 0 0]}).push {cls:= .type "enumerate",data:= .fields #[.none,.bool false,.ref 231,rawInt k,.none,.none]}
def vC(t:Addr)(k:Int):PySem.Spec:=fun _ R s=>(∃m,s.heap.IsTuple t m)/\R (.ok (.ret (.ref (s.heap.push {cls:= .type "tuple_iterator",data:= .fields #[.ref t,.int 0 0]}).objs.size))) {s with heap:=kR s.heap t k}
def FZ(t:Addr):Meets (Builtin.«enumerate.__new__» ⟨[.type "enumerate",.ref t],[]⟩) (vC t 0):=
 .of_wp fun y w A R s x=>(by obtain⟨⟨m,T⟩,h⟩:=x;exact(by
  obtain⟨B,g,d,G,q⟩:=s;have p:=sub_enumerate;obtain⟨⟨c,S,U,M⟩,z,o,n,D⟩:=id T;replace o:c= .type "tuple":=o
  replace D:U= .seq m n:=D
  subst o D;wp_walk using ah5 z
  refine wpAny_stack_any fun r=>ab0 ?_;split
  . rename_i c _ _ _ _ _;cases (c==Value.type "enumerate") <;> (wp_walk using ah5 z,al0 T;exact⟨_,rfl,h⟩)
  . wp_walk using ah5 z,al0 T
    exact⟨_,rfl,h⟩))
def FY(t:Addr)(u:Tok):Meets (Builtin.«enumerate.__new__» ⟨[.type "enumerate",.ref t],[("start",.int 1 u)]⟩) (vC t 1):=
 .of_wp fun y w A R s M=>(by obtain⟨⟨m,T⟩,h⟩:=M;exact(by
  obtain⟨B,g,d,G,q⟩:=s;have p:=sub_enumerate;obtain⟨⟨c,S,U,N⟩,z,o,n,D⟩:=id T;replace o:c= .type "tuple":=o
  replace D:U= .seq m n:=D
  subst o D;wp_walk using ah5 z
  refine wpAny_stack_any fun r=>ab0 ?_;split
  . rename_i c _ _ _ _ _;cases (c==Value.type "enumerate") <;> (wp_walk using ah5 z,al0 T;exact⟨_,rfl,h⟩)
  . wp_walk using ah5 z,al0 T
    exact⟨_,rfl,h⟩))
open AutoSeq1 (wpAny_loadPart')
def ug(D:s.heap.IsTupleIter it t j)(d:s.heap.IsTuple t aq)(a:aq[j]?=some y)(k: ∀r,r.IsTupleIter it t (j+1)->Heap.SameBut it s.heap r->Q y {s with heap:=r}):218 105 A (229 (.ref it)) Q E s:=by
 obtain⟨u,R,l,M⟩:=id D;obtain⟨S,h,_,v,B⟩:=d;unfold Builtin.SmallTypes.nextOf;refine aa8 (aj6 (name:=Str.ofString "__next__") D.typeIs ap5 (ai4 ap5 D.typeIs F.entry_tuple_iterator_next ?_ (F.args_tuple_iterator_next_1 _)));show 218 _ _ (field (.ref it) 0 >>=_) _ _ s;refine aa8 (ai2 R M (x:= .ref t) rfl ?_);show 218 _ _ (if (226 t==221)=true then _ else _) _ _ s;rw[if_neg (show¬(Value.ref t==Value.none)=true from fun z=>nomatch (show false=true from z))];show 218 _ _ (field (.ref it) 1 >>=_) _ _ s;refine aa8 (ai2 R M (x:= .int j 0) rfl ?_);show 218 _ _ (seqItems? (.ref t) >>=_) _ _ s;refine aa8 (ak4 h B ?_);simp only [ai6,a];refine aa8 (aq6 R M 111 (ab0 ⟨y,rfl,ab0 (k _ ⟨_,aj2 _ R (at3 (am9 M _)),(Obj.cls_mapFields ..).trans l,by rw[am9 M];simp [rawInt]⟩ (ar5 ..))⟩))
def uh(L:A.handled=none)(D:s.heap.IsTupleIter it t j)(d:s.heap.IsTuple t aq)(b:aq[j]?=none)(k: ∀r e,Heap.ExtBut it s.heap r->(∃o,r.get? e=some o/\o.cls= .type "StopIteration")->E (.ref e) {s with heap:=r}):218 105 A (229 (.ref it)) Q E s:=by
 obtain⟨u,R,l,M⟩:=id D;obtain⟨S,h,_,v,B⟩:=d;unfold Builtin.SmallTypes.nextOf;refine aa8 (aj6 (name:=Str.ofString "__next__") D.typeIs ap5 (ai4 ap5 D.typeIs F.entry_tuple_iterator_next ?_ (F.args_tuple_iterator_next_1 _)));show 218 _ _ (field (.ref it) 0 >>=_) _ _ s;refine aa8 (ai2 R M (x:= .ref t) rfl ?_);show 218 _ _ (if (226 t==221)=true then _ else _) _ _ s;rw[if_neg (show¬(Value.ref t==Value.none)=true from fun z=>nomatch (show false=true from z))];show 218 _ _ (field (.ref it) 1 >>=_) _ _ s;refine aa8 (ai2 R M (x:= .int j 0) rfl ?_);show 218 _ _ (seqItems? (.ref t) >>=_) _ _ s;refine aa8 (ak4 h B ?_);simp only [ai6,b];refine aa8 (ak3 (aa8 (aq6 R M 111 ?_)));show 218 _ _ (newExc (.type "StopIteration") [] >>=_) _ _ _;refine aa8 ?_;simp only [newExc,newTuple];refine aa8 (ag2 ?_ (by size_fits));refine aa8 (m:=firstArgMember _ _) (wpAny_of_eq (a:=221) (by first | rfl | (simp only [firstArgMember];rfl)) (ag2 ?_ (by size_fits)));simp only [raiseNew];refine aa8 (wpAny_handled ?_);first | rw[show A.in1.handled=none from L] | rw[L]
 exact aa8 (ab0 (wpAny_throw (k _ _ (((ar5 ..).extBut.push _).push _) ⟨_,ac3 _ rfl,rfl⟩)))
def vJ{prog:Program}{w:World}{A:Around}(L:A.handled=none)(Z t:Addr)(I:t≠Z)(x:Array Value)(k:Nat):
  Draws prog w A Z [Z,t] (x.size+k) (fun i v=>k<=i/\x[i - k]?=some v) (fun i h=>k<=i/\h.IsTupleIter Z t (i - k)/\h.IsTuple t x) where
 live:=fun _ _ B=>(by obtain⟨_,p,_⟩:=B;exact(let ⟨o,ho,_⟩:=p;⟨o,ho⟩))
 frame:=fun _ _ _ M F=>(by obtain⟨l,p,m⟩:=M;exact(⟨l,let ⟨o,q,r⟩:=p;⟨o,F Z 111 o q,r⟩,let ⟨o,q,r⟩:=m;⟨o,F t 111 o q,r⟩⟩))
 item:=fun i s Q E H ⟨l,p,m⟩ W=>by
  have z:i - k < x.size:=by grind
  refine ug p m (y:=x[i - k]) (by simp [z]) fun u D e=>W _ u s.toks ⟨l,by simp [z]⟩ ⟨by grind,?_,?_⟩ e
  . rw[show i+1 - k=i - k+1 by grind];exact D
  . obtain⟨o,q,r⟩:=m;exact⟨o,(e.2 t I).trans q,r⟩
 done:=fun s Q E X C=>(by obtain⟨l,p,m⟩:=X;exact(uh L p m 111 C))
section
variable{X:Cx}{pins:List 121}{σ:St}{H:Hp}{s:211}
def Inv.qv{h':Heap}{t':Nat}{ch:List Addr}(I:Inv X pins σ H s)(p: ∀b∈ch,dZ X pins H b)(U:205<=T)(k: ∀b u,b∉ch->s.heap.get? b=some u->h'.get? b=some u)(t:aX X.prog X.w (upd H T o) h' T o):Inv X pins σ (upd H T o) {s with heap:=h',toks:=t'}:=by
 have F:H T=none:=I.aQ.fresh U;have Q: ∀b u,s.heap.get? b=some u->b≠T:=fun b u e z=>213 (ae2 (ac5 e) (z▸U)) (af7 _);have G: ∀b u,H b=some u->b∉ch:=fun b u e z=>by rw[(p b z).1] at e;cases e
 refine I.step (g':=s.gens) (d':=s.drawn) (ch:=ch) (fun b d=>?_) (fun b u _ _ V e _=>k b u V e) (fun b u _ _ V e _=>⟨u.slots,k b u V e⟩) (fun b u V e n=>by rw[ah (Q b u e)];exact n)
  (fun b u V e=>⟨u,k b u V e⟩) (fun b h e=>by rw[ah (au e F)];exact e) (fun b x u e=>by rw[ah (au e F)];exact e) (fun b D e=>⟨#[],by rw[ah (au e F),e];simp⟩) (fun m O=>?_) (fun b u e=>?_) I.bare
 . obtain⟨i,g,j,J,A,B⟩:=p b d;exact⟨J,g,A,B⟩
 . obtain⟨x,P,y,C,r⟩:=O;exact⟨x,P,y,k _ x (fun z=>(p _ z).2.1 rfl) C,r⟩
 . by_cases d:b=T
   . subst d;rw[ag] at e;cases e;exact t
   . rw[ah d] at e;refine(I.aQ b u e).gM (fun c v W q=>k c v ?_ q) (fun c q=>by rw[ah (au q F)];exact q) fun c h q=>by rw[ah (au q F)];exact q
     rcases W with z | z
     . rw[z];exact G b u e
     . exact G c _ z
def QV(K:207)(a:Addr)(k:Nat):It:=
 ⟨fun i H=> ∃g x,dH K H a g/\g[i]?=some x,fun i H x q=> ∃p y,x= .ref p/\H p=none/\q=upd H p (.tup [.int ((i+k:Nat):Int),y])/\ ∀g,dH K H a g->g[i]?=some y,fun i H=> ∃g,dH K H a g/\g.length=i⟩
def AD{P:Program}{w:World}{K:PySem.W.Frag}{es:List Expr}{x1}{tp:Pos}(a e Z:Addr)(k:Nat)(V:e≠Z):
  Turn P w K 191 (QV K a k) [e,Z] e (fun i h=>(∃F,IsEnum h e Z ((i+k:Nat):Int) F)/\h.IsTupleIter Z a i) where
 mem:=by simp
 obj:=fun i h r b c=>by
  obtain⟨⟨F,G⟩,m⟩:=r;rcases ad8.mp c with q | q
  . subst q;exact⟨_,G,fun v z=>nomatch (show Data.fields _=Data.cell v from z)⟩
  . have q:b=Z:=by simpa using q
    subst q;obtain⟨o,t,f,q3⟩:=m;exact⟨o,t,fun v z=>by rw[q3] at z;cases z⟩
 keep:=fun i h h' r kk=>by
  obtain⟨⟨F,G⟩,m⟩:=r;exact⟨⟨F,kk e 111 _ G⟩,m.at fun o q=>kk Z 111 o q⟩
 item:=by
  intro X J N g C i pins s σ H E I j r M;subst J N g;obtain⟨xs,x,U,O⟩:=M;obtain⟨B,T,p,hz⟩:=I.tuple U;obtain⟨u,hu,ru⟩:=T.get O;obtain⟨⟨F,G⟩,m⟩:=r;have ha: ∃o,s.heap.get? a=some o:=let ⟨o,q,_⟩:=p;⟨o,q⟩;have n:a≠e:=by
   rintro rfl
   obtain⟨o,t,f,_⟩:=p;rw[G] at t;cases t;injection f with z;exact 213 z 104
  have d:a≠Z:=by
   rintro rfl
   obtain⟨o,t,f,_⟩:=p;obtain⟨o',R,S,_⟩:=m;rw[R] at t;cases t;rw[S] at f;injection f with z;exact 213 z 104
  have D:=vJ (prog:=X.prog) (w:=X.w) (A:=X.A.in1) (I.ok.hd C) Z a d B.toArray k;have hlen:i < B.length:=(ac1.mp hu).1;refine wpAny_pyNext_enum_itemD D G ⟨by lia,by rw[show i+k - k=i by lia];exact m,p⟩ (by simp;lia) V (by simp [V,Ne.symm n]) fun y h' tk l ho Ft ht hsz hk=>?_;obtain⟨_,l⟩:=l;rw[show i+k - k=i by lia] at l;have ey:y=u:=by
   have:B[i]?=some y:=by simpa using l
   rw[hu] at this;cases this;rfl
  subst ey;refine⟨_,rfl,?_⟩;refine wpAny_letOwnedTupleGo_enum ho fun h2 L Y=>?_;have Tj:e < s.heap.objs.size:=ac5 G;have S4:Z < s.heap.objs.size:=let ⟨o,q,_⟩:=m;ac5 q;have I1:Inv X pins σ (upd H s.heap.objs.size (.tup [.int ((i+k:Nat):Int),x])) {s with heap:=h2,toks:=tk+1}:=by
   refine I.qv (ch:= [e,Z]) j (ab6 _) (fun b o c q=>?_) ⟨by show 2<=208;decide,[.int ((i+k:Nat):Int) tk,y],.cons ⟨_,rfl⟩ (.cons ru .nil),?_⟩
   . have h1:b≠e:=fun z=>c (by simp [z]);have tW:b≠Z:=fun z=>c (by simp [z]);exact(Y.2 b h1).trans (hk b o h1 tW q)
   . exact⟨_,(Y.2 _ (ao6 Tj)).trans ht,rfl,rfl,_,rfl⟩
  refine⟨.ref 205,_,I1,rfl,⟨_,x,rfl,I.aQ.fresh (ab6 _),rfl,fun ys l=>by rw[I.qw l U];exact O⟩,⟨⟨y,?_⟩,?_⟩,fun b c=>?_⟩
  . rw[show((i+1+k:Nat):Int)=((i+k:Nat):Int)+1 by lia];exact L
  . obtain⟨_,q,_⟩:=Ft;rw[show i+k+1 - k=i+1 by lia] at q;exact q.at fun o z=>(Y.2 Z (Ne.symm V)).trans z
  . rw[ah (fun z=>?_)]
    . exact(j b c).1
    . rcases ad8.mp c with q | q
      . subst q;exact 213 (z▸Tj) (af7 _)
      . have q:b=Z:=by simpa using q
        subst q;exact 213 (z▸S4) (af7 _)
 done:=by
  intro X J N g C i pins s σ H E I j r M;subst J N g;obtain⟨xs,U,O⟩:=M;obtain⟨B,T,p,hz⟩:=I.tuple U;obtain⟨⟨F,G⟩,m⟩:=r;have d:a≠Z:=by
   rintro rfl
   obtain⟨o,t,f,_⟩:=p;obtain⟨o',R,S,_⟩:=m;rw[R] at t;cases t;rw[S] at f;injection f with z;exact 213 z 104
  have hl:=T.length;have D:=vJ (prog:=X.prog) (w:=X.w) (A:=X.A.in1) (I.ok.hd C) Z a d B.toArray k;obtain⟨f0,f1,f2,f3,f4,f5⟩:=j Z 111;refine wpAny_pyNext_enum_endD D G ⟨by simp,?_,p⟩ fun h' eb=>⟨rfl,I.turned (t':=235) (fun b o c q=>eb b o c q) f0 f1 f3 f4 f5⟩
  rw[show B.toArray.size+k - k=i by simp;lia];exact m
 self:=fun A i s Q E r h=>by
  obtain⟨⟨F,G⟩,_⟩:=r;exact wpAny_pyIter_enum G h
end
section
variable{X:Cx}{tg:Expr}{a b:Expr}{ta tb:TE}{pos:Pos}
def SG(K:207)(k:Nat)(ta:TA):TI:=fun c H R=>ta c H fun u l=> ∃a,u= [.ref a]/\(∃g,dH K l a g)/\R (QV K a k) l
def OJ(K:207)(ta:TA)(tk:TA):TI:=fun c H R=>ta c H fun u l=>tk c l fun A J=> ∃a,u= [.ref a]/\A= [.int 1]/\(∃g,dH K J a g)/\R (QV K a 1) J
def mR{x1}{k:Nat}(I:Inv X pins σ H s)(q:R (QV X.K p k) H):
  218 107 X.A (pyIter (.ref (s.heap.push {cls:= .type "tuple_iterator",data:= .fields #[.ref p,.int 0 0]}).objs.size)) (Vz X pins σ 191 R) E {s with heap:=kR s.heap p k,toks:=tk}:=by
 have z:(s.heap.push {cls:= .type "tuple_iterator",data:= .fields #[.ref p,.int 0 0]}).objs.size=205+1:=ah8 ..;have y:IsEnum (kR s.heap p k) 156 s.heap.objs.size k .none:=by
  have:=ac3 (s.heap.push {cls:= .type "tuple_iterator",data:= .fields #[.ref p,.int 0 0]}) (o:={cls:= .type "enumerate",data:= .fields #[.none,.bool false,.ref 205,rawInt k,.none,.none]}) rfl;rw[z] at this;exact this
 have J:(kR s.heap p k).IsTupleIter s.heap.objs.size p 0:=⟨_,ab1 _ (ac3 _ rfl),rfl,rfl⟩
 rw[z];refine wpAny_pyIter_enum y ?_;refine⟨205+1,[205+1,205],_,QV X.K p k,H,rfl,I.kept fun c o e=>ab1 _ (ab1 _ e),AD p _ _ k (Nat.succ_ne_self _),⟨⟨.none,?_⟩,J⟩,fun c m=>?_,q⟩
 . rw[Nat.zero_add];exact y
 . have d : s.heap.objs.size <= c := by
     rcases ad8.mp m with q | q
     . rw[q];exact aw3 _
     . have q:c=s.heap.objs.size:=by simpa using q
       rw[q];exact ab6 _
   exact I.vt d (I.aQ.fresh d)
def Eh{x1}(d:Gl X "enumerate")(O:X.mg "enumerate"=none)(f:PA X [e] t)(n:starEach [e] X.env= [(false,eval e X.env)]:=by rfl):
  PI X 191 (.Call (.Name "enumerate" p) [e] [] pos) (SG X.K 0 t):=by
 intro c s g H R I h;refine Call_ (dj I d O boot_enumerate (aj3 (aV (f pos c s g H _ I h) fun Z P w=>?_) n rfl));obtain⟨z,l,Y,x,v⟩:=w;obtain⟨p,rfl,⟨j,U⟩,q⟩:=v;obtain⟨u,rfl,o⟩:=vals1 x;cases o;obtain⟨y,G,Q,i⟩:=Y.tuple U;exact pH F.called_enumerate 104 (F.typeCall_enumerate_1 _) (F.newCall_enumerate_1 _) (fun J=>F.args_object_init_2 J _) F.entry_enumerate_new (FZ p) ⟨⟨_,Q⟩,⟨_,ac3 _ rfl,rfl⟩,mR (k:=0) Y q⟩
def BQ(a b:212):checkTypeCall "enumerate" ⟨[a],[("start",b)]⟩=pure ():=by kernel_rfl
def BR(a b:212):checkBuiltinCall "enumerate.__new__" ⟨[.type "enumerate",a],[("start",b)]⟩=pure ():=by kernel_rfl
def EL(a b c:212):argsOk "object.__init__" ⟨[a,b],[("start",c)]⟩:=by unfold argsOk;kernel_rfl
def qi{M:Model}{A:Around}{E:Value->Shared->Prop}{s:Shared}{env:Env}{pos:Pos}{T:String}{Q:Value->Shared->Prop}{e:Expr}{rest:List Expr}(h:wpAny M A (spliced (backTo pos (starEach (e::rest) env))) (fun u z=>wpAny M A (evalAll ((178).map (·.2))) (fun O U=>wpAny M A (call (.type T) u (((178).filterMap (·.1)).zip O)) Q E U) E z) E s)(k1:backTo pos (starEach (e::rest) env)=(false,eval e env)::backTo pos (starEach rest env):=by rfl)(k2:(backTo pos (starEach (e::rest) env)).any (·.1)=false:=by rfl)(k3:(178).all (·.1.isSome)=true:=by rfl)(f:(178).any (·.1.isNone)=false:=by rfl):
  218 M A (callWith pos (.type T) [] (backTo pos (209 (e::rest) env)) 178) Q E s:=by
 have g:218 M A (evalArgs (.type T) true (backTo pos (209 (e::rest) env)) 178) (fun a z=>218 M A (call (.type T) ([]++a.pos) a.kw) Q E z) E s:=by
  rw[k1] at h ⊢;exact evalArgs_kwB k3 h
 unfold callWith;refine aa8 (af6 (ae3 g (fun a z V=>aa8 (ah1 ?_)) fun _ _ x=>x));simp only [k2,f,Bool.or_false];exact aa8 (ab0 (aa8 (ae3 V (fun r U o=>aa8 (af6 (wpAny_point (ab0 o)))) fun _ _ x=>x)))
def Eg{x1}(i:Gl X "enumerate")(O:X.mg "enumerate"=none)(g:PA X [e] t)(E:PK X mJ tk)(z:(136).filterMap (·.1)=(["start"]:List Str):=by rfl)(k1:backTo pos 170=(false,eval e X.env)::backTo pos 137:=by rfl)(k2:(backTo pos 170).any (·.1)=false:=by rfl)(k3:(136).all (·.1.isSome)=true:=by rfl)(j:(136).any (·.1.isNone)=false:=by rfl):
  PI X 191 (.Call (.Name "enumerate" p) [e] mJ pos) (OJ X.K t tk):=by
 intro c s d H R I h;refine am1 (dj I i O boot_enumerate (qi (aV (g pos c s d H _ I h) fun A P m=>?_) k1 k2 k3 j));obtain⟨B,l,Y,w,v⟩:=m;refine aV (E pos c P d l _ Y v) fun N y Z=>?_;obtain⟨D,M,f,L,n⟩:=Z;obtain⟨p,rfl,rfl,⟨C,U⟩,q⟩:=n;obtain⟨u,rfl,o⟩:=vals1 w;cases o;obtain⟨V,rfl,⟨S,rfl⟩⟩:=vals1 L;obtain⟨x,G,Q,r⟩:=f.tuple U;rw[z];exact pH F.called_enumerate 104 (BQ _ _) (BR _ _) (fun J=>EL J _ _) F.entry_enumerate_new (FY p S) ⟨⟨_,Q⟩,⟨_,ac3 _ rfl,rfl⟩,mR (k:=1) f q⟩
def Ik(K:207):R2:=fun x y H Q=> ∃p q g,x= .ref p/\y= .ref q/\dr K H p g/\dr K H q []/\Q (.bl g.isEmpty) H
def za(K:207):R2:=fun x y H Q=> ∃p q g,x= .ref p/\y= .ref q/\dr K H p g/\dr K H q []/\Q (.bl (!g.isEmpty)) H
def A4(m:241 < cLine):jU X (compareOp .Eq) (Ik X.K):=by
 intro c s t H x y v u Q I i o h;obtain⟨p,q,n,rfl,rfl,d,g,U⟩:=h;cases i;cases o;obtain⟨z,F,f,_⟩:=I.list d;obtain⟨l,w,k,_⟩:=I.list g;cases w;cases F with
 | nil=>exact SeqAt.eq_listAt (e:=fun _=>true) f.isList k.isList rfl m (fun j d _=>213 d 111) ⟨.bl true,H,I,rfl,U⟩
 | cons r rr=>exact SeqAt.eq_list_lengthsAt f.isList k.isList 111 m ⟨.bl false,H,I,rfl,U⟩
def UT(i j:Int):Prop:=0 < j/\j < 2^64
def W6(d:0 < j)(f:j < 2^64):Builtin.divisionGoesByPylong i j=false:=by
 have e:j.natAbs < 2^64:=by lia
 have l:j.natAbs.log2 < 64:=by
  rw[Nat.log2_lt 102];exact e
 unfold Builtin.divisionGoesByPylong;have: ¬(if (j==0)=true then 0 else j.natAbs.log2 / 30+1) > 300:=by
  split <;> lia
 simp only [ae8 this,Bool.false_and]
def lu:fK X (.builtin "divmod") (fun g H Q=> ∃i j,g= [.int i,.int j]/\UT i j/\ ∀p,H p=none->Q (.ref p) (upd H p (.tup [.int (i / j),.int (i % j)]))):=by
 intro c s k H g Y Q I r h;obtain⟨i,j,rfl,⟨d,f⟩,q⟩:=h;obtain⟨u,U,rfl,⟨t,rfl⟩,⟨v,rfl⟩⟩:=vals2 r;refine divmod_int 102 ?_ (.inl (W6 d f));rw[Int.fdiv_eq_ediv_of_nonneg i 102,Int.fmod_eq_emod_of_nonneg i 102];refine⟨.ref 205,_,I.laid (o:= .tup [.int (i / j),.int (i % j)]) (fun b o e=>ab1 _ e) (ab6 _) ⟨by show 2<=208;decide,[.int (i / j) 235,.int (i % j) (235+1)],.cons ⟨_,rfl⟩ (.cons ⟨_,rfl⟩ .nil),_,ac3 s.heap rfl,rfl,rfl,0,rfl⟩,rfl,q _ (I.aQ.fresh (ab6 _))⟩
def vc(T:String)(H:Hp):V->210 Bool
 | .aO=>some false
 | .bl _=>some (T=="bool" || T=="int")
 | .int _=>some (T=="int")
 | .str _=>some (T=="str")
 | .ref a=>match H a with
  | some (.lst _)=>some (T=="list")
  | some (.tup _)=>some (T=="tuple")
  | _=>none
 | _=>none
def OH(U:T="int"\/T="bool"\/T="tuple"\/T="list"\/T="str"):fK X (.builtin "isinstance") (fun g H Q=> ∃x b,g= [x,.ty T]/\vc T H x=some b/\Q (.bl b) H):=by
 intro c s d H g Y Q I r h;obtain⟨x,b,rfl,e,q⟩:=h;obtain⟨u,V,rfl,p,J⟩:=vals2 r;cases (show V=Value.type T from J);have fin: ∀G:Nat,EP X c d Q (.bool b) {s with toks:=G}:=fun G=>⟨.bl b,H,I.tok _,rfl,q⟩
 cases x with
 | aO=>cases e;rcases U with rfl | rfl | rfl | rfl | rfl <;> exact eY I p .aO rfl fin
 | bl y=>cases e;rcases U with rfl | rfl | rfl | rfl | rfl <;> exact eY I p (.bl y) rfl fin
 | int y=>cases e;rcases U with rfl | rfl | rfl | rfl | rfl <;> exact eY I p (.int y) rfl fin
 | str y=>cases e;rcases U with rfl | rfl | rfl | rfl | rfl <;> exact eY I p (.str y) rfl fin
 | ref a=>
  cases f:H a with
  | none=>simp only [vc,f] at e;cases e
  | some o=>
   cases o with
   | lst g=>simp only [vc,f] at e;cases e;rcases U with rfl | rfl | rfl | rfl | rfl <;> exact eY I p (.lst f) rfl fin
   | tup g=>simp only [vc,f] at e;cases e;rcases U with rfl | rfl | rfl | rfl | rfl <;> exact eY I p (.tup f) rfl fin
   | _=>simp only [vc,f] at e;cases e
 | _=>cases e
end
inductive g8:List 212->List Bool->Prop
 | nil:g8 [] []
 | cons (b:Bool) {vs:List 212} {bs:List Bool}:g8 vs bs->g8 (.bool b::vs) (b::bs)
def g8.of: ∀{bs:List Bool} {us:List 212},Vals (bs.map V.bl) us->g8 us bs
 | [],_,.nil=> .nil
 | b::bs,_,.cons r rr=>by
  cases (show _=Value.bool b from r);exact .cons b (g8.of rr)
def g8.get(h:g8 vs bs): ∀(i:Nat) (v:212),vs[i]?=some v-> ∃b,bs[i]?=some b/\v= .bool b:=by
 induction h with
 | nil=>intro i v e;simp at e
 | cons b _ ih=>
  intro i v e;cases i with
  | zero=>simp at e;subst e;exact⟨b,rfl,rfl⟩
  | succ i=>simpa using ih i v (by simpa using e)
def DX(bs:List Bool):((219 bs.length).all fun i=>(bs[i]?).getD true)=bs.all id:=by
 rw[ap4,ag4,ag4];constructor
 . intro h b c;obtain⟨i,H,e⟩:=ah7 c;have:=h i (ak5.mpr H);simp only [ab2 H,at7,e] at this;exact this
 . intro h i H;have L:=ak5.mp H;simp only [ab2 L,at7];exact h _ (aq9 L)
def GG{X:Cx}(m:X.calm=true):fK X (.builtin "all") (fun g H Q=> ∃a M,g= [.ref a]/\dr X.K H a (List.map V.bl M)/\Q (.bl (M.all id)) H):=by
 intro c s j H g Y Q I r h;obtain⟨a,M,rfl,U,q⟩:=h;obtain⟨u,rfl,o⟩:=vals1 r;cases o;obtain⟨w,F,f,_⟩:=I.list U;have z:=f.isList;have d:=g8.of F;have n:w.length=M.length:=by rw[<-F.length,aa9]
 have B:a < s.heap.objs.size:=by obtain⟨_,e,_⟩:=z;exact ac5 e
 refine call_all_walk (an8 z ?_);refine⟨205,[205,a],[205],233,_,_,fun i=>(M[i]?).getD true,rfl,Walks.list (A:=X.A.in1) (I.ok.hd m) _ a (af1 B) w.toArray,
  ⟨⟨_,ac3 _ rfl,rfl,rfl⟩,z.push _⟩,fun i v S k y J W=>?_,fun t G E=>?_⟩
 . obtain⟨b,e,rfl⟩:=d.get i v (by simpa using J);simp only [e,at7] at W;exact al3 W
 . have e : ((List.range w.toArray.size).all fun i => (M[i]?).getD true) = M.all id := by
     rw[ad0,n];exact DX M
   rw[e];exact⟨.bl (M.all id),H,I.kept fun b x e=>E b x (fun O=>by rw[ab4.mp O] at e;exact af7 _ (ac5 e)) (ab1 _ e),rfl,q⟩
end L2
namespace L2
open PySem PySem.Spec PyProof.Rows HT
def vY(H:Hp)(A:List V)(p:Addr)(H':Hp):Prop:=(H'=H/\H p=some (.tup A))\/(H p=none/\H'=upd H p (.tup A))
def vY.at(h:vY H zs p H'):H' p=some (.tup zs):=by
 rcases h with ⟨rfl,h⟩ | ⟨_,rfl⟩
 . exact h
 . exact ag
def vY.keep(h:vY H zs p H'):aF H H':=by
 rcases h with ⟨rfl,h⟩ | ⟨h,rfl⟩
 . exact fun _ _ e=>e
 . exact fun b o e=>by rw[ah (au e h)];exact e
def GD{vs I:List 212}(X:IsTup s.heap t vs.toArray)(c:IsTup s.heap b I.toArray)(u:vs= [])(h:Q (.ref b) s):218 105 A (binaryOp .Add (.ref t) (.ref b)) Q E s:=by
 obtain⟨⟨G,i,n,Z⟩,D,d,r,a⟩:=id X;obtain⟨⟨e,B,C,v⟩,R,j,S,M⟩:=id c;simp only at d a j M;subst d a j M;exact concat_meets ⟨_,D,rfl⟩ ⟨_,R,rfl⟩ noFill_tuple_add seq_tuple_add PySem.F.slot_tuple_add av5 (av2 _ _) (tuple_addW0 t b vs.toArray I.toArray r S i B Z v (by simp [u])) ⟨D,R,h⟩
def kL{t M:Addr}{items:Array 212}{V W:212}{L hi:210 Int}(X:IsTup s.heap t items)(n:s.heap.IsSliceOf M V W .none)(b:IsPart V L)(u:IsPart W hi)(z:da items.size 0 L=0/\da items.size items.size hi=items.size)(h:Q (.ref t) s):218 105 A (getItem (.ref t) (.ref M)) Q E s:=by
 obtain⟨q,T,Z,U⟩:=id n;have m:s.TypeIs (.ref M) "slice":=⟨q,T,Z⟩
 unfold getItem;try with_reducible refine af6 ?_
 first | refine aa8 204 | skip
 refine aa8 (wpAny_sequenceKey X.typeIs 104 ?_);refine aa8 (aj6 (name:=Str.ofString "__getitem__") X.typeIs an1
  (ai4 an1 X.typeIs entry_tuple_getitem ?_ (args_tuple_getitem _ _)))
 show 218 _ _ (Builtin.Tuple.tupleItemsOf (.ref t) >>=_) _ _ s;refine aa8 (tupleItemsOf_ X ?_);refine aa8 (wpAny_typeOf m ?_);rw[if_pos 104];refine aa8 (gm n b u ?_);rw[z.1,z.2];obtain⟨v,H,x,k⟩:=id X;show 218 _ _ (if (((0:Nat):Int)==0 && (1:Int)==1 && (items.size - 0)==items.size)=true then _ else _) _ _ s;rw[if_pos 111];wp_walk using AutoSeq1.wpAny_loadPart' H
 all_goals exact⟨_,rfl,ab0 h⟩
section
variable{X:Cx}{e:Expr}{te:TE}{pos p2:Pos}
def Li:R2:=fun x y H Q=> ∃a b g q,x= .ref a/\y= .ref b/\H a=some (.tup g)/\H b=some (.tup q)/\g.length+q.length<=208/\ ∀p r,vY H (g++q) p r->Q (.ref p) r
def IL:jU X (binaryOp .Add) Li:=by
 intro c s C H x y v u Q I m A h;obtain⟨a,b,l,r,rfl,rfl,d,f,g,q⟩:=h;cases m;cases A;obtain⟨z,w,k,_⟩:=I.tuple (dH.of d);obtain⟨n,i,p2,_⟩:=I.tuple (dH.of f);by_cases j:z= []
 . have t:l= []:=w.sM.mp j;refine GD k p2 j ⟨.ref b,H,I,rfl,q b H (.inl ⟨rfl,?_⟩)⟩;rw[t];exact f
 . refine Ku k p2 j (fun p=>⟨.ref a,H,I,rfl,q a H (.inl ⟨rfl,?_⟩)⟩) (fun p=>?_) (by rw[<-w.length,<-i.length];exact g)
   . have W:r= []:=i.sM.mp p;rw[W,ai1];exact d
   . refine⟨.ref 205,_,I.laid (t':=235) (o:= .tup (l++r)) (fun b B q=>ab1 _ q) (ab6 _) ⟨by rw[ac6];exact g,_,w.append i,pV.new _ _⟩,rfl,q _ _ (.inr ⟨I.aQ.fresh (ab6 _),rfl⟩)⟩
def WS:V->210 Int->210 Int->Hp->VK->Prop:=fun x L I H Q=> ∃a g,x= .ref a/\H a=some (.tup g)/\ ∀p q,vY H (pA g L I) p q->Q (.ref p) q
def HQ:qk X WS:=by
 intro c s k H x v V W L J M Q I j p d t h;obtain⟨a,g,rfl,i,q⟩:=h;cases j;obtain⟨w,r,Y,f⟩:=I.tuple (dH.of i);have n:233=g.length:=by rw[ad0];exact r.length.symm
 refine⟨"tuple",_,PyProof.Rows.slot_tuple_getitem.lookup,Y.typeIs,?_⟩;by_cases z:da g.length 0 L=0/\da g.length g.length J=g.length
 . refine kL Y p d t (by rw[n];exact z) ⟨.ref a,H,I,rfl,q a H (.inl ⟨rfl,?_⟩)⟩;unfold pA;rw[z.1,z.2,at1,au6,al1];exact i
 . refine HT.kK Y p d t (by rw[n];exact z) ?_ (by rw[n];exact f);rw[n];refine⟨.ref 205,_,I.laid (t':=235) (o:= .tup (pA g L J)) (fun b u q=>ab1 _ q) (ab6 _) ?_,rfl,q _ _ (.inr ⟨I.aQ.fresh (ab6 _),rfl⟩)⟩;exact⟨ad9 (mU g L J) f,_,(r.drop (HT.da g.length 0 L)).take (HT.da g.length g.length J - HT.da g.length 0 L),pV.new _ _⟩
end
end L2
namespace L2
open PySem PySem.Spec PyProof.Rows
def KC(h:0<=i)(e:xs[i.toNat]?=some v):jS xs i=some v:=by
 have:i=((i.toNat:Nat):Int):=by lia
 rw[this];exact aS e
def Jp{n:Nat}{i:Int}(h:0<=i)(z:i < n):zw n i=some i.toNat:=by
 unfold zw;rw[if_pos h,if_pos z]
def eP(P:214)(w:237)(K:207)(G:Str->210 212)(base:Heap)(x:Str)(k:Nat)(z:List Str)(sp:Sp):Prop:=
 ∃f a,G x=some (.ref f)/\PySem.W.keepIn K (.ref f)=true/\Binds K a z []/\aU P w K G base dy k f a z sp
def ou{X:Cx}(h:eP X.prog X.w X.K X.mg X.base x k ps sp)(o:bN k X.A)(b:Gl X x)(i:PA X (e::es) t)(D:123=false:=by decide)(y:starEach (e::es) X.env=(false,eval e X.env)::starEach es X.env:=by rfl)(V:(129).any (·.1)=false:=by rfl):
  PE X 135 (Dl sp [] E0 t):=by
 obtain⟨f,a,d,g,C,B⟩:=h;exact IF B o b d g C .nil Ln i D y V
end L2
namespace LB
open PySem L2 PyProof.Rows
def mz:227 "int"=some (.type "int"):=by decide+kernel
def cw:227 "tuple"=some (.type "tuple"):=by decide+kernel
def dJ:227 "bool"=some (.type "bool"):=by decide+kernel
def i9:227 "str"=some (.type "str"):=by decide+kernel
def B8:227 "sum"=some (.builtin "sum"):=by decide+kernel
def cz:227 "list"=some (.type "list"):=by decide+kernel
def tK:227 "divmod"=some (.builtin "divmod"):=by decide+kernel
def Xf: ¬(("cells":Str)="turn"):=by decide+kernel
def bx(c:Addr)(t:Int):List (Key × V):= [(Sum.inr "cells",.ref c),(Sum.inr "turn",.int t)]
def vT(c:Addr)(t:Int):gK (bx c t) (Sum.inr "cells":Key)=some (.ref c):=by
 simp [gK,bx]
def Kv(c:Addr)(t:Int):gK (bx c t) (Sum.inr "turn":Key)=some (.int t):=by
 simp [gK,bx,Xf]
def P7(c:Addr)(t u:Int):putK (bx c t) (Sum.inr "turn":Key) (.int u)=bx c u:=by
 simp [putK,bx,Xf]
structure yF(H:Hp)(d c:Addr)(t:Int):Prop where
 dc:H d=some (.dK (bx c t))
 cs: ∃ns:List Int,H c=some (.lst (ns.map V.int))/\0 < ns.length/\ns.length<=63
 t0:0<=t
 t1:t<=1000000
def yF.ne(b:yF H d c t):d≠c:=let ⟨_,h,_⟩:=b.cs;zo b.dc h (by intro z;cases z)
def Kp(d c:Addr)(H H':Hp):Prop:= ∀b o,H b=some o->b≠d->b≠c->H' b=some o
def yF.same(b:yF H d c t)(s:aF H H'):yF H' d c t:=⟨s _ _ b.dc,let ⟨ns,h,r⟩:=b.cs;⟨ns,s _ _ h,r⟩,b.t0,b.t1⟩
def Dr:Sp:=fun u H Q _=> ∃(d c:Addr) (t m:Int),u= [.ref d,.int m]/\yF H d c t/\t < 1000000/\0 < m/\m < 2^64/\ ∀(r:Int) (H':Hp),0<=r->r < m->yF H' d c (t+1)->Kp d c H H'->Q (.int r) H'
def rS(K:207):Sp:=fun u H Q _=> ∃(a:Addr) (ns:List Int),u= [.ref a]/\dr K H a (ns.map V.int)/\ns.length<=63/\ ∀(d c:Addr) (H':Hp),yF H' d c 0->aF H H'->Q (.ref d) H'
def aF.new(h:H p=none):aF H (upd H p o):=fun b u e=>by rw[ah (au e h)];exact e
end LB
namespace L2
open PySem PySem.Spec PyProof.Rows
def GF(m:X.calm=true):fK X (.builtin "sum") (fun g H Q=> ∃a S,g= [.ref a]/\dr X.K H a (List.map V.int S)/\Q (.int S.sum) H):=by
 intro b s d H g Y Q I r h;obtain⟨a,S,rfl,U,q⟩:=h;obtain⟨u,rfl,o⟩:=vals1 r;cases o;obtain⟨v,F,c,_⟩:=I.list U;have J:=intsAre_of F;obtain⟨g,i⟩:=J.allInts.items;have Z:s.heap.IsList a (intItems g):=i▸c.isList;refine sum_intListG (I.ok.hd m) Z fun t G w E=>?_;have j:S=g.toList.map (·.1):=by
  rw[<-nums_intItems,<-i];exact(show numsOf v.toArray.toList=S from J.numsOf).symm
 have p:preSum (numAt g) g.size=S.sum:=by
  rw[preSum_eq,as4 111,j]
 rw[p];exact⟨.int S.sum,H,I.kept E,⟨_,rfl⟩,q⟩
def ua: ∀{xs:List V} {us:List 212},220=us.length->(∀(j:Nat) x u,xs[j]?=some x->us[j]?=some u->RelV x u)->Vals xs us
 | [],[],_,_=> .nil
 | [],_::_,h,_=>by simp at h
 | _::_,[],h,_=>by simp at h
 | x::xs,u::us,h,r=> .cons (r 0 x u rfl rfl) (ua 195 fun j y v d e=>r (j+1) y v (by simpa using d) (by simpa using e))
def tLR(Y:TA):TE:=fun b H Q=>Y b H fun u l=> ∃(i:Int) (n:Nat),u= [.int i,.int (i+n)]/\ -(2^61)<=i/\i < 2^61/\n<=1000/\ ∀p,l p=none->Q (.ref p) (upd l p (.lst ((219 n).map fun k=>V.int (i+(k:Nat)))))
def Em(z:X.calm=true)(w:Gl X "list")(A:X.mg "list"=none)(vh:Gl X "range")(L:X.mg "range"=none)(g:PA X [a,b] ta)(S:starEach [.Call (.Name "range" p2) [a,b] [] sE] X.env= [((false,eval (.Call (.Name "range" p2) [a,b] [] sE) X.env))]:=by rfl)(C:starEach [a,b] X.env= [(false,eval a X.env),(false,eval b X.env)]:=by rfl)(T:starEach [b] X.env= [(false,eval b X.env)]:=by rfl):
  PE X (.Call (.Name "list" p) [.Call (.Name "range" p2) [a,b] [] sE] [] pos) (tLR ta):=by
 intro c s d H Q I h;refine Call_ (dj I w A LB.cz (aj3 ?_ S rfl));rw[S];show 218 _ _ (spliced (((false,eval (.Call (.Name "range" p2) [a,b] [] sE) 216))::backTo pos 137)) _ _ s;refine ap1 (Call_ (dj I vh L boot_range (aj3 (aV (g sE c s d H _ I h) fun us P y=>?_) (by rw[C,T]) (by rw[T];rfl))));obtain⟨vs,r,Y,G,F⟩:=y;obtain⟨i,n,rfl,h1,h2,W,q⟩:=F;obtain⟨u,u2,rfl,⟨t,rfl⟩,⟨O,rfl⟩⟩:=vals2 G;refine call_range_2 (aw2 ?_);have N:Builtin.Range.rangeSize i (i+n) 1=(n:Int):=by rw[rangeSize_one];split <;> lia
 refine call_list_range (n:=n) (I.ok.hd z) (IsRange.new ..) (small_one 102 102 102 102) N (ad9 W 104) fun h' Z J U E M m=>?_;have f:Inv X c d r {P with heap:=P.heap.push {cls:= .type "range",data:= .fields #[.int i t,.int (i+n) O,.int 1 P.toks]},toks:=P.toks+1}:=Y.kept fun b o e=>ab1 _ e;refine⟨.ref _,_,f.laid (t':=Z) (o:= .lst ((219 n).map fun k=>V.int (i+(k:Nat)))) E (ab6 _) ⟨by rw[aa9,af0];exact ad9 W 104,J.toList,U,?_,by simpa using M⟩,rfl,q _ (f.aQ.fresh (ab6 _))⟩;refine ua (by rw[aa9,af0,ac7,m.1]) fun j x v l D=>?_;have B:j < n:=by
  have:=(ac1.mp l).1;rw[aa9,af0] at this;exact this
 rw[ab8,ak2 B] at l;cases l;obtain⟨R,rfl⟩:=m.2 j v (by simpa using D);exact⟨R,by rw[Int.mul_one]⟩
section
variable{X:Cx}
def yZ(K:207):R2:=fun x y H Q=> ∃p q g,x= .ref p/\y= .ref q/\dH K H p g/\dH K H q []/\Q (.bl (!g.isEmpty)) H
def qH(m:241 < cLine):jU X (compareOp .NotEq) (za X.K):=by
 intro a s c H x y v u Q I g o h;obtain⟨p,q,l,rfl,rfl,d,f,U⟩:=h;cases g;cases o;obtain⟨z,F,b,_⟩:=I.list d;obtain⟨i,w,k,_⟩:=I.list f;cases w;cases F with
 | nil=>exact SeqAt.RcNeAt.lists (e:=fun _=>true) b.isList k.isList rfl m (fun j d _=>213 d 111) _ _ _ _ ⟨.bl false,H,I,rfl,U⟩
 | cons r rr=>exact SeqAt.RcNeAt.lists_lengths b.isList k.isList 111 m _ _ _ _ ⟨.bl true,H,I,rfl,U⟩
def AZ(m:241 < cLine):jU X (compareOp .NotEq) (yZ X.K):=by
 intro a s c H x y v u Q I g o h;obtain⟨p,q,l,rfl,rfl,d,f,U⟩:=h;cases g;cases o;obtain⟨z,F,b,_⟩:=I.tuple d;obtain⟨i,w,k,_⟩:=I.tuple f;cases w;cases F with
 | nil=>exact SeqAt.RcNeAt.tuples (e:=fun _=>true) (show s.heap.IsTuple p _ from b) (show s.heap.IsTuple q _ from k) m (fun j d _=>213 d 111) _ _ _ _ ⟨.bl false,H,I,by simp [RelV],U⟩
 | cons r rr=>exact SeqAt.RcNeAt.tuples (e:=fun _=>true) (show s.heap.IsTuple p _ from b) (show s.heap.IsTuple q _ from k) m (fun j _ f=>213 f 111) _ _ _ _ ⟨.bl true,H,I,by simp [RelV],U⟩
end
def pP(h:Heap)(Z a:Addr)(xs:Array 212)(k:Nat):Prop:=(h.IsListIter Z a k/\h.IsList a xs)\/(h.IsTupleIter Z a k/\h.IsTuple a xs)
def pP.ext{h h':Heap}(z:pP h it a xs k)(j: ∀o,h.get? it=some o->h'.get? it=some o)(p: ∀o,h.get? a=some o->h'.get? a=some o):pP h' it a xs k:=by
 rcases z with ⟨l,U⟩ | ⟨l,U⟩
 . exact .inl ⟨let ⟨o,q,r⟩:=l;⟨o,j o q,r⟩,let ⟨o,q,r⟩:=U;⟨o,p o q,r⟩⟩
 . exact .inr ⟨let ⟨o,q,r⟩:=l;⟨o,j o q,r⟩,let ⟨o,q,r⟩:=U;⟨o,p o q,r⟩⟩
def xu(z:pP s.heap it a xs k)(I:a≠it)(m:xs[k]?=some y)(W: ∀t,pP t it a xs (k+1)->Heap.SameBut it s.heap t->Q y {s with heap:=t}):218 105 A (229 (.ref it)) Q E s:=by
 rcases z with ⟨l,U⟩ | ⟨l,U⟩
 . exact wpAny_nextOf_list_item l U m fun t q c=>W t (.inl ⟨q,let ⟨o,e,r⟩:=U;⟨o,(c.2 a I).trans e,r⟩⟩) c
 . exact ug l U m fun t q c=>W t (.inr ⟨q,let ⟨o,e,r⟩:=U;⟨o,(c.2 a I).trans e,r⟩⟩) c
def ER(L:A.handled=none)(z:pP s.heap it a xs k)(m:xs[k]?=none)(x: ∀r e,Heap.ExtBut it s.heap r->(∃o,r.get? e=some o/\o.cls= .type "StopIteration")->E (.ref e) {s with heap:=r}):218 105 A (229 (.ref it)) Q E s:=by
 rcases z with ⟨l,U⟩ | ⟨l,U⟩
 . exact wpAny_nextOf_list_end L l U m x
 . exact uh L l U m x
def As{z p T B W k I:Addr}{k1 k2:Nat}{xs J:Array Value}{x y a b:Value}{Q:Value->Shared->Prop}(D:ZipApart z p T B W k I)(g:IsZip s.heap z p T .none)(O9:IsPair s.heap p (.ref B) (.ref W))(O8:IsPair s.heap T a b)
  (h1:pP s.heap B k xs k1) (h2:pP s.heap W I J k2) (hx:xs[k1]?=some x) (hy:J[k2]?=some y)
  (hQ: ∀r,IsZip r z p T (rawInt 205)->IsPair r T x y->pP r B k xs (k1+1)->pP r W I J (k2+1)->IsPair r s.heap.objs.size x y->r.objs.size=205+1->
   (∀c o,c≠z->c≠T->c≠B->c≠W->s.heap.get? c=some o->r.get? c=some o)->Q 118 {s with heap:=r}):218 105 A (Builtin.«zip.__next__» ⟨[.ref z],[]⟩) (fun fin s'=> ∃v,fin= .done (.ret v)/\Q v s') E s:=by
 show 218 _ _ (field (.ref z) 2 >>=_) _ _ _;refine aa8 (ai2 g rfl (x:= .bool false) rfl ?_);show 218 _ _ (field (.ref z) 3 >>=_) _ _ _;refine aa8 (ai2 g rfl (x:= .ref p) rfl ?_);refine aa8 (ak4 O9 rfl ?_);show 218 _ _ (Builtin.SmallTypes.ownedTupleIsFree (.ref z) >>=_) _ _ _;refine aa8 ?_;unfold Builtin.SmallTypes.ownedTupleIsFree;refine aa8 (ai2 g rfl (x:= .none) rfl 204);simp only [as8];refine aa8 (ak3 ?_);refine aa8 (ai2 g rfl (x:= .ref T) rfl ?_);refine aa8 (ao7 g 111 fun G V Z=>?_);replace V:IsZip G z p T .ellipsis:=V;refine aa8 ?_;simp only [List.zipIdx_cons,List.zipIdx_nil,ai8,aq7]
 refine aa8 (aa8 (wpAny_onRaise ?_));show 218 _ _ (229 (.ref B) >>=_) _ _ _;refine aa8 (xu (h1.ext (fun o e=>Z.extBut _ _ D.i1z e) fun o e=>Z.extBut _ _ D.l1z e) D.l1i1 hx fun q L7 j=>ab0 ?_);have oY:IsPair q T a b:=j.extBut _ _ D.TOi1 (Z.extBut _ _ D.TOz O8);refine aa8 (ak4 oY rfl ?_);refine aa8 (wpAny_updateSeq_pair oY fun P X h=>?_);replace X:IsPair P T x b:=X;refine aa8 (au4 204);refine aa8 (aa8 (wpAny_onRaise ?_));show 218 _ _ (229 (.ref W) >>=_) _ _ _;have S: ∀c o,c≠z->c≠B->c≠T->s.heap.get? c=some o->P.get? c=some o:=fun c o F d m e=>h.extBut _ _ m (j.extBut _ _ d (Z.extBut _ _ F e));refine aa8 (xu (h2.ext (fun o e=>S _ o D.i2z D.i12.symm D.TOi2.symm e) fun o e=>S _ o D.l2z D.l2i1 D.l2TO e) D.l2i2 hy fun t Tn C=>ab0 ?_);have Y:IsPair t T x b:=C.extBut _ _ D.TOi2 X;refine aa8 (ak4 Y rfl ?_);refine aa8 (wpAny_updateSeq_pair Y fun i u U=>?_);replace u:IsPair i T x y:=u;refine aa8 (au4 (ab0 204));refine aa8 (ak4 u rfl ?_);refine aa8 (wpAny_newTuple ?_);have H:i.objs.size=s.heap.objs.size:=by rw[U.1,C.1,h.1,j.1,Z.1]
 have k5: ∀c o,c≠z->c≠T->c≠B->c≠W->s.heap.get? c=some o->i.get? c=some o:=fun c o F d m R e=>U.extBut _ _ d (C.extBut _ _ R (S c o F m d e));have LJ:IsZip i z p T .ellipsis:=U.extBut _ _ D.TOz.symm (C.extBut _ _ D.i2z.symm (h.extBut _ _ D.TOz.symm (j.extBut _ _ D.i1z.symm V)));have f1:pP i B k xs (k1+1):=L7.ext (fun o e=>U.extBut _ _ D.TOi1.symm (C.extBut _ _ D.i12 (h.extBut _ _ D.TOi1.symm e))) fun o e=>U.extBut _ _ D.l1TO (C.extBut _ _ D.l1i2 (h.extBut _ _ D.l1TO e));have f2:pP i W I J (k2+1):=Tn.ext (fun o e=>U.extBut _ _ D.TOi2.symm e) fun o e=>U.extBut _ _ D.l2TO e;have Q1:z < i.objs.size:=ac5 LJ;show 218 _ _ (Builtin.SmallTypes.ownedTupleHandOut (.ref z) (.ref i.objs.size) >>=_) _ _ _;refine aa8 ?_;unfold Builtin.SmallTypes.ownedTupleHandOut;have SH:IsZip (i.push {cls:= .type "tuple",data:= .seq #[x,y]}) z p T .ellipsis:=ab1 _ LJ;refine aa8 (ao7 SH 111 fun N l O=>?_);replace l:IsZip N z p T (rawInt i.objs.size):=l;refine ao7 l 111 fun L M n=>?_
 replace M:IsZip L z p T (rawInt i.objs.size):=M
 have f: ∀c o,c≠z->i.get? c=some o->L.get? c=some o:=fun c o F e=>n.extBut _ _ F (O.extBut _ _ F (ab1 _ e));have pT:IsPair L i.objs.size x y:=n.extBut _ _ (ao6 Q1) (O.extBut _ _ (ao6 Q1) (ac3 _ rfl));have s8:L.objs.size=i.objs.size+1:=by rw[n.1,O.1,ah8]
 rw[H] at M pT s8;refine ab0 ⟨_,rfl,?_⟩;show Q (.ref i.objs.size) _;rw[H];exact hQ L M (f _ _ D.TOz u) (f1.ext (fun o e=>f _ o D.i1z e) fun o e=>f _ o D.l1z e) (f2.ext (fun o e=>f _ o D.i2z e) fun o e=>f _ o D.l2z e) pT s8 fun c o F d m R e=>f c o F (k5 c o F d m R e)
def Aq{z p T C W H V:Addr}{k1 k2:Nat}(R:A.handled=none)(D:ZipApart z p T C W H V)(g:IsZip s.heap z p T .none)(O9:IsPair s.heap p 186 (.ref W))(O8:IsPair s.heap T a b)(h1:pP s.heap C H xs k1)(h2:pP s.heap W V ys k2)(Y:xs[k1]?=none\/ys[k2]?=none)(N: ∀v e,(∀c o,c≠z->c≠T->c≠C->c≠W->s.heap.get? c=some o->v.get? c=some o)->(∃o,v.get? e=some o/\o.cls= .type "StopIteration")->E (.ref e) {s with heap:=v}):218 105 A (Builtin.«zip.__next__» ⟨[.ref z],[]⟩) Q E s:=by
 show 218 _ _ (field (.ref z) 2 >>=_) _ _ _;refine aa8 (ai2 g rfl (x:= .bool false) rfl ?_);show 218 _ _ (field (.ref z) 3 >>=_) _ _ _;refine aa8 (ai2 g rfl (x:= .ref p) rfl ?_);refine aa8 (ak4 O9 rfl ?_);show 218 _ _ (Builtin.SmallTypes.ownedTupleIsFree (.ref z) >>=_) _ _ _;refine aa8 ?_;unfold Builtin.SmallTypes.ownedTupleIsFree;refine aa8 (ai2 g rfl (x:= .none) rfl 204);simp only [as8];refine aa8 (ak3 ?_);refine aa8 (ai2 g rfl (x:= .ref T) rfl ?_);refine aa8 (ao7 g 111 fun B l Z=>?_);replace l:IsZip B z p T .ellipsis:=l;refine aa8 ?_;simp only [List.zipIdx_cons,List.zipIdx_nil,ai8,aq7]
 refine aa8 (aa8 (wpAny_onRaise ?_));show 218 _ _ (229 186 >>=_) _ _ _;have M:pP B C H xs k1:=h1.ext (fun o e=>Z.extBut _ _ D.i1z e) fun o e=>Z.extBut _ _ D.l1z e;cases k:xs[k1]? with
 | none=>
  refine aa8 (ER R M k fun r e f G=>?_);obtain⟨I,t,O⟩:=G;have L:IsZip r z p T .ellipsis:=f _ _ D.i1z.symm l;have j:e≠z:=fun y=>by subst y;rw[L] at t;cases t;simp at O
  exact ao7 L 111 fun P _ h=>N P e (fun c o F _ m _ y=>h.extBut _ _ F (f _ _ m (Z.extBut _ _ F y))) ⟨I,h.extBut _ _ j t,O⟩
 | some x=>
  have hy:ys[k2]?=none:=Y.resolve_left fun q=>by rw[k] at q;cases q
  refine aa8 (xu M D.l1i1 k fun r L7 f=>ab0 ?_);have X:IsPair r T a b:=f.extBut _ _ D.TOi1 (Z.extBut _ _ D.TOz O8);refine aa8 (ak4 X rfl ?_);refine aa8 (wpAny_updateSeq_pair X fun P sY h=>?_);refine aa8 (au4 204);refine aa8 (aa8 (wpAny_onRaise ?_));show 218 _ _ (229 (.ref W) >>=_) _ _ _;have n: ∀c o,c≠z->c≠C->c≠T->s.heap.get? c=some o->P.get? c=some o:=fun c o F d m e=>h.extBut _ _ m (f.extBut _ _ d (Z.extBut _ _ F e));refine aa8 (ER R (h2.ext (fun o e=>n _ o D.i2z D.i12.symm D.TOi2.symm e) fun o e=>n _ o D.l2z D.l2i1 D.l2TO e) hy fun u e S G=>?_);obtain⟨I,t,O⟩:=G;have J:IsZip u z p T .ellipsis:=S _ _ D.i2z.symm (h.extBut _ _ D.TOz.symm (f.extBut _ _ D.i1z.symm l));have j:e≠z:=fun y=>by subst y;rw[J] at t;cases t;simp at O
  exact ao7 J 111 fun i _ U=>N i e (fun c o F d m c4 y=>U.extBut _ _ F (S _ _ c4 (n c o F m d y))) ⟨I,U.extBut _ _ j t,O⟩
def Ar {z p T B W Z v : Addr} {k1 k2 : Nat} (D : ZipApart z p T B W Z v) (f : IsZip s.heap z p T .none) (t : IsPair s.heap p (.ref B) (.ref W)) (q : IsPair s.heap T a b) (h : pP s.heap B Z xs k1) (i : pP s.heap W v ys k2) (k : xs[k1]? = some x) (l : ys[k2]? = some y) (j : ∀ r, IsZip r z p T (rawInt s.heap.objs.size) -> IsPair r T x y -> pP r B Z xs (k1 + 1) -> pP r W v ys (k2 + 1) -> IsPair r s.heap.objs.size x y -> r.objs.size = s.heap.objs.size + 1 ->
   (∀c o,c≠z->c≠T->c≠B->c≠W->s.heap.get? c=some o->r.get? c=some o)->Q (some 118) {s with heap:=r}):218 105 A (pyNext (.ref z)) Q E s:=by
 have U:s.TypeIs (.ref z) "zip":=⟨_,f,rfl⟩;unfold pyNext;exact aa8 (aw4 (aj6 (name:=Str.ofString "__next__") U F.slot_zip_next (ai4 F.slot_zip_next U F.entry_zip_next
   (As D f t q h i k l fun r G d e P X Y g=>ab0 (j r G d e P X Y g)) (F.args_zip_next_1 _))))
def CQ{z p U x W Z v:Addr}{k1 k2:Nat}(L:A.handled=none)(D:ZipApart z p U x W Z v)(f:IsZip s.heap z p U .none)(t:IsPair s.heap p (.ref x) (.ref W))(q:IsPair s.heap U a b)(d:pP s.heap x Z xs k1)(h:pP s.heap W v ys k2)(g:xs[k1]?=none\/ys[k2]?=none)(X: ∀r,(∀c o,c≠z->c≠U->c≠x->c≠W->s.heap.get? c=some o->r.get? c=some o)->Q none {s with heap:=r}):218 105 A (pyNext (.ref z)) Q E s:=by
 have V:s.TypeIs (.ref z) "zip":=⟨_,f,rfl⟩;unfold pyNext;refine aa8 (aw4 (aj6 (name:=Str.ofString "__next__") V F.slot_zip_next (ai4 F.slot_zip_next V F.entry_zip_next (Aq L D f t q d h g fun r e G y=>?_) (F.args_zip_next_1 _))));obtain⟨o,B,m⟩:=y;refine aa8 (at6 (T:="StopIteration") (b:=true) ⟨o,B,m⟩ isSubtype_stop ?_);exact ab0 (X _ G)
open AutoSeq1 (wpAny_loadPart')
def Bt(b:Bool)(a:Addr):Obj:={cls:= .type (if b then "tuple_iterator" else "list_iterator"),data:= .fields #[.ref a,.int 0 0]}
def yz(b:Bool)(h:Heap)(a:Addr)(xs:Array 212):Prop:=match b with
 | true=>h.IsTuple a xs
 | false=>h.IsList a xs
def gk(h:Heap)(Q j:Bool)(D d:Addr):Heap:=(h.push (Bt Q D)).push (Bt j d)
def iu(h:Heap)(Q j:Bool)(D d:Addr):Heap:=((gk h Q j D d).push {cls:= .type "tuple",data:= .seq #[.ref 231,.ref (h.push (Bt Q D)).objs.size]}).push {cls:= .type "tuple",data:= .seq #[.none,.none]}
def dS(h:Heap)(Q j:Bool)(D d:Addr):Heap:=
 (iu h Q j D d).push {cls:= .type "zip",data:= .fields #[.none,.bool false,.bool false,.ref (gk h Q j D d).objs.size,.ref ((gk h Q j D d).push {cls:= .type "tuple",data:= .seq #[.ref 231,.ref (h.push (Bt Q D)).objs.size]}).objs.size]}
def MS(Q j:Bool)(D f:Addr)(xs u:Array Value):
  Meets (Builtin.«zip.__new__» ⟨[.type "zip",.ref D,.ref f],[]⟩) (fun _ R s=>yz Q s.heap D xs/\yz j s.heap f u/\R (.ok (.ret (.ref (iu s.heap Q j D f).objs.size))) {s with heap:=dS s.heap Q j D f}):=
 .of_wp fun y w A R s h=>by
  obtain⟨B,g,d,G,q⟩:=s;obtain⟨k,l,h⟩:=h;have m:=sub_zip;cases Q <;> cases j
  . have t:Heap.IsList (Shared.heap ⟨B,g,d,G,q⟩) D xs:=k;have i:Heap.IsList (Shared.heap ⟨B.push {cls:= .type "list_iterator",data:= .fields #[.ref D, .int 0 0]},g,d,G,q⟩) f u:=Heap.IsList.push l _;wp_walk using an8 t,an8 i
    exact⟨_,rfl,h⟩
  . have t:Heap.IsList (Shared.heap ⟨B,g,d,G,q⟩) D xs:=k;have i:Heap.IsTuple (Shared.heap ⟨B.push {cls:= .type "list_iterator",data:= .fields #[.ref D, .int 0 0]},g,d,G,q⟩) f u:=let ⟨o,e,r⟩:=l;⟨o,ab1 _ e,r⟩;wp_walk using an8 t,al0 i
    exact⟨_,rfl,h⟩
  . have t:Heap.IsTuple (Shared.heap ⟨B,g,d,G,q⟩) D xs:=k;have i:Heap.IsList (Shared.heap ⟨B.push {cls:= .type "tuple_iterator",data:= .fields #[.ref D, .int 0 0]},g,d,G,q⟩) f u:=Heap.IsList.push l _;wp_walk using al0 t,an8 i
    exact⟨_,rfl,h⟩
  . have t:Heap.IsTuple (Shared.heap ⟨B,g,d,G,q⟩) D xs:=k;have i:Heap.IsTuple (Shared.heap ⟨B.push {cls:= .type "tuple_iterator",data:= .fields #[.ref D, .int 0 0]},g,d,G,q⟩) f u:=let ⟨o,e,r⟩:=l;⟨o,ab1 _ e,r⟩;wp_walk using al0 t,al0 i
    exact⟨_,rfl,h⟩
def qj(b:Bool)(H:Hp)(a:Addr)(xs:List V):Prop:=match b with
 | true=>H a=some (.tup xs)
 | false=>H a=some (.lst xs)
def qj.inj(h:qj b H a xs)(k:qj b H a ys):xs=ys:=by
 cases b
 . have h:H a=some (.lst xs):=h;have k:H a=some (.lst ys):=k;rw[h] at k;cases k;rfl
 . have h:H a=some (.tup xs):=h;have k:H a=some (.tup ys):=k;rw[h] at k;cases k;rfl
def qj.some{b:Bool}{H:Hp}{a:Addr}{xs:List V}(h:qj b H a xs): ∃o,H a=some o:=by
 cases b
 . exact⟨_,h⟩
 . exact⟨_,h⟩
def CG(b:Bool)(h:Heap)(Z a:Addr)(k:Nat):Prop:=match b with
 | true=>h.IsTupleIter Z a k
 | false=>h.IsListIter Z a k
def CG.obj(z:CG b h it a k): ∃o,h.get? it=Option.some o/\ ∀v,o.data≠ .cell v:=by
 cases b
 . obtain⟨o,q,_,d⟩:=(show h.IsListIter it a k from z);exact⟨o,q,fun v y=>by rw[d] at y;cases y⟩
 . obtain⟨o,q,_,d⟩:=(show h.IsTupleIter it a k from z);exact⟨o,q,fun v y=>by rw[d] at y;cases y⟩
def CG.keep{h h':Heap}(z:CG b h it a k)(e: ∀o,h.get? it=Option.some o->h'.get? it=Option.some o):CG b h' it a k:=by
 cases b
 . obtain⟨o,q,r⟩:=(show h.IsListIter it a k from z);exact(show h'.IsListIter it a k from⟨o,e o q,r⟩)
 . obtain⟨o,q,r⟩:=(show h.IsTupleIter it a k from z);exact(show h'.IsTupleIter it a k from⟨o,e o q,r⟩)
def CG.U0(z:CG b h it a k)(q:yz b h a xs):pP h it a xs k:=by
 cases b
 . exact .inl ⟨z,q⟩
 . exact .inr ⟨z,q⟩
def Fe(z:pP h it a xs k)(q:yz b h a xs):CG b h it a k:=by
 cases b
 . rcases z with ⟨l,_⟩ | ⟨_,o,j,p,_⟩
   . exact l
   . obtain⟨c,g,i,_⟩:=(show h.IsList a xs from q)
     rw[g] at j;cases j;rw[i] at p;injection p with y;exact 213 y 104
 . rcases z with ⟨_,o,j,p,_⟩ | ⟨l,_⟩
   . obtain⟨c,g,i,_⟩:=(show h.IsTuple a xs from q)
     rw[g] at j;cases j;rw[i] at p;injection p with y;exact 213 y 104
   . exact l
def Inv.Qz(I:Inv X pins σ H s)(h:qj b H a xs): ∃v:List 212,Vals xs v/\yz b s.heap a v.toArray:=by
 cases b
 . obtain⟨v,F,c,_⟩:=I.list (dr.of (show H a=Option.some (.lst xs) from h));exact⟨v,F,c.isList⟩
 . obtain⟨v,F,c,_⟩:=I.tuple (dH.of (show H a=Option.some (.tup xs) from h));exact⟨v,F,c⟩
def Inv.AA{h':Heap}{t':Nat}{ch:List Addr}(I:Inv X pins σ H s)(o: ∀b∈ch,dZ X pins H b)(k: ∀b u,b∉ch->s.heap.get? b=some u->h'.get? b=some u):Inv X pins σ H {s with heap:=h',toks:=t'}:=by
 have G: ∀b u,H b=some u->b∉ch:=fun b u e z=>by rw[(o b z).1] at e;cases e
 refine I.step (g':=s.gens) (d':=s.drawn) (ch:=ch) (fun b d=>?_) (fun b u _ _ V e _=>k b u V e) (fun b u _ _ V e _=>⟨u.slots,k b u V e⟩) (fun _ _ _ _ n=>n)
  (fun b u V e=>⟨u,k b u V e⟩) (fun _ _ e=>e) (fun _ _ _ e=>e) (fun b B e=>⟨#[],by rw[e];simp⟩) (fun m O=>?_) (fun b u e=>?_) I.bare
 . obtain⟨h,g,i,J,p,y⟩:=o b d;exact⟨J,g,p,y⟩
 . obtain⟨w,P,x,A,r⟩:=O;exact⟨w,P,x,k _ w (fun z=>(o _ z).2.1 rfl) A,r⟩
 . refine(I.aQ b u e).gM (fun c v W q=>k c v ?_ q) (fun c q=>q) fun c j q=>q;rcases W with z | z
   . rw[z];exact G b u e
   . exact G c _ z
structure Z5(n:Nat):Prop where
 a:n+2≠n+4
 b:n+3≠n+4
 c:n≠n+4
 d:n+1≠n+4
 e:n+2≠n+3
 f:n+2≠n
 g:n+2≠n+1
 h:n+3≠n
 i:n+3≠n+1
 j:n≠n+1
def bL(n:Nat):Z5 n:=⟨by lia,by lia,by lia,by lia,by lia,by lia,by lia,by lia,by lia,by lia⟩
def UH(Q j:Bool)(D d:Addr):It:=
 ⟨fun i H=> ∃g x q y,qj Q H D g/\g[i]?=some x/\qj j H d q/\q[i]?=some y,
  fun i H v r=> ∃p x y,v= .ref p/\H p=none/\r=upd H p (.tup [x,y])/\(∀g,qj Q H D g->g[i]?=some x)/\ ∀q,qj j H d q->q[i]?=some y,
  fun i H=> ∃g q,qj Q H D g/\qj j H d q/\(g.length<=i\/q.length<=i)⟩
def C8{P:Program}{w:World}{K:PySem.W.Frag}{es:List Expr}{x1}{tp:Pos}(b1 b2:Bool)(T Z:Addr)(n:Nat):
  Turn P w K 191 (UH b1 b2 T Z) [n+4,n+2,n+3,n,n+1] (n+4) (fun i h=>IsZip h (n+4) (n+2) (n+3) .none/\IsPair h (n+2) (.ref n) (.ref (n+1))/\(∃a b,IsPair h (n+3) a b)/\CG b1 h n T i/\CG b2 h (n+1) Z i) where
 mem:=by simp
 obj:=fun i h F b r=>by
  obtain⟨J,Y,⟨u,v,M⟩,O,N⟩:=F;simp only [ad8,ab3,or_false] at r;rcases r with rfl | rfl | rfl | rfl | rfl
  . exact⟨_,J,fun v y=>nomatch (show Data.fields _=Data.cell v from y)⟩
  . exact⟨_,Y,fun v y=>nomatch (show Data.seq _ _=Data.cell v from y)⟩
  . exact⟨_,M,fun v y=>nomatch (show Data.seq _ _=Data.cell v from y)⟩
  . exact O.obj
  . exact N.obj
 keep:=fun i h L F R=>by
  obtain⟨J,Y,⟨u,v,M⟩,O,N⟩:=F;exact⟨R _ 111 _ J,R _ 111 _ Y,⟨u,v,R _ 111 _ M⟩,O.keep fun o q=>R _ 111 o q,N.keep fun o q=>R _ 111 o q⟩
 item:=by
  intro X hP hw hK hc i G s σ H E I S F hg;subst hP hw hK;obtain⟨xs,x,ys,y,t,hx,l,hy⟩:=hg;obtain⟨aq,rv,p1⟩:=I.Qz t;obtain⟨dz,Cr,p2⟩:=I.Qz l;obtain⟨u,hu,ru⟩:=rv.get hx;obtain⟨u2,OK,RF⟩:=Cr.get hy;obtain⟨J,Y,⟨c1,c2,M⟩,O,N⟩:=F;have p: ∀{b:Bool} {a:Addr} {B:List V},qj b H a B-> ∀f∈ [n+4,n+2,n+3,n,n+1],a≠f:=fun U f C e=>by
   obtain⟨o,q⟩:=U.some;have:=(S f C).1;rw[<-e,q] at this;cases this
  have D:ZipApart (n+4) (n+2) (n+3) n (n+1) T Z:=⟨(bL n).a,(bL n).b,(bL n).c,(bL n).d,(bL n).e,(bL n).f,(bL n).g,(bL n).h,(bL n).i,(bL n).j,p t _ 111,p t _ 111,p t _ 111,p t _ 111,p l _ 111,p l _ 111,p l _ 111,p l _ 111⟩
  refine Ar D J Y M (O.U0 p1) (N.U0 p2) (x:=u) (y:=u2) (by simpa using hu) (by simpa using OK) fun L e1 e2 e3 e4 e5 e6 e7=>⟨_,rfl,?_⟩
  refine wpAny_letOwnedTupleGo_zip e1 fun h2 g1 sb=>?_;have Q1:n+4 < s.heap.objs.size:=ac5 J;have I1:Inv X G σ (upd H s.heap.objs.size (.tup [x,y])) {s with heap:=h2,toks:=235}:=by
   refine I.qv (ch:= [n+4,n+2,n+3,n,n+1]) S (ab6 _) (fun b o r q=>?_) ⟨by show 2<=208;decide,[u,u2],.cons ru (.cons RF .nil),?_⟩
   . have m: ∀f,f∈ [n+4,n+2,n+3,n,n+1]->b≠f:=fun f C e=>r (e▸C);exact(sb.2 b (m _ 111)).trans (e7 b o (m _ 111) (m _ 111) (m _ 111) (m _ 111) q)
   . exact⟨_,(sb.2 _ (ao6 Q1)).trans e5,rfl,rfl,_,rfl⟩
  have up: ∀b o,b≠n+4->L.get? b=some o->h2.get? b=some o:=fun b o r q=>(sb.2 b r).trans q;have LG: ∀{b:Bool} {a:Addr} {B:Array 212} {ws:List V},qj b H a ws->yz b s.heap a B->yz b L a B:=fun{b a B ws} U hs=>by
   have k: ∀o,s.heap.get? a=some o->L.get? a=some o:=fun o q=>e7 a o (p U _ 111) (p U _ 111) (p U _ 111) (p U _ 111) q;cases b
   . obtain⟨o,f1,f2⟩:=(show s.heap.IsList a B from hs);exact(show L.IsList a B from⟨o,k o f1,f2⟩)
   . obtain⟨o,f1,f2⟩:=(show s.heap.IsTuple a B from hs);exact(show L.IsTuple a B from⟨o,k o f1,f2⟩)
  refine⟨.ref 205,_,I1,rfl,⟨_,x,y,rfl,I.aQ.fresh (ab6 _),rfl,fun B hz=>by rw[hz.inj t];exact hx,fun B hz=>by rw[hz.inj l];exact hy⟩,⟨g1,?_,⟨u,u2,up _ _ (bL n).b e2⟩,?_,?_⟩,fun b r=>?_⟩
  . exact up _ _ (bL n).a (e7 _ _ (bL n).a (bL n).e (bL n).f (bL n).g Y)
  . exact(Fe e3 (LG t p1)).keep fun o q=>up _ o (bL n).c q
  . exact(Fe e4 (LG l p2)).keep fun o q=>up _ o (bL n).d q
  . rw[ah (fun z=>?_)]
    . exact(S b r).1
    . have aa2:n+4 < s.heap.objs.size:=Q1;have: ∀f:Nat,f∈ [n+4,n+2,n+3,n,n+1]->f < s.heap.objs.size:=fun f C=>by
       simp only [ad8,ab3,or_false] at C;lia
      exact 213 (z▸this b r) (af7 _)
 done:=by
  intro X hP hw hK hc i G s σ H E I S F hg;subst hP hw hK;obtain⟨xs,ys,t,l,hx⟩:=hg;obtain⟨aq,rv,p1⟩:=I.Qz t;obtain⟨dz,Cr,p2⟩:=I.Qz l;have l1:=rv.length;have l2:=Cr.length;obtain⟨J,Y,⟨c1,c2,M⟩,O,N⟩:=F;have p: ∀{b:Bool} {a:Addr} {B:List V},qj b H a B-> ∀f∈ [n+4,n+2,n+3,n,n+1],a≠f:=fun U f C e=>by
   obtain⟨o,q⟩:=U.some;have:=(S f C).1;rw[<-e,q] at this;cases this
  have D:ZipApart (n+4) (n+2) (n+3) n (n+1) T Z:=⟨(bL n).a,(bL n).b,(bL n).c,(bL n).d,(bL n).e,(bL n).f,(bL n).g,(bL n).h,(bL n).i,(bL n).j,p t _ 111,p t _ 111,p t _ 111,p t _ 111,p l _ 111,p l _ 111,p l _ 111,p l _ 111⟩
  refine CQ (I.ok.hd hc) D J Y M (O.U0 p1) (N.U0 p2) (hx.elim (fun h=> .inl (by rw[List.getElem?_toArray];exact aj1 102)) fun h=> .inr (by rw[List.getElem?_toArray];exact aj1 102)) fun L R=>⟨rfl,?_⟩
  refine I.AA (ch:= [n+4,n+2,n+3,n,n+1]) S fun b o r q=>?_;have m: ∀f,f∈ [n+4,n+2,n+3,n,n+1]->b≠f:=fun f C e=>r (e▸C);exact R b o (m _ 111) (m _ 111) (m _ 111) (m _ 111) q
 self:=fun A i s Q E F h=>wpAny_pyIter_zip F.1 h
def B7:227 "zip"=some (.type "zip"):=by decide+kernel
def Sy(Y:TA):TI:=fun b H R=>Y b H fun u l=> ∃Q j D d g q,u= [.ref D,.ref d]/\qj Q l D g/\qj j l d q/\R (UH Q j D d) l
def wu{x1}(I:Inv X pins σ H s)(q:R (UH b1 b2 a1 a2) H):
  218 107 X.A (pyIter (.ref (iu s.heap b1 b2 a1 a2).objs.size)) (Vz X pins σ 191 R) E {s with heap:=dS s.heap b1 b2 a1 a2,toks:=tk}:=by
 have k:(s.heap.push (Bt b1 a1)).objs.size=205+1:=ah8 ..;have U:(gk s.heap b1 b2 a1 a2).objs.size=205+2:=by unfold gk;rw[ah8,k]
 have v:((gk s.heap b1 b2 a1 a2).push {cls:= .type "tuple",data:= .seq #[.ref 205,.ref (s.heap.push (Bt b1 a1)).objs.size]}).objs.size=205+3:=by rw[ah8,U]
 have O:(iu s.heap b1 b2 a1 a2).objs.size=205+4:=by unfold iu;rw[ah8,v]
 have M: ∀c o,s.heap.get? c=some o->(184).get? c=some o:=fun c o e=>by
  unfold dS iu gk;exact ab1 _ (ab1 _ (ab1 _ (ab1 _ (ab1 _ e))))
 have r:IsZip 184 (205+4) (205+2) (205+3) .none:=by
  have:=ac3 (iu s.heap b1 b2 a1 a2) (o:={cls:= .type "zip",data:= .fields #[.none,.bool false,.bool false,.ref (gk s.heap b1 b2 a1 a2).objs.size,.ref ((gk s.heap b1 b2 a1 a2).push {cls:= .type "tuple",data:= .seq #[.ref 205,.ref (s.heap.push (Bt b1 a1)).objs.size]}).objs.size]}) rfl;rw[O,U,v] at this;unfold dS;rw[U,v];exact this
 have t:IsPair 184 (205+2) 118 (.ref 156):=by
  have:=ac3 (gk s.heap b1 b2 a1 a2) (o:={cls:= .type "tuple",data:= .seq #[.ref 205,.ref (s.heap.push (Bt b1 a1)).objs.size]}) rfl;rw[U] at this;have g:(184).get? (205+2)=some {cls:= .type "tuple",data:= .seq #[.ref 205,.ref (s.heap.push (Bt b1 a1)).objs.size]}:=by
   unfold dS iu;exact ab1 _ (ab1 _ this)
  rw[k] at g;exact g
 have i:IsPair 184 (205+3) .none .none:=by
  have:=ac3 ((gk s.heap b1 b2 a1 a2).push {cls:= .type "tuple",data:= .seq #[.ref 205,.ref (s.heap.push (Bt b1 a1)).objs.size]}) (o:={cls:= .type "tuple",data:= .seq #[.none,.none]}) rfl;rw[v] at this;unfold dS iu;exact ab1 _ this
 have x:CG b1 184 s.heap.objs.size a1 0:=by
  have h:(184).get? 205=some (Bt b1 a1):=by
   unfold dS iu gk;refine ab1 _ (ab1 _ (ab1 _ (ab1 _ (ac3 _ ?_))));cases b1 <;> rfl
  cases b1
  . exact(show Heap.IsListIter _ _ _ _ from⟨_,h,rfl,rfl⟩)
  . exact(show Heap.IsTupleIter _ _ _ _ from⟨_,h,rfl,rfl⟩)
 have W:CG b2 184 156 a2 0:=by
  have h:(184).get? (s.heap.push (Bt b1 a1)).objs.size=some (Bt b2 a2):=by
   unfold dS iu gk;refine ab1 _ (ab1 _ (ab1 _ (ac3 _ ?_)));cases b2 <;> rfl
  rw[k] at h;cases b2
  . exact(show Heap.IsListIter _ _ _ _ from⟨_,h,rfl,rfl⟩)
  . exact(show Heap.IsTupleIter _ _ _ _ from⟨_,h,rfl,rfl⟩)
 rw[O];refine wpAny_pyIter_zip r ?_;refine⟨205+4,_,_,UH b1 b2 a1 a2,H,rfl,I.kept M,C8 b1 b2 a1 a2 205,⟨r,t,⟨_,_,i⟩,x,W⟩,fun c m=>?_,q⟩;have d:205<=c:=by
  have: ∀n f:Nat,f∈ [n+4,n+2,n+3,n,n+1]->n<=f:=fun n f j=>by
   simp only [ad8,ab3,or_false] at j;omega
  exact this _ _ m
 exact I.vt d (I.aQ.fresh d)
def lX{x1}(b:Gl X "zip")(O:X.mg "zip"=none)(g:PA X [e,f] t)(n:starEach [e,f] X.env= [(false,eval e X.env),(false,eval f X.env)]:=by rfl)(S:starEach [f] X.env= [(false,eval f X.env)]:=by rfl):
  PI X 191 (.Call (.Name "zip" p) [e,f] [] pos) (Sy t):=by
 intro a s c H R I h;refine Call_ (dj I b O B7 (aj3 (aV (g pos a s c H _ I h) fun Z P w=>?_) (by rw[n,S]) (by rw[S];rfl)));obtain⟨B,l,Y,z,y⟩:=w;obtain⟨Q,j,D,d,m,C,rfl,M,x,q⟩:=y;obtain⟨u,U,rfl,o,L⟩:=vals2 z;cases o;cases L;obtain⟨v,G,k⟩:=Y.Qz M;obtain⟨i,A,r⟩:=Y.Qz x;exact pH F.called_zip 104 (F.typeCall_zip_2 _ _) (F.newCall_zip_2 _ _) (fun J=>F.args_object_init_3 J _ _) F.entry_zip_new (MS Q j D d v.toArray i.toArray) ⟨k,r,⟨_,ac3 _ rfl,rfl⟩,wu Y q⟩
end L2
namespace LW
open PySem L2 LB PyProof.Rows
def aF.none{H H':Hp}{a:Addr}(s:aF H H')(h:H' a=none):H a=none:=by
 cases e:H a with
 | none=>rfl
 | some o=>rw[s _ _ e] at h;cases h
end LW
namespace LD
open PySem PySem.Spec L2 LB PyProof.Rows
inductive Dt where
 | aO | bl (b:Bool) | int (i:Int) | str (x:Str) | lst (ds:List Dt) | tup (ds:List Dt) | zT (ks:List Key) (ds:List Dt) | m8 (ks:List (List Key)) (ds:List Dt)
def Dt.Xi:Dt->Bool
 | .aO=>true
 | _=>false
inductive Rep(M:Addr->Prop)(H:Hp):V->Dt->Prop where
 | aO:Rep M H .aO .aO
 | bl (b:Bool):Rep M H (.bl b) (.bl b)
 | int (i:Int):Rep M H (.int i) (.int i)
 | str (x:Str):Rep M H (.str x) (.str x)
 | lst {a:Addr} {xs:List V} {ds:List Dt}:H a=some (.lst xs)-> ¬M a->220=ds.length->(∀(i:Nat) x d,xs[i]?=some x->ds[i]?=some d->Rep M H x d)->Rep M H 190 (.lst ds)
 | tup {a:Addr} {xs:List V} {ds:List Dt}:H a=some (.tup xs)-> ¬M a->220=ds.length->(∀(i:Nat) x d,xs[i]?=some x->ds[i]?=some d->Rep M H x d)->Rep M H 190 (.tup ds)
 | zT {a:Addr} {vs:List (Key × V)} {ks:List Key} {ds:List Dt}:H a=some (.dK vs)-> ¬M a->vs.map (·.1)=ks->(vs.map (·.2)).length=ds.length->(∀(i:Nat) x d,(vs.map (·.2))[i]?=some x->ds[i]?=some d->Rep M H x d)->Rep M H 190 (.zT ks ds)
 | m8 {a:Addr} {vs:List (List Key × V)} {ks:List (List Key)} {ds:List Dt}:H a=some (.dT vs)-> ¬M a->vs.map (·.1)=ks->(vs.map (·.2)).length=ds.length->(∀(i:Nat) x d,(vs.map (·.2))[i]?=some x->ds[i]?=some d->Rep M H x d)->Rep M H 190 (.m8 ks ds)
def aB(M:Addr->Prop)(H:Hp)(xs:List V)(ds:List Dt):Prop:=220=ds.length/\ ∀(i:Nat) x d,xs[i]?=some x->ds[i]?=some d->Rep M H x d
def Rep.mono(h:Rep M H v d)(m: ∀a o,H a=some o-> ¬M a->H' a=some o/\ ¬M' a):Rep M' H' v d:=by
 induction h with
 | aO=>exact .aO
 | bl b=>exact .bl b
 | int i=>exact .int i
 | str x=>exact .str x
 | lst h n l r ih=>exact .lst (m _ _ h n).1 (m _ _ h n).2 l ih
 | tup h n l r ih=>exact .tup (m _ _ h n).1 (m _ _ h n).2 l ih
 | zT h n e l r ih=>exact .zT (m _ _ h n).1 (m _ _ h n).2 e l ih
 | m8 h n e l r ih=>exact .m8 (m _ _ h n).1 (m _ _ h n).2 e l ih
def aB.mono(h:aB M H xs ds)(m: ∀a o,H a=some o-> ¬M a->H' a=some o/\ ¬M' a):aB M' H' xs ds:=⟨h.1,fun i x d e f=>(h.2 i x d e f).mono m⟩
def Rep.same(h:Rep M H v d)(s:aF H H'):Rep M H' v d:=h.mono fun a o e n=>⟨s _ _ e,n⟩
def aB.same(h:aB M H xs ds)(s:aF H H'):aB M H' xs ds:=h.mono fun a o e n=>⟨s _ _ e,n⟩
def aB.nil:aB M H [] []:=⟨rfl,fun i x d h=>by simp at h⟩
def aB.cons{M:Addr->Prop}{H:Hp}{x:V}{d:Dt}{xs:List V}{ds:List Dt}(h:Rep M H x d)(r:aB M H xs ds):aB M H (x::xs) (d::ds):=
 ⟨by rw[ad6,ad6,r.1],fun i y e f g=>by
  cases i with
  | zero=>cases f;cases g;exact h
  | succ j=>exact r.2 j y e (by simpa using f) (by simpa using g)⟩
def aB.append(h:aB M H xs ds)(r:aB M H ys es):aB M H (xs++ys) (ds++es):=
 ⟨by rw[ac6,ac6,h.1,r.1],fun i y e d f=>by
  by_cases I:i < xs.length
  . rw[ae9 I] at d;rw[ae9 (by rw[<-h.1];exact I)] at f;exact h.2 i y e d f
  . rw[af4 163] at d;rw[af4 (by have:=h.1;omega),<-h.1] at f;exact r.2 _ y e d f⟩
def aB.one(h:Rep M H x d):aB M H [x] [d]:= .cons h .nil
def aB.get(h:aB M H xs ds){i:Nat}(e:ds[i]?=some d): ∃x,xs[i]?=some x/\Rep M H x d:=by
 have I:=(ac1.mp e).1;have j:xs[i]?=some (xs[i]'(by rw[h.1];exact I)):=ab2 _;exact⟨_,j,h.2 i _ _ j e⟩
def aB.take(h:aB M H xs ds)(n:Nat):aB M H (xs.take n) (ds.take n):=
 ⟨by rw[am0,am0,h.1],fun i y e d f=>by
  rw[List.getElem?_take] at d f;split at d
  . rename_i I;rw[if_pos I] at f;exact h.2 i y e d f
  . cases d⟩
def aB.drop(h:aB M H xs ds)(n:Nat):aB M H (xs.drop n) (ds.drop n):=
 ⟨by rw[aq8,aq8,h.1],fun i y e d f=>by
  rw[List.getElem?_drop] at d f;exact h.2 _ y e d f⟩
def aB.aK(h:aB M H xs (d::ds)): ∃x q,xs=x::q/\Rep M H x d/\aB M H q ds:=by
 cases xs with
 | nil=>have:=h.1;simp at this
 | cons x q=>exact⟨x,q,rfl,h.2 0 x d rfl rfl,⟨by have:=h.1;simpa using this,fun i y e f g=>h.2 (i+1) y e (by simpa using f) (by simpa using g)⟩⟩
def aB.cD(h:aB M H xs []):xs= []:=List.length_eq_zero_iff.mp (by rw[h.1];rfl)
def Rep.ui(h:H a=some (.lst xs))(n: ¬M a)(r:aB M H xs ds):Rep M H 190 (.lst ds):= .lst h n r.1 r.2
def Rep.g9(h:H a=some (.tup xs))(n: ¬M a)(r:aB M H xs ds):Rep M H 190 (.tup ds):= .tup h n r.1 r.2
def Rep.eE(h:Rep M H v (.lst ds)): ∃a g,v= .ref a/\H a=some (.lst g)/\ ¬M a/\aB M H g ds:=by
 cases h with
 | lst h n l r=>exact⟨_,_,rfl,h,n,l,r⟩
def Rep.bU(h:Rep M H v (.tup ds)): ∃a g,v= .ref a/\H a=some (.tup g)/\ ¬M a/\aB M H g ds:=by
 cases h with
 | tup h n l r=>exact⟨_,_,rfl,h,n,l,r⟩
def Rep.Lu(h:Rep M H v (.m8 ks ds)): ∃a u,v= .ref a/\H a=some (.dT u)/\ ¬M a/\u.map (·.1)=ks/\aB M H (u.map (·.2)) ds:=by
 cases h with
 | m8 h n e l r=>exact⟨_,_,rfl,h,n,e,l,r⟩
def Rep.ofInt(h:Rep M H v (.int i)):v= .int i:=by cases h;rfl
def Rep.uR(h:Rep M H v (.bl i)):v= .bl i:=by cases h;rfl
def Rep.R6(h:Rep M H v .aO):v= .aO:=by cases h;rfl
structure Zg where
 rel:(Addr->Prop)->Hp->V->List Addr->Prop
 st: ∀{M M':Addr->Prop} {H H':Hp} {v:V} {as:List Addr},rel M H v as->(∀a∈as,∀o,H a=some o->H' a=some o)->(∀a o,H a=some o-> ¬M a->H' a=some o/\ ¬M' a)->rel M' H' v as
inductive Sl where
 | no | im (d:Dt) | ow (ds:List Dt) | bx (t:Int) | dk (ks:List Key) (ds:List Dt) | ob (R:Zg) | fn (f:Addr)
def qk(M:Addr->Prop)(H:Hp)(o:210 V):Sl->List Addr->Prop
 | .no,as=>as= []
 | .im d,as=>as= []/\ ∃v,o=some v/\Rep M H v d
 | .ow ds,as=> ∃a g,as= [a]/\o=some 190/\H a=some (.lst g)/\aB M H g ds
 | .bx t,as=> ∃d c,as= [d,c]/\o=some (.ref d)/\yF H d c t
 | .dk ks ds,as=> ∃a u,as= [a]/\o=some 190/\H a=some (.dK u)/\u.map (·.1)=ks/\aB M H (u.map (·.2)) ds
 | .ob R,as=> ∃v,o=some v/\R.rel M H v as
 | .fn f,as=>as= []/\o=some (.ref f)
structure Wd where
 H0:Hp
 A0:Addr->Prop
 M0:Addr->Prop
 M1:Addr->Prop
 box:210 (Addr × Addr)
def Sl.cc:Sl->Bool
 | .bx _=>true
 | _=>false
structure Vu(W:Wd)(M:Addr->Prop)(α:List 179)(H:Hp)(δ:List Sl):Prop where
 bs: ∀b o,W.H0 b=some o-> ¬W.A0 b->H b=some o
 ex: ∀b,W.H0 b≠none->H b≠none
 fr: ∀a∈α.flatten,W.A0 a\/W.H0 a=none
 m0: ∀a,W.M0 a->M a
 m1: ∀a,M a->W.M1 a\/W.H0 a=none
 bx: ∀d c,W.box=some (d,c)-> ∃t,δ[0]?=some (.bx t)/\α[0]?=some [d,c]
 fz: ∀(i:Nat) s as,δ[i]?=some s->α[i]?=some as->s.cc=false-> ∀a∈as,¬W.M0 a
def jW(M:Addr->Prop)(H:Hp):Prop:= ∀a,M a-> ∃o,H a=some o/\ ∀g,o≠ .tup g
structure aE(Ws:List Wd)(M:Addr->Prop)(α:List 179)(H:Hp)(σ:L2.St)(δ:List Sl):Prop where
 ls:σ.length=δ.length
 la:α.length=δ.length
 sl: ∀(i:Nat) (s:Sl),δ[i]?=some s-> ∃o as,σ[i]?=some o/\α[i]?=some as/\qk M H o s as
 nd:α.flatten.Nodup
 mu: ∀a∈α.flatten,M a
 al:jW M H
 w: ∀W∈Ws,Vu W M α H δ
def cW(α:List 179)(H H':Hp):Prop:= ∀b o,H b=some o->b∉α.flatten->H' b=some o
def cW.rf:cW α H H:=fun _ _ e _=>e
def cW.tr(a:cW α H H1)(b:cW α H1 H2):cW α H H2:=fun x o e n=>b _ _ (a _ _ e n) n
def cW.of(s:aF H H'):cW α H H':=fun x o e _=>s _ _ e
def Rep.chg(h:Rep M H v d)(E:aE W M α H σ δ)(c:cW α H H'):Rep M H' v d:=h.mono fun a o e n=>⟨c _ _ e fun z=>n (E.mu a z),n⟩
def aB.chg(h:aB M H v d)(E:aE W M α H σ δ)(c:cW α H H'):aB M H' v d:=h.mono fun a o e n=>⟨c _ _ e fun z=>n (E.mu a z),n⟩
def qk.same(h:qk M H o s as)(z:aF H H'):qk M H' o s as:=by
 cases s with
 | no=>exact h
 | im d=>exact⟨h.1,let ⟨v,e,r⟩:=h.2;⟨v,e,r.same z⟩⟩
 | ow ds=>obtain⟨a,g,j,p,y,r⟩:=h;exact⟨a,g,j,p,z _ _ y,r.same z⟩
 | bx t=>obtain⟨d,c,j,p,r⟩:=h;exact⟨d,c,j,p,r.same z⟩
 | dk ks ds=>obtain⟨a,w,j,p,y,u,r⟩:=h;exact⟨a,w,j,p,z _ _ y,u,r.same z⟩
 | ob R=>obtain⟨v,e,r⟩:=h;exact⟨v,e,R.st r (fun a _ o q=>z _ _ q) fun a o q n=>⟨z _ _ q,n⟩⟩
 | fn f=>exact h
def aE.same(E:aE W M α H σ δ)(z:aF H H'):aE W M α H' σ δ:=by
 refine⟨E.ls,E.la,fun i s h=>?_,E.nd,E.mu,fun a h=>?_,fun W U=>let k:=E.w W U;⟨fun b o e n=>z _ _ (k.bs b o e n),fun b n y=>k.ex b n (LW.aF.none z y),k.fr,k.m0,k.m1,k.bx,k.fz⟩⟩
 . obtain⟨o,R,d,f,C⟩:=E.sl i s h;exact⟨o,R,d,f,C.same z⟩
 . obtain⟨o,e,n⟩:=E.al a h;exact⟨o,z _ _ e,n⟩
def aE.fresh(E:aE W M α H σ δ)(h:H p=none): ¬M p:=fun z=>let ⟨_,e,_⟩:=E.al p z;by rw[h] at e;cases e
def jW.fresh(h:jW M H)(e:H p=none): ¬M p:=fun z=>let ⟨_,e',_⟩:=h p z;by rw[e] at e';cases e'
def jW.tup{M:Addr->Prop}{H:Hp}(h:jW M H){p:Addr}{xs:List V}(e:H p=some (.tup xs)): ¬M p:=fun z=>let ⟨_,e',n⟩:=h p z;by rw[e] at e';cases e';exact n xs rfl
def jW.Of(h:jW M H)(n:vY H xs p H'): ¬M p:=by
 rcases n with ⟨_,e⟩ | ⟨e,_⟩
 . exact h.tup e
 . exact h.fresh e
abbrev bD:=List Sl->(Dt->List Sl->Prop)->Prop
abbrev lF:=List Sl->(Bool->List Sl->Prop)->Prop
abbrev gH:=List Sl->(List Dt->List Sl->Prop)->Prop
inductive lE(t:bD)(σ:L2.St)(H:Hp)(Q:VK):Prop
 | mk (W:List Wd) (M:Addr->Prop) (α:List 179) (δ:List Sl) (Qd:Dt->List Sl->Prop) (h1:aE W M α H σ δ) (h2:t δ Qd) (h3: ∀d δ' H' v,Qd d δ'->aE W M α H' σ δ'->cW α H H'->Rep M H' v d->Q v H')
inductive lT(t:lF)(σ:L2.St)(H:Hp)(Q:Bool->Hp->Prop):Prop
 | mk (W:List Wd) (M:Addr->Prop) (α:List 179) (δ:List Sl) (Qd:Bool->List Sl->Prop) (h1:aE W M α H σ δ) (h2:t δ Qd) (h3: ∀b δ' H',Qd b δ'->aE W M α H' σ δ'->cW α H H'->Q b H')
inductive lA(t:gH)(σ:L2.St)(H:Hp)(Q:List V->Hp->Prop):Prop
 | mk (W:List Wd) (M:Addr->Prop) (α:List 179) (δ:List Sl) (Qd:List Dt->List Sl->Prop) (h1:aE W M α H σ δ) (h2:t δ Qd) (h3: ∀ds δ' H' vs,Qd ds δ'->aE W M α H' σ δ'->cW α H H'->aB M H' vs ds->Q vs H')
abbrev yC:=List Sl->(List Dt->List Sl->Prop)->Prop
inductive lO(t:yC)(σ:L2.St)(H:Hp)(Q:VK):Prop
 | mk (W:List Wd) (M:Addr->Prop) (α:List 179) (δ:List Sl) (Qd:List Dt->List Sl->Prop) (h1:aE W M α H σ δ) (h2:t δ Qd) (h3: ∀ds δ' H1 xs a,Qd ds δ'->aE W M α H1 σ δ'->cW α H H1->aB M H1 xs ds->H1 a=none->Q 190 (upd H1 a (.lst xs)))
def PE.imp(h:PE X e t)(i: ∀b H Q,t' b H Q->t b H Q):PE X e t':=fun a s b H Q I q=>h a s b H Q I (i _ _ _ q)
def PT.imp(h:PT X e t)(i: ∀b H Q,t' b H Q->t b H Q):PT X e t':=fun a s b H Q I q=>h a s b H Q I (i _ _ _ q)
def PW.imp(h:PW X e t)(i: ∀b H Q,t' b H Q->t b H Q):PW X e t':=fun w a s b H Q I q=>h w a s b H Q I (i _ _ _ q)
def PA.imp(h:PA X e t)(i: ∀b H Q,t' b H Q->t b H Q):PA X e t':=fun P a s b H Q I q=>h P a s b H Q I (i _ _ _ q)
def PS.imp(h:PS X e t)(i: ∀D b H,t' D b H->t D b H):PS X e t':=fun a s b H D I q=>h a s b H D I (i _ _ _ q)
def jw.imp(h:jw X e t)(i: ∀D b H,t' D b H->t D b H):jw X e t':=fun a s b H D I q=>h a s b H D I (i _ _ _ q)
abbrev Ev(X:Cx)(e:Expr)(t:bD):Prop:=PE X e (lE t)
abbrev Tv(X:Cx)(e:Expr)(t:lF):Prop:=PT X e (lT t)
abbrev Av(X:Cx)(es:List Expr)(t:gH):Prop:=PA X es (lA t)
abbrev Ov(X:Cx)(e:Expr)(t:yC):Prop:=PE X e (lO t)
section
variable{X:Cx}{a b c e:Expr}{es:List Expr}{ta tb t:bD}{pos:Pos}
inductive BZ(i:Nat)(δ:List Sl)(Q:Dt->List Sl->Prop):Prop
 | mk (d:_) (h1:δ[i]?=some (.im d)) (h2:Q d δ)
def aE.im(E:aE W M α H σ δ){i:Nat}(h:δ[i]?=some (.im d)): ∃v,σ[i]?=some (some v)/\Rep M H v d:=by
 obtain⟨o,R,f,_,_,v,rfl,r⟩:=E.sl i _ h;exact⟨v,f,r⟩
def aE.ow(E:aE W M α H σ δ){i:Nat}(h:δ[i]?=some (.ow ds)): ∃a g,σ[i]?=some (some 190)/\α[i]?=some [a]/\H a=some (.lst g)/\aB M H g ds:=by
 obtain⟨o,R,d,f,a,g,rfl,rfl,e,r⟩:=E.sl i _ h;exact⟨a,g,d,f,e,r⟩
def Pj(i:Nat)(h:PE X (.Name x pos) (fg i)):Ev X (.Name x pos) (BZ i):=PE.imp h fun g H Q w=>(by obtain⟨W,M,N,j,G,E,⟨d,D,q⟩,k⟩:=w;exact(by
 obtain⟨v,f,r⟩:=E.im D;exact⟨v,f,k _ _ _ _ q E cW.rf r⟩))
def dv(i:Nat)(d:X.N[i]?=some x:=by rfl)(u:Vv X.env.scope x:=by first | exact Or.inl rfl | exact Or.inr (Or.inl rfl) | exact Or.inr (Or.inr rfl))(hd:123=false:=by decide)(T:(x==("__classdict__":Str))=false:=by decide):Ev X (.Name x pos) (BZ i):=Pj i (Ej d u hd T)
def dC(d:Dt):bD:=fun i Q=>Q d i
def ay{i j pos}:Ev X (.Constant (.int i) j pos) (dC (.int i)):=PE.imp ck fun d H Q N=>(by obtain⟨W,M,O,l,G,E,q,k⟩:=N;exact(k _ _ _ _ q E cW.rf (.int i)))
def BY{i j pos}:Ev X (.Constant (.bool i) j pos) (dC (.bl i)):=PE.imp Et fun d H Q m=>(by obtain⟨W,M,N,l,G,E,q,k⟩:=m;exact(k _ _ _ _ q E cW.rf (.bl i)))
def fT{j pos}:Ev X (.Constant .none j pos) (dC .aO):=PE.imp sF fun d H Q Y=>(by obtain⟨W,M,N,i,G,E,q,k⟩:=Y;exact(k _ _ _ _ q E cW.rf .aO))
def bM{i j pos}:Ev X (.Constant (.str i) j pos) (dC (.str i)):=PE.imp fZ fun d H Q N=>(by obtain⟨W,M,O,l,G,E,q,k⟩:=N;exact(k _ _ _ _ q E cW.rf (.str i)))
def dO(t:yC):bD:=fun i Q=>t i fun u k=>Q (.lst u) k
def Ov.ev{t:yC}(h:Ov X e t):Ev X e (dO t):=PE.imp h fun f H Q w=>(by obtain⟨W,M,N,i,G,E,q,k⟩:=w;exact(by
 refine⟨W,M,N,i,_,E,q,fun v m l g a u T F x d=>?_⟩;have s:aF l (upd l a (.lst g)):=aF.new d;exact k _ _ _ _ u (T.same s) (F.tr (cW.of s)) (Rep.ui ag (T.fresh d) (x.same s))))
abbrev D2:=Dt->Dt->(Dt->Prop)->Prop
def yD(r:R2)(R:D2):Prop:= ∀(M:Addr->Prop) (H:Hp) (x y:V) (d1 d2:Dt) (Qd:Dt->Prop) (Q:VK),jW M H->Rep M H x d1->Rep M H y d2->R d1 d2 Qd->(∀q v d,Qd d->aF H q->Rep M q v d->Q v q)->r x y H Q
def pd(R:D2)(ta tb:bD):bD:=fun i Q=>ta i fun h M=>tb M fun B W=>R h B fun d=>Q d W
def nz(hd:yD r R): ∀f H Q,lE (pd R ta tb) f H Q->K5 r (lE ta) (lE tb) f H Q:=fun f H Q C=>(by obtain⟨W,M,O,m,G,E,q,k⟩:=C;exact(
 ⟨W,M,O,m,_,E,q,fun h N n x u T F w=>⟨W,M,O,N,_,T,u,fun B Y J y i l g j=>hd M J x y h B _ _ l.al (w.chg T g) j i fun A v d D s z=>k _ _ _ _ D (l.same s) ((F.tr g).tr (cW.of s)) z⟩⟩))
def vL(x:jU X (binaryOp op) r)(hd:yD r R)(f:Ev X a ta)(d:Ev X b tb):Ev X (.BinOp a op b pos) (pd R ta tb):=PE.imp (dh x f d) (nz hd)
def Gm(x:jU X (compareOp op) r)(hd:yD r R)(f:Ev X a ta)(d:Ev X b tb)(O:behindInMarks op b=false):Ev X (.Compare a [op] [b] pos) (pd R ta tb):=PE.imp (zk x f d O) (nz hd)
inductive YF(Q:Bool->List Sl->Prop)(d:Dt)(δ':List Sl):Prop
 | mk (c:_) (h1:d= .bl c) (h2:Q c δ')
def dT(t:bD):lF:=fun i Q=>t i fun d k=>YF Q d k
def eX: ∀σ H (Q:Bool->Hp->Prop),lT (dT t) σ H Q->lE t σ H fun x l=> ∃c,x= .bl c/\Q c l:=fun σ H Q Y=>(by obtain⟨W,M,N,i,G,E,q,k⟩:=Y;exact(
 ⟨W,M,N,i,_,E,q,fun d m r v R T F w=>(by obtain⟨c,e,s⟩:=R;exact(⟨c,by subst e;exact w.uR,k _ _ _ s T F⟩))⟩))
def jP(x:jU X (compareOp op) r)(hd:yD r R)(f:Ev X a ta)(d:Ev X b tb)(O:behindInMarks op b=false):Tv X (.Compare a [op] [b] pos) (dT (pd R ta tb)):=
 PT.imp (i6 x f d O) fun g H Q h=>nz hd _ _ _ (eX _ _ _ h |> fun Y=>(by obtain⟨W,M,N,i,G,E,q,k⟩:=Y;exact(⟨W,M,N,i,G,E,q,k⟩)))
def mS(h:Ev X e t)(y: ∀N,isTrue e X.env N=(do let v<-N;standAt e.pos;holding [v] (truthy v)):=by intro _;rfl):Tv X e (dT t):=PT.imp (w9 h y) fun d H Q h=>eX _ _ _ h
def P2(ta:bD):bD:=fun i Q=>ta i fun d k=>Q (.bl d.Xi) k
def Mr(ta:bD):bD:=fun i Q=>ta i fun d k=>Q (.bl (!d.Xi)) k
def Ff(r:Rep M H v d):decide (v= .aO)=d.Xi:=by cases r <;> rfl
def vb: ∀f H Q,lE (P2 ta) f H Q->Ro (lE ta) f H Q:=fun f H Q g=>(by obtain⟨W,M,N,i,G,E,q,k⟩:=g;exact(
 ⟨W,M,N,i,_,E,q,fun d l r v s T F w=>by show Q (V.bl (decide (v=V.aO))) r;rw[Ff w];exact k _ _ _ _ s T F (.bl _)⟩))
def Bb: ∀f H Q,lE (Mr ta) f H Q->K6 (lE ta) f H Q:=fun f H Q L=>(by obtain⟨W,M,N,i,G,E,q,k⟩:=L;exact(
 ⟨W,M,N,i,_,E,q,fun d l r v s T F w=>by show Q (V.bl !decide (v=V.aO)) r;rw[Ff w];exact k _ _ _ _ s T F (.bl _)⟩))
def Mn{j pos'}(f:Ev X a ta):Ev X (.Compare a [.Is] [.Constant .none j pos'] pos) (P2 ta):=PE.imp (NX (xi f)) vb
def jk{j pos'}(f:Ev X a ta):Tv X (.Compare a [.Is] [.Constant .none j pos'] pos) (dT (P2 ta)):=PT.imp (xa (xi f)) fun d H Q h=>vb _ _ _ (eX _ _ _ h)
def rQ{j pos'}(f:Ev X a ta):Tv X (.Compare a [.IsNot] [.Constant .none j pos'] pos) (dT (Mr ta)):=PT.imp (xa (IG f)) fun d H Q h=>Bb _ _ _ (eX _ _ _ h)
end
section
variable{X:Cx}{a b c e:Expr}{es rest:List Expr}{ta tb t:bD}{u v:lF}{pos:Pos}
def YW(t u:lF):lF:=fun i Q=>t i fun c M=>if c=true then u M Q else Q false M
def dOr(t u:lF):lF:=fun i Q=>t i fun c M=>if c=true then Q true M else u M Q
def YL(t:lF):lF:=fun i Q=>t i fun c M=>Q (!c) M
def M5(h:Tv X a u):PW X (.BoolOp .And [a] pos) (lT u):=pw_and1 h
def nQ(h:Tv X a u):PW X (.BoolOp .Or [a] pos) (lT u):=pw_or1 h
def w_and(f:Tv X a u)(d:PW X (.BoolOp .And (b::rest) pos) (lT v)):PW X (.BoolOp .And (a::b::rest) pos) (lT (YW u v)):=PW.imp (pw_and f d) fun o H Q h=>(by obtain⟨W,M,O,i,G,E,q,k⟩:=h;exact(
 ⟨W,M,O,i,_,E,q,fun c N n s T F=>by
  cases c with
  | true=>rw[if_pos rfl] at s ⊢;exact⟨W,M,O,N,_,T,s,fun j Y J g l m=>k _ _ _ g l (F.tr m)⟩
  | false=>rw[if_neg ab9] at s ⊢;exact k _ _ _ s T F⟩))
def w_or(f:Tv X a u)(d:PW X (.BoolOp .Or (b::rest) pos) (lT v)):PW X (.BoolOp .Or (a::b::rest) pos) (lT (dOr u v)):=PW.imp (pw_or f d) fun j H Q G=>(by obtain⟨W,M,O,i,I,E,q,k⟩:=G;exact(
 ⟨W,M,O,i,_,E,q,fun c N n s T F=>by
  cases c with
  | false=>rw[if_neg ab9] at s ⊢;exact⟨W,M,O,N,_,T,s,fun h Y J g l m=>k _ _ _ g l (F.tr m)⟩
  | true=>rw[if_pos rfl] at s ⊢;exact k _ _ _ s T F⟩))
def K3(f:Tv X a u):Tv X (.UnaryOp .Not a pos) (YL u):=PT.imp (D4 f) fun d H Q m=>(by obtain⟨W,M,N,i,G,E,q,k⟩:=m;exact(⟨W,M,N,i,_,E,q,fun c O l s T F=>k _ _ _ s T F⟩))
inductive Ko(tb:bD)(Q:Dt->List Sl->Prop)(d:Dt)(δ1:List Sl):Prop
 | mk (c:_) (h1:d= .bl c) (h2:if c=true then tb δ1 Q else Q (.bl false) δ1)
def Ue(ta tb:bD):bD:=fun i Q=>ta i fun d M=>Ko tb Q d M
inductive Ki(Q:Dt->List Sl->Prop)(d:Dt)(δ1:List Sl):Prop
 | mk (c:_) (h1:d= .bl c) (h2:Q (.bl (!c)) δ1)
def T5(ta:bD):bD:=fun i Q=>ta i fun d M=>Ki Q d M
def kW{op}(h:Ev X a t):Ev X (.BoolOp op [a] pos) t:=NV h
def i3(g:Ev X a ta)(h:Ev X (.BoolOp .And (b::rest) pos) tb):Ev X (.BoolOp .And (a::b::rest) pos) (Ue ta tb):=PE.imp (NY g h) fun o H Q S=>(by obtain⟨W,M,O,m,G,E,q,k⟩:=S;exact(
 ⟨W,M,O,m,_,E,q,fun d N n x U T F w=>(by obtain⟨c,e,s⟩:=U;exact(⟨c,by subst e;exact w.uR,by
  cases c with
  | true=>rw[if_pos rfl] at s ⊢;exact⟨W,M,O,N,_,T,s,fun B Y J y i l f j=>k _ _ _ _ i l (F.tr f) j⟩
  | false=>rw[if_neg ab9] at s ⊢;exact k _ _ _ _ s T F (.bl _)⟩))⟩))
def Mm(f:Ev X a ta):Ev X (.UnaryOp .Not a pos) (T5 ta):=PE.imp (NW f) fun g H Q P=>(by obtain⟨W,M,N,i,G,E,q,k⟩:=P;exact(
 ⟨W,M,N,i,_,E,q,fun d O l x j T F w=>(by obtain⟨c,e,s⟩:=j;exact(⟨c,by subst e;exact w.uR,k _ _ _ _ s T F (.bl _)⟩))⟩))
def dIf(t:lF)(ta tb:bD):bD:=fun i Q=>t i fun c M=>if c=true then ta M Q else tb M Q
def fV(m:Tv X c u)(g:Ev X a ta)(i:Ev X b tb):Ev X (.IfExp c a b pos) (dIf u ta tb):=PE.imp (uN m g i) fun o H Q Z=>(by obtain⟨W,M,O,j,G,E,q,k⟩:=Z;exact(
 ⟨W,M,O,j,_,E,q,fun c N n s T F=>by
  cases c with
  | true=>rw[if_pos rfl] at s ⊢;exact⟨W,M,O,N,_,T,s,fun B Y J y f l d h=>k _ _ _ _ f l (F.tr d) h⟩
  | false=>rw[if_neg ab9] at s ⊢;exact⟨W,M,O,N,_,T,s,fun B Y J y f l d h=>k _ _ _ _ f l (F.tr d) h⟩⟩))
def vP:gH:=fun i Q=>Q [] i
def pf(ta:bD)(m:gH):gH:=fun i Q=>ta i fun d M=>m M fun w W=>Q (d::w) W
def af:Av X [] vP:=PA.imp aM fun d H Q g=>(by obtain⟨W,M,N,i,G,E,q,k⟩:=g;exact(k _ _ _ _ q E cW.rf .nil))
def aa{m:gH}(g:Ev X e ta)(o:Av X es m)(n:209 (e::es) 216=(false,eval e 216)::209 es X.env:=by rfl):Av X (e::es) (pf ta m):=PA.imp (aj g o n) fun A H Q h=>(by obtain⟨W,M,O,p,G,E,q,k⟩:=h;exact(
 ⟨W,M,O,p,_,E,q,fun d N r x s T F w=>⟨W,M,O,N,_,T,s,fun y Y J z i l f j=>k _ _ _ _ i l (F.tr f) (.cons (w.chg T f) j)⟩⟩))
def YD(t:gH):bD:=fun i Q=>t i fun w k=>w.length<=208/\Q (.tup w) k
def T6(t:gH):yC:=fun i Q=>t i fun w k=>w.length<=208/\Q w k
def ba{x1}{t:gH}(h:Av X es t):Ev X (.Tuple es x1 pos) (YD t):=PE.imp (om h) fun d H Q Y=>(by obtain⟨W,M,N,j,G,E,q,k⟩:=Y;exact(
 ⟨W,M,N,j,_,E,q,fun y O m g i T F w=>(by obtain⟨l,x⟩:=i;exact(⟨by rw[w.1];exact l,fun p B=>by
  have s:aF m (upd m p (.tup g)):=aF.new B;exact k _ _ _ _ x (T.same s) (F.tr (cW.of s)) (Rep.g9 ag (T.fresh B) (w.same s))⟩))⟩))
def ky{t:gH}(h:Av X es t):Ov X (.List es pos) (T6 t):=PE.imp (oq h) fun j H Q f=>(by obtain⟨W,M,N,i,G,E,q,k⟩:=f;exact(
 ⟨W,M,N,i,_,E,q,fun x O m g d T F w=>(by obtain⟨l,s⟩:=d;exact(⟨by rw[w.1];exact l,fun p B=>k _ _ _ _ _ s T F w B⟩))⟩))
def fU{t:gH}(h:Av X es t):Ev X (.List es pos) (dO (T6 t)):=Ov.ev (ky h)
abbrev DN:=List Dt->(Dt->Prop)->Prop
def US(r:List V->Hp->VK->Prop)(R:DN):Prop:= ∀(M:Addr->Prop) (H:Hp) (xs:List V) (ds:List Dt) (Qd:Dt->Prop) (Q:VK),jW M H->aB M H xs ds->R ds Qd->(∀q v d,Qd d->aF H q->Rep M q v d->Q v q)->r xs H Q
def z0(R:DN)(t:gH):bD:=fun i Q=>t i fun w k=>R w fun d=>Q d k
def rq{r:List V->Hp->VK->Prop}{R:DN}{t:gH}(hd:US r R): ∀f H Q,lE (z0 R t) f H Q->Wz r (lA t) f H Q:=fun f H Q j=>(by obtain⟨W,M,N,i,G,E,q,k⟩:=j;exact(
 ⟨W,M,N,i,_,E,q,fun w O l g x T F y=>hd M l g w _ _ T.al y x fun A v d C s z=>k _ _ _ _ C (T.same s) (F.tr (cW.of s)) z⟩))
def kX{id:String}{x:Str}{p:Pos}{r:List V->Hp->VK->Prop}{R:DN}{t:gH}(m:fK X (.builtin id) r)(hd:US r R)(d:Gl X x)(O:X.mg x=none)(w:bootBuiltins x=some (.builtin id))(f:Av X (e::es) t)(Y:x≠"__name__":=by decide)(A:123=false:=by decide)
  (y:209 (e::es) 216=(false,eval e 216)::209 es X.env:=by rfl) (W:(129).any (·.1)=false:=by rfl):Ev X 135 (z0 R t):=
 PE.imp (gr m d O w f Y A y W) (rq hd)
def vN{T:String}{x:Str}{p:Pos}{r:List V->Hp->VK->Prop}{R:DN}{t:gH}(m:fK X (.type T) r)(hd:US r R)(d:Gl X x)(O:X.mg x=none)(w:bootBuiltins x=some (.type T))(f:Av X (e::es) t)(Y:x≠"__name__":=by decide)(A:123=false:=by decide)
  (y:209 (e::es) 216=(false,eval e 216)::209 es X.env:=by rfl) (W:(129).any (·.1)=false:=by rfl):Ev X 135 (z0 R t):=
 PE.imp (gq m d O w f Y A y W) (rq hd)
end
inductive UO(g:Int->Int->Dt)(d1:Dt)(d2:Dt)(Q:Dt->Prop):Prop
 | mk (i j:_) (h1:d1= .int i) (h2:d2= .int j) (h3:Q (g i j))
inductive Qt(C:Int->Int->Prop)(g:Int->Int->Dt)(d1:Dt)(d2:Dt)(Q:Dt->Prop):Prop
 | mk (i j:_) (h1:d1= .int i) (h2:d2= .int j) (h3:C i j) (h4:Q (g i j))
def BS(h: ∀M H i j,Rep M H (g i j) (gd i j)):yD (Lg g) (UO gd):=fun M H x y n B G Q C A m w k=>(by obtain⟨i,j,l,p,q⟩:=w;exact(by
 subst l;subst p;exact⟨i,j,A.ofInt,m.ofInt,k H _ _ q 187 (h M H i j)⟩))
def Mi(h: ∀M H i j,Rep M H (g i j) (gd i j)):yD (rI C g) (Qt C gd):=fun M H x y n B G Q D w m N k=>(by obtain⟨i,j,l,p,c,q⟩:=N;exact(by
 subst l;subst p;exact⟨i,j,w.ofInt,m.ofInt,c,k H _ _ q 187 (h M H i j)⟩))
section
variable{X:Cx}{a b c e:Expr}{es rest:List Expr}{ta tb tc t:bD}{pos:Pos}
abbrev YX(ta tb:bD):bD:=pd (UO fun i j=> .int (i+j)) ta tb
abbrev YG(ta tb:bD):bD:=pd (UO fun i j=> .int (i - j)) ta tb
def dY(f:Ev X a ta)(d:Ev X b tb):Ev X (.BinOp a .Add b pos) (YX ta tb):=vL oy (BS fun _ _ _ _=> .int _) f d
def gy(f:Ev X a ta)(d:Ev X b tb):Ev X (.BinOp a .Sub b pos) (YG ta tb):=vL N0 (BS fun _ _ _ _=> .int _) f d
def zY(f:Ev X a ta)(d:Ev X b tb):Ev X (.BinOp a .Mult b pos) (pd (Qt yE fun i j=> .int (i*j)) ta tb):=vL jI (Mi fun _ _ _ _=> .int _) f d
def Ml(f:Ev X a ta)(d:Ev X b tb):Ev X (.BinOp a .Pow b pos) (pd (Qt Cn fun i j=> .int (i^j.toNat)) ta tb):=vL Ez (Mi fun _ _ _ _=> .int _) f d
abbrev UM:D2:=UO fun i j=> .bl (decide (i<=j))
abbrev UP:D2:=UO fun i j=> .bl (decide (j < i))
def Yz(f:Ev X a ta)(d:Ev X b tb):Ev X (.Compare a [.LtE] [b] pos) (pd UM ta tb):=Gm Lq (BS fun _ _ _ _=> .bl _) f d (dI _)
def YB(f:Ev X a ta)(d:Ev X b tb):Ev X (.Compare a [.Gt] [b] pos) (pd UP ta tb):=Gm Lr (BS fun _ _ _ _=> .bl _) f d (dI _)
def Q9(f:Ev X a ta)(d:Ev X b tb):Tv X (.Compare a [.LtE] [b] pos) (dT (pd UM ta tb)):=jP Lq (BS fun _ _ _ _=> .bl _) f d (dI _)
def Ra(f:Ev X a ta)(d:Ev X b tb):Tv X (.Compare a [.Gt] [b] pos) (dT (pd UP ta tb)):=jP Lr (BS fun _ _ _ _=> .bl _) f d (dI _)
def eq2:Dt->Dt->210 Bool
 | .aO,.aO=>some true | .aO,.int _=>some false | .int _,.aO=>some false | .aO,.bl _=>some false | .bl _,.aO=>some false | .aO,.str _=>some false | .str _,.aO=>some false
 | .int i,.int j=>some (decide (i=j)) | .bl i,.bl j=>some (decide (i=j)) | .str i,.str j=>some (decide (i=j))
 | .int _,.str _=>some false | .str _,.int _=>some false | .bl _,.str _=>some false | .str _,.bl _=>some false
 | _,_=>none
inductive Qu(d1:Dt)(d2:Dt)(Q:Dt->Prop):Prop
 | mk (b:_) (h1:eq2 d1 d2=some b) (h2:Q (.bl b))
inductive UL(d1:Dt)(d2:Dt)(Q:Dt->Prop):Prop
 | mk (b:_) (h1:eq2 d1 d2=some b) (h2:Q (.bl (!b)))
def Pg:Dt->210 V
 | .aO=>some .aO | .bl b=>some (.bl b) | .int i=>some (.int i) | .str x=>some (.str x) | _=>none
def Rep.fl(r:Rep M H v d)(h:Pg d=some u):v=u:=by
 cases r <;> cases h <;> rfl
def Vs:decide (V.int i=V.int j)=decide (i=j):=by simp
def dcB:decide (V.bl i=V.bl j)=decide (i=j):=by simp
def dcS:decide (V.str i=V.str j)=decide (i=j):=by simp
inductive E2(d1 d2:Dt)(b:Bool):Prop
 | mk (u1 u2:V) (h1:Pg d1=some u1) (h2:Pg d2=some u2) (h3:HV u1 u2=true/\decide (u1=u2)=b)
def E2o(h B:Dt):210 Bool->Prop
 | none=>True
 | some b=>E2 h B b
def Pp:E2o d1 d2 (eq2 d1 d2):=by
 cases d1 with
 | lst _=>trivial
 | tup _=>trivial
 | zT _ _=>trivial
 | m8 _ _=>trivial
 | _=>cases d2 with
  | lst _=>trivial
  | tup _=>trivial
  | zT _ _=>trivial
  | m8 _ _=>trivial
  | _=>first | trivial | exact⟨_,_,rfl,rfl,rfl,rfl⟩ | exact⟨_,_,rfl,rfl,rfl,Vs⟩ | exact⟨_,_,rfl,rfl,rfl,dcB⟩ | exact⟨_,_,rfl,rfl,rfl,dcS⟩
def FX{b:Bool}(w:Rep M H x d1)(i:Rep M H y d2)(h:eq2 d1 d2=some b):HV x y=true/\decide (x=y)=b:=by
 have z:E2o d1 d2 (some b):=h▸Pp;obtain⟨I,U,j,p,q⟩:=z;rw[w.fl j,i.fl p];exact q
def Mj:yD ZH Qu:=fun M H x y i B G Q C w h m k=>(by obtain⟨b,e,q⟩:=m;exact(by
 obtain⟨d,f⟩:=FX w h e;exact⟨d,by rw[f];exact k H _ _ q 187 (.bl b)⟩))
def TH:yD ZF UL:=fun M H x y i B G Q C w h Y k=>(by obtain⟨b,e,q⟩:=Y;exact(by
 obtain⟨d,f⟩:=FX w h e;exact⟨d,by rw[f];exact k H _ _ q 187 (.bl _)⟩))
def vM(f:Ev X a ta)(d:Ev X b tb):Ev X (.Compare a [.Eq] [b] pos) (pd Qu ta tb):=Gm Ls Mj f d (dI _)
def uk(f:Ev X a ta)(d:Ev X b tb):Tv X (.Compare a [.Eq] [b] pos) (dT (pd Qu ta tb)):=jP Ls Mj f d (dI _)
def AJ(f:Ev X a ta)(d:Ev X b tb):Tv X (.Compare a [.NotEq] [b] pos) (dT (pd UL ta tb)):=jP RY TH f d (dI _)
inductive UJ(g:Int->Dt)(Q:Dt->List Sl->Prop)(d:Dt)(δ':List Sl):Prop
 | mk (i:_) (h1:d= .int i) (h2:Q (g i) δ')
def D_u(g:Int->Dt)(ta:bD):bD:=fun i Q=>ta i fun d k=>UJ g Q d k
def ju(f:Ev X a ta):Ev X (.UnaryOp .USub a pos) (D_u (fun i=> .int (-i)) ta):=PE.imp (RV M8 f) fun g H Q N=>(by obtain⟨W,M,O,j,G,E,q,k⟩:=N;exact(
 ⟨W,M,O,j,_,E,q,fun d P l x Y T F w=>(by obtain⟨i,e,s⟩:=Y;exact(⟨i,by subst e;exact w.ofInt,k _ _ _ _ s T F (.int _)⟩))⟩))
def tL(r:aB M H xs ds)(h:jS ds i=some d): ∃x,jS xs i=some x/\Rep M H x d:=by
 unfold jS at h ⊢;rw[r.1];cases V:zw ds.length i with
 | none=>rw[V] at h;cases h
 | some j=>rw[V] at h;exact r.get h
inductive UN(d1:Dt)(d2:Dt)(Q:Dt->Prop):Prop
 | mk (ds i d:_) (h1:(d1= .lst ds\/d1= .tup ds)) (h2:d2= .int i) (h3:jS ds i=some d) (h4:Q d)
def TJ{K:207}:yD (ZG K) UN:=fun M H x y m B G Q D w l C k=>(by obtain⟨A,i,d,j,p,h,q⟩:=C;exact(by
 subst p;rcases j with j | j
 . subst j;obtain⟨a,g,rfl,f,n,I⟩:=w.eE;obtain⟨v,u,F⟩:=tL I h;exact .inl ⟨a,g,i,v,rfl,l.ofInt,dr.of f,u,k H _ _ q 187 F⟩
 . subst j;obtain⟨a,g,rfl,f,n,I⟩:=w.bU;obtain⟨v,u,F⟩:=tL I h;exact .inr (.inl ⟨a,g,i,v,rfl,l.ofInt,dH.of f,u,k H _ _ q 187 F⟩)))
def dD(f:Ev X a ta)(d:Ev X b tb)(n:tO b:=by exact fun _ _=>rfl):Ev X (.Subscript a b pos) (pd UN ta tb):=PE.imp (En OG f d n) (nz TJ)
def cutD(ds:List Dt)(L hi:210 Int):List Dt:=(ds.drop (HT.da ds.length 0 L)).take (HT.da ds.length ds.length hi - HT.da ds.length 0 L)
def aB.cut(r:aB M H xs ds)(L hi:210 Int):aB M H (pA xs L hi) (cutD ds L hi):=by
 unfold pA cutD;rw[r.1];exact(r.drop _).take _
abbrev UR:=List Sl->(210 Int->List Sl->Prop)->Prop
inductive lP(t:UR)(σ:L2.St)(H:Hp)(Q:210 Int->Hp->Prop):Prop
 | mk (W:List Wd) (M:Addr->Prop) (α:List 179) (δ:List Sl) (Qd:210 Int->List Sl->Prop) (h1:aE W M α H σ δ) (h2:t δ Qd) (h3: ∀o δ' H',Qd o δ'->aE W M α H' σ δ'->cW α H H'->Q o H')
def YM:UR:=fun i Q=>Q none i
inductive Ke(Q:210 Int->List Sl->Prop)(d:Dt)(δ':List Sl):Prop
 | mk (i:_) (h1:d= .int i) (h2:Q (some i) δ')
def T1(t:bD):UR:=fun i Q=>t i fun d k=>Ke Q d k
abbrev Pv(X:Cx)(o:210 Expr)(t:UR):Prop:=PO X o (lP t)
def PO.imp{X:Cx}{e:210 Expr}{t t':L2.TO}(h:PO X e t)(i: ∀f H Q,t' f H Q->t f H Q):PO X e t':=fun d s f H Q I q=>h d s f H Q I (i _ _ _ q)
def iP:Pv X none YM:=PO.imp zh fun d H Q Y=>(by obtain⟨W,M,N,i,G,E,q,k⟩:=Y;exact(k _ _ _ q E cW.rf))
def iO(h:Ev X e t):Pv X (some e) (T1 t):=PO.imp (zf h) fun f H Q R=>(by obtain⟨W,M,N,j,G,E,q,k⟩:=R;exact(
 ⟨W,M,N,j,_,E,q,fun d O l x Y T F w=>(by obtain⟨i,e,s⟩:=Y;exact(⟨i,by subst e;exact w.ofInt,k _ _ _ s T F⟩))⟩))
inductive PQ(Q:Dt->List Sl->Prop)(d:Dt)(lo:210 Int)(hi:210 Int)(δ3:List Sl):Prop
 | mk (ds:_) (h1:d= .tup ds) (h2:Q (.tup (cutD ds lo hi)) δ3)
def YH(ta:bD)(m k:UR):bD:=fun i Q=>ta i fun d M=>m M fun L W=>k W fun H D=>PQ Q d L H D
def mT{L hi:210 Expr}(f:Ev X a ta)(z:Pv X L tl)(S:Pv X hi th):Ev X (.Subscript a (.Slice L hi none p2) pos) (YH ta tl th):=PE.imp (uM HQ f z S) fun Z H Q w=>(by obtain⟨W,M,N,j,G,E,q,k⟩:=w;exact(
 ⟨W,M,N,j,_,E,q,fun d O o x y T F A=>⟨W,M,N,O,_,T,y,fun U Y J h l g=>⟨W,M,N,Y,_,l,h,fun V D P R u m=>(by obtain⟨B,e,C⟩:=R;exact(by
  subst e;obtain⟨a,i,rfl,f,n,I⟩:=((A.chg T g).chg l m).bU;refine⟨a,i,rfl,f,fun p r v=>?_⟩;have s:aF P r:=v.keep;exact k _ _ _ _ C (u.same s) (((F.tr g).tr m).tr (cW.of s)) (Rep.g9 v.at (u.al.Of v) ((I.cut _ _).same s))))⟩⟩⟩))
inductive G6(d1:Dt)(d2:Dt)(Q:Dt->Prop):Prop
 | mk (ds es:_) (h1:d1= .tup ds) (h2:d2= .tup es) (h3:ds.length+es.length<=208) (h4:Q (.tup (ds++es)))
inductive G7(d1:Dt)(d2:Dt)(Q:Dt->Prop):Prop
 | mk (ds es:_) (h1:d1= .lst ds) (h2:d2= .lst es) (h3:ds.length+es.length<=208) (h4:Q (.lst (ds++es)))
def J4:yD Li G6:=fun M H x y o B G Q C w h m k=>(by obtain⟨z,es,j,s,l,q⟩:=m;exact(by
 subst j;subst s;obtain⟨a,g,rfl,f,n,I⟩:=w.bU;obtain⟨b,u,rfl,d,R,i⟩:=h.bU;exact⟨a,b,g,u,rfl,rfl,f,d,by rw[I.1,i.1];exact l,fun p r v=>k r _ _ q v.keep (Rep.g9 v.at (C.Of v) ((I.append i).same v.keep))⟩))
def J5:yD RP G7:=fun M H x y m D G Q C w h N k=>(by obtain⟨v,es,j,u,l,q⟩:=N;exact(by
 subst j;subst u;obtain⟨a,g,rfl,f,n,I⟩:=w.eE;obtain⟨b,r,rfl,d,R,i⟩:=h.eE;refine⟨a,b,g,r,rfl,rfl,f,d,by rw[I.1,i.1];exact l,fun p B=>?_⟩;have s:aF H (upd H p (.lst (g++r))):=aF.new B;exact k _ _ _ q s (Rep.ui ag (C.fresh B) ((I.append i).same s))))
def gW(f:Ev X a ta)(d:Ev X b tb):Ev X (.BinOp a .Add b pos) (pd G6 ta tb):=vL IL J4 f d
def tu(f:Ev X a ta)(d:Ev X b tb):Ev X (.BinOp a .Add b pos) (pd G7 ta tb):=vL N2 J5 f d
inductive G3(d1:Dt)(d2:Dt)(Q:Dt->Prop):Prop
 | mk (ds k:_) (h1:d1= .lst ds) (h2:d2= .int k) (h3: -(2^63)<=k) (h4:k < 2^63) (h5:ds.length*k.toNat<=208) (h6:Q (.lst (206 k.toNat ds).flatten))
def aB.rep(r:aB M H xs ds): ∀n:Nat,aB M H (206 n xs).flatten (206 n ds).flatten
 | 0=> .nil
 | n+1=>by
  rw[aj0,aj0,ag8,ag8];exact r.append (r.rep n)
def J0:yD RK G3:=fun M H x y m D G Q C w i Y k=>(by obtain⟨u,n,j,r,d,f,l,q⟩:=Y;exact(by
 subst j;subst r;obtain⟨a,g,rfl,h,v,I⟩:=w.eE;refine⟨a,n,g,rfl,i.ofInt,h,d,f,by rw[I.1];exact l,fun p B=>?_⟩;have s:aF H (upd H p (.lst (206 n.toNat g).flatten)):=aF.new B;exact k _ _ _ q s (Rep.ui ag (C.fresh B) ((I.rep _).same s))))
def x9(f:Ev X a ta)(d:Ev X b tb):Ev X (.BinOp a .Mult b pos) (pd G3 ta tb):=vL N1 J0 f d
def eM:Dt->Bool
 | .lst _=>false
 | .tup _=>false
 | .zT _ _=>false
 | .m8 _ _=>false
 | _=>true
def Me:Dt->Dt->Bool
 | .aO,.aO=>true
 | .bl a,.bl b=>a==b
 | .bl a,.int b=>(if a then 1 else 0)==b
 | .int a,.bl b=>a==(if b then 1 else 0)
 | .int a,.int b=>a==b
 | .str a,.str b=>a==b
 | _,_=>false
def inD(d:Dt)(ds:List Dt):Bool:=ds.any fun e=>Me e d
def o5(r:Rep M H v d)(h:eM d=true):eK v=true:=by cases r <;> first | rfl | cases h
def EVo(d e:Dt):210 V->210 V->Prop
 | some u,some v=>wg u v=Me d e
 | _,_=>False
def Po{d e:Dt}(h:eM d=true)(f:eM e=true):EVo d e (Pg d) (Pg e):=by
 cases d with
 | lst _=>cases h
 | tup _=>cases h
 | zT _ _=>cases h
 | m8 _ _=>cases h
 | _=>cases e with
  | lst _=>cases f
  | tup _=>cases f
  | zT _ _=>cases f
  | m8 _ _=>cases f
  | _=>exact(rfl:_=_)
def tj{M:Addr->Prop}{H:Hp}{v w:V}{d e:Dt}(r:Rep M H v d)(i:Rep M H w e)(h:eM d=true)(f:eM e=true):wg v w=Me d e:=by
 have z:=Po h f;cases j:Pg d with
 | none=>rw[j] at z;exact z.elim
 | some u=>
  cases p:Pg e with
  | none=>rw[j,p] at z;exact z.elim
  | some u2=>
   rw[j,p] at z;rw[r.fl j,i.fl p];exact z
def qV(r:aB M H xs ds)(h:ds.all eM=true):xs.all eK=true:=ag4.mpr fun x j=>by
 obtain⟨i,I,e⟩:=ah7 j;have d:xs[i]?=some x:=by rw[ab2 I,e]
 have f:ds[i]?=some (ds[i]'(by rw[<-r.1];exact I)):=ab2 _;exact o5 (r.2 i _ _ d f) (ag4.mp h _ (ae4 f))
def zC(r:Rep M H v d)(hd:eM d=true): ∀{xs:List V} {ds:List Dt},aB M H xs ds->ds.all eM=true->p6 v xs=inD d ds
 | [],[],_,_=>rfl
 | [],_::_,h,_=>by have:=h.1;simp at this
 | _::_,[],h,_=>by have:=h.1;simp at this
 | x::xs,e::ds,h,hf=>by
  obtain⟨y,q,j,p,z⟩:=h.aK;cases j;rw[aw5,ah9] at hf;have u:=zC r hd z hf.2;unfold p6 inD at u ⊢;rw[ao0,ao0,u,tj p r hf.1 hd]
inductive Qs(neg:Bool)(d1:Dt)(d2:Dt)(Q:Dt->Prop):Prop
 | mk (ds:_) (h1:(d2= .lst ds\/d2= .tup ds)) (h2:eM d1=true) (h3:ds.all eM=true) (h4:Q (.bl (if neg then !inD d1 ds else inD d1 ds)))
def Mh{K:207}{d:Bool}:yD (WU K d) (Qs d):=fun M H x y l B G Q C w j V k=>(by obtain⟨u,p,h,i,q⟩:=V;exact(by
 have fin: ∀g,aB M H g u->eK x=true/\g.all eK=true/\Q (.bl (if d then !p6 x g else p6 x g)) H:=fun g I=>⟨o5 w h,qV I i,by rw[zC w h I i];exact k H _ _ q 187 (.bl _)⟩
 rcases p with p | p
 . subst p;obtain⟨a,g,rfl,f,n,I⟩:=j.eE;exact⟨a,g,rfl,.inl (dr.of f),fin g I⟩
 . subst p;obtain⟨a,g,rfl,f,n,I⟩:=j.bU;exact⟨a,g,rfl,.inr (dH.of f),fin g I⟩))
def HJ(f:Ev X a ta)(d:Ev X b tb)(O:behindInMarks .In b=false:=by rfl):Tv X (.Compare a [.In] [b] pos) (dT (pd (Qs false) ta tb)):=jP A3 Mh f d O
def rP(f:Ev X a ta)(d:Ev X b tb)(O:behindInMarks .NotIn b=false:=by rfl):Tv X (.Compare a [.NotIn] [b] pos) (dT (pd (Qs true) ta tb)):=jP sJ Mh f d O
inductive ML(ds:List Dt)(Q:Dt->Prop):Prop
 | mk (es:_) (h1:(ds= [.lst es]\/ds= [.tup es])) (h2:Q (.int es.length))
def PD{K:207}:US (fun g H Q=> ∃p s,g= [.ref p]/\(dr K H p s\/dH K H p s)/\Q (.int s.length) H) ML:=fun M H g u G Q C r P k=>(by obtain⟨es,e,q⟩:=P;exact(by
 rcases e with e | e <;> subst e <;> obtain⟨x,s,rfl,w,h⟩:=r.aK <;> cases h.cD
 . obtain⟨a,A,rfl,f,n,I⟩:=w.eE;exact⟨a,A,rfl,.inl (dr.of f),by rw[I.1];exact k H _ _ q 187 (.int _)⟩
 . obtain⟨a,A,rfl,f,n,I⟩:=w.bU;exact⟨a,A,rfl,.inr (dH.of f),by rw[I.1];exact k H _ _ q 187 (.int _)⟩))
def cQ(O:X.mg "len"=none)(f:Av X [e] tA)(d:Gl X "len":=by rfl)(y:starEach [e] X.env=(false,eval e X.env)::starEach [] X.env:=by rfl)(V:(backTo pos 137).any (·.1)=false:=by rfl):
  Ev X (.Call (.Name "len" p) [e] [] pos) (z0 ML tA):=kX lr PD d O PySem.boot_len f 104 104 y V
inductive Ap(ds:List Dt)(Q:Dt->Prop):Prop
 | mk (es:_) (h1:(ds= [.lst es]\/ds= [.tup es])) (h2:Q (.tup es))
def Gf{K:207}:US (fun g H Q=> ∃p u,g= [.ref p]/\((dr K H p u/\ ∀l,H l=none->Q (.ref l) (upd H l (.tup u)))\/(dH K H p u/\Q (.ref p) H))) Ap:=fun M H g v G Q C r D k=>(by obtain⟨es,e,q⟩:=D;exact(by
 rcases e with e | e <;> subst e <;> obtain⟨x,u,rfl,w,h⟩:=r.aK <;> cases h.cD
 . obtain⟨a,A,rfl,f,n,I⟩:=w.eE;refine⟨a,A,rfl,.inl ⟨dr.of f,fun l B=>?_⟩⟩;have s:aF H (upd H l (.tup A)):=aF.new B;exact k _ _ _ q s (Rep.g9 ag (C.fresh B) (I.same s))
 . obtain⟨a,A,rfl,f,n,I⟩:=w.bU;exact⟨a,A,rfl,.inr ⟨dH.of f,k H _ _ q 187 w⟩⟩))
def kU(O:X.mg "tuple"=none)(f:Av X [e] tA)(d:Gl X "tuple":=by rfl)(y:starEach [e] X.env=(false,eval e X.env)::starEach [] X.env:=by rfl)(V:(backTo pos 137).any (·.1)=false:=by rfl):
  Ev X (.Call (.Name "tuple" p) [e] [] pos) (z0 Ap tA):=vN jv Gf d O cw f 104 104 y V
end
def bW{α:List 179}(h:x∈(α.set i as).flatten):x∈α.flatten\/x∈as:=by
 obtain⟨l,z,j⟩:=at9.mp h;rcases List.mem_or_eq_of_mem_set z with y | y
 . exact .inl (at9.mpr ⟨l,y,j⟩)
 . exact .inr (y▸j)
def br{α:List 179}{i:Nat}(h:α[i]?=some as)(j:x∈as):x∈α.flatten:=at9.mpr ⟨as,ae4 h,j⟩
def cO: ∀{α:List 179} {i:Nat} {as:List Addr},α.flatten.Nodup->as.Nodup->(∀x∈as,x∉α.flatten)->(α.set i as).flatten.Nodup
 | [],_,_,_,_,_=>by simp
 | l::r,0,as,h,ha,hx=>by
  rw[List.set_cons_zero,ag8];rw[ag8] at h;refine aj4.mpr ⟨ha,(aj4.mp h).2.1,fun x d y f e=>?_⟩;subst e;exact hx x d (by rw[ag8];exact ac8 _ f)
 | l::r,i+1,as,h,ha,hx=>by
  rw[List.set_cons_succ,ag8];rw[ag8] at h;obtain⟨d,f,C⟩:=aj4.mp h;refine aj4.mpr ⟨d,cO f ha fun x z y=>hx x z (by rw[ag8];exact ac8 _ y),fun x z y w e=>?_⟩;subst e;rcases bW w with q | q
  . exact C x z x q rfl
  . exact hx x q (by rw[ag8];exact af5 _ z)
def gS: ∀{α:List 179} {i j:Nat} {as bs:List Addr} {x:Addr},α.flatten.Nodup->α[i]?=some as->α[j]?=some bs->i≠j->x∈as->x∉bs
 | [],i,j,as,bs,x,_,h1,_,_,_=>by simp at h1
 | l::r,i,j,as,bs,x,h,h1,h2,cq,hx=>by
  rw[ag8] at h;obtain⟨s,Q,f⟩:=aj4.mp h;cases i with
  | zero=>
   cases j with
   | zero=>exact 213 rfl cq
   | succ j=>
    simp at h1 h2;subst h1;exact fun y=>f x hx x (br h2 y) rfl
  | succ i=>
   cases j with
   | zero=>
    simp at h1 h2;subst h2;exact fun y=>f x y x (br h1 hx) rfl
   | succ j=>exact gS Q (by simpa using h1) (by simpa using h2) 102 hx
section
variable{Ws:List Wd}{M:Addr->Prop}{α:List 179}{H H':Hp}{σ:L2.St}{δ:List Sl}{i:Nat}{v:V}{d:Dt}{s:Sl}
def bP(δ:List Sl)(i:Nat):Prop:= ∃s,δ[i]?=some s/\s.cc=false
def bP.lt(h:bP δ i):i < δ.length:=let ⟨s,e,_⟩:=h;(ac1.mp e).1
def aE.gn(E:aE Ws M α H σ δ)(r:Rep M H v d)(p:bP δ i):aE Ws M (α.set i []) H (σ.set i (some v)) (δ.set i (.im d)):=by
 have I:=p.lt;obtain⟨B,S,A⟩:=p;refine⟨by rw[ae5,ae5,E.ls],by rw[ae5,ae5,E.la],fun j s l=>?_,cO E.nd aj8 (fun x u=>213 u ab3),fun a g=>(bW g).elim (E.mu a) fun z=>213 z ab3,E.al,fun W U=>?_⟩
 . by_cases y:i=j
   . subst y;rw[ad5 I] at l;cases l;exact⟨some v,[],by rw[ad5 (by rw[E.ls];exact I)],by rw[ad5 (by rw[E.la];exact I)],rfl,v,rfl,r⟩
   . rw[ac2 y] at l;obtain⟨o,R,h,f,C⟩:=E.sl j s l;exact⟨o,R,by rw[ac2 y];exact h,by rw[ac2 y];exact f,C⟩
 . have k:=E.w W U;refine⟨k.bs,k.ex,fun a g=>(bW g).elim (k.fr a) fun z=>absurd z ab3,k.m0,k.m1,fun d c e=>?_,fun j s R h f n=>?_⟩
   . obtain⟨t,m,q⟩:=k.bx d c e;have:i≠0:=fun z=>by subst z;rw[S] at m;cases m;cases A
     exact⟨t,by rw[ac2 this];exact m,by rw[ac2 this];exact q⟩
   . by_cases y:i=j
     . subst y;rw[ad5 (by rw[E.la];exact I)] at f;cases f;exact fun a g=>213 g ab3
     . rw[ac2 y] at h f;exact k.fz j s R h f n
def aB.grow(r:aB M H xs ds)(B:H p=none):aB (fun b=>M b\/b=p) (upd H p o) xs ds:=r.mono fun a u e n=>⟨by rw[ah (au e B)];exact e,fun z=>z.elim n (au e B)⟩
def Rep.grow(r:Rep M H x d)(B:H p=none):Rep (fun b=>M b\/b=p) (upd H p o) x d:=r.mono fun a u e n=>⟨by rw[ah (au e B)];exact e,fun z=>z.elim n (au e B)⟩
def qk.grow(h:qk M H o s as)(B:H p=none):qk (fun b=>M b\/b=p) (upd H p u) o s as:=by
 have E:aF H (upd H p u):=aF.new B;cases s with
 | no=>exact h
 | im d=>exact⟨h.1,let ⟨v,e,r⟩:=h.2;⟨v,e,r.grow B⟩⟩
 | ow ds=>obtain⟨a,g,j,w,y,r⟩:=h;exact⟨a,g,j,w,E _ _ y,r.grow B⟩
 | bx t=>obtain⟨d,c,j,w,r⟩:=h;exact⟨d,c,j,w,r.same E⟩
 | dk ks ds=>obtain⟨a,A,j,w,y,x,r⟩:=h;exact⟨a,A,j,w,E _ _ y,x,r.grow B⟩
 | ob R=>obtain⟨v,e,r⟩:=h;exact⟨v,e,R.st r (fun a _ o q=>E _ _ q) fun a u q n=>⟨E _ _ q,fun z=>z.elim n (au q B)⟩⟩
 | fn f=>exact h
def aE.rX(E:aE Ws M α H σ δ)(B:H p=none)(O: ∀X,u≠ .tup X)(G:bP δ i)(Y:s.cc=false)(N:qk (fun b=>M b\/b=p) (upd H p u) (some (.ref p)) s [p]):
  aE Ws (fun b=>M b\/b=p) (α.set i [p]) (upd H p u) (σ.set i (some (.ref p))) (δ.set i s):=by
 have I:=G.lt;have F:aF H (upd H p u):=aF.new B;have Q:p∉α.flatten:=fun z=>E.fresh B (E.mu p z);obtain⟨Z,T,D⟩:=G;refine⟨by rw[ae5,ae5,E.ls],by rw[ae5,ae5,E.la],fun j S m=>?_,cO E.nd 111 (fun x P=>by rw[ab4.mp P];exact Q),fun a f=>(bW f).elim (fun z=> .inl (E.mu a z)) fun z=> .inr (ab4.mp z),fun a f=>?_,fun W U=>?_⟩
 . by_cases A:i=j
   . subst A;rw[ad5 I] at m;cases m;exact⟨_,_,by rw[ad5 (by rw[E.ls];exact I)],by rw[ad5 (by rw[E.la];exact I)],N⟩
   . rw[ac2 A] at m;obtain⟨o,R,l,g,L⟩:=E.sl j S m;exact⟨o,R,by rw[ac2 A];exact l,by rw[ac2 A];exact g,L.grow B⟩
 . rcases f with f | f
   . obtain⟨o,e,n⟩:=E.al a f;exact⟨o,F _ _ e,n⟩
   . subst f;exact⟨u,ag,O⟩
 . have k:=E.w W U;have r:W.A0 p\/W.H0 p=none:=by
    by_cases z:W.A0 p
    . exact .inl z
    . right;cases e:W.H0 p with
      | none=>rfl
      | some o=>have:=k.bs p o e z;rw[B] at this;cases this
   refine⟨fun b o e n=>F _ _ (k.bs b o e n),fun b n y=>k.ex b n (LW.aF.none F y),fun a f=>(bW f).elim (k.fr a) fun z=>by rw[ab4.mp z];exact r,fun a h=> .inl (k.m0 a h),fun a h=>?_,fun d c e=>?_,fun j S R l g C=>?_⟩
   . rcases h with h | h
     . exact k.m1 a h
     . subst h;by_cases z:W.H0 a=none
       . exact .inr z
       . exact 213 B (k.ex a z)
   . obtain⟨t,q,J⟩:=k.bx d c e;have:i≠0:=fun z=>by subst z;rw[T] at q;cases q;cases D
     exact⟨t,by rw[ac2 this];exact q,by rw[ac2 this];exact J⟩
   . by_cases A:i=j
     . subst A;rw[ad5 (by rw[E.la];exact I)] at g;cases g;exact fun a f z=>by rw[ab4.mp f] at z;exact E.fresh B (k.m0 _ z)
     . rw[ac2 A] at l g;exact k.fz j S R l g C
def aE.mod(E:aE Ws M α H σ δ){s s':Sl}(hi:δ[i]?=some s)(ho:σ[i]?=some o)(g:α[i]?=some as)(U:s'.cc=s.cc)(hs:qk M H' o s' as)(N: ∀b u,H b=some u->b∉as->H' b=some u)(ex: ∀a∈as,∃u,H' a=some u/\ ∀S,u≠ .tup S):aE Ws M α H' σ (δ.set i s')/\cW α H H':=by
 have O:=(ac1.mp hi).1;have J: ∀a∈as,M a:=fun a h=>E.mu a (br g h);have Q: ∀{v:V} {d:Dt},Rep M H v d->Rep M H' v d:=fun r=>r.mono fun a u e n=>⟨N a u e fun z=>n (J a z),n⟩
 have T: ∀{v:List V} {d:List Dt},aB M H v d->aB M H' v d:=fun r=>r.mono fun a u e n=>⟨N a u e fun z=>n (J a z),n⟩
 refine⟨⟨by rw[ae5,E.ls],by rw[ae5,E.la],fun j I G=>?_,E.nd,E.mu,fun a h=>?_,fun W Z=>?_⟩,fun b u e n=>N b u e fun z=>n (br g z)⟩
 . by_cases A:i=j
   . subst A;rw[ad5 O] at G;cases G;exact⟨o,as,ho,g,hs⟩
   . rw[ac2 A] at G;obtain⟨o2,B,m,F,C⟩:=E.sl j I G;have D: ∀x∈B,x∉as:=fun x hx=>gS E.nd F g (Ne.symm A) hx;refine⟨o2,B,m,F,?_⟩;cases I with
     | no=>exact C
     | im d=>exact⟨C.1,let ⟨v,e,r⟩:=C.2;⟨v,e,Q r⟩⟩
     | ow ds=>obtain⟨a,S,l,p,L,r⟩:=C;subst l;exact⟨a,S,rfl,p,N _ _ L (D a 111),T r⟩
     | bx t=>
      obtain⟨d,c,l,p,r⟩:=C;subst l;refine⟨d,c,rfl,p,N _ _ r.dc (D d 111),?_,r.t0,r.t1⟩;obtain⟨ns,h,q⟩:=r.cs;exact⟨ns,N _ _ h (D c 111),q⟩
     | dk ks ds=>obtain⟨a,vs,l,p,L,Y,r⟩:=C;subst l;exact⟨a,vs,rfl,p,N _ _ L (D a 111),Y,T r⟩
     | ob R=>obtain⟨v,e,r⟩:=C;exact⟨v,e,R.st r (fun a g u q=>N _ _ q (D a g)) fun a u q n=>⟨N a u q fun z=>n (J a z),n⟩⟩
     | fn f=>exact C
 . by_cases z:a∈as
   . exact ex a z
   . obtain⟨u,e,n⟩:=E.al a h;exact⟨u,N _ _ e z,n⟩
 . have k:=E.w W Z;have P: ∀a∈as,W.A0 a\/W.H0 a=none:=fun a z=>k.fr a (br g z);refine⟨fun b u e n=>N _ _ (k.bs b u e n) fun z=>?_,fun b n y=>?_,k.fr,k.m0,k.m1,fun d c e=>?_,fun j I B m F X=>?_⟩
   . rcases P b z with q | q
     . exact n q
     . rw[q] at e;cases e
   . by_cases z:b∈as
     . obtain⟨u,e,_⟩:=ex b z;rw[e] at y;cases y
     . cases e:H b with
       | none=>exact k.ex b n e
       | some u=>rw[N _ _ e z] at y;cases y
   . obtain⟨t,l,p⟩:=k.bx d c e;by_cases A:i=0
     . subst A;rw[hi] at l;cases l;cases s' with
       | bx t'=>exact⟨t',by rw[ad5 O],p⟩
       | _=>cases U
     . exact⟨t,by rw[ac2 A];exact l,p⟩
   . by_cases A:i=j
     . subst A;rw[ad5 O] at m;cases m;exact k.fz i s B hi F (by rw[<-U];exact X)
     . rw[ac2 A] at m;exact k.fz j I B m F X
def aE.FO(E:aE Ws M α H σ δ)(hi:δ[i]?=some (.ow ds))(J:α[i]?=some [a]):aE Ws (fun b=>M b/\b≠a) (α.set i []) H σ (δ.set i (.im (.lst ds))):=by
 have F:=(ac1.mp hi).1;obtain⟨a',P,U,O,X,r⟩:=E.ow hi;rw[J] at O;cases O;have D: ∀{v:V} {d:Dt},Rep M H v d->Rep (fun b=>M b/\b≠a) H v d:=fun r=>r.mono fun b u e n=>⟨e,fun z=>n z.1⟩
 have L: ∀{v:List V} {d:List Dt},aB M H v d->aB (fun b=>M b/\b≠a) H v d:=fun r=>r.mono fun b u e n=>⟨e,fun z=>n z.1⟩
 refine⟨by rw[ae5,E.ls],by rw[ae5,ae5,E.la],fun j s h=>?_,cO E.nd aj8 (fun x C=>213 C ab3),fun b g=>?_,fun b g=>E.al b g.1,fun W Y=>?_⟩
 . by_cases A:i=j
   . subst A;rw[ad5 F] at h;cases h;exact⟨some 190,[],U,by rw[ad5 (by rw[E.la];exact F)],rfl,_,rfl,Rep.ui X (fun z=>z.2 rfl) (L r)⟩
   . rw[ac2 A] at h;obtain⟨o2,Q,G,o,B⟩:=E.sl j s h;refine⟨o2,Q,G,by rw[ac2 A];exact o,?_⟩;cases s with
     | no=>exact B
     | im d=>exact⟨B.1,let ⟨v,e,r⟩:=B.2;⟨v,e,D r⟩⟩
     | ow ds=>obtain⟨b,P,m,p,I,r⟩:=B;exact⟨b,P,m,p,I,L r⟩
     | bx t=>exact B
     | dk ks ds=>obtain⟨b,vs,m,p,I,T,r⟩:=B;exact⟨b,vs,m,p,I,T,L r⟩
     | ob R=>obtain⟨v,e,r⟩:=B;exact⟨v,e,R.st r (fun _ _ _ q=>q) fun b u q n=>⟨q,fun z=>n z.1⟩⟩
     | fn f=>exact B
 . obtain⟨l,Z,C⟩:=at9.mp g;obtain⟨j,h,e⟩:=ah7 Z;have N:(α.set i [])[j]?=some l:=by rw[ab2 h,e]
   by_cases A:i=j
   . subst A;rw[ad5 (by rw[E.la];exact F)] at N;cases N;exact 213 C ab3
   . rw[ac2 A] at N;refine⟨E.mu b (br N C),fun z=>?_⟩;subst z;exact gS E.nd N J (Ne.symm A) C 111
 . have k:=E.w W Y;refine⟨k.bs,k.ex,fun b g=>(bW g).elim (k.fr b) fun z=>absurd z ab3,fun b z=>⟨k.m0 b z,fun y=>?_⟩,fun b z=>k.m1 b z.1,fun d c e=>?_,fun j s S G o nb=>?_⟩
   . subst y;exact k.fz i _ _ hi J rfl b 111 z
   . obtain⟨t,m,p⟩:=k.bx d c e;have:i≠0:=fun z=>by subst z;rw[hi] at m;cases m
     exact⟨t,by rw[ac2 this];exact m,by rw[ac2 this];exact p⟩
   . by_cases A:i=j
     . subst A;rw[ad5 (by rw[E.la];exact F)] at o;cases o;exact fun b g=>213 g ab3
     . rw[ac2 A] at G o;exact k.fz j s S G o nb
def aE.vq(E:aE Ws M α H σ δ){ds:List Dt}(hi:δ[i]?=some (.ow ds)): ∃e l,aE Ws e l H σ (δ.set i (.im (.lst ds)))/\ ∀a,e a->M a:=by
 obtain⟨a,h,g,f,C,r⟩:=E.ow hi;exact⟨_,_,E.FO hi f,fun b z=>z.1⟩
def aE.drop(E:aE (W::Ws) M α H σ δ):aE Ws M α H σ δ:=⟨E.ls,E.la,E.sl,E.nd,E.mu,E.al,fun a h=>E.w a (ac0 _ h)⟩
def aE.loop(E:aE Ws M α H σ δ):aE (⟨H,M,fun _=>False,M,none⟩::Ws) M α H σ δ:=⟨E.ls,E.la,E.sl,E.nd,E.mu,E.al,fun W h=>by
 rcases ad8.mp h with e | e
 . subst e;exact⟨fun b o e _=>e,fun b n=>n,fun a h=> .inl (E.mu a h),fun a h=>h.elim,fun a h=> .inl h,fun d c e=>(by cases e),fun j s R _ _ _ a _ z=>z⟩
 . exact E.w W e⟩
end
structure dw where
 nx:List Sl->Prop
 rt:Dt->List Sl->Prop
 bk:List Sl->Prop:=fun _=>False
 ct:List Sl->Prop:=fun _=>False
abbrev j3:=dw->List Sl->Prop
structure Lk(Ws:List Wd)(D:Ends)(Δ:dw):Prop where
 nx: ∀M α H σ δ,aE Ws M α H σ δ->Δ.nx δ->D.nx σ H
 rt: ∀M α H σ δ v d,aE Ws M α H σ δ->Rep M H v d->Δ.rt d δ->D.rt v H
 bk: ∀M α H σ δ,aE Ws M α H σ δ->Δ.bk δ->D.bk σ H
 ct: ∀M α H σ δ,aE Ws M α H σ δ->Δ.ct δ->D.ct σ H
inductive lS(T:j3)(D:L2.Ends)(σ:L2.St)(H:Hp):Prop
 | mk (Ws:List Wd) (M:Addr->Prop) (α:List 179) (δ:List Sl) (Δ:dw) (h1:aE Ws M α H σ δ) (h2:Lk Ws D Δ) (h3:T Δ δ)
abbrev Ex(X:Cx)(s:Stmt)(T:j3):Prop:=PS X s (lS T)
abbrev CH(X:Cx)(s:List Stmt)(T:j3):Prop:=jw X s (lS T)
section
variable{X:Cx}{st:Stmt}{rest:List Stmt}{T U:j3}{e a b c:Expr}{es:List Expr}{t ta tb:bD}{u:lF}{pos:Pos}
def Mv:j3:=fun E i=>E.nx i
def Kb(T U:j3):j3:=fun E i=>T {E with nx:=U E} i
def bE:CH X [] Mv:=jw.imp ko fun D d H w=>(by obtain⟨s,M,N,i,F,E,L,q⟩:=w;exact(L.nx _ _ _ _ _ E q))
def ao(d:Ex X st T)(f:CH X rest U):CH X (st::rest) (Kb T U):=jw.imp (bf d f) fun D g H O=>(by obtain⟨s,M,N,i,F,E,L,q⟩:=O;exact(
 ⟨s,M,N,i,{F with nx:=U F},E,⟨fun M N H g i E q=>⟨s,M,N,i,F,E,L,q⟩,L.rt,L.bk,L.ct⟩,q⟩))
def aG(d:Ex X st T):CH X [st] T:=dQ d
def YI(t:bD):j3:=fun E i=>t i E.rt
def aL(h:Ev X e t):Ex X (.Return (some e) pos) (YI t):=PS.imp (lV h) fun D f H Y=>(by obtain⟨s,M,N,i,G,E,L,q⟩:=Y;exact(⟨s,M,N,i,_,E,q,fun d k r v w V F x=>L.rt _ _ _ _ _ _ _ V x w⟩))
def T9(u:lF)(T U:j3):j3:=fun E i=>u i fun b k=>if b=true then T E k else U E k
def cZ(m:Tv X c u)(f:CH X sa T)(d:CH X sb U):Ex X (.If c sa sb pos) (T9 u T U):=PS.imp (uI m f d) fun D g H O=>(by obtain⟨v,M,N,i,F,E,L,q⟩:=O;exact(
 ⟨v,M,N,i,_,E,q,fun b k r s V G=>by
  cases b with
  | true=>rw[if_pos rfl] at s ⊢;exact⟨v,M,N,k,F,V,L,s⟩
  | false=>rw[if_neg ab9] at s ⊢;exact⟨v,M,N,k,F,V,L,s⟩⟩))
def Mx(t:bD):j3:=fun E i=>t i fun _ k=>E.nx k
def eA(h:Ev X e t)(n:swapsWith e none pos.line 216=pure false:=by rfl):Ex X (.Expr e pos) (Mx t):=PS.imp (Ir h n) fun D f H Y=>(by obtain⟨s,M,N,i,G,E,L,q⟩:=Y;exact(⟨s,M,N,i,_,E,q,fun d k r v w V F x=>L.nx _ _ _ _ _ V w⟩))
def TU(i:Nat)(t:bD):j3:=fun E j=>t j fun d k=>bP k i/\E.nx (k.set i (.im d))
def cG(i:Nat){x:Str}{w:Pos}(f:X.N.Nodup)(y:Ev X e t)(hi:X.N[i]?=some x:=by rfl)(h:Loc X.env.scope x:=by first | exact Or.inl rfl | exact Or.inr rfl)(n:swapsWith e (some (.Name x w)) pos.line X.env=pure false:=by rfl)(j:X.fn x=true\/X.env.scope.names.lookup x=some .local:=by first | exact .inl rfl | exact .inr rfl | assumption):
  Ex X (.Assign [.Name x w] e pos) (TU i t):=PS.imp (df f hi h y n j) fun D g H C=>(by obtain⟨s,M,O,k,G,E,L,q⟩:=C;exact(⟨s,M,O,k,_,E,q,fun d m r v W V F A=>(by obtain⟨l,z⟩:=W;exact(L.nx _ _ _ _ _ (V.gn A l) z))⟩))
def Gr(i:Nat)(t:yC):j3:=fun E j=>t j fun v k=>bP k i/\E.nx (k.set i (.ow v))
def AK{i:Nat}{t:yC}: ∀D d H,lS (Gr i t) D d H->Dm (lO t) (bY i) D d H:=fun D d H Q=>(by obtain⟨v,M,N,j,G,E,L,q⟩:=Q;exact(⟨v,M,N,j,_,E,q,fun w k m g a Y V F y f=>(by obtain⟨l,x⟩:=Y;exact(
 L.nx _ _ _ _ _ (V.rX (s:= .ow w) f (fun g z=>by cases z) l rfl ⟨a,g,rfl,rfl,ag,y.grow f⟩) x))⟩))
def iG(i:Nat){x:Str}{v:Pos}{t:yC}(d:X.N.Nodup)(y:Ov X e t)(hi:X.N[i]?=some x:=by rfl)(h:Loc X.env.scope x:=by first | exact Or.inl rfl | exact Or.inr rfl)(n:swapsWith e (some (.Name x v)) pos.line X.env=pure false:=by rfl)(j:X.fn x=true\/X.env.scope.names.lookup x=some .local:=by first | exact .inl rfl | exact .inr rfl | assumption):
  Ex X (.Assign [.Name x v] e pos) (Gr i t):=PS.imp (df d hi h y n j) AK
inductive Ua(i:Nat)(T:j3)(Δ:dw)(δ:List Sl):Prop
 | mk (ds:_) (h1:δ[i]?=some (.ow ds)) (h2:T Δ (δ.set i (.im (.lst ds))))
def FN: ∀D d H,lS (Ua i T) D d H->lS T D d H:=fun D d H g=>(by obtain⟨s,M,N,j,F,E,L,v,h,q⟩:=g;exact(by
 obtain⟨f,l,w,_⟩:=E.vq h;exact⟨s,f,l,_,F,w,L,q⟩))
def kc(i:Nat)(h:Ex X st T):Ex X st (Ua i T):=PS.imp h FN
def sG{Ws:List Wd}{M:Addr->Prop}{α:List 179}{H:Hp}{d:L2.St}{j:List Sl}{i:Nat}{ds Q:List Dt}{a:Addr}(E:aE Ws M α H d j)(h:j[i]?=some (.ow ds))(g:d[i]?=some (some 190))(f:α[i]?=some [a])(r:aB M H Wc Q):
  aE Ws M α (upd H a (.lst Wc)) d (j.set i (.ow Q))/\cW α H (upd H a (.lst Wc)):=
 E.mod h g f rfl ⟨a,Wc,rfl,rfl,ag,r.mono fun b u e n=>⟨by rw[ah (fun z=>n (by rw[z];exact E.mu a (br f 111)))];exact e,n⟩⟩ (fun b u e n=>by rw[ah (fun z=>n (by rw[z];simp))];exact e) (fun b k=>by rw[ab4.mp k];exact⟨_,ag,fun l z=>by cases z⟩)
inductive P5(i:Nat)(Q:Dt->List Sl->Prop)(es:List Dt)(δ':List Sl):Prop
 | mk (ds d:_) (h1:es= [d]) (h2:δ'[i]?=some (.ow ds)) (h3:ds.length < 208) (h4:Q .aO (δ'.set i (.ow (ds++ [d]))))
def Ud(i:Nat)(t:gH):bD:=fun j Q=>(∃n,j[i]?=some (.ow n))/\t j fun es k=>P5 i Q es k
def cH(i:Nat){f A P:Pos}(z:PE X (.Name x f) (fg i))(s:Av X [e] tA)(p:attributeBase (.Name x f) "append" X.env (eval (.Name x f) X.env)=eval (.Name x f) X.env:=by rfl)(j:((backTo P 170).all (fun x=>!x.1) && (backToKw P (keywordEach [] X.env)).all (fun x=>x.1.isSome) && decide ([e].length+([]:List Keyword).length+(if ([]:List Keyword).isEmpty then 0 else 1) < 30))=true:=by rfl)(R:(A.endLine==P.line)=true:=by rfl)(B:starEach [e] X.env=(false,eval e X.env)::starEach [] X.env:=by rfl)(Y:(backTo P 137).any (·.1)=false:=by rfl):
  Ev X (.Call (.Attribute (.Name x f) "append" A) [e] [] P) (Ud i tA):=
 PE.imp (Lm av4 PySem.F.slot_list_append PySem.F.type_list_append l5 z s p j R B Y) fun σ H Q w=>(by obtain⟨W,M,α,δ,Qd,E,⟨⟨Mg,r⟩,q⟩,k⟩:=w;exact(by
  obtain⟨a,xs0,g,h2,C,r3⟩:=E.ow r;refine⟨_,g,.inl ⟨rfl,_,dr.of C⟩,W,M,α,δ,_,E,q,fun es δ' H' vs I V G L=>?_⟩;obtain⟨ds,d,e,D,l,J⟩:=I;subst e;obtain⟨y,ys,rfl,O,N⟩:=L.aK;cases N.cD;obtain⟨a',Z,h,S,v,o⟩:=V.ow D;rw[g] at h;cases h;refine⟨a,Z,y,rfl,rfl,v,by rw[o.1];exact l,?_⟩;obtain⟨m,n⟩:=sG V D g S (o.append (.one O));exact k _ _ _ _ J m (G.tr n) .aO))
inductive YJ(i:Nat)(δ:List Sl)(Q:Dt->List Sl->Prop):Prop
 | mk (ds d:_) (h1:δ[i]?=some (.ow ds)) (h2:ds[ds.length - 1]?=some d) (h3:Q d (δ.set i (.ow ds.dropLast)))
def TK(i:Nat){f A P:Pos}(B:PE X (.Name x f) (fg i))(p:attributeBase (.Name x f) "pop" X.env (eval (.Name x f) X.env)=eval (.Name x f) X.env:=by rfl)(R:(A.endLine==P.line)=true:=by rfl):
  Ev X (.Call (.Attribute (.Name x f) "pop" A) [] [] P) (YJ i):=
 PE.imp (Es av4 PySem.F.slot_list_pop PySem.F.type_list_pop Oh B p R) fun I H Q N=>(by obtain⟨W,M,O,s,G,E,⟨w,d,D,z,q⟩,k⟩:=N;exact(by
  obtain⟨a,j,h,m,C,v⟩:=E.ow D;obtain⟨y,n,o⟩:=v.get z;refine⟨_,h,.inl ⟨rfl,_,dr.of C⟩,a,j,y,rfl,rfl,C,by rw[v.1];exact n,?_⟩;have r:aB M H j.dropLast w.dropLast:=by rw[List.dropLast_eq_take,List.dropLast_eq_take,v.1];exact v.take _
  obtain⟨l,g⟩:=sG E D h m r;exact k _ _ _ _ q l g (o.chg E g)))
inductive PX(i:Nat)(Q:Dt->List Sl->Prop)(d2:Dt)(δ':List Sl):Prop
 | mk (ds k d:_) (h1:δ'[i]?=some (.ow ds)) (h2:d2= .int k) (h3:jS ds k=some d) (h4:Q d δ')
def YN(i:Nat)(tb:bD):bD:=fun j Q=>(∃n,j[i]?=some (.ow n))/\tb j fun B k=>PX i Q B k
def Gi(i:Nat)(z:PE X (.Name x xp) (fg i))(j:Ev X b tb)(p:tO b:=by exact fun _ _=>rfl):Ev X (.Subscript (.Name x xp) b pos) (YN i tb):=
 PE.imp (En sU z j p) fun σ H Q Z=>(by obtain⟨W,M,N,G,O,E,⟨⟨L,h⟩,q⟩,k⟩:=Z;exact(by
  obtain⟨a,C,f,h2,h3,r3⟩:=E.ow h;refine⟨_,f,W,M,N,G,_,E,q,fun R I J v Y V F A=>?_⟩;obtain⟨S,n,d,D,e,l,s⟩:=Y;subst e;obtain⟨P,B,g,tW,w,o⟩:=V.ow D;rw[f] at g;cases g;obtain⟨y,m,r⟩:=tL o l;exact⟨a,B,n,y,rfl,A.ofInt,dr.of w,m,k _ _ _ _ s V F r⟩))
inductive TL(i:Nat)(δ:List Sl)(Q:Dt->List Sl->Prop):Prop
 | mk (ds:_) (h1:δ[i]?=some (.ow ds)) (h2:Q (.tup ds) δ)
def Gg(i:Nat)(O:X.mg "tuple"=none)(A:PE X (.Name x xp) (fg i))(f:Gl X "tuple":=by rfl)(y:starEach [.Name x xp] X.env=(false,eval (.Name x xp) X.env)::starEach [] X.env:=by rfl)(V:(backTo pos 137).any (·.1)=false:=by rfl):
  Ev X (.Call (.Name "tuple" p) [.Name x xp] [] pos) (TL i):=PE.imp (gq jv f O cw (aj A aM y) 104 104 y V) fun m H Q N=>(by obtain⟨W,M,P,j,G,E,⟨w,D,q⟩,k⟩:=N;exact(by
  obtain⟨a,g,d,h,C,v⟩:=E.ow D;refine⟨_,d,a,g,rfl,.inl ⟨dr.of C,fun l z=>?_⟩⟩;have s:aF H (upd H l (.tup g)):=aF.new z;exact k _ _ _ _ q (E.same s) (cW.of s) (Rep.g9 ag (E.fresh z) (v.same s))))
inductive Kl(Q:List Dt->List Sl->Prop)(ds:List Dt)(δ':List Sl):Prop
 | mk (es:_) (h1:(ds= [.lst es]\/ds= [.tup es])) (h2:Q es δ')
def dList(t:gH):yC:=fun i Q=>t i fun v k=>Kl Q v k
def N8(O:X.mg "list"=none)(f:Av X [e] tA)(d:Gl X "list":=by rfl)(y:starEach [e] X.env=(false,eval e X.env)::starEach [] X.env:=by rfl)(Z:(backTo pos 137).any (·.1)=false:=by rfl):
  Ov X (.Call (.Name "list" p) [e] [] pos) (dList tA):=PE.imp (gq lq d O cz f 104 104 y Z) fun B H Q j=>(by obtain⟨W,M,N,i,G,E,q,k⟩:=j;exact(
 ⟨W,M,N,i,_,E,q,fun v P m o Y V F g=>(by obtain⟨es,e,s⟩:=Y;exact(by
  rcases e with e | e <;> subst e <;> obtain⟨x,r,rfl,w,h⟩:=g.aK <;> cases h.cD
  . obtain⟨a,A,rfl,f,n,I⟩:=w.eE;exact⟨a,A,rfl,.inl (dr.of f),fun l z=>k _ _ _ _ _ s V F I z⟩
  . obtain⟨a,A,rfl,f,n,I⟩:=w.bU;exact⟨a,A,rfl,.inr (dH.of f),fun l z=>k _ _ _ _ _ s V F I z⟩))⟩))
inductive Gs(Q:List Dt->List Sl->Prop)(ds:List Dt)(δ':List Sl):Prop
 | mk (i:Int) (n:Nat) (h1:ds= [.int i,.int (i+n)]) (h2: -(2^61)<=i) (h3:i < 2^61) (h4:n<=1000) (h5:Q ((219 n).map fun k=> .int (i+(k:Nat))) δ')
def PR(t:gH):yC:=fun i Q=>t i fun v k=>Gs Q v k
def Jd(r:X.calm=true)(A:X.mg "list"=none)(J:X.mg "range"=none)(l:Av X [a,b] tA)(o:Gl X "list":=by rfl)(P:Gl X "range":=by rfl)(S:starEach [.Call (.Name "range" p2) [a,b] [] sE] X.env= [((false,eval (.Call (.Name "range" p2) [a,b] [] sE) X.env))]:=by rfl)(s:starEach [a,b] X.env= [(false,eval a X.env),(false,eval b X.env)]:=by rfl)(z:starEach [b] X.env= [(false,eval b X.env)]:=by rfl):
  Ov X (.Call (.Name "list" p) [.Call (.Name "range" p2) [a,b] [] sE] [] pos) (PR tA):=PE.imp (Em r o A P J l S s z) fun σ H Q Y=>(by obtain⟨W,M,R,δ,Qd,E,q,k⟩:=Y;exact(
 ⟨W,M,R,δ,_,E,q,fun ds δ1 H1 xs C V F G=>(by obtain⟨i,n,e,Z,v,w,D⟩:=C;exact(by
  subst e;obtain⟨x,ys,rfl,I,L⟩:=G.aK;obtain⟨y,zs,rfl,O,N⟩:=L.aK;cases N.cD;cases I.ofInt;cases O.ofInt;refine⟨i,n,rfl,Z,v,w,fun p B=>k _ _ _ _ _ D V F ⟨by simp,fun j x d f g=>?_⟩ B⟩;rw[ab8] at f g;cases h:(List.range n)[j]? with
  | none=>rw[h] at f;cases f
  | some m=>rw[h] at f g;cases f;cases g;exact .int _))⟩))
def gw(r:aB M H xs ds):xs.isEmpty=ds.isEmpty:=by
 have:=r.1;cases xs <;> cases ds <;> simp at this ⊢
def Wh:Dt->210 Bool
 | .aO=>some false
 | .bl b=>some b
 | .int i=>some (i !=0)
 | .lst ds=>some (!ds.isEmpty)
 | .tup ds=>some (!ds.isEmpty)
 | _=>none
inductive PM(Q:Bool->List Sl->Prop)(d:Dt)(δ':List Sl):Prop
 | mk (b:_) (h1:Wh d=some b) (h2:Q b δ')
def YE(t:bD):lF:=fun i Q=>t i fun d k=>PM Q d k
def Q8(h:Ev X e t)(y: ∀N,isTrue e X.env N=(do let v<-N;standAt e.pos;holding [v] (truthy v)):=by intro _;rfl):Tv X e (YE t):=
 PT.imp (D3 h y) fun o H Q j=>(by obtain⟨W,M,O,i,G,E,q,k⟩:=j;exact(⟨W,M,O,i,_,E,q,fun d m x v g V F w=>(by obtain⟨b,f,s⟩:=g;exact(⟨b,by
  cases w with
  | aO=>cases f;rfl
  | bl c=>cases f;rfl
  | int c=>cases f;rfl
  | str c=>cases f
  | lst h n l r=>cases f;exact .inl ⟨_,dr.of h,by rw[gw ⟨l,r⟩]⟩
  | zT h n e l r=>cases f
  | m8 h n e l r=>cases f
  | tup h n l r=>cases f;exact .inr (.inl ⟨_,dH.of h,by rw[gw ⟨l,r⟩]⟩),k _ _ _ s V F⟩))⟩))
end
def bT(S:DN):Sp:=fun u H Q _=> ∃M t G,jW M H/\aB M H u t/\S t G/\ ∀r q J,G r->aF H q->Rep M q J r->Q J q
abbrev DB:=Int->List Dt->(Dt->Int->Prop)->Prop
def Cq(S:DB):Sp:=fun v H Q _=> ∃M d c t I u G,v= .ref d::I/\jW M H/\M d/\M c/\yF H d c t/\aB M H I u/\S t u G/\ ∀r o q J,G r o->Kp d c H q->yF q d c o->Rep M q J r->Q J q
section
variable{X:Cx}{e:Expr}{es:List Expr}{pos p:Pos}{x:Str}{k:Nat}{ps:List Str}
def aZ(h:eP X.prog X.w X.K X.mg X.base x k ps (bT S))(o:bN k X.A)(f:Av X (e::es) t)(b:Gl X x:=by rfl)(B:123=false:=by decide)(z:starEach (e::es) X.env=(false,eval e X.env)::starEach es X.env:=by rfl)(V:(129).any (·.1)=false:=by rfl):
  Ev X 135 (z0 S t):=PE.imp (ou h o b f B z V) fun c H Q y=>(by obtain⟨W,M,N,j,I,E,q,k⟩:=y;exact(
 ⟨W,M,N,j,_,E,q,fun v l u G C T F D=>by
  show bT S (G++ []) u Q E0;rw[ai1];exact⟨M,v,_,T.al,D,C,fun r J L g s i=>k _ _ _ _ g (T.same s) (F.tr (cW.of s)) i⟩⟩))
def aE.box{i:Nat}(E:aE Ws M α H σ δ)(h:δ[i]?=some (.bx t)): ∃d c,σ[i]?=some (some (.ref d))/\α[i]?=some [d,c]/\yF H d c t:=by
 obtain⟨o,R,f,g,d,c,rfl,rfl,r⟩:=E.sl i _ h;exact⟨d,c,f,g,r⟩
def Kw(E:aE Ws M α H σ δ)(h:δ[i]?=some (.bx t))(g:σ[i]?=some (some (.ref d)))(j:α[i]?=some [d,c])(k:Kp d c H H')(B:yF H' d c t'):
  aE Ws M α H' σ (δ.set i (.bx t'))/\cW α H H':=
 E.mod h g j rfl ⟨d,c,rfl,rfl,B⟩ (fun b u e n=>k b u e (fun z=>n (by rw[z];simp)) (fun z=>n (by rw[z];simp))) (fun b f=>by
  simp only [ad8,ab3,or_false] at f;rcases f with rfl | rfl
  . exact⟨_,B.dc,fun l z=>by cases z⟩
  . obtain⟨S,h,_⟩:=B.cs;exact⟨_,h,fun l z=>by cases z⟩)
def YS(S:DB)(i:Nat)(t:gH):bD:=fun j Q=>(∃m,j[i]?=some (.bx m))/\t j fun u l=> ∃t,l[i]?=some (.bx t)/\S t u fun r o=>Q r (l.set i (.bx o))
def hV(i:Nat)(h:eP X.prog X.w X.K X.mg X.base x k ps (Cq S))(o:bN k X.A)(L:PE X (.Name y yp) (fg i))(j:Av X es t)(m:Gl X x:=by rfl)(N:123=false:=by decide)(z:starEach (.Name y yp::es) X.env=(false,eval (.Name y yp) X.env)::starEach es X.env:=by rfl)(Y:(129).any (·.1)=false:=by rfl):
  Ev X (.Call (.Name x p) (.Name y yp::es) [] pos) (YS S i t):=PE.imp (ou h o m (aj L j z) N z Y) fun σ H Q I=>(by obtain⟨W,M,α,δ,Qd,E,⟨⟨t0,g⟩,q⟩,k⟩:=I;exact(by
  obtain⟨d,c,f,h2,B⟩:=E.box g;refine⟨_,f,W,M,α,δ,_,E,q,fun J δ' F u n T G Z=>?_⟩;obtain⟨t,D,P⟩:=n;obtain⟨d',U,b,s,v⟩:=T.box D;rw[f] at b;cases b;show Cq S ((V.ref d::u)++ []) F Q E0;rw[ai1];refine⟨M,d,U,t,u,J,_,rfl,T.al,T.mu d (br s 111),T.mu U (br s 111),v,Z,P,fun r t' H2 v2 R O C r2=>?_⟩;obtain⟨l,a⟩:=Kw T D f s O C;exact k _ _ _ _ R l (G.tr a) r2))
end
section
variable{P:214}{w:237}{K:207}{mg:Str->210 212}{base:Heap}
def mv(C:jW M H)(r:aB M H vs ds)(w: ∀W∈Ws,Vu W M (List.replicate (ds.length+n) []) H (ds.map .im++List.replicate n .no)):
  aE Ws M (206 (ds.length+n) []) H (vs.map some++206 n none) (ds.map .im++206 n .no):=by
 have j:(206 (ds.length+n) 169).flatten= []:=by simp
 refine⟨by simp [r.1],by simp,fun i s h=>?_,by rw[j];exact aj8,fun a f=>by rw[j] at f;exact 213 f ab3,C,w⟩;have I:=(ac1.mp h).1;rw[ac6,aa9,ak6] at I;have f:(206 (ds.length+n) 169)[i]?=some []:=by rw[ad7,if_pos I]
 by_cases z:i < ds.length
 . rw[ae9 (by rw[aa9];exact z),ab8,ab2 z] at h;cases h;obtain⟨v,u,F⟩:=r.get (ab2 z);exact⟨some v,[],by rw[ae9 (by rw[aa9,r.1];exact z),ab8,u];rfl,f,rfl,v,rfl,F⟩
 . rw[af4 (by rw[aa9];omega),ad7] at h;split at h
   . rename_i V;cases h;rw[aa9] at V;exact⟨none,[],by rw[af4 (by rw[aa9,r.1];omega),ad7,if_pos (by rw[aa9,r.1];exact V)],f,rfl⟩
   . cases h
def mq {x qual : Str} {st : Stmt} {k : Nat} (F : eW K x qual st f fd) (sc : aD N ps (ae st)) (p : ∀ t G, S t G -> t.length = ps.length) (L : ∀ (bC : Value) (A : Around) (outer : List Env) (s : Shared) (H : Hp) (E : XK), bN k 139 ->
   ∃T,CH (jj dy P w K mg base N qual (ae st) f bC A outer s H E).EM (bS st) T/\ ∀t G,S t G->T {nx:=fun _=>G .aO,rt:=fun d _=>G d} (t.map .im++206 133 .no)):
  aU P w K mg base dy (k+1) f fd ps (bT S):=by
 refine F.ok sc (fun D H Q E h=>?_) (fun bC A outer s H D Q E O h=>?_)
 . obtain⟨M,t,G,I,r,q,_⟩:=h;rw[r.1];exact p t G q
 . obtain⟨M,t,G,I,r,q,U⟩:=h;obtain⟨T,V,Y⟩:=L bC A outer s H E O;refine⟨lS T,V,[⟨H,fun _=>False,M,M,none⟩],M,List.replicate (t.length+133) [],t.map .im++List.replicate 133 .no,_,?_,?_,Y t G q⟩
   . have e:L2.start N D=D.map some++List.replicate 133 none:=by unfold L2.start;rw[r.1,p t G q]
     rw[e];refine mv I r fun W X=>?_;rw[ab4.mp X];have J:(206 (t.length+133) 169).flatten= []:=by simp
     refine⟨fun b o e _=>e,fun b n=>n,fun a C=>by rw[J] at C;exact 213 C ab3,fun a h=>h,fun a h=> .inl h,fun d c e=>(by cases e),fun j s as h1 B _ a C=>?_⟩;rw[ad7] at B;split at B
     . cases B;exact 213 C ab3
     . cases B
   . have i : ∀ {g l u R m}, aE [⟨H, fun _ => False, M, M, none⟩] g l u R m -> aF H u /\ ∀ a, M a -> g a := fun y => by
       have k:=y.w _ (ab4.mpr rfl);exact⟨fun b o e=>k.bs b o e (fun z=>z),k.m0⟩
     refine⟨fun g l u R m y q=>U _ _ _ q (i y).1 .aO,fun g l u R m v d y Z q=>U _ _ _ q (i y).1 (Z.mono fun a o e n=>⟨e,fun z=>n ((i y).2 a z)⟩),fun _ _ _ _ _ _ z=>z.elim,fun _ _ _ _ _ _ z=>z.elim⟩
def x4(C:jW M H)(r:aB M H vs ds)(B:yF H d c t)(x:M d)(u:M c)(m:W=⟨H,fun a=>a=d\/a=c,M,M,some (d,c)⟩):
  aE [W] M ([d,c]::206 (ds.length+n) []) H (some (.ref d)::(vs.map some++206 n none)) (.bx t::(ds.map .im++206 n .no)):=by
 have R:=mv (Ws:= []) (n:=n) C r (fun W U=>213 U ab3);have l:(206 (ds.length+n) 169).flatten= []:=by simp
 have S:(([d,c]:List Addr)::206 (ds.length+n) []).flatten= [d,c]:=by rw[ag8,l,ai1]
 refine⟨by rw[ad6,ad6,R.ls],by rw[ad6,ad6,R.la],fun i s h=>?_,?_,fun a f=>?_,C,fun p U=>?_⟩
 . cases i with
   | zero=>cases h;exact⟨_,_,rfl,rfl,d,c,rfl,rfl,B⟩
   | succ i=>obtain⟨o,T,k,g,D⟩:=R.sl i s 195;exact⟨o,T,by simpa using k,by simpa using g,D⟩
 . rw[S];simp [B.ne]
 . rw[S] at f;simp only [ad8,ab3,or_false] at f;rcases f with rfl | rfl <;> assumption
 . rw[ab4.mp U,m];refine⟨fun b o e _=>e,fun b n=>n,fun a f=>?_,fun a h=>h,fun a h=> .inl h,fun q V e=>?_,fun j s T k g v a f=>?_⟩
   . rw[S] at f;simp only [ad8,ab3,or_false] at f;exact .inl f
   . cases e;exact⟨t,rfl,rfl⟩
   . cases j with
     | zero=>cases k;cases v
     | succ j=>
      rw[List.getElem?_cons_succ,ad7] at g;split at g
      . cases g;exact 213 f ab3
      . cases g
def fnB {x qual : Str} {st : Stmt} {k : Nat} (F : eW K x qual st f fd) (sc : aD N ps (ae st)) (j : ∀ t u G, S t u G -> u.length + 1 = ps.length) (fD : ∀ (bC : Value) (A : Around) (outer : List Env) (s : Shared) (H : Hp) (E : XK), bN k 139 ->
   ∃T,CH (jj dy P w K mg base N qual (ae st) f bC A outer s H E).EM (bS st) T/\ ∀t u G,S t u G->T {nx:=fun D=> ∃p,D[0]?=some (.bx p)/\G .aO p,rt:=fun d D=> ∃p,D[0]?=some (.bx p)/\G d p} (.bx t::(u.map .im++206 133 .no))):
  aU P w K mg base dy (k+1) f fd ps (Cq S):=by
 refine F.ok sc (fun vs H Q E h=>?_) (fun bC A outer s H vs Q E hr h=>?_)
 . obtain⟨M,d,c,t,I,u,G,rfl,J,V,O,B,r,q,_⟩:=h;rw[ad6,r.1];exact j t u G q
 . obtain⟨M,d,c,t,I,u,G,rfl,J,V,O,B,r,q,U⟩:=h;obtain⟨T,hT,hq⟩:=fD bC A outer s H E hr;refine⟨lS T,hT,[⟨H,fun a=>a=d\/a=c,M,M,some (d,c)⟩],M,[d,c]::List.replicate (u.length+133) [], .bx t::(u.map .im++List.replicate 133 .no),_,?_,?_,hq t u G q⟩
   . have e : L2.start N (.ref d :: I) = some (.ref d) :: (I.map some ++ List.replicate 133 none) := by
       unfold L2.start;rw[ad4,List.cons_append,ad6,r.1,j t u G q]
     rw[e];exact x4 J r B V O rfl
   . have i : ∀ {g m C R l p}, aE [⟨H, fun a => a = d \/ a = c, M, M, some (d, c)⟩] g m C R l -> l[0]? = some (.bx p) -> Kp d c H C /\ (∀ a, M a -> g a) /\ yF C d c p := fun {g m C R l p} y X => by
       have k:=y.w _ (ab4.mpr rfl);refine⟨fun b o e n1 n2=>k.bs b o e (fun z=>z.elim n1 n2),k.m0,?_⟩;obtain⟨t2,e1,Z⟩:=k.bx d c rfl;obtain⟨d3,c3,e3,L,Y⟩:=y.box X;rw[Z] at L;cases L;exact Y
     refine⟨fun g m C R l y j5=>(by obtain⟨p,X,q⟩:=j5;exact(U _ _ _ _ q (i y X).1 (i y X).2.2 .aO)),fun g m C R l v dd y r' jy=>(by obtain⟨p,X,q⟩:=jy;exact(U _ _ _ _ q (i y X).1 (i y X).2.2 (r'.mono fun a o e n=>⟨e,fun z=>n ((i y X).2.1 a z)⟩))),fun _ _ _ _ _ _ z=>z.elim,fun _ _ _ _ _ _ z=>z.elim⟩
end
def Kf(M:Addr->Prop)(H l:Hp):Prop:= ∀b o,H b=some o-> ¬M b->l b=some o
structure Yl(M:Addr->Prop)(H:Hp)(J:It)(aq:List Dt):Prop where
 go: ∀i H1 M',Kf M H H1->jW M' H1->(∀b,H b≠none-> ¬M b-> ¬M' b)->i < aq.length->J.go i H1/\ ∀x H2,J.wy i H1 x H2->aF H1 H2/\ ∃d,aq[i]?=some d/\Rep M' H2 x d
 stop: ∀H1,Kf M H H1->J.stop aq.length H1
abbrev rJ:=List Sl->(List Dt->List Sl->Prop)->Prop
inductive lI(t:rJ)(σ:L2.St)(H:Hp)(R:It->Hp->Prop):Prop
 | mk (W:List Wd) (M:Addr->Prop) (α:List 179) (δ:List Sl) (Qd:List Dt->List Sl->Prop) (h1:aE W M α H σ δ) (h2:t δ Qd) (h3: ∀aq δ' H' J,Qd aq δ'->aE W M α H' σ δ'->cW α H H'->Yl M H' J aq->R J H')
def PI.imp(h:PI X tg iter t)(i: ∀b H R,t' b H R->t b H R):PI X tg iter t':=fun a s b H R I q=>h a s b H R I (i _ _ _ q)
abbrev Iv(X:Cx)(tg iter:Expr)(t:rJ):Prop:=PI X tg iter (lI t)
section
variable{X:Cx}{tg e a b:Expr}{ta t:bD}{tA:gH}{p pos:Pos}
def tY{L:Int}:Yl M H (UI L n) ((219 n).map fun k=> .int (L+(k:Nat))):=by
 refine⟨fun i l d F O c I=>⟨?_,fun x J w=>?_⟩,fun l _=>?_⟩
 . rw[aa9,af0] at I;exact I
 . obtain⟨j,q⟩:=w;rw[aa9,af0] at I;subst j;subst q;exact⟨fun _ _ z=>z,.int (L+i),by rw[ab8,ak2 I];rfl,.int _⟩
 . show n<=_;rw[aa9,af0];exact ab6 _
inductive Kd(Q:List Dt->List Sl->Prop)(ds:List Dt)(δ':List Sl):Prop
 | mk (j:Int) (h1:ds= [.int j]) (h2: -(2^62)<=j) (h3:j < 2^62) (h4:Q ((219 j.toNat).map fun k=> .int (0+(k:Nat))) δ')
def TY(t:gH):rJ:=fun i Q=>t i fun u k=>Kd Q u k
inductive Kc(Q:List Dt->List Sl->Prop)(ds:List Dt)(δ':List Sl):Prop
 | mk (i j:Int) (h1:ds= [.int i,.int j]) (h2:(-(2^62)<=i/\i < 2^62/\ -(2^62)<=j/\j < 2^62)) (h3:Q ((219 (j - i).toNat).map fun k=> .int (i+(k:Nat))) δ')
def TV(t:gH):rJ:=fun i Q=>t i fun u k=>Kc Q u k
def mf(O:X.mg "range"=none)(f:Av X [a] tA)(c:Gl X "range":=by rfl)(n:209 [a] 216= [(false,eval a 216)]:=by rfl):Iv X tg (.Call (.Name "range" p) [a] [] pos) (TY tA):=PI.imp (AX c O f n) fun d H R N=>(by obtain⟨W,M,P,i,G,E,q,k⟩:=N;exact(
 ⟨W,M,P,i,_,E,q,fun y l r z m T F w=>(by obtain⟨j,e,Z,v,s⟩:=m;exact(by
  subst e;obtain⟨x,A,rfl,h,u⟩:=w.aK;cases u.cD;cases h.ofInt;exact⟨j,rfl,Z,v,k _ _ _ _ s T F tY⟩))⟩))
def iT(O:X.mg "range"=none)(f:Av X [a,b] tA)(c:Gl X "range":=by rfl)(n:209 [a,b] 216= [(false,eval a 216),(false,eval b 216)]:=by rfl)(S:209 [b] 216= [(false,eval b 216)]:=by rfl):Iv X tg (.Call (.Name "range" p) [a,b] [] pos) (TV tA):=PI.imp (AW c O f n S) fun d H R Y=>(by obtain⟨W,M,P,o,G,E,q,k⟩:=Y;exact(
 ⟨W,M,P,o,_,E,q,fun z r v A N T F w=>(by obtain⟨i,j,e,l,s⟩:=N;exact(by
  subst e;obtain⟨x,B,rfl,h,u⟩:=w.aK;obtain⟨y,C,rfl,g,m⟩:=u.aK;cases m.cD;cases h.ofInt;cases g.ofInt;exact⟨i,j,rfl,l,k _ _ _ _ s T F tY⟩))⟩))
def oZ(r:aB M H xs ds)(F:Kf M H H1)(c: ∀b,H b≠none-> ¬M b-> ¬M' b):aB M' H1 xs ds:=r.mono fun a o e n=>⟨F a o e n,c a (by rw[e];intro z;cases z) n⟩
def Hw{K:207}{M:Addr->Prop}{H:Hp}{a:Addr}(h:H a=some (.lst xs))(n: ¬M a)(r:aB M H xs ds):Yl M H (Zq K a) ds:=by
 refine⟨fun i l d F O c I=>?_,fun l F=>⟨xs,dr.of (F _ _ h n),by rw[r.1];exact ab6 _⟩⟩;have J:=oZ r F c;have j:xs[i]?=some (xs[i]'(by rw[r.1];exact I)):=ab2 _;refine⟨⟨xs,_,dr.of (F _ _ h n),j⟩,fun x L Y=>?_⟩;obtain⟨e,y⟩:=Y;subst e;have:=y xs (dr.of (F _ _ h n));exact⟨fun _ _ z=>z,_,ab2 I,J.2 i x _ this (ab2 I)⟩
def MU{K:207}{M:Addr->Prop}{H:Hp}{a:Addr}(h:H a=some (.tup xs))(n: ¬M a)(r:aB M H xs ds):Yl M H (Zp K a) ds:=by
 refine⟨fun i l d F O c I=>?_,fun l F=>⟨xs,dH.of (F _ _ h n),by rw[r.1];exact ab6 _⟩⟩;have J:=oZ r F c;have j:xs[i]?=some (xs[i]'(by rw[r.1];exact I)):=ab2 _;refine⟨⟨xs,_,dH.of (F _ _ h n),j⟩,fun x L C=>?_⟩;obtain⟨e,y⟩:=C;subst e;have:=y xs (dH.of (F _ _ h n));exact⟨fun _ _ z=>z,_,ab2 I,J.2 i x _ this (ab2 I)⟩
inductive PZ(Q:List Dt->List Sl->Prop)(d:Dt)(δ':List Sl):Prop
 | mk (ds:_) (h1:d= .lst ds) (h2:Q ds δ')
def T7(t:bD):rJ:=fun i Q=>t i fun d k=>PZ Q d k
inductive PY(Q:List Dt->List Sl->Prop)(d:Dt)(δ':List Sl):Prop
 | mk (ds:_) (h1:d= .tup ds) (h2:Q ds δ')
def YO(t:bD):rJ:=fun i Q=>t i fun d k=>PY Q d k
def mi(h:Ev X e t):Iv X tg e (T7 t):=PI.imp (Iz h) fun c H R Y=>(by obtain⟨W,M,N,i,G,E,q,k⟩:=Y;exact(⟨W,M,N,i,_,E,q,fun d l r v Q T F w=>(by obtain⟨u,e,s⟩:=Q;exact(by
 subst e;obtain⟨a,g,rfl,f,n,I⟩:=w.eE;exact⟨a,rfl,⟨g,dr.of f⟩,k _ _ _ _ s T F (Hw f n I)⟩))⟩))
def Fj(h:Ev X e t):Iv X tg e (YO t):=PI.imp (NR h) fun j H R Y=>(by obtain⟨W,M,N,i,G,E,q,k⟩:=Y;exact(⟨W,M,N,i,_,E,q,fun d l r v c T F w=>(by obtain⟨u,e,s⟩:=c;exact(by
 subst e;obtain⟨a,g,rfl,f,n,I⟩:=w.bU;exact⟨a,rfl,⟨g,dH.of f⟩,k _ _ _ _ s T F (MU f n I)⟩))⟩))
def bQ(k:Nat)(ds:List Dt):List Dt:=ds.mapIdx fun i d=> .tup [.int ((i+k:Nat):Int),d]
def yH{K:207}{M:Addr->Prop}{H:Hp}{a:Addr}{k:Nat}(h:H a=some (.tup xs))(n: ¬M a)(r:aB M H xs ds):Yl M H (QV K a k) (bQ k ds):=by
 have z:(bQ k ds).length=ds.length:=by unfold bQ;rw[as0]
 refine⟨fun i l d F O c I=>?_,fun l F=>⟨xs,dH.of (F _ _ h n),by rw[r.1,z]⟩⟩;rw[z] at I;have J:=oZ r F c;have m:xs[i]?=some (xs[i]'(by rw[r.1];exact I)):=ab2 _;refine⟨⟨xs,_,dH.of (F _ _ h n),m⟩,fun x N L=>?_⟩;obtain⟨v,y,j,q,A,u⟩:=L;subst j;subst A;have o:=u xs (dH.of (F _ _ h n));have s:aF l (upd l v (.tup [.int ((i+k:Nat):Int),y])):=aF.new q;refine⟨s,_,by unfold bQ;rw[aq1,ab2 I];rfl,Rep.g9 ag (O.fresh q) (.cons (.int _) (.one ((J.2 i y _ o (ab2 I)).same s)))⟩
inductive Kn(k:Nat)(Q:List Dt->List Sl->Prop)(es:List Dt)(δ':List Sl):Prop
 | mk (ds:_) (h1:es= [.tup ds]) (h2:Q (bQ k ds) δ')
def Uc(k:Nat)(t:gH):rJ:=fun i Q=>t i fun P l=>Kn k Q P l
def zE{x1}(O:X.mg "enumerate"=none)(f:Av X [e] tA)(c:Gl X "enumerate":=by rfl)(o:209 [e] 216= [(false,eval e 216)]:=by rfl):Iv X 191 (.Call (.Name "enumerate" p) [e] [] pos) (Uc 0 tA):=PI.imp (Eh c O f o) fun d H R h=>(by obtain⟨W,M,N,j,J,E,q,k⟩:=h;exact(
 ⟨W,M,N,j,_,E,q,fun es l r y F T G w=>(by obtain⟨v,e,s⟩:=F;exact(by
  subst e;obtain⟨x,z,rfl,i,u⟩:=w.aK;cases u.cD;obtain⟨a,g,rfl,f,n,I⟩:=i.bU;exact⟨a,rfl,⟨g,dH.of f⟩,k _ _ _ _ s T G (yH f n I)⟩))⟩))
def cX(xs q:List Dt):List Dt:=List.zipWith (fun x y=> .tup [x,y]) xs q
def WD(b:Bool)(ds:List Dt):Dt:=if b then .tup ds else .lst ds
def Rep.R5{b:Bool}(h:Rep M H v (WD b ds)): ∃a g,v= .ref a/\qj b H a g/\ ¬M a/\aB M H g ds/\ ∀l,Kf M H l->qj b l a g:=by
 cases b with
 | true=>obtain⟨a,g,e,f,n,r⟩:=Rep.bU h;exact⟨a,g,e,f,n,r,fun l k=>k _ _ f n⟩
 | false=>obtain⟨a,g,e,f,n,r⟩:=Rep.eE h;exact⟨a,g,e,f,n,r,fun l k=>k _ _ f n⟩
def MT(k1: ∀l,Kf M H l->qj b1 l a1 xs)(k2: ∀l,Kf M H l->qj b2 l a2 ys)(r:aB M H xs ds)(j:aB M H ys es):Yl M H (UH b1 b2 a1 a2) (cX ds es):=by
 have A:(cX ds es).length=min ds.length es.length:=by unfold cX;rw[ao2]
 refine⟨fun i l E F O c I=>?_,fun l F=>⟨xs,ys,k1 _ F,k2 _ F,by rw[A,r.1,j.1];grind⟩⟩;rw[A] at I;have J:=oZ r F c;have m:=oZ j F c;have D:ds[i]?=some (ds[i]'(by grind)):=ab2 _;have z:es[i]?=some (es[i]'(by grind)):=ab2 _;obtain⟨x,h,g⟩:=J.get D;obtain⟨y,k,C⟩:=m.get z;refine⟨⟨xs,x,ys,y,k1 _ F,h,k2 _ F,k⟩,fun v L T=>?_⟩;obtain⟨o,G,N,n,q,B,u,w⟩:=T;subst n;subst B;have d:=u xs (k1 _ F);have f:=w ys (k2 _ F);rw[h] at d;cases d;rw[k] at f;cases f;have s:aF l (upd l o (.tup [x,y])):=aF.new q;exact⟨s,_,by unfold cX;rw[List.getElem?_zipWith,D,z],Rep.g9 ag (O.fresh q) (.cons (g.same s) (.one (C.same s)))⟩
inductive PL(Q:List Dt->List Sl->Prop)(es:List Dt)(δ':List Sl):Prop
 | mk (b1 b2 Yx Yv:_) (h1:es= [WD b1 Yx,WD b2 Yv]) (h2:Q (cX Yx Yv) δ')
def YC(t:gH):rJ:=fun i Q=>t i fun P k=>PL Q P k
def qL{x1}(g:Av X [e,f] tA)(B: ∀{t:TA},PA X [e,f] t->PI X 191 (.Call (.Name "zip" p) [e,f] [] pos) (Sy t)):Iv X 191 (.Call (.Name "zip" p) [e,f] [] pos) (YC tA):=PI.imp (B g) fun c H R U=>(by obtain⟨W,M,N,r,G,E,q,k⟩:=U;exact(
 ⟨W,M,N,r,_,E,q,fun es C D O V T F z=>(by obtain⟨Q,j,L,J,e,s⟩:=V;exact(by
  subst e;obtain⟨x,Y,rfl,h,A⟩:=z.aK;obtain⟨y,Z,rfl,l,m⟩:=A.aK;cases m.cD;obtain⟨a,o,rfl,g,n,I,P⟩:=h.R5;obtain⟨d,u,rfl,v,S,i,w⟩:=l.R5;exact⟨Q,j,a,d,o,u,rfl,g,v,k _ _ _ _ s T F (MT P w I i)⟩))⟩))
abbrev wa:=Dt->List Sl->(List Sl->Prop)->Prop
inductive lG(g:wa)(v:V)(σ:L2.St)(H:Hp)(Q:L2.St->Hp->Prop):Prop
 | mk (W:List Wd) (M:Addr->Prop) (α:List 179) (δ:List Sl) (d:Dt) (Qd:List Sl->Prop) (h1:aE W M α H σ δ) (h2:Rep M H v d) (h3:g d δ Qd) (h4: ∀α' δ' σ',Qd δ'->aE W M α' H σ' δ'->(∀x∈α'.flatten,x∈α.flatten)->Q σ' H)
def PG.imp{X:Cx}{tg:Expr}{t t':TG}(h:PG X tg t)(i: ∀v d H Q,t' v d H Q->t v d H Q):PG X tg t':=fun c s d H v u Q I r q=>h c s d H v u Q I r (i _ _ _ _ q)
abbrev Gv(X:Cx)(tg:Expr)(g:wa):Prop:=PG X tg (lG g)
def x8(i:Nat):wa:=fun d j Q=>bP j i/\Q (j.set i (.im d))
def bV{α:List 179}: ∀x∈(α.set i []).flatten,x∈α.flatten:=fun x h=>(bW h).elim id fun z=>213 z ab3
def aY: ∀v c H Q,lG (x8 i) v c H Q->bY i v c H Q:=fun v c H Q P=>(by obtain⟨W,M,N,j,d,G,E,r,⟨l,q⟩,k⟩:=P;exact(k _ _ _ q (E.gn r l) bV))
def gR(i:Nat)(c:236)(hi:X.N[i]?=some x:=by rfl)(h:Loc X.env.scope x:=by first | exact Or.inl rfl | exact Or.inr rfl)(j:X.fn x=true\/X.env.scope.names.lookup x=some .local:=by first | exact .inl rfl | exact .inr rfl | assumption):Gv X (.Name x pos) (x8 i):=PG.imp (az c hi h j) aY
inductive Gd(i:Nat)(j:Nat)(d:Dt)(δ:List Sl)(Q:List Sl->Prop):Prop
 | mk (d1 d2:_) (h1:d= .tup [d1,d2]) (h2:bP δ i) (h3:bP (δ.set i (.im d1)) j) (h4:Q ((δ.set i (.im d1)).set j (.im d2)))
def bq{i j:Nat}{K:207}: ∀v c H Q,lG (Gd i j) v c H Q->BH K 2 (eJ (bY i) (eJ (bY j) vp)) v c H Q:=fun v c H Q w=>(by obtain⟨W,M,N,F,d,G,E,r,⟨z,B,e,m,o,q⟩,k⟩:=w;exact(by
 subst e;obtain⟨a,A,rfl,f,n,I⟩:=r.bU;obtain⟨x,C,rfl,l,u⟩:=I.aK;obtain⟨y,D,rfl,g,s⟩:=u.aK;cases s.cD;exact⟨a,_,rfl,dH.of f,rfl,x,_,rfl,y,_,rfl,rfl,k _ _ _ q ((E.gn l m).gn g o) fun x h=>bV x (bV x h)⟩))
def FK(i j:Nat)(m:X.calm=true)(c:X.N.Nodup)(hi:X.N[i]?=some x:=by rfl)(g:X.N[j]?=some y:=by rfl)(h:Loc X.env.scope x:=by first | exact Or.inl rfl | exact Or.inr rfl)(l:Loc X.env.scope y:=by first | exact Or.inl rfl | exact Or.inr rfl)(k:X.fn x=true\/X.env.scope.names.lookup x=some .local:=by first | exact .inl rfl | exact .inr rfl | assumption)(n:X.fn y=true\/X.env.scope.names.lookup y=some .local:=by first | exact .inl rfl | exact .inr rfl | assumption)(V:(161).length=2:=by rfl)(R:(161).findIdx? (·.1)=none:=by rfl)(d:(161).map (·.2)=assign (.Name x px) X.env::(assignEach [.Name y py] X.env).map (·.2):=by rfl)(f:(assignEach [.Name y py] X.env).map (·.2)=assign (.Name y py) X.env::(assignEach [] X.env).map (·.2):=by rfl):
  Gv X (.Tuple [.Name x px,.Name y py] kk pos) (Gd i j):=PG.imp (cM m (aH (az c hi h k) (aH (az c g l n) bO f) d) V R) bq
end
section
variable{X:Cx}{tg iter c:Expr}{body:List Stmt}{ti:rJ}{g:wa}{tb:j3}{u:lF}{pos:Pos}
def Ub(ti:rJ)(g:wa)(tb:j3):j3:=fun E j=>ti j fun v M=> ∃P:Nat->List Sl->Prop,P 0 M/\(∀i d W,v[i]?=some d->P i W->g d W fun D=>tb {E with nx:=P (i+1),ct:=P (i+1),bk:=E.nx} D)/\ ∀W,P v.length W->E.nx W
def jm(hc:X.calm=true)(hi:Iv X tg iter ti)(hg:Gv X tg g)(S:CH X body tb)(hp:PassesOwn 107 X.A X.env X.xe)(hs: ∀x,225 iter X.env x=pure x:=by intro _;rfl):Ex X (.For tg iter body [] pos) (Ub ti g tb):=
 PS.imp (NP hp hc hi hg S hs) fun D σ H cB=>(by obtain⟨Q,M,α,δ,Δ,E,L,q⟩:=cB;exact(⟨Q,M,α,δ,_,E,q,fun C Y t J fX E1 c1 yl=>(by obtain⟨P,p0,j,fin⟩:=fX;exact(by
  refine⟨fun i m R r=>m=C.length - i/\i<=C.length/\ ∃h o k,aE (⟨t,M,fun _=>False,M,none⟩::Q) h o r R k/\P i k,⟨C.length,by simp,af2 _,M,α,Y,E1.loop,p0⟩,?_⟩;rintro i m R r ⟨rfl,hi,h,o,k,I,p'⟩
  have w:=I.w _ ac9;have kf:Kf M t r:=w.bs;have S: ∀b,t b≠none-> ¬M b-> ¬h b:=fun b n z y=>(w.m1 b y).elim z n;by_cases a:i < C.length
  . obtain⟨go,wy⟩:=yl.go i r h kf I.al S a;refine .inr ⟨go,fun p N=> ∃M2 T W,aE (⟨t,M,fun _=>False,M,none⟩::Q) M2 T N p W/\P (i+1) W,fun p N z=>⟨C.length - (i+1),by grind,rfl,a,z⟩,fun x N y=>?_⟩;obtain⟨s,d,hd,rx⟩:=wy x N y;refine⟨_,h,o,k,d,_,I.same s,rx,j i d k hd p',fun U Z σ3 q3 E3 _=>?_⟩;refine⟨_,h,U,Z,{Δ with nx:=P (i+1),ct:=P (i+1),bk:=Δ.nx},E3,⟨fun V F O f l G B=>⟨V,F,l,G,B⟩,fun V F O f l v d G r4 B=>L.rt _ _ _ _ _ _ _ G.drop r4 B,fun V F O f l G B=>L.nx _ _ _ _ _ G.drop B,fun V F O f l G B=>⟨V,F,l,G,B⟩⟩,q3⟩
  . have e:i=C.length:=by grind
    subst e;exact .inl ⟨yl.stop r kf,L.nx _ _ _ _ _ I.drop (fin _ p')⟩))⟩))
def Gn(u:lF)(tb:j3):j3:=fun E i=> ∃P:Nat->List Sl->Prop,(∃m,P m i)/\ ∀m M,P m M->u M fun b W=>if b=true then tb {E with nx:=fun D=> ∃N,N < m/\P N D,ct:=fun D=> ∃N,N < m/\P N D,bk:=E.nx} W else E.nx W
def HW(t:Tv X c u)(j:CH X body tb)(C:PassesOwn 107 X.A X.env X.xe):Ex X (.While c body [] pos) (Gn u tb):=
 PS.imp (D5 C t j) fun D σ H v=>(by obtain⟨s,M,Z,a,J,E,L,P,⟨S,U⟩,turn⟩:=v;exact(by
  refine⟨fun m R q=> ∃d n k,aE s d n q R k/\P m k,⟨S,M,Z,a,E,U⟩,?_⟩;rintro m R q ⟨d,n,k,B,T⟩
  refine⟨s,d,n,k,_,B,turn m k T,fun b W H2 e p c2=>?_⟩;cases b with
  | true=>
   rw[if_pos rfl] at e ⊢;refine⟨fun O Q=> ∃N,N < m/\ ∃h y F,aE s h y Q O F/\P N F,fun O Q z=>z,?_⟩;exact⟨s,d,n,W,{J with nx:=fun F=> ∃N,N < m/\P N F,ct:=fun F=> ∃N,N < m/\P N F,bk:=J.nx},p,⟨fun V G r f o I Y=>(by obtain⟨N,l,x⟩:=Y;exact(⟨N,l,V,G,o,I,x⟩)),L.rt,fun V G r f o I x=>L.nx _ _ _ _ _ I x,fun V G r f o I i=>(by obtain⟨N,l,x⟩:=i;exact(⟨N,l,V,G,o,I,x⟩))⟩,e⟩
  | false=>
   rw[if_neg ab9] at e ⊢;exact L.nx _ _ _ _ _ p e))
end
def seen:Sl->Sl
 | .im d=> .im d
 | .fn f=> .fn f
 | _=> .no
def cin(nt:Nat)(js:List Nat)(i:List Sl):List Sl:=206 nt .no++js.map fun j=>seen (i.getD j .no)
def tE{js:List Nat}(E:aE Ws M α H σ δ):aE [] M (206 (nt+js.length) []) H (hG nt js σ) (cin nt js δ):=by
 have m:(206 (nt+js.length) 169).flatten= []:=by simp
 refine⟨by simp [hG,cin],by simp [cin],fun i s h=>?_,by rw[m];exact aj8,fun a g=>by rw[m] at g;exact 213 g ab3,E.al,fun W U=>213 U ab3⟩;have I:=(ac1.mp h).1;have L:i < nt+js.length:=by simpa [cin] using I
 have g:(206 (nt+js.length) 169)[i]?=some []:=by rw[ad7,if_pos L]
 unfold cin at h;unfold hG;by_cases z:i < nt
 . rw[ae9 (by simpa using z),ad7,if_pos z] at h;cases h;exact⟨none,[],by rw[ae9 (by simpa using z),ad7,if_pos z],g,rfl⟩
 . rw[af4 (by simpa using z),ak6,ab8] at h;cases l:js[i - nt]? with
   | none=>rw[l] at h;cases h
   | some j=>
    rw[l] at h;have n:seen (δ.getD j .no)=s:=215 h;refine⟨(σ[j]?).join,[],by rw[af4 (by simpa using z),ak6,ab8,l];rfl,g,?_⟩;cases D:δ[j]? with
    | none=>
     have:δ.getD j .no= .no:=by rw[List.getD,D];rfl
     rw[this] at n;subst n;rfl
    | some s'=>
     have e:δ.getD j .no=s':=by rw[List.getD,D];rfl
     rw[e] at n;cases s' with
     | im d=>
      subst n;obtain⟨v,k,r⟩:=E.im D;exact⟨rfl,v,by rw[k];rfl,r⟩
     | fn f=>
      subst n;obtain⟨q,o,k,_,_,C⟩:=E.sl j _ D;exact⟨rfl,by rw[k,C];rfl⟩
     | _=>subst n;rfl
section
variable{X:Cx}{N:List Str}{nt:Nat}{js:List Nat}{scope:Scope}{elt tg iter:Expr}{ifs:List Expr}{pos:Pos}{ti:rJ}{g:wa}{tc:lF}{te:bD}
def Gz(nt:Nat)(js:List Nat)(ti:rJ)(g:wa)(tc:lF)(te:bD):yC:=fun i Q=>ti i fun v M=>v.length<=208/\ ∃(p:Dt->Bool) (f:Dt->Dt),(∀d∈v,g d (cin nt js M) fun W=>tc W fun b D=>b=p d/\(b=true->te D fun r _=>r=f d))/\Q ((v.filter p).map f) M
def ra(vh: ∀v j H Q,lG g v j H Q->gh v j H Q): ∀j H Q,lO (Gz nt js ti g tc te) j H Q->Dj nt js (lI ti) gh (lT tc) (lE te) j H Q:=fun j H Q cB=>(by obtain⟨W,M,α,δ,Qd,E,q,k⟩:=cB;exact(by
 refine⟨W,M,α,δ,_,E,q,fun A R l J fX T c1 yl D Y=>?_⟩;obtain⟨hsz,p,f,P,q1⟩:=fX;have s0:aF l (upd l D (.lst [])):=aF.new Y;refine⟨fun i m I L=>m=A.length - i/\i<=A.length/\L D=some (.lst I)/\aB 114 L I (((A.take i).filter p).map f)/\aF l L/\jW 114 L,⟨A.length,by simp,af2 _,ag,.nil,s0,fun a t=>?_⟩,?_⟩
 . rcases t with t | t
   . obtain⟨o,e,n⟩:=T.al a t;exact⟨o,s0 _ _ e,n⟩
   . subst t;exact 167
 rintro i m I L ⟨rfl,hi,S,O,G,Lx⟩
 have kf:Kf M l L:=fun b o e _=>G _ _ e;by_cases fC:i < A.length
 . have c: ∀b,l b≠none-> ¬M b-> ¬114 b:=fun b n z y=>y.elim z fun w=>n (by rw[w];exact Y);obtain⟨go,wy⟩:=yl.go i L 114 kf Lx c fC;have C:I.length < sizeLine:=by
    rw[O.1,aa9];exact ao9 (ad9 (al9 _ _) (by rw[am0];omega)) (ae2 fC hsz)
   refine .inr ⟨go,C,fun cf B=>B D=some (.lst cf)/\aB 114 B cf (((A.take (i+1)).filter p).map f)/\aF l B/\jW 114 B,fun cf B lK=>(by obtain⟨z1,z2,z3,z4⟩:=lK;exact(⟨A.length - (i+1),by omega,rfl,fC,z1,z2,z3,z4⟩)),fun x H3 y=>?_⟩;obtain⟨s3,d,hd,rx⟩:=wy x H3 y;have E2:aE [] 114 (206 (nt+js.length) []) L (hG nt js j) (cin nt js R):=by
    have su:aF (upd l D (.lst I)) L:=fun b o e=>by
     by_cases c:b=D
     . subst c;rw[ag] at e;cases e;exact S
     . rw[ah c] at e;exact G _ _ e
    have Ea:aE [] 114 α L j R:=⟨T.ls,T.la,fun i s h=>let ⟨o,as,h1,h2,h3⟩:=T.sl i s h;⟨o,as,h1,h2,(h3.grow (u:= .lst I) Y).same su⟩,T.nd,fun a h=> .inl (T.mu a h),Lx,fun W hW=>213 hW ab3⟩
    exact tE Ea
   have E3:=E2.same s3;have bK:(206 (nt+js.length) 169).flatten= []:=by simp
   refine vh _ _ _ _ ⟨[],_,_,_,d,_,E3,rx,P d (ae4 hd),fun F δ4 σ4 q4 E4 hα=>?_⟩;have Hl:F.flatten= []:=al7.mpr fun x hx=>by have:=hα x hx;rw[bK] at this;exact 213 this ab3
   refine⟨[],_,F,δ4,_,E4,q4,fun b δ5 H5 j5 E5 c5=>?_⟩;obtain⟨hp,q5⟩:=j5;have s5:aF H3 H5:=fun b o e=>c5 b o e (by rw[Hl];exact ab3);have Z:aF L H5:=fun b o e=>s5 _ _ (s3 _ _ e);have tk:A.take (i+1)=A.take i++ [d]:=by rw[ap7,hd];rfl
   cases b with
   | false=>
    refine bo ⟨Z _ _ S,?_,fun b o e=>Z _ _ (G _ _ e),E5.al⟩;rw[tk,as2,ad1];simp [<-hp];exact O.same Z
   | true=>
    refine bJ ⟨[],_,F,δ5,_,E5,q5 rfl,fun r δ6 U v e6 E6 c6 r6=>?_⟩;subst e6;have s6:aF H5 U:=fun b o e=>c6 b o e (by rw[Hl];exact ab3);have DP:aF L U:=fun b o e=>s6 _ _ (Z _ _ e);have Yg:=DP _ _ S;have up: ∀{zs:List V} {ds:List Dt},aB 114 U zs ds->aB 114 (upd U D (.lst (I++ [v]))) zs ds:=fun r=>r.mono fun a o e n=>⟨by rw[ah (fun z=>n (.inr z))];exact e,n⟩
    refine⟨Yg,ag,?_,fun b o e=>by rw[ah (au e Y)];exact DP _ _ (G _ _ e),fun a t=>?_⟩
    . rw[tk,as2,ad1];have e1:List.filter p [d]= [d]:=by simp [<-hp]
      rw[e1];exact up ((O.same DP).append (.one r6))
    . by_cases c:a=D
      . subst c;exact 167
      . rw[ah c];exact E6.al a t
 . have e:i=A.length:=by omega
   subst e;refine .inl ⟨yl.stop L kf,?_⟩;rw[al1] at O;have eH:upd 182 D (.lst I)=L:=by
    funext b
    by_cases c:b=D
    . subst c;rw[ag,S]
    . rw[ah c,if_neg c]
   rw[<-eH];have sH:aF l 182:=fun b o e=>by
    show(if b=D then none else L b)=some o;rw[if_neg (au e Y)];exact G _ _ e
   refine k _ _ _ _ _ q1 (T.same sH) (c1.tr (cW.of sH)) (O.mono fun a o e n=>⟨?_,fun z=>n (.inl z)⟩) (by show(if D=D then none else L D)=none;rw[if_pos rfl]);show(if a=D then none else L a)=some o;rw[if_neg (fun z=>n (.inr z))];exact e))
def cm(S:lC X N nt js scope)(m:X.calm=true)(hi:Iv X tg iter ti)(c: ∀s H i C t,PG 115 tg gh)(z:lB nt gh)(J: ∀v b H Q,lG g v b H Q->gh v b H Q)(j: ∀s H i C t,PF 115 ifs (lT tc))(y: ∀s H i C t,Ev 115 elt te)(n: ∀x,225 iter X.env x=pure x:=by intro _;rfl):Ov X 124 (Gz nt js ti g tc te):=PE.imp (IE S m hi c z j y n) (ra J)
def wV(i:Nat){u c:Pos}(e:X.N.Nodup)(S:lC X N nt js scope)(m:X.calm=true)(hi:Iv X tg iter ti)(f: ∀s H j C t,PG 177 tg gh)(B:lB nt gh)(J: ∀v b H Q,lG g v b H Q->gh v b H Q)(n: ∀s H j C t,PF 177 ifs (lT tc))(F: ∀s H j C t,Ev 177 elt te)(P:X.N[i]?=some y:=by rfl)(p:Loc X.env.scope y:=by first | exact Or.inl rfl | exact Or.inr rfl)(l:swapsWith 124 (some (.Name y c)) u.line X.env=pure true:=by rfl)(o: ∀x,foldedSetIterable iter X.env x=pure x:=by intro _;rfl)(O:X.fn y=true\/X.env.scope.names.lookup y=some .local:=by first | exact .inl rfl | exact .inr rfl | assumption):
  Ex X (.Assign [.Name y c] 124 u) (Gr i (Gz nt js ti g tc te)):=PS.imp (Iu e P p S m hi f B n F l o O) fun D b H h=>by
 obtain⟨w,M,U,V,Δ,E,L,q⟩:=h;exact ra J _ _ _ ⟨w,M,U,V,_,E,q,fun A W Y k a R T Z I d=>(by obtain⟨r,G⟩:=R;exact(L.nx _ _ _ _ _ (T.rX (s:= .ow A) d (fun k z=>by cases z) r rfl ⟨a,k,rfl,rfl,ag,I.grow d⟩) G))⟩
def Mq:lF:=fun i Q=>Q true i
def dE:PF X [] (lT Mq):=fun a s b H Q I Y=>(by obtain⟨W,M,O,i,G,E,q,k⟩:=Y;exact(NU a s b H Q I (k _ _ _ q E cW.rf)))
def zM(h:Tv X c t):PF X [c] (lT t):=NT h
def bX{nt i j:Nat}{K:207}(hi:i < nt:=by decide)(h:j < nt:=by decide):lB nt (BH K 2 (eJ (bY i) (eJ (bY j) vp))):=FG (qT hi (xV qS) (qT h qS FH))
end
end LD
namespace L2
open PySem PySem.Spec PyProof.Rows
section
variable{X:Cx}{pos:Pos}
def Rj(i j l:Nat)(Y:TA):TS:=fun D b H=>Y b H fun x m=> ∃u v w,x= [u,v,w]/\D.nx (((b.set l (some w)).set j (some v)).set i (some u)) m
def Iq{kt k2 xb}(T:X.calm=true)(f:X.N.Nodup)(hi:X.N[i]?=some x)(W:X.N[j]?=some y)(hl:X.N[l]?=some z)(k:X.env.scope.names.lookup x=some .local)(r:X.env.scope.names.lookup y=some .local)(g:X.env.scope.names.lookup z=some .local)(S:PA X [a,b,c] ta)(hw:swappedStores [.Tuple [.Name x px, .Name y py, .Name z pz] kt pt] (.Tuple [a,b,c] k2 xb) X.env=pure (some [x,y,z]))(hs:swapsWithSole [.Tuple [.Name x px, .Name y py, .Name z pz] kt pt] (.Tuple [a,b,c] k2 xb) pos.line X.env=pure false:=by rfl):
  PS X (.Assign [.Tuple [.Name x px,.Name y py,.Name z pz] kt pt] (.Tuple [a,b,c] k2 xb) pos) (Rj i j l ta):=by
 intro d s u H D I h;rw[exec_Assign_arm];refine aa8 (ah1 ?_);rw[hs];refine aa8 204;rw[if_neg 104];refine aa8 (Tuple_ (aV (S _ d s u H _ I h) fun us P O=>?_));obtain⟨vs,n,Y,r1,t⟩:=O;obtain⟨v1,v2,v3,Q,t⟩:=t;subst Q;obtain⟨J,U,B,rfl,C,F,E⟩: ∃J U B,us= [J,U,B]/\RelV v1 J/\RelV v2 U/\RelV v3 B:=by
  cases r1 with
  | cons p q=>cases q with
   | cons p' q'=>cases q' with
    | cons p2 q2=>cases q2;exact⟨_,_,_,rfl,p,p',p2⟩
 refine ag2 ?_ (by show 3<=208;decide);have G:Inv X d u n {P with heap:=P.heap.push {cls:= .type "tuple",data:= .seq [J,U,B].toArray}}:=Y.kept (t':=P.toks) fun b o e=>ab1 _ e;rw[hw];refine aa8 204;show 218 107 X.A (do rule "assign.swapped-stores";let m<-unpackItems (.ref 239) 3 none;assignInOrder [fun v=>bindName X.env z v,fun v=>bindName X.env y v,fun v=>bindName X.env x v] m.reverse;pure Flow.next) _ _ _;refine aa8 (ak3 (aa8 (unpackItems_tuple (items:= #[J,U,B]) (I.ok.hd T) (IsTup.new P.heap _) fun R xM=>?_)));have L:=G.kept (h':=R) (t':=P.toks) fun b o e=>xM b o (af1 (ac5 e)) e;show 218 _ _ (assignInOrder [fun v=>bindName X.env z v,fun v=>bindName X.env y v,fun v=>bindName X.env x v] [B,U,J] >>=fun _=>pure Flow.next) _ _ _;refine aa8 (ao8 (av3 (cY L f hl (.inl g) E (fun s2 Z=>?_) (.inr g))));refine ao8 (av3 (cY Z f W (.inl r) F (fun s3 M=>?_) (.inr r)));exact ao8 (av3 (cY M f hi (.inl k) C (fun s4 V=>assignInOrder_nil (ab0 ⟨_,n,V,t⟩)) (.inr k)))
end
end L2
namespace LD
open PySem PySem.Spec L2 LB PyProof.Rows
structure v7(Ws:List Wd)(M:Addr->Prop)(α:List 179)(a:Addr):Prop where
 m:M a
 n:a∉α.flatten
 w: ∀W∈Ws,(W.A0 a\/W.H0 a=none)/\ ¬W.M0 a
def HeR(M:Addr->Prop)(H:Hp)(v:V)(s:Sl)(as:List Addr):Prop:=s.cc=false/\qk M H (some v) s as
inductive tS(Ws:List Wd)(M:Addr->Prop)(α:List 179)(H:Hp):List V->List Sl->List Addr->Prop where
 | nil:tS Ws M α H [] [] []
 | cons {v:V} {s:Sl} {as bs:List Addr} {vs:List V} {ss:List Sl}:HeR M H v s as->(∀a∈as,v7 Ws M α a)->as.Nodup->(∀a∈as,a∉bs)->tS Ws M α H vs ss bs->tS Ws M α H (v::vs) (s::ss) (as++bs)
abbrev v9:=List Sl->(List Sl->List Sl->Prop)->Prop
inductive lH(t:v9)(σ:L2.St)(H:Hp)(Q:List V->Hp->Prop):Prop
 | mk (W:List Wd) (M:Addr->Prop) (α:List 179) (δ:List Sl) (Qd:List Sl->List Sl->Prop) (h1:aE W M α H σ δ) (h2:t δ Qd) (h3: ∀ss δ' H' vs M' bs,Qd ss δ'->aE W M' α H' σ δ'->cW α H H'->(∀a,M a->M' a)->(∀a,M' a->M a\/H a=none)->tS W M' α H' vs ss bs->(∀a∈bs,¬M a)->Q vs H')
abbrev Hv(X:Cx)(es:List Expr)(t:v9):Prop:=PA X es (lH t)
def qk.keep(h:qk M H o s as)(k: ∀b u,H b=some u-> ¬M b->H' b=some u/\ ¬M' b)(k2: ∀a∈as,∀u,H a=some u->H' a=some u)(x:s.cc=false):qk M' H' o s as:=by
 cases s with
 | no=>exact h
 | im d=>exact⟨h.1,let ⟨v,e,r⟩:=h.2;⟨v,e,r.mono k⟩⟩
 | ow ds=>obtain⟨a,i,j,p,y,r⟩:=h;subst j;exact⟨a,i,rfl,p,k2 a 111 _ y,r.mono k⟩
 | bx t=>cases x
 | dk ks ds=>obtain⟨a,z,j,p,y,w,r⟩:=h;subst j;exact⟨a,z,rfl,p,k2 a 111 _ y,w,r.mono k⟩
 | ob R=>obtain⟨v,e,r⟩:=h;exact⟨v,e,R.st r (fun a g u q=>k2 a g _ q) k⟩
 | fn f=>exact h
section
variable{X:Cx}{e:Expr}{es:List Expr}{t:bD}{th:v9}
def Yd:v9:=fun i Q=>Q [] i
def hIm(t:bD)(th:v9):v9:=fun i Q=>t i fun d M=>th M fun L W=>Q (.im d::L) W
def hOw(t:yC)(th:v9):v9:=fun i Q=>t i fun u M=>th M fun L W=>Q (.ow u::L) W
def Fz:Hv X [] Yd:=PA.imp aM fun b H Q w=>(by obtain⟨W,M,N,i,G,E,q,k⟩:=w;exact(k _ _ _ _ _ _ q E cW.rf (fun _ z=>z) (fun _ z=> .inl z) .nil (fun a f=>213 f ab3)))
def O6(f:Ev X e t)(p:Hv X es th)(r:209 (e::es) 216=(false,eval e 216)::209 es X.env:=by rfl):Hv X (e::es) (hIm t th):=PA.imp (aj f p r) fun v H Q P=>(by obtain⟨W,M,N,i,G,E,q,k⟩:=P;exact(
 ⟨W,M,N,i,_,E,q,fun d O m x s T F w=>⟨W,M,N,O,_,T,s,fun U Y J u h R g l b S V L c=>
  k _ _ _ _ _ _ g l (F.tr b) S (fun a z=>(V a z).elim .inl fun y=>by
   cases e:H a with
   | none=>exact .inr rfl
   | some o => by_cases j : a ∈ N.flatten
               . exact .inl (E.mu a j)
               . rw[F _ _ e j] at y;cases y)
   (tS.cons (as:= []) ⟨rfl,rfl,x,rfl,w.mono fun a o e n=>⟨b _ _ e fun z=>n (T.mu a z),fun z=>(V a z).elim n fun y=>by rw[e] at y;cases y⟩⟩ (fun a f=>absurd f ab3) aj8 (fun a f=>213 f ab3) L) c⟩⟩))
def aE.hold(E:aE W M α H σ δ)(B:H p=none)(m: ∀i,u≠ .tup i):aE W (fun b=>M b\/b=p) α (upd H p u) σ δ/\v7 W (fun b=>M b\/b=p) α p:=by
 have F:aF H (upd H p u):=aF.new B;have C:p∉α.flatten:=fun z=>E.fresh B (E.mu p z);have d: ∀c∈W,c.H0 p=none:=fun c U=>by
  cases e:c.H0 p with
  | none=>rfl
  | some o=>exact 213 B ((E.w c U).ex p (by rw[e];intro z;cases z))
 refine⟨⟨E.ls,E.la,fun j s g=>let ⟨o,as,h1,h2,h3⟩:=E.sl j s g;⟨o,as,h1,h2,h3.grow B⟩,E.nd,fun a h=> .inl (E.mu a h),fun a f=>?_,fun c U=>?_⟩,⟨.inr rfl,C,fun c U=>⟨.inr (d c U),fun z=>E.fresh B ((E.w c U).m0 p z)⟩⟩⟩
 . rcases f with f | f
   . obtain⟨o,e,n⟩:=E.al a f;exact⟨o,F _ _ e,n⟩
   . subst f;exact⟨u,ag,m⟩
 . have k:=E.w c U;exact⟨fun b o e n=>F _ _ (k.bs b o e n),fun b n y=>k.ex b n (LW.aF.none F y),k.fr,fun a h=> .inl (k.m0 a h),fun a h=>h.elim (k.m1 a) fun z=> .inr (by rw[z];exact d c U),k.bx,k.fz⟩
def qP(B:H1 p=none)(T:aE W M α H1 σ δ1)(hd:v7 W (fun b=>M b\/b=p) α p)(o:qk (fun b=>M b\/b=p) (upd H1 p u) (some (.ref p)) s [p])(v:s.cc=false)(k:aE W M' α H2 σ δ2)(c:cW α (upd H1 p u) H2)(S: ∀a,(M a\/a=p)->M' a)(V: ∀a,M' a->(M a\/a=p)\/(upd H1 p u) a=none)(L:tS W M' α H2 vs ss bs)(d: ∀a∈bs,¬(M a\/a=p)):tS W M' α H2 (.ref p::vs) (s::ss) ([p]++bs):=
 tS.cons ⟨v,o.keep (fun b w e n=>⟨c _ _ e fun z=>n (.inl (T.mu b z)),fun z=>(V b z).elim n fun y=>by rw[e] at y;cases y⟩) (fun a f w e=>c _ _ e (by rw[ab4.mp f];exact hd.n)) v⟩
  (fun a f=>by rw[ab4.mp f];exact⟨S p (.inr rfl),hd.n,hd.w⟩) 111 (fun a f=>by rw[ab4.mp f];exact fun z=>d p z (.inr rfl)) L
def Ly{α:List 179}{M M':Addr->Prop}(U: ∀a∈α.flatten,M a)(F:cW α H H1)(d:H1 p=none)(V:M' a->(M a\/a=p)\/(upd H1 p u) a=none)(z:M' a):M a\/H a=none:=by
 cases e:H a with
 | none=>exact .inr rfl
 | some o=>
  by_cases k:a∈α.flatten
  . exact .inl (U a k)
  . have j:=F _ _ e k;rcases V z with (y | y) | y
    . exact .inl y
    . subst y;rw[d] at j;cases j
    . rw[ah (au j d),j] at y;cases y
def Th{t:yC}(f:Ov X e t)(o:Hv X es th)(n:209 (e::es) 216=(false,eval e 216)::209 es X.env:=by rfl):Hv X (e::es) (hOw t th):=PA.imp (aj f o n) fun r H Q w=>(by obtain⟨W,M,O,i,I,E,q,k⟩:=w;exact(
 ⟨W,M,O,i,_,E,q,fun v N m g p x T F A d=>by
  have G:aF m (upd m p (.lst g)):=aF.new d;obtain⟨B,D⟩:=T.hold (u:= .lst g) d (fun g z=>by cases z);refine⟨W,_,O,N,_,B,x,fun R Y J C j P h l b S V L c=>?_⟩;exact k _ _ _ _ _ _ h l ((F.tr (cW.of G)).tr b) (fun a z=>S a (.inl z)) (fun a z=>Ly E.mu F d (V a) z) (qP (s:= .ow v) d T D ⟨p,g,rfl,rfl,ag,A.grow d⟩ rfl l b S V L c)
   (fun a f=>by
    rcases ad2.mp f with y | y
    . rw[ab4.mp y];exact T.fresh d
    . exact fun z=>c a y (.inl z))⟩))
end
def aE.ur(E:aE Ws M α H σ δ)(h:HeR M H v s as)(L: ∀a∈as,v7 Ws M α a)(G:as.Nodup)(u:bP δ i):aE Ws M (α.set i as) H (σ.set i (some v)) (δ.set i s):=by
 have I:=u.lt;obtain⟨J,S,F⟩:=u;refine⟨by rw[ae5,ae5,E.ls],by rw[ae5,ae5,E.la],fun j T p=>?_,cO E.nd G (fun x B=>(L x B).n),fun a g=>(bW g).elim (E.mu a) fun z=>(L a z).m,E.al,fun W U=>?_⟩
 . by_cases y:i=j
   . subst y;rw[ad5 I] at p;cases p;exact⟨some v,as,by rw[ad5 (by rw[E.ls];exact I)],by rw[ad5 (by rw[E.la];exact I)],h.2⟩
   . rw[ac2 y] at p;obtain⟨o,as,l,f,D⟩:=E.sl j T p;exact⟨o,as,by rw[ac2 y];exact l,by rw[ac2 y];exact f,D⟩
 . have k:=E.w W U;refine⟨k.bs,k.ex,fun a g=>(bW g).elim (k.fr a) fun z=>((L a z).w W U).1,k.m0,k.m1,fun d c e=>?_,fun j s C l f r=>?_⟩
   . obtain⟨t,q,A⟩:=k.bx d c e;have:i≠0:=fun z=>by subst z;rw[S] at q;cases q;cases F
     exact⟨t,by rw[ac2 this];exact q,by rw[ac2 this];exact A⟩
   . by_cases y:i=j
     . subst y;rw[ad5 (by rw[E.la];exact I)] at f;cases f;exact fun a g=>((L a g).w W U).2
     . rw[ac2 y] at l f;exact k.fz j s C l f r
def v7.set(h:v7 Ws M α a)(n:a∉as):v7 Ws M (α.set i as) a:=⟨h.m,fun z=>(bW z).elim h.n n,h.w⟩
section
variable{X:Cx}{a b c:Expr}{pos:Pos}{th:v9}
inductive Kh(i:Nat)(j:Nat)(Δ:dw)(ss:List Sl)(δ':List Sl):Prop
 | mk (s1 s2:_) (h1:ss= [s1,s2]) (h2:bP δ' i) (h3:bP (δ'.set i s1) j) (h4:Δ.nx ((δ'.set i s1).set j s2))
def T4(i j:Nat)(th:v9):j3:=fun E l=>th l fun L k=>Kh i j E L k
def DJ(i j:Nat){kt k2 xb}(o:X.calm=true)(d:X.N.Nodup)(f:Hv X [a,b] th)(hi:X.N[i]?=some x:=by rfl)(g:X.N[j]?=some y:=by rfl)(A:i≠j:=by decide)(h:X.env.scope.names.lookup x=some .local:=by rfl)(l:X.env.scope.names.lookup y=some .local:=by rfl)(B:swappedStores [.Tuple [.Name x px, .Name y py] kt pt] (.Tuple [a,b] k2 xb) X.env=pure (some [x,y]):=by rfl)(p:swapsWithSole [.Tuple [.Name x px, .Name y py] kt pt] (.Tuple [a,b] k2 xb) pos.line X.env=pure false:=by rfl):
  Ex X (.Assign [.Tuple [.Name x px,.Name y py] kt pt] (.Tuple [a,b] k2 xb) pos) (T4 i j th):=PS.imp (NO o d hi g A h l f B p) fun D σ H P=>(by obtain⟨s,M,Q,r,Δ,E,L,q⟩:=P;exact(
 ⟨s,M,Q,r,_,E,q,fun Z u w vs C R Y T I S V O J=>(by obtain⟨U,W,e,m,n,t⟩:=Y;exact(by
  subst e;cases O with
  | cons h1 h2 h3 h4 h5=>
   cases h5 with
   | cons g1 g2 g3 g4 g5=>
    cases g5;rename_i v1 k v2 v;have F:=T.ur h1 h2 h3 m;have G:=F.ur (i:=j) g1 (fun a f=>(g2 a f).set fun z=>h4 a z (by simpa using f)) g3 n;exact⟨_,_,rfl,L.nx _ _ _ _ _ G t⟩))⟩))
inductive Kg(i:Nat)(j:Nat)(l:Nat)(Δ:dw)(ss:List Sl)(δ':List Sl):Prop
 | mk (s1 s2 s3:_) (h1:ss= [s1,s2,s3]) (h2:bP δ' l) (h3:bP (δ'.set l s3) j) (h4:bP ((δ'.set l s3).set j s2) i) (h5:Δ.nx (((δ'.set l s3).set j s2).set i s1))
def T3(i j l:Nat)(th:v9):j3:=fun E m=>th m fun L k=>Kg i j l E L k
def Nv(i j l:Nat){x y z:Str}{F d G Q:Pos}{kt k2 xb}(o:X.calm=true)(g:X.N.Nodup)(f:Hv X [a,b,c] th)(hi:X.N[i]?=some x:=by rfl)(h:X.N[j]?=some y:=by rfl)(A:X.N[l]?=some z:=by rfl)
  (r:X.env.scope.names.lookup x=some .local:=by rfl) (t:X.env.scope.names.lookup y=some .local:=by rfl) (u:X.env.scope.names.lookup z=some .local:=by rfl)
  (B:swappedStores [.Tuple [.Name x F,.Name y d,.Name z G] kt Q] (.Tuple [a,b,c] k2 xb) 216=pure (some [x,y,z]):=by rfl)
  (p:swapsWithSole [.Tuple [.Name x F,.Name y d,.Name z G] kt Q] (.Tuple [a,b,c] k2 xb) pos.line 216=pure false:=by rfl):
  Ex X (.Assign [.Tuple [.Name x F,.Name y d,.Name z G] kt Q] (.Tuple [a,b,c] k2 xb) pos) (T3 i j l th):=PS.imp (Iq o g hi h A r t u f B p) fun D σ H C=>(by obtain⟨s,M,P,w,Δ,E,L,q⟩:=C;exact(
 ⟨s,M,P,w,_,E,q,fun ss R S vs V Y W T Z m1 m2 O hb=>(by obtain⟨s1,s2,s3,e,m,n,U,v⟩:=W;exact(by
  subst e;cases O with
  | cons h1 h2 h3 h4 h5=>
   cases h5 with
   | cons g1 g2 g3 g4 g5=>
    cases g5 with
    | cons f1 f2 f3 f4 f5=>
     cases f5;have I:=T.ur (i:=l) f1 f2 f3 m;have J:=I.ur (i:=j) g1 (fun a f=>(g2 a f).set fun z=>g4 a f (by simpa using z)) g3 n;have k:=J.ur (i:=i) h1 (fun a f=>((h2 a f).set fun z=>h4 a f (by simp [z])).set fun z=>h4 a f (by simp [z])) h3 U;exact⟨_,_,_,rfl,L.nx _ _ _ _ _ k v⟩))⟩))
end
def Sr:Dt->210 Key
 | .int i=>some (.inl i)
 | .str x=>some (.inr x)
 | _=>none
def Jn(r:Rep M H v d)(h:Sr d=some k):v=kV k:=by
 cases r <;> first | (cases h;rfl) | cases h
instance {k:Key} {O:List Key}:Decidable (k∈O):=decidable_of_iff ((O.any fun x=>decide (x=k))=true) 111
section
variable{X:Cx}{N:List Str}{nt:Nat}{js:List Nat}{scope:Scope}{elt tg iter e f a b:Expr}{ifs:List Expr}{pos:Pos}{ti:rJ}{g:wa}{tc:lF}{te t tv tb:bD}{ib jb:Nat}{gh:TG}
def YV(t:bD)(g:wa):j3:=fun E i=>t i fun d k=>g d k E.nx
def kd(y:Ev X e t)(c:Gv X tg g)(n:swapsWithSole [tg] e pos.line 216=pure false:=by rfl)(z:swappedStores [tg] e 216=pure none:=by rfl)(h:(222 [tg] 216).map (·.2)= [assign tg 216]:=by rfl):Ex X (.Assign [tg] e pos) (YV t g):=
 PS.imp (xf y c n z h) fun D p H P=>(by obtain⟨s,M,O,j,G,E,L,q⟩:=P;exact(⟨s,M,O,j,_,E,q,fun d k r v u T F w=>⟨s,M,O,k,d,_,T,w,u,fun m W o i l _=>L.nx _ _ _ _ _ l i⟩⟩))
end
def uq(K:207):Sp:=fun u H Q _=> ∃(a:Addr) (ns:List Int),u= [.ref a]/\dr K H a (ns.map V.int)/\ns.length<=63/\ ∀q,Q (.bl true) q
def uj:DB:=fun t u Q=> ∃m,u= [.int m]/\t < 1000000/\0 < m/\m < 2^64/\ ∀r,0<=r->r < m->Q (.int r) (t+1)
def HH(h:Cq uj vs H Q E):Dr vs H Q E:=by
 obtain⟨M,d,c,t,I,v,G,rfl,C,z,y,B,r,⟨m,rfl,p,n,S,q⟩,k⟩:=h;obtain⟨x,A,rfl,w,i⟩:=r.aK;cases i.cD;cases w.ofInt;exact⟨d,c,t,m,rfl,B,p,n,S,fun r u a w s o=>k _ _ _ _ (q r a w) o s (.int r)⟩
section
variable{P:214}{w:237}{K:207}{mg:Str->210 212}{base:Heap}
def Sn {st : Stmt} {k : Nat} (F : eW K "law" "law" st f fd) (y : aD N ["_law_script"] (ae st)) (hN : 2 <= N.length) (o : ∀ (bC : Value) (A : Around) (outer : List Env) (s : Shared) (H : Hp) (E : XK), bN k (A.deeper (envOfC "law" (ae st) s.heap.objs.size f bC)) ->
   ∃R B T,bS st=R::B/\PS (jj dy P w K mg base N "law" (ae st) f bC A outer s H E).EM R (Dm (Dl (rS K) [] E0 (qz (fg 0) um)) (bY 1))/\CH (jj dy P w K mg base N "law" (ae st) f bC A outer s H E).EM B T/\
    T {nx:=fun _=>False,rt:=fun d _=>d= .bl true} (.no:: .bx 0::206 (N.length - 2) .no)):aU P w K mg base dy (k+1) f fd ["_law_script"] (uq K):=by
 refine F.ok y (fun D H Q E h=>?_) (fun bC A outer s H D Q E p h=>?_)
 . obtain⟨a,S,rfl,_⟩:=h;rfl
 . obtain⟨a,S,rfl,M,n,q⟩:=h;obtain⟨R,B,T,e,l,m,X⟩:=o bC A outer s H E p;rw[e];refine⟨_,bf l m,?_⟩;have U:L2.start N [V.ref a]=some 190::none::List.replicate (N.length - 2) none:=by
    unfold L2.start;rw[show N.length - [V.ref a].length=(N.length - 2)+1 by show N.length - 1=_;omega,aj0];rfl
   rw[U];refine⟨_,rfl,a,S,rfl,M,n,fun d c H1 r x=>?_⟩;have j:(169:: [d,c]::206 (N.length - 2) []).flatten= [d,c]:=by simp
   refine⟨[],fun b=>b=d\/b=c,[]:: [d,c]::206 (N.length - 2) [],.no:: .bx 0::206 (N.length - 2) .no,_,?_,?_,X⟩
   . refine⟨by simp,by simp,fun i u I=>?_,by rw[j];simp [r.ne],fun b g=>by rw[j] at g;simpa using g,fun b g=>?_,fun W Y=>absurd Y ab3⟩
     . match i with
       | 0=>cases I;exact⟨_,_,rfl,rfl,rfl⟩
       | 1=>cases I;exact⟨_,_,rfl,rfl,d,c,rfl,rfl,r⟩
       | i+2=>
        have L:(206 (N.length - 2) Sl.no)[i]?=some u:=by simpa using I
        rw[ad7] at L;split at L
        . rename_i C;cases L;refine⟨none,[],?_,?_,rfl⟩
          . show(206 (N.length - 2) (none:210 V))[i]?=_;rw[ad7,if_pos C]
          . show(206 (N.length - 2) 169)[i]?=_;rw[ad7,if_pos C]
        . cases L
     . rcases g with rfl | rfl
       . exact⟨_,r.dc,fun G z=>by cases z⟩
       . obtain⟨S,h,_⟩:=r.cs;exact⟨_,h,fun G z=>by cases z⟩
   . exact⟨fun _ _ _ _ _ _ z=>z.elim,fun M' J t σ' O v dd E' Z z=>by subst z;rw[Z.uR];exact q t,fun _ _ _ _ _ _ z=>z.elim,fun _ _ _ _ _ _ z=>z.elim⟩
end
end LD
namespace PySem.SeqAt
open MeetsSeq
def BK{M:Model}{A:Around}{E:Value->Shared->Prop}{s:Shared}{N:Type}{r:Std.Legacy.Range}(f:Nat->N->Sem (ForInStep N))(I:List Nat->N->Shared->Prop)(Q:N->Shared->Prop)
  (turn: ∀x B b s,I (x::B) b s->218 M A (f x b) (fun r S=>match r with | .yield b'=>I B b' S | .done b'=>Q b' S) E s)
  (fin: ∀b s,I [] b s->Q b s) (b:N) (h:I (List.range' r.start r.size r.step) b s):218 M A (forIn r b f) Q E s:=by
 rw[Std.Legacy.Range.forIn_eq_forIn_range'];exact wpAny_forIn_list f I Q turn fin _ b h
def pY(l:Addr)(items:Array Value)(n:Nat)(dd:Option Addr)(M:Array (Option Value))(x:Value)(e:Value->Bool)(j:Nat)(u:j < items.size)(f:e items[j]=true)(p: ∀m (hm:m < items.size),m < j->e items[m]=false):
  Meets (Builtin.«tuple.index» ⟨[.ref l,x],[]⟩)
   (fun A R s=>s.heap.get? l=some {cls:= .type "tuple",dict:=dd,data:= .seq items n,slots:=M}/\(∀y,y∈items->EqAt A.in1 s y x (e y))/\R (.ok (.ret (.int j 235))) {s with toks:=235+1}):=
 .of_wp fun z w A R s h=>by
  obtain⟨G,g,d,I,r⟩:=s;obtain⟨F,E,h⟩:=h;wp_walk using ah5 F,BK _ (fun B b S=>b.1=none/\S=⟨G,g,d,I,r⟩/\ ∃i,B=List.range' i (items.size - i)/\i<=j) _
  case turn=>
   rintro y B b S ⟨c,rfl,i,o,H⟩
   have C:i < items.size:=by omega
   rw[show items.size - i=(items.size - (i+1))+1 by omega,at8] at o;obtain⟨k,q⟩:=List.cons.inj o;subst k;subst q;rw[af8 C];refine aa8 (E _ (Array.getElem_mem C) z w _ _ ?_);by_cases D:y=j
   . subst D;rw[f];wp_walk
     exact⟨_,rfl,h⟩
   . rw[p y C 163];wp_walk
     exact⟨rfl,rfl,y+1,rfl,by omega⟩
  case fin=>
   rintro⟨Q,t⟩ S ⟨c,rfl,i,o,H⟩
   have:items.size - i=0:=by
    have:=ah4 List.length o;simpa using this.symm
   omega
  case h=>
   exact⟨rfl,rfl,0,by simp [Std.Legacy.Range.size],af2 _⟩
end PySem.SeqAt
namespace L2
open PySem PySem.Spec PyProof.Rows
section
variable{X:Cx}
def Ij:V->List V->Hp->VK->Prop:=fun x v H Q=> ∃a g y j z,x= .ref a/\v= [y]/\H a=some (.tup g)/\eK y=true/\g.all eK=true/\g[j]?=some z/\wg z y=true/\(∀m u,m < j->g[m]?=some u->wg u y=false)/\Q (.int (j:Nat)) H
def Pn(r:Vals xs aq)(o:RelV y u)(d:eK y=true)(g:xs.all eK=true):
  ∃e:212->Bool,(∀v∈aq,SeqAt.EqAt A s v u (e v))/\ ∀(i:Nat) x v,xs[i]?=some x->aq[i]?=some v->e v=wg x y:=by
 refine⟨fun v=>match KG v with | some x=>wg x y | none=>false,fun v B=>?_,fun i x v h B=>?_⟩
 . obtain⟨i,H,e⟩:=ah7 B;have h:xs[i]?=some (xs[i]'(by rw[r.length];exact H)):=ab2 _;obtain⟨w,z,k⟩:=r.get h;rw[ab2 H,e] at z;cases z;show SeqAt.EqAt A s v u (match KG v with | some x=>wg x y | none=>false);rw[k.abs];exact FW k o (ag4.mp g _ (ae4 h)) d
 . obtain⟨w,z,k⟩:=r.get h;rw[B] at z;cases z;show(match KG v with | some x=>wg x y | none=>false)=_;rw[k.abs]
def Bh:Zm X "tuple.index" Ij:=by
 intro b s W H x V v Y Q I T R h;obtain⟨a,r,y,j,z,rfl,rfl,M,d,t,f,J,p,q⟩:=h;cases T;obtain⟨u,rfl,S⟩:=vals1 R;obtain⟨w,G,c,_⟩:=I.tuple (dH.of M);obtain⟨⟨l,E,k,U⟩,B,o,n,D⟩:=(show s.heap.IsTuple a w.toArray from c)
 simp only at o D;subst o D;obtain⟨e,N,C⟩:=Pn (A:=X.A.in1) (s:=s) G S d t;have g:j < w.length:=by rw[<-G.length];exact(ac1.mp f).1
 refine ar7 PySem.F.slot_tuple_index ⟨_,B,rfl⟩ PySem.F.entry_tuple_index (PySem.F.args_tuple_index_2 _ _) (SeqAt.pY a w.toArray n E U u e j (by simpa using g) ?_ ?_) ⟨B,fun z f=>N z (by simpa using f),⟨.int _,H,I.tok _,⟨_,rfl⟩,q⟩⟩
 . have:=C j z w[j] f (ab2 g);simpa using this.trans J
 . intro m P L;have O:m < w.length:=by simpa using P
   have i:r[m]?=some (r[m]'(by rw[G.length];exact O)):=ab2 _;have:=C m _ w[m] i (ab2 O);simpa using this.trans (p m _ L i)
end
end L2
namespace LD
open PySem PySem.Spec L2 LB PyProof.Rows
section
variable{X:Cx}{a b c e:Expr}{es:List Expr}{ta tb tc t:bD}{tA:gH}{pos p:Pos}
def ints_rep: ∀{xs:List V} {ns:List Int},aB M H xs (ns.map .int)->xs=ns.map V.int
 | [],[],_=>rfl
 | [],_::_,h=>by have:=h.1;simp at this
 | _::_,[],h=>by have:=h.1;simp at this
 | x::xs,n::ns,h=>by
  rw[ad4] at h;obtain⟨y,q,e,w,i⟩:=h.aK;cases e;rw[w.ofInt,ints_rep i,ad4]
def uB: ∀{ns:List Int},aB M H (ns.map V.int) (ns.map .int)
 | []=> .nil
 | n::ns=> .cons (.int n) uB
def tI:227 "sorted"=some (.builtin "sorted"):=by decide+kernel
def Cb:227 "all"=some (.builtin "all"):=by decide+kernel
def fP(h:aB M H xs [d]): ∃x,xs= [x]/\Rep M H x d:=by
 obtain⟨x,q,rfl,w,i⟩:=h.aK;cases i.cD;exact⟨x,rfl,w⟩
def rB: ∀{xs:List V} {ns:List Bool},aB M H xs (ns.map .bl)->xs=ns.map V.bl
 | [],[],_=>rfl
 | [],_::_,h=>by have:=h.1;simp at this
 | _::_,[],h=>by have:=h.1;simp at this
 | x::xs,n::ns,h=>by
  rw[ad4] at h;obtain⟨y,q,e,w,i⟩:=h.aK;cases e;rw[w.uR,rB i,ad4]
inductive UQ(ds:List Dt)(Q:Dt->Prop):Prop
 | mk (bs:List Bool) (h1:ds= [.lst (bs.map .bl)]) (h2:Q (.bl (bs.all id)))
def Mp(m:X.calm=true)(O:X.mg "all"=none)(f:Av X [e] tA)(d:Gl X "all":=by rfl)(y:starEach [e] X.env=(false,eval e X.env)::starEach [] X.env:=by rfl)(V:(backTo pos 137).any (·.1)=false:=by rfl):
  Ev X (.Call (.Name "all" p) [e] [] pos) (z0 UQ tA):=kX (GG m) (fun M H g u G Q C r Y k=>(by obtain⟨N,e,q⟩:=Y;exact(by
 subst e;obtain⟨x,rfl,w⟩:=fP r;obtain⟨a,A,rfl,f,n,I⟩:=w.eE;rw[rB I] at f;exact⟨a,N,rfl,dr.of f,k H _ _ q 187 (.bl _)⟩))) d O Cb f 104 104 y V
def dMt(R:Dt->List Dt->(Dt->Prop)->Prop)(ta:bD)(tA:gH):bD:=fun i Q=>ta i fun d M=>(∃u,d= .tup u)/\tA M fun es W=>R d es fun r=>Q r W
inductive KQ(d:Dt)(es:List Dt)(Q:Dt->Prop):Prop
 | mk (ds:List Dt) (x:Dt) (j:Nat) (z:Dt) (h1:d= .tup ds) (h2:es= [x]) (h3:eM x=true) (h4:ds.all eM=true) (h5:ds[j]?=some z) (h6:Me z x=true) (h7:(∀m u,m < j->ds[m]?=some u->Me u x=false)) (h8:Q (.int (j:Nat)))
end
section
variable{X:Cx}{a b c e:Expr}{es:List Expr}{ta tb tc t:bD}{tA:gH}{pos p apos bz:Pos}
def Ji{r:V->List V->Hp->VK->Prop}{R:Dt->List Dt->(Dt->Prop)->Prop}{K:PySem.W.Frag}(hd: ∀(M:Addr->Prop) (H:Hp) (x:V) (xs:List V) (d:Dt) (ds:List Dt) (Qd:Dt->Prop) (Q:VK),jW M H->Rep M H x d->aB M H xs ds->R d ds Qd->(∀u v d,Qd d->aF H u->Rep M u v d->Q v u)->r x xs H Q):
  ∀f H Q,lE (dMt R ta tA) f H Q->Zz K "tuple" r (lE ta) (lA tA) f H Q:=fun f H Q y=>(by obtain⟨W,M,O,m,Qd,E,q,k⟩:=y;exact(
 ⟨W,M,O,m,_,E,q,fun d N o x P T F w=>(by obtain⟨⟨ds,e⟩,z⟩:=P;exact(by
  subst e;obtain⟨a,xs,rfl,h,n,I⟩:=w.bU;refine⟨.inr (.inr (.inr (.inr ⟨rfl,xs,h⟩))),W,M,O,N,_,T,z,fun es Y J B i l g j=>?_⟩;exact hd M J _ B _ es _ _ l.al (w.chg T g) j i fun S v d C s A=>k _ _ _ _ C (l.same s) ((F.tr g).tr (cW.of s)) A))⟩))
def J9(f:Ev X a ta)(Y:Av X [e] tA)
  (C:attributeBase a "index" X.env (eval a 216)=eval a X.env:=by rfl)
  (l:((backTo bz 170).all (fun x=>!x.1) && (backToKw bz (keywordEach [] 216)).all (fun x=>x.1.isSome) && decide ([e].length+([]:List Keyword).length+(if ([]:List Keyword).isEmpty then 0 else 1) < 30))=true:=by rfl)
  (R:(apos.endLine==bz.line)=true:=by rfl) (L:209 [e] 216=(false,eval e 216)::209 [] X.env:=by rfl) (V:(backTo bz 137).any (·.1)=false:=by rfl):
  Ev X (.Call (.Attribute a "index" apos) [e] [] bz) (dMt KQ ta tA):=
 PE.imp (Lm PySem.F.plainAttrs_tuple PySem.F.slot_tuple_index PySem.F.type_tuple_index Bh f Y C l R L V) (Ji fun M H x xs d ds Z Q al S T P k=>(by obtain⟨es,y,j,z,s,B,g,h,i,J,r,q⟩:=P;exact(by
  subst s;subst B;obtain⟨a,W,rfl,f,n,I⟩:=S.bU;obtain⟨v,rfl,G⟩:=fP T;obtain⟨w,N,U⟩:=I.get i;have E:eM z=true:=ag4.mp h _ (ae4 i);refine⟨a,W,v,j,w,rfl,rfl,f,o5 G g,qV I h,N,by rw[tj U G E g];exact J,fun m u O o=>?_,k H _ _ q 187 (.int _)⟩;have A:m < es.length:=by rw[<-I.1];exact(ac1.mp o).1
  have D:=ab2 A;rw[tj (I.2 m u _ o D) G (ag4.mp h _ (ae4 D)) g];exact r m _ O D)))
inductive Gu(Q:List Dt->List Sl->Prop)(es:List Dt)(ks:List Dt)(δ2:List Sl):Prop
 | mk (ds:_) (h1:es= [.tup ds]) (h2:ks= [.int 1]) (h3:Q (bQ 1 ds) δ2)
def Gw(tA tk:gH):rJ:=fun i Q=>tA i fun es M=>tk M fun O W=>Gu Q es O W
def Jt{x1}(P:X.mg "enumerate"=none)(f:Av X [e] tA)(G:PK X mJ tk)(I: ∀d H Q,lA tkd d H Q->tk d H Q)(h:Gl X "enumerate":=by rfl)(z:(136).filterMap (·.1)=(["start"]:List Str):=by rfl)(k1:backTo pos 170=(false,eval e 216)::backTo pos 137:=by rfl)(k2:(backTo pos 170).any (·.1)=false:=by rfl)(k3:(136).all (·.1.isSome)=true:=by rfl)(i:(136).any (·.1.isNone)=false:=by rfl):Iv X 191 (.Call (.Name "enumerate" p) [e] mJ pos) (Gw tA tkd):=
 PI.imp (Eg h P f G z k1 k2 k3 i) fun d H R C=>(by obtain⟨W,M,O,B,S,E,q,k⟩:=C;exact(⟨W,M,O,B,_,E,q,fun es N D vs s T F w=>I _ _ _ ⟨W,M,O,N,_,T,s,fun V Z L zs Y l g o=>(by obtain⟨U,j,r,m⟩:=Y;exact(by
  subst j;subst r;obtain⟨x,rfl,u⟩:=fP (w.chg T g);obtain⟨y,rfl,v⟩:=fP o;cases v.ofInt;obtain⟨a,A,rfl,f,n,J⟩:=u.bU;exact⟨a,rfl,rfl,⟨A,dH.of f⟩,k _ _ _ _ m l (F.tr g) (yH f n J)⟩))⟩⟩))
def B0: ∀f H Q,lA (pf t vP) f H Q->qz (lE t) um f H Q:=fun f H Q R=>(by obtain⟨W,M,N,i,G,E,q,k⟩:=R;exact(⟨W,M,N,i,_,E,q,fun d O l x s T F w=>k _ _ _ _ s T F (.one w)⟩))
def zD{x1}(O:X.mg "enumerate"=none)(g:Av X [e] tA)(j:Ev X f t)(d:Gl X "enumerate":=by rfl)(z:(backToKw pos (keywordEach [⟨nm,f,sS⟩] 216)).filterMap (·.1)=(["start"]:List Str):=by rfl)(k1:backTo pos 170=(false,eval e 216)::backTo pos 137:=by rfl)(k2:(backTo pos 170).any (·.1)=false:=by rfl)(k3:(backToKw pos (keywordEach [⟨nm,f,sS⟩] 216)).all (·.1.isSome)=true:=by rfl)(h:(backToKw pos (keywordEach [⟨nm,f,sS⟩] 216)).any (·.1.isNone)=false:=by rfl):Iv X 191 (.Call (.Name "enumerate" p) [e] [⟨nm,f,sS⟩] pos) (Gw tA (pf t vP)):=
 Jt O g (zi j D9) B0 d z k1 k2 k3 h
inductive Kk(neg:Bool)(Q:Dt->List Sl->Prop)(d:Dt)(δ':List Sl):Prop
 | mk (ds:_) (h1:d= .lst ds) (h2:Q (.bl (if neg then !ds.isEmpty else ds.isEmpty)) δ')
def Mu(f:Bool)(ta:bD):bD:=fun i Q=>ta i fun d k=>Kk f Q d k
inductive Kj(neg:Bool)(Q:Dt->List Sl->Prop)(d:Dt)(δ':List Sl):Prop
 | mk (ds:_) (h1:d= .tup ds) (h2:Q (.bl (if neg then !ds.isEmpty else ds.isEmpty)) δ')
def Ms(f:Bool)(ta:bD):bD:=fun i Q=>ta i fun d k=>Kj f Q d k
inductive Mt(neg:Bool)(i:Nat)(δ:List Sl)(Q:Dt->List Sl->Prop):Prop
 | mk (ds:_) (h1:δ[i]?=some (.ow ds)) (h2:Q (.bl (if neg then !ds.isEmpty else ds.isEmpty)) δ)
def Bg(o: ∀(H:Hp) (Q:VK) (p q:Addr) (xs:List V),H p=some (.lst xs)->H q=some (.lst [])->Q (.bl (if neg then !xs.isEmpty else xs.isEmpty)) H->r (.ref p) (.ref q) H Q): ∀f H Q,lE (Mu neg ta) f H Q->K5 r (lE ta) (Nm um) f H Q:=fun f H Q Y=>(by obtain⟨W,M,N,i,G,E,q,k⟩:=Y;exact(
 ⟨W,M,N,i,_,E,q,fun d O l x h T F w=>(by obtain⟨v,e,u⟩:=h;exact(⟨af2 _,fun p B=>by
  subst e;obtain⟨a,xs,rfl,g,n,I⟩:=w.eE;have s:aF l (upd l p (.lst [])):=aF.new B;exact o _ _ _ _ xs (s _ _ g) ag (by rw[gw I];exact k _ _ _ _ u (T.same s) (F.tr (cW.of s)) (.bl _))⟩))⟩))
def Be(o: ∀(H:Hp) (Q:VK) (p q:Addr) (xs:List V),H p=some (.tup xs)->H q=some (.tup [])->Q (.bl (if neg then !xs.isEmpty else xs.isEmpty)) H->r (.ref p) (.ref q) H Q): ∀f H Q,lE (Ms neg ta) f H Q->K5 r (lE ta) (Rf um) f H Q:=fun f H Q L=>(by obtain⟨W,M,N,i,G,E,q,k⟩:=L;exact(
 ⟨W,M,N,i,_,E,q,fun d O l x h T F w=>(by obtain⟨v,e,u⟩:=h;exact(⟨af2 _,fun p B=>by
  subst e;obtain⟨a,xs,rfl,g,n,I⟩:=w.bU;have s:aF l (upd l p (.tup [])):=aF.new B;exact o _ _ _ _ xs (s _ _ g) ag (by rw[gw I];exact k _ _ _ _ u (T.same s) (F.tr (cW.of s)) (.bl _))⟩))⟩))
def Bf(o: ∀(H:Hp) (Q:VK) (p q:Addr) (xs:List V),H p=some (.lst xs)->H q=some (.lst [])->Q (.bl (if neg then !xs.isEmpty else xs.isEmpty)) H->r (.ref p) (.ref q) H Q): ∀d H Q,lE (Mt neg i) d H Q->K5 r (fg i) (Nm um) d H Q:=fun d H Q N=>(by obtain⟨W,M,O,j,G,E,⟨v,D,q⟩,k⟩:=N;exact(by
 obtain⟨a,xs,f,g,C,u⟩:=E.ow D;refine⟨_,f,af2 _,fun p B=>?_⟩;have s:aF H (upd H p (.lst [])):=aF.new B;exact o _ _ _ _ xs (s _ _ C) ag (by rw[gw u];exact k _ _ _ _ q (E.same s) (cW.of s) (.bl _))))
def ES{K:207}: ∀(H:Hp) (Q:VK) (p q:Addr) (xs:List V),H p=some (.lst xs)->H q=some (.lst [])->Q (.bl (if true=true then !xs.isEmpty else xs.isEmpty)) H->za K (.ref p) (.ref q) H Q:=fun H Q p q xs d f z=>⟨p,q,xs,rfl,rfl,dr.of d,dr.of f,z⟩
def Og{K:207}: ∀(H:Hp) (Q:VK) (p q:Addr) (xs:List V),H p=some (.tup xs)->H q=some (.tup [])->Q (.bl (if true=true then !xs.isEmpty else xs.isEmpty)) H->yZ K (.ref p) (.ref q) H Q:=fun H Q p q xs d f z=>⟨p,q,xs,rfl,rfl,dH.of d,dH.of f,z⟩
def Dg(m:241 < cLine)(f:Ev X a ta):Tv X (.Compare a [.NotEq] [.List [] p2] pos) (dT (Mu true ta)):=PT.imp (i6 (qH m) f (oq aM) (dI _)) fun d H Q h=>Bg ES _ _ _ (eX _ _ _ h)
def Df(m:241 < cLine)(i:Nat)(y:PE X (.Name x xp) (fg i)):Tv X (.Compare (.Name x xp) [.NotEq] [.List [] p2] pos) (dT (Mt true i)):=PT.imp (i6 (qH m) y (oq aM) (dI _)) fun d H Q h=>Bf ES _ _ _ (eX _ _ _ h)
def Gh(m:241 < cLine)(f:Ev X a ta):Ev X (.Compare a [.NotEq] [.Tuple [] x1 p2] pos) (Ms true ta):=PE.imp (zk (AZ m) f (om aM) (dI _)) (Be Og)
end
end LD
namespace L2
open PySem PySem.Spec PyProof.Rows
def qc(Z I:Value)(env:Env):
  compTurn 108 0 Z I env=(do
   standAt iter.pos
   match<-pyNext Z with
   | none=>pure (.done .next)
   | some v=>
    letOwnedTupleGo tg Z v
    assign tg env v
    let mut ok:=true
    for c in ifs do
     if ok then ok<-isTrue c env (eval c env)
    if ok then
     let x<-eval iter2 env
     standAt iter2.pos
     let x<-225 iter2 env x
     let _<-runOwn (.compStart 108 1 (<-holding [x] (pyIter x)) I env) env
    again (.compLoop 108 0 Z I env)):=by rfl
def p9(Z I:Value)(env:Env):
  compTurn 108 1 Z I env=(do
   standAt iter2.pos
   match<-pyNext Z with
   | none=>pure (.done .next)
   | some v=>
    letOwnedTupleGo iz Z v
    assign iz env v
    let mut ok:=true
    for c in dA do
     if ok then ok<-isTrue c env (eval c env)
    if ok then
     (do let _<-call (.builtin "list.append") [I,<-eval elt env])
    again (.compLoop 108 1 Z I env)):=by rfl
def qf (I : Nat -> Shared -> Prop) (turn : ∀ n s, I n s -> wpAny 105 A (pyNext it) (fun r Q => match r with
   | none=>R (.ok .next) Q
   | some v=>wpAny 105 A (letOwnedTupleGo iz it v) (fun _ d=>wpAny 105 A (assign iz env v) (fun _ J=>
     218 105 A (forIn dA true fun c r=>if r=true then do let l<-isTrue c env (eval c env);pure (ForInStep.yield l) else pure (ForInStep.yield r)) (fun l u=>
      if l=true then 218 105 A (eval elt env) (fun x g=>
       218 105 A (call (.builtin "list.append") [acc,x]) (fun _ z=> ∃m,m < n/\I m z) 122 g) 122 u
      else∃m,m < n/\I m u) 122 J) 122 d) 122 Q) 122 s) (n:Nat) (h:I n s):codeAny 105 A (.compLoop 108 1 it acc env) R s:=by
 refine codeAny_loop rfl I (fun n s C=>?_) n h;show 218 _ A ((compTurn 108 1 it acc env).onRaise (fun x=>do noteFrame x env;theTreesLotGoes x)) _ _ s;refine wpAny_noted ?_;rw[p9];refine aa8 (ah1 (aa8 (ae3 (turn n s C) (fun r Q y=>?_) fun _ _ t=>t.elim)));cases r with
 | none=>exact ab0 y
 | some v=>
  refine aa8 (ae3 y (fun _ d W=>?_) fun _ _ t=>t.elim);refine aa8 (ae3 W (fun _ J q=>aa8 (ae3 q (fun l u P=>?_) fun _ _ t=>t.elim)) fun _ _ t=>t.elim);cases l with
  | false=>exact ab0 ⟨rfl,P⟩
  | true=>
   exact aa8 (aa8 (ae3 P (fun x g B=>aa8 (ae3 B (fun _ z i=>ab0 (ab0 ⟨rfl,i⟩)) fun _ _ t=>t.elim)) fun _ _ t=>t.elim))
def pC (c : codeAny 105 A (.compLoop (.ListComp elt [⟨tg, iter, ifs, 0⟩, ⟨iz, iter2, dA, 0⟩] scope pos) 1 it acc env) R s) (h : wpAny 105 A (pyIter it) (fun I S => codeAny 105 A (.compLoop (.ListComp elt [⟨tg, iter, ifs, 0⟩, ⟨iz, iter2, dA, 0⟩] scope pos) 1 I acc env) R S)
   (notedBy 105 A env fun x S=>R (.error x) S) s):
  codeAny 105 A (.compStart 108 1 it acc env) R s:=by
 refine codeAny_of_tree ?_;show 218 _ _ ((compStart 108 1 it acc env).onRaise (fun x=>do noteFrame x env;standAt theWindowsPlace)) _ _ s;refine wpAny_notedAt ?_;unfold compStart;show 218 _ _ (ask >>=_) _ _ s;refine aa8 (wpAny_askSetting (wpAny_ite ?_));split
 . first
     | exact aa8 (ab0 (ab0 (And.intro rfl c)))
     | exact ab0 (And.intro rfl c)
 . first
     | exact aa8 (ak3 (aa8 (ah1 (aa8 (ae3 h (fun I S r=>ab0 (And.intro rfl r)) fun _ _ x=>x)))))
     | (refine aa8 (ak3 ?_);show 218 _ _ (standAt iter2.pos >>=_) _ _ s;exact aa8 (ah1 (aa8 (ae3 h (fun I S r=>ab0 (And.intro rfl r)) fun _ _ x=>x))))
def qg (I : Nat -> Shared -> Prop) (o : ∀ x, foldedSetIterable iter2 env x = pure x) (turn : ∀ n s, I n s -> wpAny 105 A (pyNext it) (fun r Q => match r with
   | none=>R (.ok .next) Q
   | some v=>wpAny 105 A (letOwnedTupleGo tg it v) (fun _ d=>wpAny 105 A (assign tg env v) (fun _ J=>
     218 105 A (forIn ifs true fun c r=>if r=true then do let l<-isTrue c env (eval c env);pure (ForInStep.yield l) else pure (ForInStep.yield r)) (fun l u=>
      if l=true then 218 105 A (eval iter2 env) (fun x g=>218 105 A (pyIter x) (fun V z=>
       codeAny 105 A (.compStart 108 1 V acc env) (fun r B=>r= .ok .next/\ ∃m,m < n/\I m B) z) 122 g) 122 u
      else∃m,m < n/\I m u) 122 J) 122 d) 122 Q) 122 s) (n:Nat) (h:I n s):codeAny 105 A (.compLoop 108 0 it acc env) R s:=by
 refine codeAny_loop rfl I (fun n s D=>?_) n h;show 218 _ A ((compTurn 108 0 it acc env).onRaise (fun x=>do noteFrame x env;theTreesLotGoes x)) _ _ s;refine wpAny_noted ?_;rw[qc];refine aa8 (ah1 (aa8 (ae3 (turn n s D) (fun r Q y=>?_) fun _ _ t=>t.elim)));cases r with
 | none=>exact ab0 y
 | some v=>
  refine aa8 (ae3 y (fun _ d W=>?_) fun _ _ t=>t.elim);refine aa8 (ae3 W (fun _ J q=>aa8 (ae3 q (fun l u P=>?_) fun _ _ t=>t.elim)) fun _ _ t=>t.elim);cases l with
  | false=>exact ab0 ⟨rfl,P⟩
  | true=>
   refine aa8 (ae3 P (fun x g C=>aa8 (ah1 ?_)) fun _ _ t=>t.elim);rw[o];refine aa8 204;refine aa8 (af6 (ae3 C (fun V z i=>?_) fun _ _ t=>t.elim));refine aa8 (wpAny_runOwn (ao5 i fun r B N=>?_));obtain⟨rfl,N⟩:=N;exact ab0 ⟨rfl,N⟩
def G0(r nt:Nat)(g:TG):Prop:= ∀v σ H (Q:St->Hp->Prop),g v σ H Q->g v σ H fun R q=>Q R q/\R.length=σ.length/\ ∀k,k < r\/nt<=k->R[k]?=σ[k]?
def BG(d:n1<=i:=by decide)(h:i < nt:=by decide):G0 n1 nt (bY i):=fun v b H Q q=>⟨q,by simp,fun k E=>by rw[ac2 163]⟩
def InW(t:TG)(M:TT)(w:TE)(d:St)(B:List V->Hp->Prop)(D:Addr)(s:It)(o:List V)(c:Hp):Prop:=
 ∃J:Nat->Nat->List V->Hp->Prop,(∃m,J 0 m o c)/\ ∀i m I H,J i m I H->
  (s.stop i H/\B I H)\/(s.go i H/\I.length < 208/\ ∃r:List V->Hp->Prop,(∀n q,r n q-> ∃N,N < m/\J (i+1) N n q)/\ ∀x q,s.wy i H x q->t x d q fun h L=>
   M h L fun b O=>if b=true then w h O fun v p=>p D=some (.lst I)/\r (I++ [v]) (upd p D (.lst (I++ [v]))) else r I O)
def Hc(nt:Nat)(js:List Nat)(g:TG)(s:TT)(C:TI)(o:TG)(M:TT)(v:TE)(d:St)(Q:VK)(D:Addr)(J:It)(c:Hp):Prop:=
 ∃W:Nat->Nat->List V->Hp->Prop,(∃m,W 0 m [] c)/\ ∀i m I H,W i m I H->
  (J.stop i H/\Q 173 H)\/(J.go i H/\ ∃B:List V->Hp->Prop,(∀n q,B n q-> ∃N,N < m/\W (i+1) N n q)/\ ∀x q,J.wy i H x q->g x (hG nt js d) q fun h L=>
   s h L fun b O=>if b=true then C h O fun r p=>InW o M v h B D r I p else B I O)
def Di(nt:Nat)(js:List Nat)(k:TI)(g:TG)(s:TT)(C:TI)(n:TG)(I:TT)(v:TE):TE:=fun b H Q=>k b H fun J l=> ∀D,l D=none->Hc nt js g s C n I v b Q D J (upd l D (.lst []))
def xK{Y:Cx}(hc:Y.calm=true)(O:Y.xe=fun _ _=>False)(OX:PG Y iz g2)(xN:G0 n1 nt g2)(oW:PF Y dA qy)(he:PE Y elt te)(I:Inv Y pins σ H s)(T:Turn Y.prog Y.w Y.K iz J fp it tn)(st:tn 0 s.heap)(ff: ∀b∈fp,dZ Y pins H b)(aO: ∀k,n1<=k->k < nt-> ∀v,σ[k]?≠some (some v))(R:InW g2 qy te σ B D J Qb H)(fin: ∀L t S,Inv Y pins σ t S->B L t->RR (.ok .next) S):
  codeAny (model Y.prog Y.w) Y.A (.compLoop 108 1 (.ref it) 173 Y.env) RR s:=by
 obtain⟨W,⟨m0,w0⟩,turn⟩:=R;have U: ∀{t:Hp},(∀b∈fp,t b=none)-> ∀b∈fp,dZ Y pins t b:=fun hn b c=>⟨hn b c,(ff b c).2⟩
 refine qf (fun n S=> ∃i L t,Inv Y pins σ t S/\tn i S.heap/\(∀b∈fp,t b=none)/\W i n L t) ?_ m0 ⟨0,Qb,H,I,st,fun b c=>(ff b c).1,w0⟩;rintro n s5 ⟨i,L,P,l,wK,h,w5⟩
 rcases turn i n L P w5 with ⟨Z,q⟩ | ⟨go,p,g,hB,f⟩
 . refine aV (T.done Y rfl rfl rfl hc i pins s5 _ P 122 l (U h) wK Z) fun r s6 ⟨Q,I6⟩=>?_;subst Q;exact fin _ _ _ I6 q
 . refine aV (T.item Y rfl rfl rfl hc i pins s5 _ P 122 l (U h) wK go) fun r s6 ⟨u,Q,h6⟩=>?_;subst Q;refine aV h6 fun _ s7 lK=>?_;obtain⟨x,j,I7,r7,y7,a,Pe⟩:=lK;have Qn:=I7.pinned (U Pe) (T.obj _ _ a);have g7:=xN _ _ _ _ (f x j y7);have h7:=OX _ s7 _ j x u _ Qn r7 g7;rw[O] at h7;refine aV h7 fun _ s8 j5=>?_;obtain⟨C,H8,I8,q8,l8,k8⟩:=j5;have h8:=oW _ s8 C H8 _ I8 q8;rw[O] at h8;refine aV h8 fun b s9 jy=>?_;obtain⟨H9,I9,N⟩:=jy;have z: ∀{E:Hp} {G:Shared} {M:List V},Inv Y (pins++jH fp s7.heap) C E G->g M E-> ∃m,m < n/\ ∃i L t,Inv Y pins σ t G/\tn i G.heap/\(∀b∈fp,t b=none)/\W i m L t:=fun{E G M} F CF=>by
    obtain⟨m',Hj,M6⟩:=hB M E CF;refine⟨m',Hj,i+1,M,E,F.fb.weak l8.symm fun k v e=>?_,T.keep _ _ _ a fun b c o e=>(F.pin (b,o) (ac8 _ (ac8 _ (bH c e)))).1,fun b c=>?_,M6⟩
    . by_cases hk:n1<=k/\k < nt
      . exact 213 e (aO k hk.1 hk.2 v)
      . rw[k8 k 163];exact e
    . obtain⟨o,e,d⟩:=T.obj _ _ a b c;exact(F.pin (b,o) (ac8 _ (ac8 _ (bH c e)))).2.1
   cases b with
   | false=>
    rw[if_neg ab9] at N ⊢;exact z I9 N
   | true=>
    rw[if_pos rfl] at N ⊢;have h9:=he _ s9 C H9 _ I9 N;rw[O] at h9;refine aV h9 fun y G j4=>?_;obtain⟨v,E,F,RQ,Pb,NM⟩:=j4;have JK:=(l5 (X:=Y) _ G C E 173 [v] 173 [y] (fun _ t=>g (L++ [v]) t) F rfl (.cons RQ .nil) ⟨_,L,v,rfl,rfl,Pb,p,NM⟩)
    rw[O] at JK;refine aV JK fun _ RE mW=>?_;obtain⟨_,Hr,KP,_,WV⟩:=mW;exact z KP WV
def yc{elt tg iter P iter2:Expr}{ifs dA:List Expr}{pos:Pos}{g g2:TG}{HB:TI}{tc qy:TT}{te:TE}{n1:Nat}{j:List (Str × Addr)}{Q:VK}{E:Value->Shared->Prop}{RR:Value->Addr->Result->Shared->Prop}
  (S:lC X N nt js scope) (hc:X.calm=true)
  (hg: ∀s H j C z,PG 198 tg g) (gf:lB n1 g) (To:n1<=nt) (QJ: ∀s H j C z,PI 198 P iter2 HB) (oS: ∀s H j C z x,225 iter2 (198).env x=pure x) (OX: ∀s H j C z,PG 198 P g2) (xN:G0 n1 nt g2) (oW: ∀s H j C z,PF 198 dA qy) (hf: ∀s H j C z,PF 198 ifs tc) (he: ∀s H j C z,PE 198 elt te)
  {it:Addr} {t:List Addr} {tn:Nat->Heap->Prop} {J:It} (I:Inv X pins σ H s) (T:Turn X.prog X.w X.K tg J t it tn) (st:tn 0 s.heap) (l: ∀b∈t,dZ X pins H b)
  (c1: ∀x c,(x,c)∈j->X.env.cells.lookup x=some c) (c2: ∀x,(x,224)∈scope.names-> ∃c,(x,c)∈j)
  (R: ∀D,H D=none->Hc nt js g tc HB g2 qy te σ Q D J (upd H D (.lst [])))
  (fin: ∀(D C:Addr) (s':211) (H':Hp),Inv X pins σ H' s'->dZ X pins H' C->(∃m,s'.heap.Ns C m)->Q 173 H'->RR 173 C (.ok .next) s'):
  218 107 X.A (newList []) (fun L s₃=>218 107 X.A (newFunctionEnv scope X.env.globals j [] X.env.qual none .none (some 216)) (fun jQ s₄=>
   codeAny 107 X.A (.compStart (.ListComp elt [⟨tg,iter,ifs,0⟩,⟨P,iter2,dA,0⟩] scope pos) 0 (.ref it) L {jQ with scope:=relabel scope 216}) (RR L jQ.locals) s₄) E s₃) E s:=by
 refine ag2 (fY fun jQ vH F2=>?_);rw[vH,F2];dsimp only;have hD:H 205=none:=I.aQ.fresh (ab6 _);obtain⟨W,⟨m0,w0⟩,turn⟩:=R s.heap.objs.size hD;have kD: ∀b u,s.heap.get? b=some u->(106).get? b=some u:=fun b u e=>ab1 _ e;have I3:Inv X pins σ 153 {s with heap:=s.heap.push {cls:= .type "list",data:= .seq (([]:List 212)).toArray},toks:=235}:=
  I.laid kD (ab6 _) ⟨af2 _,[],_,.nil,ac3 _ rfl⟩
 have fs: ∀b∈t,b < s.heap.objs.size:=fun b f=>by
  obtain⟨o,e,_⟩:=T.obj _ _ st b f;exact ac5 e
 have Mb: ∀b∈t,dZ X pins 153 b:=fun b f=>⟨by rw[ah (af1 (fs b f))];exact(l b f).1,(l b f).2⟩
 have Z:=mB (tk:=235) S hc I3 Mb (fun b f=>by show b < (s.heap.push _).objs.size;rw[ah8];exact an9 (fs b f)) c1 c2;dsimp only at Z;have Tp:(106).objs.size=205+1:=ah8 ..;generalize hY:eO X N scope {s with heap:=s.heap.push {cls:= .type "list",data:= .seq (([]:List 212)).toArray},toks:=235} 153 j (106).objs.size t=Y at Z;have hY2:=hY;have pO:Y.env=pI scope j (106).objs.size X.env:=by rw[<-hY];rfl
 have h:Y.prog=X.prog:=by rw[<-hY];rfl
 have a:Y.w=X.w:=by rw[<-hY];rfl
 have YA:Y.A=X.A:=by rw[<-hY];rfl
 have YK:Y.K=X.K:=by rw[<-hY];rfl
 have ly:Y.calm=true:=by rw[<-hY];exact hc
 have tX:Y.xe=fun _ _=>False:=by rw[<-hY];rfl
 have vW:Y.ex=t:=by rw[<-hY];rfl
 have Uo:Y.pn= []:=by rw[<-hY];rfl
 have Up:Y.fs=ik X.stack:=by rw[<-hY];rfl
 have MH:Y.s₀={s with heap:=s.heap.push {cls:= .type "list",data:= .seq (([]:List 212)).toArray},toks:=235}:=by rw[<-hY];rfl
 have Uq:Y.H₀=upd H s.heap.objs.size (.lst []):=by rw[<-hY];rfl
 have S7:PG Y tg g:=by rw[<-hY];exact hg _ _ _ _ _
 have X0:PF Y ifs tc:=by rw[<-hY];exact hf _ _ _ _ _
 have XZ:PF Y dA qy:=by rw[<-hY];exact oW _ _ _ _ _
 have XX:PG Y P g2:=by rw[<-hY];exact OX _ _ _ _ _
 have XR:PI Y P iter2 HB:=by rw[<-hY];exact QJ _ _ _ _ _
 have Xu: ∀x,225 iter2 Y.env x=pure x:=by rw[<-hY];exact oS _ _ _ _ _
 have X5:PE Y elt te:=by rw[<-hY];exact he _ _ _ _ _
 have hm:(Y.N.length:Nat)=(hG nt js σ).length:=Z.len.symm;rw[<-pO,<-h,<-a,<-YA];have FP: ∀{H':Hp} (_: ∀b∈t,H' b=none),∀b∈t,dZ Y [] H' b:=fun{H'} hn b f=>by
  refine⟨hn b f,(Z.ok.JQ b (by rw[vW];exact f)).1,Z.ok.vA b (by rw[vW];exact f),.inl (by rw[vW];exact f),(Z.ok.JQ b (by rw[vW];exact f)).2,fun p hp=>?_⟩;rw[Uo] at hp;simp at hp
 have U: ∀{H':Hp} {s':211} {σ':St},Inv Y [] σ' H' s'->Inv X pins σ H' s'/\dZ X pins H' Y.env.locals/\ ∃m,s'.heap.Ns Y.env.locals m:=fun{H' s' σ'} J=>by
  have f:Un (ik X.stack) t 153 H' 106 s'.heap:=by
   have:=J.base;rw[Up,vW,Uq,MH] at this;exact this
  have loc:Y.env.locals=205+1:=by rw[pO];exact Tp
  have os:s'.os=s.os:=by
   have:=J.os;rw[MH] at this;exact this
  have aQ:gG X.prog X.w H' s'.heap:=by
   have:=J.aQ;rw[h,a] at this;exact this
  refine⟨I3.Ae (ch:=t) os f aQ J.bare fun b f=>⟨(l b f).2.2.2.1,(l b f).2.1,(l b f).2.2.2.2.1,(l b f).2.2.2.2.2⟩,?_,let ⟨m,q,_⟩:=J.loc;⟨m,q⟩⟩;exact I.vt (by rw[loc];exact aw3 _) J.free
 have M:codeAny (model Y.prog Y.w) Y.A (.compLoop (.ListComp elt [⟨tg,iter,ifs,0⟩,⟨P,iter2,dA,0⟩] scope pos) 0 (.ref it) 118 Y.env) (RR 118 Y.env.locals)
   {s with heap:=pushCells ((106).push {cls:= .type "dict",data:= .dict #[]}) scope.names}:=by
  refine qg (fun n s'=> ∃i L H',Inv Y [] (hG nt js σ) H' s'/\tn i s'.heap/\(∀b∈t,H' b=none)/\W i n L H') Xu ?_ m0
   ⟨0,[],_,Z,T.keep _ _ _ st fun b _ o e=>an4 _ _ b o (ab1 _ (kD b o e)),fun b f=>(Mb b f).1,w0⟩
  rintro n s5 ⟨i,L,H5,I5,wK,BJ,w5⟩
  rcases turn i n L H5 w5 with ⟨stop,q⟩ | ⟨go,B,hB,step⟩
  . have hd:=T.done Y h a YK ly i [] s5 _ H5 122 I5 (FP BJ) wK stop;rw[<-h,<-a] at hd;refine aV hd fun r s6 rK=>?_;obtain⟨hr,I6⟩:=rK;subst hr;obtain⟨b1,b2,b3⟩:=U I6;exact fin _ _ _ _ b1 b2 b3 q
  . have hd:=T.item Y h a YK ly i [] s5 _ H5 122 I5 (FP BJ) wK go;rw[<-h,<-a] at hd;refine aV hd fun r s6 nM=>?_;obtain⟨u,hr,h6⟩:=nM;subst hr;refine aV h6 fun _ s7 gI=>?_;obtain⟨x,H7,I7,r7,y7,wJ,Pe⟩:=gI;have Qn:=I7.pinned (FP Pe) (T.obj _ _ wJ);have g7:=gf _ _ _ _ (step x H7 y7);have h7:=S7 _ s7 _ H7 x u _ Qn r7 g7;rw[tX] at h7;refine aV h7 fun _ s8 lL=>?_;obtain⟨G,H8,I8,q8,l8,k8⟩:=lL;have h8:=X0 _ s8 G H8 _ I8 q8;rw[tX] at h8;refine aV h8 fun b s9 nN=>?_;obtain⟨H9,I9,q9⟩:=nN;have F: ∀{mV:Hp} {ir:Shared} {cf:List V},Inv Y ([]++jH t s7.heap) G mV ir->B cf mV-> ∃m,m < n/\ ∃i L H',Inv Y [] (hG nt js σ) H' ir/\tn i ir.heap/\(∀b∈t,H' b=none)/\W i m L H':=fun{mV ir cf} v5 CF=>by
     obtain⟨m',Hj,M6⟩:=hB cf mV CF;refine⟨m',Hj,i+1,cf,mV,v5.fb.weak l8.symm fun k v e=>?_,T.keep _ _ _ wJ fun b f o e=>(v5.pin (b,o) (ac8 _ (ac8 _ (bH f e)))).1,fun b f=>?_,M6⟩
     . by_cases hk:nt<=k
       . rw[k8 k (ad9 To hk)];exact e
       . exfalso;unfold hG at e;rw[ae9 (by simp;omega),ad7,if_pos 163] at e;cases e
     . obtain⟨o,e,d⟩:=T.obj _ _ wJ b f;exact(v5.pin (b,o) (ac8 _ (ac8 _ (bH f e)))).2.1
    cases b with
    | false=>
     rw[if_neg ab9] at q9 ⊢;exact F I9 q9
    | true=>
     rw[if_pos rfl] at q9 ⊢;have h9:=XR _ s9 G H9 _ I9 q9;rw[tX] at h9;refine aV h9 fun y ir JK=>aV JK fun Sw RE h11=>?_;obtain⟨i2,fp2,tn2,J2,Hr,rfl,KP,T2,Ry,Yp,R2⟩:=h11;have W3: ∀k,n1<=k->k < nt-> ∀v,G[k]?≠some (some v):=fun k a1 a2 v e=>by
      rw[k8 k a1] at e;unfold hG at e;rw[ae9 (by simp;omega),ad7,if_pos 163] at e;cases e
     have lp:=xK (elt:=elt) (tg:=tg) (iter:=iter) (ifs:=ifs) (iter2:=iter2) (scope:=scope) (pos:=pos) ly tX XX xN XZ X5 KP T2 Ry Yp W3 R2 (RR:=fun r O=>r= .ok .next/\ ∃m,m < n/\ ∃i L H',Inv Y [] (hG nt js σ) H' O/\tn i O.heap/\(∀b∈t,H' b=none)/\W i m L H') fun cf H' s' I' b'=>⟨rfl,F I' b'⟩
     exact pC lp (T2.self _ 0 _ _ _ Ry lp)
 have vG:(106).objs.size=Y.env.locals:=by rw[pO];rfl
 rw[vG];exact codeAny_compStart_list (rest:= [⟨P,iter2,dA,0⟩]) M (by rw[h,a,YA] at*;exact T.self _ 0 _ _ _ (T.keep _ _ _ st fun b _ o e=>an4 _ _ b o (ab1 _ (kD b o e))) M)
def Ep(S:lC X N nt js scope)(U:X.calm=true)(hi:PI X tg iter wi)(Z: ∀s H i C t,PG 115 tg g)(z:lB n1 g)(Y:n1<=nt)(p: ∀s H i C t,PI 115 iz iter2 HB)(oS: ∀s H i C t x,225 iter2 (115).env x=pure x)(E: ∀s H i C t,PG 115 iz g2)(xN:G0 n1 nt g2)(oW: ∀s H i C t,PF 115 dA qy)(W: ∀s H i C t,PF 115 ifs tc)(V: ∀s H i C t,PE 115 elt te)(hs: ∀x,225 iter X.env x=pure x:=by intro _;rfl):PE X 108 (Di nt js wi g tc HB g2 qy te):=by
 intro a s c H Q I h;obtain⟨i,mj,F,d⟩:=gY (scope:=scope) (env:=216) fun x hx e=>I.ok.has x.1 (S.QC x hx e);rw[eval_ListComp];refine ar3 (use:=none) rfl hs mj S.kind S.names (aV (hi a s c H _ I h) fun v s1 B=>aV B fun QG s2 G=>?_);obtain⟨it,fp,tn,J,H2,rfl,f,T,iq,l,R⟩:=G;refine yc (RR:=fun L C=>compPost 107 X.A X.xe none (EP X a c Q) L C) S U Z z Y p oS E xN oW W V f T iq l F d R fun D C s' r M n jz q=>?_;obtain⟨m,hn⟩:=jz;refine⟨m,hn,fun h' sb=>⟨.ref D,r,?_,rfl,q⟩⟩;obtain⟨j,k,_,O,u,y⟩:=n;exact M.turned (t':=s'.toks) (fun b o P e=>(sb.2 b P).trans e) j k O u y
end L2
namespace LD
open PySem PySem.Spec L2 LB PyProof.Rows
def aE.Rv(E:aE [] M α H σ δ)(j:α.flatten= [])(N: ∀b u,H b=some u-> ¬M b->H' b=some u)(O:jW M H'):aE [] M α H' σ δ:=by
 refine⟨E.ls,E.la,fun i s h=>?_,E.nd,E.mu,O,fun W U=>213 U ab3⟩;obtain⟨o,R,k,g,C⟩:=E.sl i s h;have V:R= []:=al7.mpr fun a f=>by
  have:=br g f;rw[j] at this;exact ab3 this
 subst V;refine⟨o,[],k,g,C.keep (fun b u e n=>⟨N b u e n,n⟩) (fun a f=>213 f ab3) ?_⟩;cases s with
 | bx t=>
  obtain⟨d,c,e,_⟩:=C;first | cases e | (obtain⟨_,e,_⟩:=C;cases e)
 | _=>rfl
section
variable{X:Cx}{N:List Str}{nt n1:Nat}{js:List Nat}{scope:Scope}{elt tg iter iz iter2:Expr}{ifs dA:List Expr}{pos:Pos}{ti Qw:rJ}{g g2:wa}{tc qy:lF}{te:bD}
def Gy(nt:Nat)(js:List Nat)(ti:rJ)(g:wa)(tc:lF)(Qw:rJ)(g2:wa)(qy:lF)(te:bD):yC:=fun i Q=>ti i fun v M=> ∃F:Dt->List Dt,(v.flatMap F).length < 208/\
 (∀d∈v,g d (cin nt js M) fun W=>tc W fun b D=>if b=true then Qw D fun h l=> ∃(p:Dt->Bool) (f:Dt->Dt),(∀e∈h,g2 e l fun w=>qy w fun b H=>b=p e/\(b=true->te H fun r _=>r=f e))/\F d=(h.filter p).map f else F d= [])/\Q (v.flatMap F) M
def ye(vh: ∀v l H Q,lG g v l H Q->gh v l H Q)(OV: ∀v l H Q,lG g2 v l H Q->Vo v l H Q): ∀l H Q,lO (Gy nt js ti g tc Qw g2 qy te) l H Q->Di nt js (lI ti) gh (lT tc) (lI Qw) Vo (lT qy) (lE te) l H Q:=fun l H Q cB=>(by obtain⟨W,M,α,δ,Qd,E,q,k⟩:=cB;exact(by
 refine⟨W,M,α,δ,_,E,q,fun A δ1 C J fX T c1 yl D hD=>?_⟩;obtain⟨F,hsz,step,q1⟩:=fX;have s0:aF C (upd C D (.lst [])):=aF.new hD;refine⟨fun i m I L=>m=A.length - i/\i<=A.length/\L D=some (.lst I)/\aB 114 L I ((A.take i).flatMap F)/\aF C L/\jW 114 L,⟨A.length,by simp,af2 _,ag,.nil,s0,fun a O=>?_⟩,?_⟩
 . rcases O with O | O
   . obtain⟨o,e,n⟩:=T.al a O;exact⟨o,s0 _ _ e,n⟩
   . subst O;exact 167
 rintro i m I L ⟨rfl,hi,BE,kn,s2,Lx⟩
 have kf:Kf M C L:=fun b o e _=>s2 _ _ e;by_cases fC:i < A.length
 . have c: ∀b,C b≠none-> ¬M b-> ¬114 b:=fun b n z y=>y.elim z fun w=>n (by rw[w];exact hD);obtain⟨go,wy⟩:=yl.go i L 114 kf Lx c fC;refine .inr ⟨go,fun G t=>t D=some (.lst G)/\aB 114 t G ((A.take (i+1)).flatMap F)/\aF C t/\jW 114 t,fun G t lK=>(by obtain⟨z1,z2,z3,z4⟩:=lK;exact(⟨A.length - (i+1),by grind,rfl,fC,z1,z2,z3,z4⟩)),fun x H3 y=>?_⟩;obtain⟨s3,d,hd,rx⟩:=wy x H3 y;have E2:aE [] 114 (List.replicate (nt+js.length) []) L (hG nt js l) (cin nt js δ1):=by
    have su:aF (upd C D (.lst I)) L:=fun b o e=>by
     by_cases c:b=D
     . subst c;rw[ag] at e;cases e;exact BE
     . rw[ah c] at e;exact s2 _ _ e
    have Ea:aE [] 114 α L l δ1:=⟨T.ls,T.la,fun i s h=>let ⟨o,as,h1,h2,h3⟩:=T.sl i s h;⟨o,as,h1,h2,(h3.grow (u:= .lst I) hD).same su⟩,T.nd,fun a h=> .inl (T.mu a h),Lx,fun W hW=>213 hW ab3⟩
    exact tE Ea
   have E3:=E2.same s3;have bK:(206 (nt+js.length) 169).flatten= []:=by simp
   refine vh _ _ _ _ ⟨[],_,_,_,d,_,E3,rx,step d (ae4 hd),fun P δ4 σ4 q4 E4 hα=>?_⟩;have Hl:P.flatten= []:=al7.mpr fun x hx=>by have:=hα x hx;rw[bK] at this;exact 213 this ab3
   refine⟨[],_,P,δ4,_,E4,q4,fun b δ5 H5 q5 E5 c5=>?_⟩;have s5:aF H3 H5:=fun b o e=>c5 b o e (by rw[Hl];exact ab3);have Ib:aF L H5:=fun b o e=>s5 _ _ (s3 _ _ e);have tk:A.take (i+1)=A.take i++ [d]:=by rw[ap7,hd];rfl
   have Wl:(A.take (i+1)).flatMap F=(A.take i).flatMap F++F d:=by rw[tk,List.flatMap_append];simp
   cases b with
   | false=>
    have q5:F d= []:=by simpa using q5
    refine bo ⟨Ib _ _ BE,?_,fun b o e=>Ib _ _ (s2 _ _ e),E5.al⟩;rw[Wl,q5,ai1];exact kn.same Ib
   | true=>
    rw[if_pos rfl] at q5;refine bJ ⟨[],_,P,δ5,_,E5,q5,fun j δ6 U J2 j5 E6 c6 Zv=>?_⟩;obtain⟨p,f,Rw,hF⟩:=j5;have s6:aF H5 U:=fun b o e=>c6 b o e (by rw[Hl];exact ab3);have DP:aF L U:=fun b o e=>s6 _ _ (Ib _ _ e);have aa4:((A.take i).flatMap F).length+(F d).length<=(A.flatMap F).length:=by
     have e:A.flatMap F=(A.take (i+1)).flatMap F++(A.drop (i+1)).flatMap F:=by rw[<-List.flatMap_append,al8]
     rw[e,Wl,ac6,ac6];grind
    refine⟨fun Y m2 Z B=>m2=j.length - Y/\Y<=j.length/\B D=some (.lst Z)/\aB 114 B Z ((A.take i).flatMap F++((j.take Y).filter p).map f)/\(∀b o,U b=some o->b≠D->B b=some o)/\jW 114 B,⟨j.length,by simp,af2 _,DP _ _ BE,by simpa using kn.same DP,fun b o e _=>e,E6.al⟩,?_⟩;rintro Y m2 Z B ⟨rfl,QJ,Yf,uE,k7,W8⟩
    have Xd:Kf 114 U B:=fun b o e n=>k7 b o e fun z=>n (.inr z);by_cases SY:Y < j.length
    . obtain⟨go2,V7⟩:=Zv.go Y B 114 Xd W8 (fun b _ n=>n) SY;have hlen:Z.length < sizeLine:=by
       rw[uE.1,ac6,aa9];have:((j.take Y).filter p).length<=(F d).length:=by
        rw[hF,aa9];have e:j.filter p=(j.take Y).filter p++(j.drop Y).filter p:=by rw[<-as2,al8]
        rw[e,ac6];grind
       grind
      refine .inr ⟨go2,hlen,fun G t=>t D=some (.lst G)/\aB 114 t G ((A.take i).flatMap F++((j.take (Y+1)).filter p).map f)/\(∀b o,U b=some o->b≠D->t b=some o)/\jW 114 t,fun G t jy=>(by obtain⟨z1,z2,z3,z4⟩:=jy;exact(⟨j.length - (Y+1),by grind,rfl,SY,z1,z2,z3,z4⟩)),fun x2 H8 y2=>?_⟩;obtain⟨s8,d2,hd2,rx2⟩:=V7 x2 H8 y2;have E7:=(E6.Rv Hl (fun b u e n=>Xd b u e n) W8).same s8;refine OV _ _ _ _ ⟨[],_,_,_,d2,_,E7,rx2,Rw d2 (ae4 hd2),fun R δ9 σ9 q9 E9 Xl=>?_⟩;have fl9:R.flatten= []:=al7.mpr fun x hx=>by have:=Xl x hx;rw[Hl] at this;exact 213 this ab3
      refine⟨[],_,R,δ9,_,E9,q9,fun b VB mV j4 S c10=>?_⟩;obtain⟨hp,NM⟩:=j4;have ir:aF H8 mV:=fun b o e=>c10 b o e (by rw[fl9];exact ab3);have Ia:aF B mV:=fun b o e=>ir _ _ (s8 _ _ e);have He:j.take (Y+1)=j.take Y++ [d2]:=by rw[ap7,hd2];rfl
      cases b with
      | false=>
       refine bo ⟨Ia _ _ Yf,?_,fun b o e n=>Ia _ _ (k7 b o e n),S.al⟩;rw[He,as2,ad1];simp [<-hp];exact uE.same Ia
      | true=>
       refine bJ ⟨[],_,R,VB,_,S,NM rfl,fun r aa1 Hr v Yt E11 c11 r11=>?_⟩;subst Yt;have RE:aF mV Hr:=fun b o e=>c11 b o e (by rw[fl9];exact ab3);have Nw:aF B Hr:=fun b o e=>RE _ _ (Ia _ _ e);have up: ∀{zs:List V} {ds:List Dt},aB 114 Hr zs ds->aB 114 (upd Hr D (.lst (Z++ [v]))) zs ds:=fun r=>r.mono fun a o e n=>⟨by rw[ah (fun z=>n (.inr z))];exact e,n⟩
       refine⟨Nw _ _ Yf,ag,?_,fun b o e n=>by rw[ah n];exact Nw _ _ (k7 b o e n),fun a O=>?_⟩
       . rw[He,as2,ad1,<-af9];have e1:List.filter p [d2]= [d2]:=by simp [<-hp]
         rw[e1];exact up ((uE.same Nw).append (.one r11))
       . by_cases c:a=D
         . subst c;exact 167
         . rw[ah c];exact E11.al a O
    . have e:Y=j.length:=by grind
      subst e;refine .inl ⟨Zv.stop B Xd,Yf,?_,fun b o e=>k7 b o (DP _ _ (s2 _ _ e)) (au e hD),W8⟩;rw[al1] at uE;rw[Wl,hF];exact uE
 . have e:i=A.length:=by grind
   subst e;refine .inl ⟨yl.stop L kf,?_⟩;rw[al1] at kn;have eH:upd 182 D (.lst I)=L:=by
    funext b
    by_cases c:b=D
    . subst c;rw[ag,BE]
    . rw[ah c,if_neg c]
   rw[<-eH];have sH:aF C 182:=fun b o e=>by
    show(if b=D then none else L b)=some o;rw[if_neg (au e hD)];exact s2 _ _ e
   refine k _ _ _ _ _ q1 (T.same sH) (c1.tr (cW.of sH)) (kn.mono fun a o e n=>⟨?_,fun z=>n (.inl z)⟩) (by show(if D=D then none else L D)=none;rw[if_pos rfl]);show(if a=D then none else L a)=some o;rw[if_neg (fun z=>n (.inr z))];exact e))
def Jg(n1:Nat)(S:lC X N nt js scope)(m:X.calm=true)(hi:Iv X tg iter ti)(c: ∀s H i C t,PG 115 tg gh)(z:lB n1 gh)(J: ∀v b H Q,lG g v b H Q->gh v b H Q)(j: ∀s H i C t,PF 115 ifs (lT tc))(o: ∀s H i C t,Iv 115 iz iter2 Qw)(D: ∀s H i C t,PG 115 iz Vo)(E:G0 n1 nt Vo)(M: ∀v b H Q,lG g2 v b H Q->Vo v b H Q)(d: ∀s H i C t,PF 115 dA (lT qy))(y: ∀s H i C t,Ev 115 elt te)(Y:n1<=nt:=by decide)(n: ∀x,foldedSetIterable iter X.env x=pure x:=by intro _;rfl)(T: ∀s H i C t x,foldedSetIterable iter2 (115).env x=pure x:=by intro _ _ _ _ _ _;rfl):
  Ov X 108 (Gy nt js ti g tc Qw g2 qy te):=PE.imp (Ep S m hi c z Y o T D E d j y n) (ye J M)
end
end LD
namespace Hq
open PySem PySem.Spec L2 PyProof.Rows
def oB:mroOf (.type "dict")=pure [.type "dict",.type "object"]:=by rw[mroOf_type];kernel_rfl
def m4:typeLookup (.type "dict") "__new__"=pure (some (.builtin "dict.__new__")):=by rw[typeLookup_type,builtinLookup_eq_fast];kernel_rfl
def vQ:TypeCalled "dict" "dict.__new__" "dict.__init__":=
 ⟨by decide+kernel,by decide+kernel,⟨_,_,oB⟩,madeBy_type oB m4 174,by decide+kernel,by rw[isSubtype_type];kernel_rfl,F.slot_dict_init⟩
def mY(a:212):checkTypeCall "dict" ⟨[a],[]⟩=pure ():=by kernel_rfl
def oA(a:212):checkBuiltinCall "dict.__new__" ⟨[.type "dict",a],[]⟩=pure ():=by kernel_rfl
def o7:entryFor table "dict.__new__"=some Builtin.«dict.__new__» :=entryFor_of_tree (by kernel_rfl)
def iN:plainId "dict.__new__"=true:=by decide+kernel
def pZ:isSubtype (.type "dict") (.type "dict")=pure true:=by rw[isSubtype_type];kernel_rfl
def qh{s:Shared}(a:Value)(h:Q₁ 118 {s with heap:=s.heap.push {cls:= .type "dict",data:= .dict #[]}}):
  codeAny 105 A (.call (.builtin "dict.__new__") ⟨[.type "dict",a],[]⟩) (wants Q₁ E) s:=by
 refine codeAny_of_tree ?_;show 218 _ A.in1 (do checkBuiltinCall "dict.__new__" ⟨[.type "dict",a],[]⟩;again (.builtin "dict.__new__" ⟨[.type "dict",a],[]⟩)) _ _ s;refine aa8 (wpAny_of_eq (oA a) (ab0 ⟨au3 iN _,ap3 o7 ?_⟩));rw[aq3 iN _];have m:=pZ;have P:=oB;obtain⟨B,g,d,G,q⟩:=s;unfold Builtin.«dict.__new__»;repeat (any_goals (first | assumption | wp_step))
def NL(P:214)(w:237):List V->Hp->VK->Prop:=fun g H Q=> ∃l J,g= [.ref l]/\H l=some (.dT J)/\J≠ []/\(J.map fun R=>tupleKeyHash (a8 P w) R.1).Nodup/\ ∀d,H d=none->Q (.ref d) (upd H d (.dT J))
def Az: ∀{L:List DictEntry},(L.map (·.hash)).Nodup->(∀x∈L,x.hash=h)->L.length > 1->False
 | x::y::r,nd,al,_=>by
  rw[ad4,ad4,am5] at nd;exact nd.1 (by rw[al x ac9,al y 111];exact ac9)
def TC{prog:214}{w:237}{A:244}{E:212->211->Prop}{s:211}{id:String}{ep:Nat}(H:s.heap.get? d=some o)(hd:o.data= .dict es ep)(G: ∀e∈es.toList,∃a,e.key= .ref a/\s.TypeIs 190 "tuple")(V:(es.toList.map (·.hash)).Nodup)(h:Q es s):218 105 A (Builtin.Dict.entriesForEmpty id d) Q E s:=by
 unfold Builtin.Dict.entriesForEmpty;refine aa8 (ap6 H hd (aa8 (wpAny_forIn_array' _ (fun B _ S=>S=s/\ ∀e∈B,e∈es.toList) (fun _ S=>218 105 A (pure es) Q E S) (fun e B b S C=>?_) (fun b S C=>?_) es _ ⟨rfl,fun _ z=>z⟩)))
 . obtain⟨rfl,O⟩:=C;obtain⟨a,f,T⟩:=G e (O e ac9);have c: ¬(es.filter (·.hash==e.hash)).size > 1:=fun z=>by
    have I:((es.toList.filter (·.hash==e.hash)).map (·.hash)).Nodup:=V.sublist (List.Sublist.map _ List.filter_sublist);have D: ∀x∈es.toList.filter (·.hash==e.hash),x.hash=e.hash:=fun x i=>by have:=(an5.mp i).2;rwa [ac4] at this
    rw[<-ac7,Array.toList_filter] at z;exact Az I D z
   rw[f];have g:typeLookup (.type "tuple") "__eq__"=pure (some (.builtin "tuple.__eq__")):=F.slot_tuple_eq.lookup;unfold Builtin.Dict.quietEq;repeat (any_goals (first | assumption | wp_step))
   exact⟨rfl,fun e y=>O e (ac0 _ y)⟩
 . obtain⟨rfl,_⟩:=C;exact ab0 h
def vi: ∀{aJ:List (List Key × V)} {xs:List (List Key × Addr × 212)},KT H aJ xs->xs.map ((fun x=>x.hash) ∘ entryOfKey (tupleKind (a8 P w)))=aJ.map fun R=>tupleKeyHash (a8 P w) R.1
 | _,_,.nil=>rfl
 | _,_,.cons r t=>by
  rw[ad4,ad4,vi t,r.1];rfl
def yg{X:Cx}(hA:X.A.handled=none):fK X (.type "dict") (NL X.prog X.w):=by
 intro d s σ H g us Q I rs h;obtain⟨l,L,rfl,hl,ne,hh,q⟩:=h;obtain⟨u,rfl,ru⟩:=vals1 rs;cases (show u=Value.ref l from ru);have Y:H 205=none:=I.aQ.fresh (ab6 _);refine callType_codes (Q₁:=fun M R=>M= .ref 205/\R={s with heap:=s.heap.push {cls:= .type "dict",data:= .dict #[]}}) vQ (mY _) F.entry_dict_init (qh _ ⟨rfl,rfl⟩) fun M R B=>?_;obtain⟨rfl,rfl⟩:=B;have i:Inv X d σ 185 {s with heap:=s.heap.push {cls:= .type "dict",data:= .dict #[]}}:=I.laid (a:=205) (o:= .dT []) (t':=235) (fun _ _ q=>ab1 _ q) (ab6 _) (o9 s.heap I.big);have nl:l≠s.heap.objs.size:=au hl Y;have C:185 l=some (.dT L):=by rw[ah nl];exact hl
 obtain⟨zz,O3,g,p,ol,P,ep,j,S,U,N,v,Vf⟩:=vI i.aQ C;have Z:(112).get? 205=some {cls:= .type "dict",data:= .dict #[]}:=ac3 _ rfl;have hT:(152).TypeIs 118 "dict":=⟨_,Z,rfl⟩
 have hlT:(152).TypeIs (.ref l) "dict":=⟨_,j,S.1⟩
 have qq:=q _ Y;generalize Fq:s.heap.objs.size=D at*;generalize hs1:152=s0 at*;have m:s0.heap.get? D=some {cls:= .type "dict",data:= .dict #[]}:=by rw[<-hs1];exact Z
 refine⟨hT,F.args_dict_init_2 _ _,?_⟩;have sub:isSubtype (.type "dict") (.type "dict")=pure true:=by rw[isSubtype_type];kernel_rfl
 have f3:=F.slot_dict_iter.lookup;unfold Builtin.«dict.__init__»;repeat (any_goals (first | assumption | wp_step))
 have xl:g.length=L.length:=(Paired.length p).symm;have y:P.toList.length=L.length:=by rw[N,aa9,xl]
 have kne:0 < L.length:=List.length_pos_iff.mpr ne;have m6: ∀e∈P.toList,∃a,e.key= .ref a/\s0.TypeIs 190 "tuple":=fun e he=>by
  rw[N] at he;obtain⟨x,hx,rfl⟩:=ad3.mp he;obtain⟨o,G,n,h1,h2,h3,h4⟩:=v x hx;exact⟨x.2.1,rfl,o,h1,h2⟩
 have Yq:(decide (P.size<=8) && P.all fun e=>(keyPart e.key).isSome)=false:=by
  rw[Bool.and_eq_false_iff];refine .inr ?_;rw[<-Array.all_toList];cases k:P.toList with
  | nil=>rw[k] at y;simp at y;omega
  | cons e r=>
   obtain⟨a,ea,_⟩:=m6 e (by rw[k];exact ac9);rw[aw5,ea];rfl
 have J:(P.toList.map (·.hash)).Nodup:=by
  rw[N,ae6];have:g.map ((fun x=>x.hash) ∘ entryOfKey (tupleKind (a8 X.prog X.w)))=L.map fun kv=>tupleKeyHash (a8 X.prog X.w) kv.1:=by
   exact vi p
  rw[this];exact hh
 rw[if_neg (by rw[ac4];exact fun z=>nl z.symm)];unfold Builtin.Dict.showsAll;rw[if_neg (by rw[O3];exact ab9)];refine aa8 (ab0 (aa8 (ap6 j U ?_)));dsimp only;rw[Yq];rw[if_pos 104];refine aa8 (ap6 m rfl ?_);rw[if_pos 104];refine aa8 (TC j U m6 J ?_);have O:(!P.isEmpty)=true:=by
  cases k:P.toList with
  | nil=>rw[k] at y;simp at y;omega
  | cons e r=>rw[<-Array.isEmpty_toList,k];rfl
 rw[if_pos O];have sz:P.size<=208+1:=by rw[<-ac7,y];omega
 refine aa8 (wpAny_updateDictKeysTo m rfl 204 sz);have sb:Heap.SameBut D s0.heap (s0.heap.update D (Obj.mapDictKeys fun _=>P)):=ar5 ..;have W:(s0.heap.update D (Obj.mapDictKeys fun _=>P)).get? D=some (Obj.mapDictKeys (fun _=>P) {cls:= .type "dict",data:= .dict #[]}):=aj2 _ m (Obj.isFreed_of_dict (Obj.data_mapDictKeys rfl _));have t:upd H D (.dT []) D=some (.dT []):=ag;have T:=fS (t':=s0.toks) i (by rw[t];exact 242) sb ⟨_,W⟩ (ob:= .dT L) ⟨zz,(vI i.aQ t).2.1,g,p.keeps fun c ys V=>by rw[ah (zo V t 157)];exact V,_,P,_,W,⟨rfl,rfl,rfl⟩,Obj.data_mapDictKeys rfl _,N,Vf⟩;have E:upd (upd H D (.dT [])) D (.dT L)=upd H D (.dT L):=by
  funext b
  by_cases f:b=D
  . subst f;rw[ag,ag]
  . rw[ah f,ah f,ah f]
 rw[E] at T;unfold Builtin.Dict.addKeywords;repeat (any_goals (first | assumption | wp_step))
 exact⟨rfl,.ref D,_,T,rfl,qq⟩
end Hq
namespace VA
open PySem PySem.Spec L2 PyProof.Rows PySem.W
section
variable{prog:214}{w:237}{A:244}{E:212->211->Prop}{s:211}{d it:Addr}{es:Array DictEntry}{ep i:Nat}{od:Obj}
def EO(e:s.heap.IsKeyIter it d i es.size ep)(I:s.heap.get? d=some od)(f:od.data= .dict es ep)(hi:i < es.size)(W: ∀r,r.IsKeyIter it d (i+1) es.size ep->Heap.SameBut it s.heap r->Q (some es[i].key) {s with heap:=r}):218 105 A (pyNext (.ref it)) Q E s:=by
 obtain⟨o,x,m,D⟩:=id e;have T:=e.typeIs;unfold pyNext;refine aa8 (aw4 (aj6 (name:=Str.ofString "__next__") T ao3 (ai4 ao3 T F.entry_dict_keyiterator_next ?_ (F.args_dict_keyiterator_next_1 _))));refine aa8 (ab0 (aa8 (aa8 ?_)))
 (first | refine aa8 (ao1 T 204) | refine aa8 (ar1 T 204))
 refine aa8 (wpAny_fieldsOf x D ?_);simp only [show Builtin.Dict_items.ownsTuple "dict_keyiterator"=false by decide,ag1,ak0];show 218 _ _ (if (226 d==221)=true then _ else _) _ _ _;rw[if_neg (show¬(Value.ref d==Value.none)=true from ab9)];refine aa8 (ab0 (aa8 (ap6 I f ?_)));rw[if_neg 111];refine aa8 (ab0 (aa8 (wpAny_dictEpoch I f ?_)));rw[if_neg 111];refine ab0 ?_;simp only [show¬((i:Int) < 0) by lia,ak0,ai6,af8 hi];refine aa8 ?_
 (first | refine aa8 (ao1 T 204) | refine aa8 (ar1 T 204))
 refine aa8 (wpAny_isOneOf_keyiter T ?_);show 218 _ _ (setField (.ref it) 1 (rawInt ((i:Int)+1)) >>=fun _=>_) _ _ _;refine aa8 (aq6 x D 111 ?_);have y:(s.heap.update it (Obj.mapFields (·.setIfInBounds 1 (rawInt ((i:Int)+1))))).IsKeyIter it d (i+1) es.size ep:=⟨_,aj2 _ x (at3 (am9 D _)),(Obj.cls_mapFields ..).trans m,by rw[am9 D];simp [rawInt]⟩
 refine aa8 (af6 (aa8 (wpAny_isOneOf_keyiter (s:={s with heap:=s.heap.update it (Obj.mapFields (·.setIfInBounds 1 (rawInt ((i:Int)+1))))}) y.typeIs ?_)));show 218 _ _ (pure es[i].key) _ _ _;exact ab0 (ab0 ⟨_,rfl,ab0 (W _ y (ar5 ..))⟩)
def JW(L:A.handled=none)(e:s.heap.IsKeyIter it d i es.size ep)(I:s.heap.get? d=some od)(f:od.data= .dict es ep)(hi:es.size<=i)(W: ∀r,Heap.ExtBut it s.heap r->Q none {s with heap:=r}):218 105 A (pyNext (.ref it)) Q E s:=by
 obtain⟨o,x,n,D⟩:=id e;have U:=e.typeIs;unfold pyNext;refine aa8 (aw4 (aj6 (name:=Str.ofString "__next__") U ao3 (ai4 ao3 U F.entry_dict_keyiterator_next ?_ (F.args_dict_keyiterator_next_1 _))));refine aa8 (ab0 (aa8 (aa8 ?_)))
 (first | refine aa8 (ao1 U 204) | refine aa8 (ar1 U 204))
 refine aa8 (wpAny_fieldsOf x D ?_);simp only [show Builtin.Dict_items.ownsTuple "dict_keyiterator"=false by decide,ag1,ak0];show 218 _ _ (if (226 d==221)=true then _ else _) _ _ _;rw[if_neg (show¬(Value.ref d==Value.none)=true from ab9)];refine aa8 (ab0 (aa8 (ap6 I f ?_)));rw[if_neg 111];refine aa8 (ab0 (aa8 (wpAny_dictEpoch I f ?_)));rw[if_neg 111];refine ab0 ?_;simp only [show¬((i:Int) < 0) by lia,ak0,ai6,Array.getElem?_eq_none hi];refine aa8 ?_
 (first | refine aa8 (ao1 U 204) | refine aa8 (ar1 U 204))
 show 218 _ _ (setField (.ref it) 0 .none >>=fun _=>_) _ _ _;refine aa8 (aq6 x D 111 ?_);show 218 _ _ (newExc (.type "StopIteration") [] >>=fun _=>_) _ _ _;refine aa8 ?_;simp only [newExc,newTuple];refine aa8 (ag2 (aa8 (m:=firstArgMember _ _) (wpAny_of_eq (a:=221) (by first | rfl | (simp only [firstArgMember];rfl)) (ag2 ?_ (by size_fits)))) (by size_fits));simp only [raiseNew];refine aa8 (wpAny_handled ?_);rw[show A.in1.handled=none from L];refine aa8 (ab0 (wpAny_throw ?_));refine aa8 (at6 (T:="StopIteration") (b:=true) (show Shared.TypeIs _ _ _ from⟨_,ac3 _ rfl,rfl⟩) isSubtype_stop ?_);exact ab0 (W _ (((ar5 ..).extBut.push _).push _))
def Ha(h:Heap)(d:Addr)(od:Obj)(es:Array DictEntry)(ep:Nat):Prop:=h.get? d=some od/\od.data= .dict es ep
def wA(L:A.handled=none)(I d:Addr)(J:d≠I)(od:Obj)(es:Array DictEntry)(ep:Nat):
  Walks prog w A I [I,d] [I] es.size (fun i v=> ∃e,es[i]?=some e/\v=e.key) (fun i h=>h.IsKeyIter I d i es.size ep/\Ha h d od es ep) where
 sub:=fun b c=>by simp at c;simp [c]
 frame:=fun _ _ _ p F=>⟨p.1.at fun o e=>F I 111 o e,F d 111 _ p.2.1,p.2.2⟩
 item:=fun i s Q E H p W=>EO p.1 p.2.1 p.2.2 H fun r x f=>W _ r s.toks ⟨es[i],af8 H,rfl⟩ ⟨x,f.extBut d od J p.2.1,p.2.2⟩ fun b o c e=>f.extBut b o (fun h=>c (by simp [h])) e
 done:=fun s Q E p W=>JW L p.1 p.2.1 p.2.2 (ab6 _) fun r y=>W r s.toks fun b o c e=>y b o (fun h=>c (by simp [h])) e
 self:=fun _ _ _ _ p W=>wpAny_pyIter_keyiter p.1 W
def Fd(h:od.ExactDict)(M:(d==sysModules)=false)(L:Ha s.heap d od es ep)(W:Q 118 {s with heap:=s.heap.push {cls:= .type "dict_keyiterator",data:= .fields #[.ref d,.int 0 0,.int es.size 0,.int ep 0]}}):218 105 A (pyIter (.ref d)) Q E s:=by
 obtain⟨x,q⟩:=L;have T:s.TypeIs (.ref d) "dict":=⟨od,x,h.1⟩
 refine wpAny_pyIter_slot T F.slot_dict_iter (ai4 F.slot_dict_iter T F.entry_dict_iter ?_ (F.args_dict_iter_1 _));unfold Builtin.«dict.__iter__»;refine aa8 ?_;unfold Builtin.Dict.dictSlotNone;refine aa8 (wpAny_notOrdered_dict T ?_);show 218 _ _ (pure (226 d)) _ _ _;refine ab0 ?_;show 218 _ _ (Builtin.Dict.showsAll d >>=fun _=>_) _ _ _;unfold Builtin.Dict.showsAll;rw[if_neg (by rw[M];exact ab9)];refine aa8 (ab0 (aa8 (ap6 x q (aa8 (wpAny_dictEpoch x q (aa8 (ag2 (ab0 ⟨_,rfl,"dict_keyiterator",_,⟨_,ac3 _ rfl,rfl⟩,F.slot_dict_keyiterator_next.lookup,?_⟩))))))));simpa [rawInt] using W
def Jo(j:od.ExactDict)(M:(d==sysModules)=false):KdlSrc prog w "dict" d d es.size (fun i v=> ∃e,es[i]?=some e/\v=e.key) (fun h=>Ha h d od es ep) where
 type:=fun _ O=>⟨od,O.1,j.1⟩
 there:=fun _ O=>⟨ac5 O.1,ac5 O.1⟩
 keep:=fun _ _ O F=>⟨F d (.inl rfl) _ O.1,O.2⟩
 notList:=by decide
 notTuple:=by decide
 hint:=fun _ _ _ _ O U=>kdl_hint_dict ⟨od,O.1,j.1⟩ U
 iter:=fun _ _ L O=>⟨_,_,(fun _ _ U=>Fd j M O U),wA L _ d (af1 (ac5 O.1)) od es ep,⟨⟨_,ac3 _ rfl,rfl,rfl⟩,ab1 _ O.1,O.2⟩⟩
def tD(P:A.handled=none)(n:od.ExactDict)(T:(d==sysModules)=false)(L:Ha s.heap d od es ep)(V:es.size<=208)(h: ∀r G,205 < r.objs.size->(∀b o,s.heap.get? b=some o->r.get? b=some o)->Q 160 {s with heap:=r,toks:=G}):218 105 A (collect (.ref d)) Q E s:=by
 have g:=ac5 L.1;unfold collect;refine aa8 (wpAny_runValue (ap3 F.entry_proto_collect ?_));rw[aq3 F.plain_proto_collect _];show 218 _ A.in1 (newList [] >>=fun l=>again (.builtin "list.__iadd__" ⟨[l,.ref d],[]⟩)) _ _ s;refine aa8 (ag2 (ab0 ⟨au3 F.plain_list_iadd _,ap3 F.entry_list_iadd ?_⟩));rw[aq3 F.plain_list_iadd _];have m:(106).get? 205=some {cls:= .type "list",data:= .seq #[]}:=ac3 _ rfl;show 218 _ A.in1 (Builtin.List.listExtendWith 118 (.ref d) 118) _ _ _;have fin: ∀(r:Heap) (G:Nat) (I:Array 212) (c:Nat),(∀b o,b≠205->(106).get? b=some o->r.get? b=some o)->r.get? 205=some {cls:= .type "list",dict:=none,data:= .seq I c,slots:= #[]}->ItemsOf (fun i v=> ∃e,es[i]?=some e/\v=e.key) I es.size->205 < r.objs.size/\Q I.toList {s with heap:=r,toks:=G}:=fun r G I c H M k=>by
  have W:I.toList=es.toList.map (·.key):=by
   refine al4 fun j=>?_;rw[ab8,ah2,ah2];by_cases c:j < es.size
   . have t:j < I.size:=by rw[k.1];exact c
     obtain⟨e,z,u⟩:=k.2 j _ (af8 t);rw[af8 t,z,u];rfl
   . rw[Array.getElem?_eq_none (by rw[k.1];lia),Array.getElem?_eq_none 102];rfl
  have:=h r G (ac5 M) fun b o e=>H b o (af1 (ac5 e)) (ab1 _ e);rw[<-W] at this;exact⟨ac5 M,this⟩
 have key:=kdl_extend (A:=A) (s:={s with heap:=s.heap.push {cls:= .type "list",data:= .seq (([]:List 212)).toArray}}) (R:=fun(q:Result) (S:211)=> ∃(r:Heap) (G:Nat) (I:Array 212) (c:Nat),q= .ok (.ret 118)/\S={s with heap:=r,toks:=G}/\r.get? 205=some {cls:= .type "list",dict:=none,data:= .seq I c,slots:= #[]}/\Q I.toList {s with heap:=r,toks:=G}) (Jo (prog:=prog) (w:=w) (ep:=ep) (es:=es) (od:=od) n T) P ⟨ab1 _ L.1,L.2⟩ s.heap.objs.size (ao6 g) (ao6 g) 118 0 m (fun r G I c H M k=>⟨r,G,I,c,rfl,rfl,M,(fin r G I c H M k).2⟩) V;refine ae3 key (fun O S x=>?_) fun e S x=>by obtain⟨_,_,_,_,N,_⟩:=x;cases N
 cases O with
 | done f=>
  obtain⟨r,G,I,c,e,rfl,M,q⟩:=x;cases e;show 218 _ A (load 205 >>=fun _=>_) _ _ _;exact aa8 (wpAny_load M (ab0 q))
 | again c₁=>
  refine⟨x.1,ao5 x.2 fun q J y=>?_⟩;obtain⟨r,G,I,c,rfl,rfl,M,q⟩:=y;show 218 _ A (load 205 >>=fun _=>_) _ _ _;exact aa8 (wpAny_load M (ab0 q))
end
end VA
namespace L2
open PySem PySem.Spec PyProof.Rows
def hasObj(x:aX P w H h a o): ∃u,h.get? a=some u:=by
 cases o with
 | lst xs=>obtain⟨_,_,_,_,e⟩:=x;exact⟨_,e⟩
 | tup xs=>obtain⟨_,_,_,o,e,_⟩:=x;exact⟨o,e⟩
 | dK aJ=>obtain⟨_,_,_,_,o,_,_,e,_⟩:=x;exact⟨o,e⟩
 | dT aJ=>obtain⟨_,_,_,_,o,_,_,e,_⟩:=x;exact⟨o,e⟩
 | set S n=>obtain⟨o,_,_,_,e,_⟩:=x;exact⟨o,e⟩
 | ins C dx fs=>obtain⟨_,_,_,e,_⟩:=x;exact⟨_,e⟩
 | own y=>exact x
 | xd fs=>obtain⟨_,⟨o,_,_,e,_⟩,_⟩:=x;exact⟨o,e⟩
 | je lo hi=>obtain⟨_,_,_,e⟩:=x;exact⟨_,e⟩
 | vq o u=>exact⟨_,x.1⟩
 | K0 ps=>exact⟨_,x⟩
 | met f y=>exact⟨_,x⟩
 | ext φ=>exact x.2.1
section
variable{P:214}{w:237}{K:207}{mg:Str->210 212}{base:Heap}
def eW.okX {CX : Hs} {x qual : Str} {st : Stmt} {k : Nat} (F : eW K x qual st f fd) (S : aD N ps (ae st)) (i : ∀ u H Q E, sp u H Q E -> u.length = ps.length) (n : ∀ (bC : Value) (A : Around) (outer : List Env) (s : Shared) (H : Hp) (u : List V) (Q : VK) (E : XK), bN k 139 -> sp u H Q E ->
   ∃t,jw (jj CX P w K mg base N qual (ae st) f bC A outer s H E) (bS st) t/\t {nx:=fun _ q=>Q .aO q,rt:=Q} (start N u) H):aU P w K mg base CX (k+1) f fd ps sp:=by
 obtain⟨g,I,m,y,B,M,bC,X,e,rfl,p,T⟩:=F.ex;exact L9 p T S i fun A outer s H u Q E o h=>n bC A outer s H u Q E o h
end
def lJ(j:List Addr)(H':Hp)(h h' B:Heap):Prop:= ∀b o,h'.get? b=some o->b∉j->((H' b).isSome=true\/(h.get? b).isSome=true)->B.get? b=some o
def OP(x:gG P w H' h')(p:lJ fs H' h h' B)(st:B.StaysIn h2)(J: ∀b∈fs,H' b=none):gG P w H' h2:=fun a o e=>(x a o e).gM (fun b u c y=>by
 have E:(H' b).isSome=true:=by
  rcases c with rfl | c
  . rw[e];rfl
  . rw[c];rfl
 refine st b u (p b u y (fun z=>?_) (.inl E));rw[J b z] at E;cases E) (fun _ q=>q) fun _ _ q=>q
def Q7(u:Un fs [] H H' h h')(p:lJ fs H' h h' B)(st:B.StaysIn h2)(M:h'.UpToSlots h2)(J: ∀b∈fs,∀o,h.get? b=some o-> ∀v,o.data≠ .fields v)(l: ∀b∈fs,∀o,h'.get? b=some o-> ∃a,h2.get? b=some a):Un fs [] H H' h h2:=by
 refine⟨fun b o e n c i=>st b o (p b o (u.keep b o e n c i) c (.inr (by rw[e];rfl))),fun b o e n c i=>?_,u.free,fun b o e i=>?_,u.jB,u.kO,u.lQ⟩
 . obtain⟨d,k⟩:=u.slot b o e n c i;obtain⟨P,I⟩:=M b _ k (J b c o e);exact⟨P,I⟩
 . obtain⟨a,k⟩:=u.there b o e i;by_cases c:b∈fs
   . exact l b c a k
   . exact⟨a,st b a (p b a k c (.inr (by rw[e];rfl)))⟩
end L2
namespace LX
open PySem PySem.W PySem.Spec PySem.Calls PyProof.Rows
section
variable{prog:214}{w:237}{A:244}{E:212->211->Prop}{h:Heap}{g:Array GenState}{d:Drawn}{t:Nat}{os:OsState}{K:Frag}{x D:Addr}{ox:Obj}
def C6(i:h.get? x=some ox)(m:ox.cls= .ref D):Looks M h (typeOf (.ref x)) 173:=by rw[<-m];exact(Looks.ld i).andThen .now
def JT(X:K.In h)(j:h.get? x=some ox)(m:ox.cls= .ref D)(O:mroIn K D 189=some true)(U:R (.ok (.ret 173)) ⟨h,g,d,t,os⟩):
  codeAny 105 A (.call (.builtin "getset_descriptor.__get__") ⟨[.builtin "object.__class__",.ref x,.ref D],[]⟩) R ⟨h,g,d,t,os⟩:=by
 have i:(⟨h,g,d,t,os⟩:211).TypeIs 134 "getset_descriptor":=F.typeOf_object_class;have u: ∀{A:244} {E:212->211->Prop} {Q:Bool->211->Prop},Q true ⟨h,g,d,t,os⟩->218 105 A (isSubtype 173 189) Q E ⟨h,g,d,t,os⟩:=fun q=>(looks_mroIn (M:=model prog w) X O).at q;refine an6 F.slot_gs_get.plain F.entry_gs_get (F.slot_gs_get.check _ _ _ _ _ _ _ _ i (F.args_gs_get _ _ _) ?_);repeat (any_goals (first | assumption | (with_reducible refine ai5 j ?_;rw[m]) | refine u ?_ | wp_step))
 refine⟨av1 _ 174,ap3 F.entry_object_class ?_⟩;repeat (any_goals (first | assumption | (with_reducible refine ai5 j ?_;rw[m]) | wp_step))
def BO(X:K.In h)(i:h.get? x=some ox)(m:ox.cls= .ref D)(n:findIn K 173 "__class__"=some (some 134))(O:mroIn K D 189=some true)(U:Q (.done (.ret 173)) ⟨h,g,d,t,os⟩):218 105 A (Builtin.«object.__getattribute__» ⟨[.ref x,.str "__class__" tk],[]⟩) Q E ⟨h,g,d,t,os⟩:=by
 have j:(⟨h,g,d,t,os⟩:211).TypeIs 134 "getset_descriptor":=F.typeOf_object_class;have y:=F.typeOf_object_class;have s:=F.slot_gs_get.lookup;have v:=F.slot_gs_set.lookup;have u: ∀{A:244} {E:212->211->Prop} {Q:210 212->211->Prop},Q (some 134) ⟨h,g,d,t,os⟩->218 105 A (typeLookup 173 "__class__") Q E ⟨h,g,d,t,os⟩:=fun q=>(as9 (M:=model prog w) X n).at q;repeat (any_goals (first | assumption | (with_reducible refine ai5 i ?_;rw[m]) | with_reducible refine u ?_ | wp_step))
 refine JT X i m O ?_;repeat (any_goals (first | assumption | wp_step))
def qY(X:K.In h)(j:h.get? x=some ox)(m:ox.cls= .ref D)(i:mroIn K D 144=some true)(U:Q () ⟨h,g,d,t,os⟩):
  218 M A (checkBuiltinCall "BaseException.__getattribute__" ⟨[.ref x,Sf],[]⟩) Q E ⟨h,g,d,t,os⟩:=by
 have G:builtinKind "BaseException.__getattribute__"=some .slot:=by decide+kernel
 have N:splitId "BaseException.__getattribute__"=some ("BaseException","__getattribute__"):=by decide+kernel
 have f:=F.args_bexc_ga (.ref x) Sf;have O:=C6 (M:=M) j m;have u:=looks_mroIn (M:=M) X i;have P:Looks M h (isInstance (.ref x) 144) true:=O.andThen u;simp only [checkBuiltinCall,G,N];refine aa8 (P.at ?_);repeat (first | assumption | wp_step)
def FR(X:K.In h)(i:h.get? x=some ox)(m:ox.cls= .ref D)(n:findIn K 173 "__class__"=some (some 134))(O:mroIn K D 189=some true)(j:mroIn K D 144=some true)(y:Slot "BaseException" "__getattribute__" "BaseException.__getattribute__")(U:R (.ok (.ret 173)) ⟨h,g,d,t,os⟩):
  codeAny 105 A (.call 120 ⟨[.ref x,.str "__class__" tk],[]⟩) R ⟨h,g,d,t,os⟩:=
 an6 y.plain F.entry_bexc_ga (qY X i m j (BO X i m n O U))
def Ph{u f:Bool}(X:K.In h)(i:h.get? x=some ox)(m:ox.cls= .ref D)(n:findIn K 173 "__class__"=some (some 134))(O:mroIn K D 189=some true)(j:mroIn K D 144=some true)(y:Slot "BaseException" "__getattribute__" "BaseException.__getattribute__")(k:findIn K 173 "__getattribute__"=some (some 120))(e:findIn K 173 "__getattr__"=some none)(U:Q 173 ⟨h,g,d,t,os⟩):
  218 105 A (getAttrBy (.ref x) (.str "__class__" tk) u f) Q E ⟨h,g,d,t,os⟩:=by
 have J:=y.bind (.ref x);have l:(f && onTheHeap (Value.builtin "BaseException.__getattribute__"))=false:=by cases f <;> rfl
 have Y:(Value.builtin "BaseException.__getattribute__"==Value.builtin "object.__getattribute__")=false:=by decide+kernel
 have z:(onTheHeap (226 D) && Value.builtin "BaseException.__getattribute__"==Value.builtin "object.__getattribute__")=false:=by rw[Y];rfl
 have v: ∀{A:244} {E:212->211->Prop} {Q:210 212->211->Prop},Q (some 120) ⟨h,g,d,t,os⟩->218 105 A (typeLookup 173 "__getattribute__") Q E ⟨h,g,d,t,os⟩:=fun q=>(as9 (M:=model prog w) X k).at q;have r: ∀{A:244} {E:212->211->Prop} {Q:210 212->211->Prop},Q none ⟨h,g,d,t,os⟩->218 105 A (typeLookup 173 "__getattr__") Q E ⟨h,g,d,t,os⟩:=fun q=>(as9 (M:=model prog w) X e).at q;repeat (any_goals (first | assumption | (with_reducible refine ai5 i ?_;rw[m]) | with_reducible refine v ?_ | with_reducible refine r ?_ | wp_step))
 refine FR X i m n O j y ?_;repeat (any_goals (first | assumption | wp_step))
def BP(X:K.In h)(k:h.get? x=some ox)(m:ox.cls= .ref D)(n:findIn K 173 "__class__"=some (some 134))(O:mroIn K D 189=some true)(i:mroIn K D 144=some true)(y:Slot "BaseException" "__getattribute__" "BaseException.__getattribute__")(j:findIn K 173 "__getattribute__"=some (some 120))(e:findIn K 173 "__getattr__"=some none)(U:Q (some 173) ⟨h,g,d,t+1,os⟩):
  218 105 A (getAttr? (.ref x) "__class__") Q E ⟨h,g,d,t,os⟩:=by
 unfold getAttr? getAttrBy?;repeat (any_goals (first | assumption | with_reducible apply Ph X k m n O i y j e | wp_step))
def excAt(x D:Addr)(h:Heap):Prop:= ∃ox,h.get? x=some ox/\ox.cls= .ref D
structure Qo(K:Frag)(D:Addr):Prop where
 cl:findIn K 173 "__class__"=some (some 134)
 ob:mroIn K D 189=some true
 be:mroIn K D 144=some true
 ga:findIn K 173 "__getattribute__"=some (some 120)
 gx:findIn K 173 "__getattr__"=some none
 is:(clsIn K D).isSome=true
def EZ(Y:Qo K D)(F:Slot "BaseException" "__getattribute__" "BaseException.__getattribute__"):KitX K (.ref x) 173 (excAt x D) where
 ty:=fun _ _ _ B=>(by obtain⟨ox,i,m⟩:=B;exact(C6 i m))
 it:=fun _ _ X _=>by
  have L:=Y.is;unfold clsIn at L;split at L
  . rename_i T p l P y;intro G r H S k q;unfold isType loadHead;exact aa8 (wpAny_loadPart (k _ _ (X _ _ y)) (ab0 q))
  . cases L
 ne:=fun h C I v n N X o=>by
  have L:=Y.is;refine Bool.eq_false_iff.mpr fun q=>?_;have e:D=C:=Value.ref.inj (ac4.mp q);subst e;unfold clsIn at L;split at L
  . rename_i T p l P y;have z:=(X _ _ y).symm.trans o;cases z
  . cases L
 ca:=fun{_ _ _ _ _ s} X M k=>(by obtain⟨ox,i,m⟩:=M;exact(by obtain⟨h,g,d,t,os⟩:=s;exact BP X i m Y.cl Y.ob Y.be F Y.ga Y.gx k))
end
end LX
namespace L2
open PySem PySem.Spec PyProof.Rows
section
variable{X:Cx}{pins:List 121}{σ:St}{H H':Hp}{s s2:211}{ea t:Addr}{cls:212}{B:Heap}
noncomputable abbrev Cx.marked (X:Cx) (ea:Addr):Cx:={X with A:=X.A.mark (some (.ref ea)),calm:=false,xe:=fun _ _=>False}
def Inv.marked(I:Inv X pins σ H s)(ea:Addr):Inv (X.marked ea) pins σ H s:=
 let l:=I.ok
 ⟨⟨l.mod,l.kind,l.glob,l.blt,l.above,l.inj,l.has,l.QR,fun z=>(by cases z),l.frames,l.Ru,l.JQ,l.bs,l.Hn,l.Bc,l.vA,l.kM,l.L8⟩,I.os,I.bare,I.base,I.loc,I.cell,I.free,I.fF,I.pin,I.aQ,I.len⟩
def Inv.unmarked(J:X.Ok)(I:Inv (X.marked ea) pins σ H s):Inv X pins σ H s:=
 ⟨J,I.os,I.bare,I.base,I.loc,I.cell,I.free,I.fF,I.pin,I.aQ,I.len⟩
def nF(I:Inv X pins σ H s)(L:236)(hi:X.N[i]?=some n)(M:X.env.scope.names.lookup n=some .local)(h: ∀S,Inv X pins (σ.set i none) H S->Q () S):218 107 A (do bindName X.env n .none;unbindBehindTheSuite X.env n pos) Q E s:=by
 obtain⟨m,V,O⟩:=id I.loc;have xP:(X.env.scope.kind== .class || (X.env.scope.kind== .module && X.env.locals !=X.env.globals))=false:=by rw[I.ok.kind];rfl
 have T:i < σ.length:=by rw[I.len];exact(ac1.mp hi).1
 refine wpAny_nameGoes_keeps M V xP fun h' v G r=>h _ ?_;obtain⟨oL,_,_,Z9,_⟩:=id V;have D: ∀b o,X.s₀.heap.get? b=some o->b≠X.env.locals:=fun b o e=>af1 (ae2 (ac5 e) I.ok.above);refine⟨I.ok,I.os,I.bare,⟨fun b o e n f u=>(r.2 b (D b o e)).trans (I.base.keep b o e n f u),fun b o e n f u=>?_,I.base.free,fun b o e u=>?_,I.base.jB,I.base.kO,I.base.lQ⟩,⟨_,G,fun j y v' l x J=>?_⟩,fun y c e=>?_,I.free,I.fF,fun p P=>?_,fun b W e=>?_,by simpa using I.len⟩
 . obtain⟨Z,l⟩:=I.base.slot b o e n f u;exact⟨Z,(r.2 b (D b o e)).trans l⟩
 . obtain⟨a,l⟩:=I.base.there b o e u;exact⟨a,(r.2 b (D b o e)).trans l⟩
 . have g : j ≠ i := fun z => by
     subst z;rw[ad5 T] at x;cases x
   rw[ac2 (Ne.symm g)] at x;obtain⟨u',Y,q⟩:=O j y v' l x J;refine⟨u',Y,?_⟩;rcases q with ⟨k,e⟩ | ⟨k,c,e,z⟩
   . have:y≠n:=fun e=>g (oz L l (e▸hi));exact .inl ⟨k,by simp [this,e]⟩
   . exact .inr ⟨k,c,e,z.sameBut r (I.Kt y c e)⟩
 . obtain⟨F,z⟩:=I.cell y c e;exact⟨F,z.sameBut r (I.Kt y c e)⟩
 . obtain⟨e,n,R,U,d⟩:=I.pin p P;exact⟨(r.2 p.1 R).trans e,n,R,U,d⟩
 . refine(I.aQ b W e).gM (fun c F C q=>(r.2 c ?_).trans q) (fun _ q=>q) fun _ _ q=>q;rintro rfl
   rcases C with z | C
   . rw[<-z,I.free] at e;cases e
   . rw[I.free] at C;cases C
def F1(D:Ends)(ie:Nat):Ends:={nx:=fun R H'=>D.nx (R.set ie none) H',bk:=fun R H'=>D.bk (R.set ie none) H',ct:=fun R H'=>D.ct (R.set ie none) H',rt:=D.rt}
end
end L2
namespace gZ
open PySem PySem.W PyProof.Rows
variable{N:Nat}{K:Nat->Int}{s:211}{cmp:Nat->Nat->(Bool->211->Prop)->211->Prop}
def Cok(N:Nat)(K:Nat->Int)(cmp:Nat->Nat->(Bool->211->Prop)->211->Prop)(s:211):Prop:= ∀i j,i < N->j < N-> ∀C:Bool->211->Prop,C (decide (K i < K j)) s->cmp i j C s
structure Pm(N:Nat)(p:Array Nat):Prop where
 pm:p.Perm (219 N).toArray
def Pm.sz(h:Pm N p):p.size=N:=by rw[h.pm.size_eq];simp
def kp(K:Nat->Int)(p:Array Nat)(i:Nat):Int:=K (p.getD i 0)
def Zu(K:Nat->Int)(p:Array Nat)(n:Nat):Prop:= ∀i j,i<=j->j < n->kp K p i<=kp K p j
section
variable{prog:214}{w:237}{A:244}{E:212->211->Prop}{z:211}{K:Nat->Int}{vs:List 212}
structure Ask(prog:214)(w:237)(A:244)(vs:List 212)(K:Nat->Int)(z:211)(κ:SortKind):Prop where
 kind: ∀Q:SortKind->211->Prop,Q κ z->218 105 A (keyKind' vs.toArray) Q 122 z
 ask:Cok vs.length K (kas_ask prog w A κ vs) z
def outs(vs:List 212)(p:Array Nat):Array Value:=List.toArray (p.toList.map fun i=>vs.getD i 221)
def Eu(B:Pm vs.length p):(outs vs p).size=vs.length:=by
 unfold outs;rw[ad0,aa9,ac7,B.sz]
def IH:((154).map fun q:Keyed=>q.2)=outs vs (219 234).toArray:=by
 apply au1.mp;unfold outs;apply List.ext_getElem
 . simp
 . intro i d e;have H:i < vs.length:=by simpa using d
   simp [H]
end
def enc(B:Int)(q:Int × Int):Int:=q.1*B+q.2
def x5(C:0<=p.2/\p.2 < B)(U:0<=q.2/\q.2 < B):decide (enc B p < enc B q)=(if (p.1==q.1)=true then(if (p.2==q.2)=true then false else decide (p.2 < q.2)) else decide (p.1 < q.1)):=by
 obtain⟨a,b⟩:=p;obtain⟨c,d⟩:=q;unfold enc;simp only at C U ⊢;by_cases e:a=c
 . subst e;rw[if_pos (by rw[ac4])];by_cases f:b=d
   . subst f;rw[if_pos (by rw[ac4])];rw[ar6];lia
   . rw[if_neg (by rw[ac4];exact f)];exact am8.mpr ⟨fun h=>by lia,fun h=>by lia⟩
 . rw[if_neg (by rw[ac4];exact e)];refine am8.mpr ⟨fun h=>?_,fun h=>?_⟩
   . refine Int.lt_of_not_ge fun z=>?_;have:(c+1)*B<=a*B:=ag9 102 102;rw[an2] at this;lia
   . have:(a+1)*B<=c*B:=ag9 102 102;rw[an2] at this;lia
end gZ
namespace gZ
open PySem PySem.Spec L2 LB PyProof.Rows
def t9: ∀{l:List Nat},(∀i∈l,RelV (f i) (g i))->Vals (l.map f) (l.map g)
 | [],_=> .nil
 | i::l,h=> .cons (h i 111) (t9 fun j k=>h j (by simp [k]))
def map_getD{α:Type}{I:List α}{d:α}:(219 I.length).map (fun i=>I.getD i d)=I:=by
 apply List.ext_getElem
 . simp
 . intro i f e;simp [e]
end gZ
namespace LD
open PySem PySem.Spec L2 LB Hq PyProof.Rows
section
variable{X:Cx}{a b e f:Expr}{ta tb t:bD}{tA:gH}{pos p p2:Pos}
def Z2(T:String):Dt->210 Bool
 | .aO=>some false
 | .bl _=>some (T=="bool" || T=="int")
 | .int _=>some (T=="int")
 | .str _=>some (T=="str")
 | .lst _=>some (T=="list")
 | .tup _=>some (T=="tuple")
 | _=>none
def Jq{b:Bool}(r:Rep M H v d)(h:Z2 T d=some b):vc T H v=some b:=by
 cases r with
 | aO=>exact h
 | bl c=>exact h
 | int c=>exact h
 | str c=>exact h
 | lst e n l r=>simp only [vc,e];exact h
 | tup e n l r=>simp only [vc,e];exact h
 | zT e n k l r=>cases h
 | m8 e n k l r=>cases h
inductive P0(T:String)(Q:Dt->List Sl->Prop)(d:Dt)(δ':List Sl):Prop
 | mk (b:_) (h1:Z2 T d=some b) (h2:Q (.bl b) δ')
def YQ(T:String)(t:bD):bD:=fun i Q=>t i fun d k=>P0 T Q d k
def Ca:227 "isinstance"=some (.builtin "isinstance"):=by decide+kernel
def cS(Y:T="int"\/T="bool"\/T="tuple"\/T="list"\/T="str")(O:X.mg "isinstance"=none)(g:PA X [e,f] (qz (lE t) (qz (tC (.ty T)) um)))(h:Gl X "isinstance":=by rfl)(y:starEach [e,f] X.env=(false,eval e X.env)::starEach [f] X.env:=by rfl)(V:(backTo pos (starEach [f] X.env)).any (·.1)=false:=by rfl):
  Ev X (.Call (.Name "isinstance" p) [e,f] [] pos) (YQ T t):=PE.imp (gr (OH Y) h O Ca g 104 104 y V) fun j H Q N=>(by obtain⟨W,M,P,i,G,E,q,k⟩:=N;exact(
 ⟨W,M,P,i,_,E,q,fun d l r v Z U F w=>(by obtain⟨b,c,s⟩:=Z;exact(⟨v,b,rfl,Jq w c,k _ _ _ _ s U F (.bl _)⟩))⟩))
end
end LD
namespace L2
open PySem PySem.Spec PyProof.Rows
section
variable{X:Cx}
def mK(H:Hp):V->210 Bool
 | .aO=>some false
 | .bl _=>some false
 | .int _=>some false
 | .str _=>some false
 | .ref a=>match H a with
  | some (.lst _)=>some true
  | some (.tup _)=>some true
  | _=>none
 | _=>none
def Rn(v:TE):TE:=fun c H Q=>v c H fun x l=> ∃b,mK l x=some b/\Q (.bl b) l
def IC{k}(M:PE X e te)(D:Gl X "isinstance")(B:X.mg "isinstance"=none)(r:Gl X "list")(A:X.mg "list"=none)(C:Gl X "tuple")(z:X.mg "tuple"=none)(q:starEach [e, .Tuple [.Name "list" p1, .Name "tuple" p2] k pt] X.env=(false,eval e X.env)::starEach [.Tuple [.Name "list" p1, .Name "tuple" p2] k pt] X.env:=by rfl):
  PE X (.Call (.Name "isinstance" p) [e,.Tuple [.Name "list" p1,.Name "tuple" p2] k pt] [] pos) (Rn te):=by
 intro c s d H Q I h;refine am1 (dj I D B boot_isinstance ?_);refine PyProof.Rows.callWith_builtin1 ?_ q rfl;rw[q];show 218 _ _ (spliced ((false,eval e 216)::backTo pos (209 [.Tuple [.Name "list" p1,.Name "tuple" p2] k pt] 216))) _ _ s;refine ap1 (aV (M c s d H _ I h) fun u P F=>?_);obtain⟨x,l,Y,y,E,v,O⟩:=F;have j:209 [Expr.Tuple [.Name "list" p1,.Name "tuple" p2] k pt] 216=(false,eval (.Tuple [.Name "list" p1,.Name "tuple" p2] k pt) 216)::209 [] X.env:=rfl;rw[j];show 218 _ _ (spliced ((false,eval (.Tuple [.Name "list" p1,.Name "tuple" p2] k pt) 216)::backTo pos 137)) _ _ P;refine ap1 (wpAny_Tuple_spliced ?_);have J:209 [Expr.Name "list" p1,.Name "tuple" p2] 216=(false,eval (.Name "list" p1) 216)::209 [.Name "tuple" p2] X.env:=rfl;rw[J];show 218 _ _ (spliced ((false,eval (.Name "list" p1) 216)::backTo pt (209 [.Name "tuple" p2] 216))) _ _ P;refine ap1 (dj Y r A LB.cz ?_);have L:209 [Expr.Name "tuple" p2] 216=(false,eval (.Name "tuple" p2) 216)::209 [] X.env:=rfl;rw[L];show 218 _ _ (spliced ((false,eval (.Name "tuple" p2) 216)::backTo pt 137)) _ _ P;refine ap1 (dj Y C z LB.cw ?_);refine aw2 ⟨by show 2<=208;decide,?_⟩;refine aw2 ?_;have fin: ∀(S:211),S={P with heap:=P.heap.push {cls:= .type "tuple",data:= .seq [Value.type "list",Value.type "tuple"].toArray}}-> ∀G,EP X c d Q (.bool E) {S with toks:=G}:=fun S e G=>by
  subst e;exact⟨.bl E,l,Y.kept fun b o e=>ab1 _ e,rfl,O⟩
 cases x with
 | aO=>
  cases v;cases (show u=Value.none from y);exact ar9 (Tx:="NoneType") (cs:= [.type "list",.type "tuple"]) (vs:= [false,false]) ⟨Answers.of_false_none 104 158 158,Answers.of_false_none 104 158 158,242⟩ rfl (ac3 _ rfl) (fin _ rfl)
 | bl i=>
  cases v;cases (show u=Value.bool i from y);exact ar9 (Tx:="bool") (cs:= [.type "list",.type "tuple"]) (vs:= [false,false]) ⟨Answers.of_false_bool 104 158 158,Answers.of_false_bool 104 158 158,242⟩ rfl (ac3 _ rfl) (fin _ rfl)
 | int i=>
  cases v;obtain⟨t,rfl⟩:=(show∃t,u=Value.int i t from y)
  exact ar9 (Tx:="int") (cs:= [.type "list",.type "tuple"]) (vs:= [false,false]) ⟨Answers.of_false_int 104 158 158,Answers.of_false_int 104 158 158,242⟩ rfl (ac3 _ rfl) (fin _ rfl)
 | str i=>
  cases v;obtain⟨t,rfl⟩:=(show∃t,u=Value.str i t from y)
  exact ar9 (Tx:="str") (cs:= [.type "list",.type "tuple"]) (vs:= [false,false]) ⟨Answers.of_false_str 104 158 158,Answers.of_false_str 104 158 158,242⟩ rfl (ac3 _ rfl) (fin _ rfl)
 | ref a=>
  cases (show u=Value.ref a from y);cases f:l a with
  | none=>simp only [mK,f] at v;cases v
  | some o=>
   cases o with
   | lst xs=>
    simp only [mK,f] at v;cases v;obtain⟨_,_,n,_,g⟩:=(show aX X.prog X.w l P.heap a (.lst xs) from Y.aQ a _ f)
    exact ar9 (Tx:="list") (cs:= [.type "list",.type "tuple"]) (vs:= [true,false]) ⟨Answers.of_true 158 158,Answers.of_false_list 104 158 158,242⟩ ⟨_,ab1 _ g,rfl⟩ (ac3 _ rfl) (fin _ rfl)
   | tup xs=>
    simp only [mK,f] at v;cases v;obtain⟨_,_,_,o,N,m,_⟩:=(show aX X.prog X.w l P.heap a (.tup xs) from Y.aQ a _ f)
    exact ar9 (Tx:="tuple") (cs:= [.type "list",.type "tuple"]) (vs:= [false,true]) ⟨Answers.of_false_tuple 104 158 158,Answers.of_true 158 158,242⟩ ⟨_,ab1 _ N,m⟩ (ac3 _ rfl) (fin _ rfl)
   | _=>simp only [mK,f] at v;cases v
 | _=>cases v
end
end L2
namespace LD
open PySem PySem.Spec L2 LB Hq PyProof.Rows LW
section
variable{X:Cx}{a b e f:Expr}{ta tb t t':bD}{tA:gH}{pos p p2:Pos}
def Sx:Dt->210 Bool
 | .zT _ _=>none
 | .m8 _ _=>none
 | .lst _=>some true
 | .tup _=>some true
 | _=>some false
def Fg{b:Bool}(r:Rep M H v d)(h:Sx d=some b):mK H v=some b:=by
 cases r with
 | aO=>exact h
 | bl c=>exact h
 | int c=>exact h
 | str c=>exact h
 | lst e n l r=>simp only [mK,e];exact h
 | tup e n l r=>simp only [mK,e];exact h
 | zT e n k l r=>cases h
 | m8 e n k l r=>cases h
inductive Km(Q:Dt->List Sl->Prop)(d:Dt)(δ':List Sl):Prop
 | mk (b:_) (h1:Sx d=some b) (h2:Q (.bl b) δ')
def T8(t:bD):bD:=fun i Q=>t i fun d k=>Km Q d k
def Gj{k}(y:Ev X e t)(s:X.mg "isinstance"=none)(A:X.mg "list"=none)(r:X.mg "tuple"=none)(n:Gl X "isinstance":=by rfl)(o:Gl X "list":=by rfl)(u:Gl X "tuple":=by rfl)(w:starEach [e, .Tuple [.Name "list" p1, .Name "tuple" p2] k pt] X.env=(false,eval e X.env)::starEach [.Tuple [.Name "list" p1, .Name "tuple" p2] k pt] X.env:=by rfl):
  Ev X (.Call (.Name "isinstance" p) [e,.Tuple [.Name "list" p1,.Name "tuple" p2] k pt] [] pos) (T8 t):=PE.imp (IC y n s o A u r w) fun g H Q R=>(by obtain⟨W,M,N,i,G,E,q,k⟩:=R;exact(
 ⟨W,M,N,i,_,E,q,fun d l B v Y T F z=>(by obtain⟨b,c,x⟩:=Y;exact(⟨b,Fg z c,k _ _ _ _ x T F (.bl _)⟩))⟩))
def aB.rev(h:aB M H xs ds):aB M H xs.reverse ds.reverse:=by
 induction xs generalizing ds with
 | nil=>
  cases ds with
  | nil=>exact .nil
  | cons=>have:=h.1;simp at this
 | cons x xs ih=>
  cases ds with
  | nil=>have:=h.1;simp at this
  | cons d ds=>
   obtain⟨y,q,e,w,i⟩:=h.aK;cases e;rw[av8,av8];exact(ih i).append (.one w)
end
end LD
namespace gB
open PySem PyProof.Rows
def fQ:Bool->238->Array 238->Nat->Nat->Nat->StateT SortSt Sem (210 Nat):=sortPriv% PySem.Builtin.gallop
def oG:Array 238->Array 238->StateT SortSt Sem (Array 238):=sortPriv% PySem.Builtin.mergeLo
def oH:Array 238->Array 238->StateT SortSt Sem (Array 238):=sortPriv% PySem.Builtin.mergeHi
noncomputable abbrev setG (st:SortSt) (g:Nat):SortSt:=SortSt.mk' (kindOf st) 138 (pendingOf st) g (failedOf st)
section
variable{prog:214}{w:237}{A:244}{E:212->211->Prop}{s:211}
def av{M:Model}{α:Type}{c:Prop} [Decidable c]{a b:StateT SortSt Sem α}{Q:α->SortSt->Prop}{st:SortSt}(h:c)(q:wpS M A E s a Q st):wpS M A E s (if c then a else b) Q st:=by rw[if_pos h];exact q
def ax{M:Model}{α:Type}{c:Prop} [Decidable c]{a b:StateT SortSt Sem α}{Q:α->SortSt->Prop}{st:SortSt}(h: ¬c)(q:wpS M A E s b Q st):wpS M A E s (if c then a else b) Q st:=by rw[if_neg h];exact q
def aI{st:SortSt}{xs:Array 238}{i:Nat}(hi:i < xs.size)(h:Q xs[i] st):wpS 105 A E s (elem' xs i) Q st:=by
 rw[elem'_eq,af8 hi];exact ab7 h
def xW(left:Bool)(u:238)(j:Array 238)(base n B:Nat):fQ left u j base n B=(do
 let P (i:Nat):StateT SortSt Sem (210 Bool):=do
  let x<-elem' j (base+i)
  if left then lt' x u else return(<-lt' u x).map (!·)
 let mut nB:=0
 let mut Ct:=1
 let mut lo:=0
 let mut hi:=0
 let some right<-P B | return none
 if right then
  let k:=n - B
  for _ in [0:n] do
   if Ct>=k then break
   let some more<-P (B+Ct) | return none
   if !more then break
   nB:=Ct
   Ct:=2*Ct+1
  lo:=B+nB+1
  hi:=B+min Ct k
 else
  let k:=B+1
  for _ in [0:n] do
   if Ct>=k then break
   let some found<-P (B - Ct) | return none
   if found then break
   nB:=Ct
   Ct:=2*Ct+1
  lo:=B+1 - min Ct k
  hi:=B - nB
 for _ in [0:n] do
  if lo>=hi then break
  let m:=lo+(hi - lo) / 2
  let some more<-P m | return none
  if more then lo:=m+1 else hi:=m
 return some hi):=rfl
def cF:Nat->StateT SortSt Sem Unit:=sortPriv% PySem.Builtin.setMinGallop
def cC(g:Nat):cF g=modify fun s=>setG s g:=rfl
def uW(a b:Array 238):oG a b=(do
 rule "list.sort.merge-lo"
 let S:=230+240
 let done (out:Array 238) (ia ib:Nat):=out++a.extract ia 230++b.extract ib 240
 let z (out:Array 238) (ia ib:Nat):=out++b.extract ib 240++a.extract ia 230
 let mut out:Array Keyed:= #[<-elem' b 0]
 let mut ia:=0
 let mut ib:=1
 if ib==b.size then return done out ia ib
 if ia+1==a.size then return z out ia ib
 let mut minGallop:=gallopOf (<-get)
 for _ in [0:S] do
  let mut dN:=0
  let mut dM:=0
  for _ in [0:S] do
   let some Uk<-lt' (<-elem' b ib) (<-elem' a ia) | return done out ia ib
   if Uk then
    out:=out.push (<-elem' b ib);ib:=ib+1;dM:=dM+1;dN:=0
    if ib==b.size then return done out ia ib
    if dM>=minGallop then break
   else
    out:=out.push (<-elem' a ia);ia:=ia+1;dN:=dN+1;dM:=0
    if ia+1==a.size then return z out ia ib
    if dN>=minGallop then break
  rule "list.sort.gallop"
  minGallop:=minGallop+1
  for _ in [0:S] do
   if minGallop > 1 then minGallop:=minGallop - 1
   cF minGallop
   let some k<-fQ false (<-elem' b ib) a ia (230 - ia) 0 | return done out ia ib
   dN:=k
   if k > 0 then
    out:=out++a.extract ia (ia+k);ia:=ia+k
    if ia+1==a.size then return z out ia ib
    if ia==a.size then return done out ia ib
   out:=out.push (<-elem' b ib);ib:=ib+1
   if ib==b.size then return done out ia ib
   let some k<-fQ true (<-elem' a ia) b ib (240 - ib) 0 | return done out ia ib
   dM:=k
   if k > 0 then
    out:=out++b.extract ib (ib+k);ib:=ib+k
    if ib==b.size then return done out ia ib
   out:=out.push (<-elem' a ia);ia:=ia+1
   if ia+1==a.size then return z out ia ib
   if dN < 7 && dM < 7 then break
  minGallop:=minGallop+1
  cF minGallop
 unsupported "internal:list.sort.merge-bound"):=rfl
def xy{a:Array 238}(h:i < 230):a[i]∈a.toList:=by simp
end
def MA{N M j O:Type}{v w:Nat->Prop}{st:SortSt}{J:Nat->Option (Array Keyed) × N × M × j × O->Prop}{G:Nat->Option (Array Keyed) × N × M × j × O->SortSt->Prop}(h: ∀i a b c d g,v i->w i->J i (none,a,b,c,d)->G i (none,a,b,c,d) (setG st g)):
  ∀i c A,v i->w i->((∃g,A=setG st g)/\c.1=none/\J i c)->G i c A:=by
 rintro i ⟨r,a,b,c,d⟩ A e f ⟨⟨g,rfl⟩,o,V⟩
 have o:r=none:=o;subst o;exact h i a b c d g e f V
def Mz{N M j O x:Type}{v w:Nat->Prop}{J:Nat->Option (Array Keyed) × N × M × j × O × x->Prop}{G:Nat->Option (Array Keyed) × N × M × j × O × x->SortSt->Prop}(h: ∀i a b c d e,v i->w i->J i (none,a,b,c,d,e)->G i (none,a,b,c,d,e) hG):
  ∀i c A,v i->w i->(A=hG/\c.1=none/\J i c)->G i c A:=by
 rintro i ⟨r,a,b,c,d,e⟩ A f g ⟨rfl,o,V⟩
 have o:r=none:=o;subst o;exact h i a b c d e f g V
def My{N M j O x k:Type}{v w:Nat->Prop}{st:SortSt}{J:Nat->Option (Array Keyed) × N × M × j × O × x × k->Prop}{G:Nat->Option (Array Keyed) × N × M × j × O × x × k->SortSt->Prop}(h: ∀i a b c d e f g,v i->w i->J i (none,a,b,c,d,e,f)->G i (none,a,b,c,d,e,f) (setG st g)):
  ∀i c A,v i->w i->((∃g,A=setG st g)/\c.1=none/\J i c)->G i c A:=by
 rintro i ⟨r,a,b,c,d,e,f⟩ A l m ⟨⟨g,rfl⟩,o,V⟩
 have o:r=none:=o;subst o;exact h i a b c d e f g l m V
def RT{N M i O v:Type}{x:SortSt}{K:Array Keyed->Prop}{J:Option (Array Keyed) × N × M × i × O × v->Prop}{G:Option (Array Keyed) × N × M × i × O × v->SortSt->Prop}(f: ∀r a b c d e,K r->G (some r,a,b,c,d,e) x)(g: ∀a b c d e,J (none,a,b,c,d,e)->G (none,a,b,c,d,e) x):
  ∀c A,(A=x/\((∃r,c.1=some r/\K r)\/(c.1=none/\J c)))->G c A:=by
 rintro⟨r,a,b,c,d,e⟩ A ⟨rfl,⟨X,o,k⟩ | ⟨o,V⟩⟩
 . have o:r=some X:=o;subst o;exact f _ _ _ _ _ _ k
 . have o:r=none:=o;subst o;exact g _ _ _ _ _ V
def RS{N M i O v l:Type}{st:SortSt}{K:Array Keyed->Prop}{J:Option (Array Keyed) × N × M × i × O × v × l->Prop}{G:Option (Array Keyed) × N × M × i × O × v × l->SortSt->Prop}(h: ∀r a b c d e f g,K r->G (some r,a,b,c,d,e,f) (setG st g))(j: ∀a b c d e f g,J (none,a,b,c,d,e,f)->G (none,a,b,c,d,e,f) (setG st g)):
  ∀c A,((∃g,A=setG st g)/\((∃r,c.1=some r/\K r)\/(c.1=none/\J c)))->G c A:=by
 rintro⟨r,a,b,c,d,e,f⟩ A ⟨⟨g,rfl⟩,⟨X,o,k⟩ | ⟨o,V⟩⟩
 . have o:r=some X:=o;subst o;exact h _ _ _ _ _ _ _ _ k
 . have o:r=none:=o;subst o;exact j _ _ _ _ _ _ _ V
def uX(a b:Array 238):oH a b=(do
 rule "list.sort.merge-hi"
 let S:=230+240
 let done (out:Array 238) (na nb:Nat):=a.extract 0 na++b.extract 0 nb++out.reverse
 let A (out:Array 238) (na nb:Nat):=b.extract 0 nb++a.extract 0 na++out.reverse
 let mut na:=230 - 1
 let mut nb:=240
 let mut out:Array Keyed:= #[<-elem' a na]
 if na==0 then return done out na nb
 if nb==1 then return A out na nb
 let mut minGallop:=gallopOf (<-get)
 for _ in [0:S] do
  let mut dN:=0
  let mut dM:=0
  for _ in [0:S] do
   let some Um<-lt' (<-elem' b (nb - 1)) (<-elem' a (na - 1)) | return done out na nb
   if Um then
    na:=na - 1;out:=out.push (<-elem' a na);dN:=dN+1;dM:=0
    if na==0 then return done out na nb
    if dN>=minGallop then break
   else
    nb:=nb - 1;out:=out.push (<-elem' b nb);dM:=dM+1;dN:=0
    if nb==1 then return A out na nb
    if dM>=minGallop then break
  rule "list.sort.gallop"
  minGallop:=minGallop+1
  for _ in [0:S] do
   if minGallop > 1 then minGallop:=minGallop - 1
   cF minGallop
   let some at_<-fQ false (<-elem' b (nb - 1)) a 0 na (na - 1) | return done out na nb
   let k:=na - at_
   dN:=k
   if k > 0 then
    out:=out++(a.extract at_ na).reverse;na:=at_
    if na==0 then return done out na nb
   nb:=nb - 1;out:=out.push (<-elem' b nb)
   if nb==1 then return A out na nb
   let some at_<-fQ true (<-elem' a (na - 1)) b 0 nb (nb - 1) | return done out na nb
   let k:=nb - at_
   dM:=k
   if k > 0 then
    out:=out++(b.extract at_ nb).reverse;nb:=at_
    if nb==1 then return A out na nb
    if nb==0 then return done out na nb
   na:=na - 1;out:=out.push (<-elem' a na)
   if na==0 then return done out na nb
   if dN < 7 && dM < 7 then break
  minGallop:=minGallop+1
  cF minGallop
 unsupported "internal:list.sort.merge-bound"):=rfl
section
variable{prog:214}{w:237}{A:244}{E:212->211->Prop}{s:211}{a₀:Array 238}{p:Array 142}
def Ch:Nat->List 142->Nat->Prop
 | s,[],e=>s=e
 | s,x::r,e=>x.1=s/\1<=x.2.1/\Ch (x.1+x.2.1) r e
def Ch.le: ∀{s e:Nat} {l:List 142},Ch s l e->s<=e
 | s,e,[],h=>Nat.le_of_eq h
 | s,e,x::r,h=>by have:=Ch.le h.2.2;have:=h.1;lia
def Ch.two: ∀{s e i:Nat} {l:List 142} {x y:Nat × Nat × Nat},Ch s l e->l[i]?=some x->l[i+1]?=some y->1<=x.2.1/\x.1+x.2.1=y.1/\1<=y.2.1/\y.1+y.2.1<=e
 | s,e,i,[],x,y,h,h1,_=>by simp at h1
 | s,e,0,[z],x,y,h,h1,h2=>by simp at h2
 | s,e,0,z::z2::r,x,y,h,h1,h2=>by
  cases (show z=x by simpa using h1);cases (show z2=y by simpa using h2);exact⟨h.2.1,h.2.2.1.symm,h.2.2.2.1,Ch.le h.2.2.2.2⟩
 | s,e,i+1,z::r,x,y,h,h1,h2=>Ch.two h.2.2 (by simpa using h1) (by simpa using h2)
def uY(i:Nat):mergeAt' i=(do
 let s<-get
 let (some (sa,na,power),some (sb,nb,_)):=((pendingOf s)[i]?,(pendingOf s)[i+1]?) | unsupported "internal:list.sort.pending"
 set (setPending s (((pendingOf s).setIfInBounds i (sa,na+nb,power)).eraseIdxIfInBounds (i+1)))
 let some k<-fQ false (<-elem' (arrOf s) sb) (arrOf s) sa na 0 | return false
 let (sa,na):=(sa+k,na - k)
 if na==0 then return true
 let some nb<-fQ true (<-elem' (arrOf s) (sa+na - 1)) (arrOf s) sb nb (nb - 1) | return false
 if nb==0 then return true
 let x:=(arrOf s).extract sa sb
 let y:=(arrOf s).extract sb (sb+nb)
 let M<-if na<=nb then oG x y else oH x y
 modify fun s=>setArr s (M.toList.zipIdx.foldl (fun a (p,j)=>a.setIfInBounds (sa+j) p) (arrOf s))
 return(failedOf (<-get)).isNone):=rfl
def Hz{b:Type}{M:Model}{Q:PUnit->b->Prop}{st B:b}(h:Q ⟨⟩ B):wpS M A E s (set B:StateT b Sem PUnit) Q st:=by
 unfold wpS;rw[StateT.run_set];exact ab0 ⟨rfl,h⟩
end
def oF: ∀{f n r:Nat},1<=n->1<=minRun' f n r
 | 0,n,r,h=>by show 1<=n+r;omega
 | f+1,n,r,h=>by
  rw[minRun'_succ];by_cases c:n < 64
  . rw[if_pos c];omega
  . rw[if_neg c];exact oF 163
end gB
namespace LD
open PySem PySem.Spec L2 LB PyProof.Rows LW
section
variable{X:Cx}{tg a b c e:Expr}{es:List Expr}{ta tb tc t:bD}{tA:gH}{pos p apos bz:Pos}
inductive Qr(ds:List Dt)(Q:Dt->Prop):Prop
 | mk (c:_) (h1:ds= [.bl c]) (h2:Q (.int (if c then 1 else 0)))
def ya(O:X.mg "int"=none)(f:Av X [e] tA)(d:Gl X "int":=by rfl)(y:starEach [e] X.env=(false,eval e X.env)::starEach [] X.env:=by rfl)(V:(backTo pos 137).any (·.1)=false:=by rfl):
  Ev X (.Call (.Name "int" p) [e] [] pos) (z0 Qr tA):=vN B5 (fun M H g u G Q C r R k=>(by obtain⟨c,e,q⟩:=R;exact(by
 subst e;obtain⟨x,rfl,w⟩:=fP r;exact .inr ⟨c,by rw[w.uR],k H _ _ q 187 (.int _)⟩))) d O mz f 104 104 y V
def J7:Ev X e 122:=fun d s f H Q I m=>(by obtain⟨_,_,_,_,_,_,q,_⟩:=m;exact(q.elim))
def HZ{st:Stmt}:Ex X st 122:=fun d s f H D I S=>(by obtain⟨_,_,_,_,_,_,_,q⟩:=S;exact(q.elim))
end
end LD
namespace LX
open PySem
def Ah:Slot "BaseException" "__getattribute__" "BaseException.__getattribute__":=
 .of (owner:="BaseException") (n:="__getattribute__") (by rw[typeLookup_type,builtinLookup_eq_fast];kernel_rfl) 174 174 174 (by first | exact .inl 174 | exact .inr 174) (by rw[isSubtype_type];kernel_rfl)
end LX
namespace L2
open PySem PySem.Spec PyProof.Rows
def qt: ∀{cs:List Addr} {aq:List 212},Vals (cs.map V.ref) aq->aq=cs.map 226
 | [],_,.nil=>rfl
 | _::_,_,.cons r t=>by rw[qt t];cases r;rfl
end L2
namespace LX
open PySem PySem.W PyProof.Rows
structure Fam(K:Frag)(C C0:Addr)(others:List Addr):Prop where
 k:Qo K C
 up:exmOne K 186 (.ref C0)=some true
 ve:kitOne K 186 (.type "ValueError")=some true
 no:kitAny K 186 (others.map .ref)=some false
end LX
namespace L2
open PySem
def E8:PySem.W.kitOne K 186 186=some true:=by unfold PySem.W.kitOne;rw[if_pos 111]
end L2
namespace LD
open PySem PySem.Spec L2 LB Hq PyProof.Rows
inductive yA:Dt->Prop where
 | aO:yA .aO
 | bl (b:Bool):yA (.bl b)
 | int (i:Int):yA (.int i)
 | str (x:Str):yA (.str x)
 | tup {ds:List Dt}:(∀d∈ds,yA d)->yA (.tup ds)
def Rep.CC(r:Rep M H v d)(f:yA d)(C:jW M' H):Rep M' H v d:=by
 induction r with
 | aO=>exact .aO
 | bl b=>exact .bl b
 | int i=>exact .int i
 | str x=>exact .str x
 | lst h n l r ih=>cases f
 | tup h n l r ih=>
  cases f with
  | tup f=>exact .tup h (C.tup h) l fun i x d j g=>ih i x d j g (f d (ae4 g))
 | zT h n e l r ih=>cases f
 | m8 h n e l r ih=>cases f
def aB.CC(r:aB M H v d)(f: ∀x∈d,yA x)(C:jW M' H):aB M' H v d:=⟨r.1,fun i x e h g=>(r.2 i x e h g).CC (f e (ae4 g)) C⟩
inductive KS:Dt->Prop where
 | aO:KS .aO
 | bl (b:Bool):KS (.bl b)
 | int (i:Int):KS (.int i)
 | str (x:Str):KS (.str x)
def Rep.QS(r:Rep M H v d)(f:KS d):Rep M' H' v d:=by
 cases f <;> cases r
 . exact .aO
 . exact .bl _
 . exact .int _
 . exact .str _
section
variable{X:Cx}{a b c e:Expr}{es:List Expr}{ta tb t:bD}{pos p:Pos}{x:Str}{k:Nat}{ps:List Str}
def aE.Uj{W:List Wd}{M:Addr->Prop}{α:List 179}{H H':Hp}{m:L2.St}{l:List Sl}{i:Nat}{ds:List Dt}(E:aE W M α H m l)(hi:l[i]?=some (.ow ds))(hs: ∀j s,j≠i->l[j]?=some s->s= .no\/(∃d,s= .im d)\/ ∃t,s= .bx t){a:Addr}(h:α[i]?=some [a])
  (T:aE W (fun b=>M b/\b≠a) (α.set i []) H' m (l.set i (.im (.lst ds)))) (F:cW (α.set i []) H H'):aE W M α H' m l/\cW α H H':=by
 obtain⟨a',O,Y,J,Z,r⟩:=E.ow hi;rw[h] at J;cases J;have Q:=E.FO hi h;have A: ∀b,b∈(α.set i []).flatten->b∈α.flatten/\b≠a:=fun b f=>⟨(bW f).elim id fun z=>213 z ab3,(Q.mu b f).2⟩
 have na:a∉(α.set i []).flatten:=fun z=>(A a z).2 rfl;have v:H' a=some (.lst O):=F _ _ Z na;have C:cW α H H':=fun b o e n=>F b o e fun z=>n (A b z).1;have N: ∀b o,H b=some o-> ¬M b->H' b=some o/\ ¬M b:=fun b o e n=>⟨C b o e fun z=>n (E.mu b z),n⟩
 refine⟨⟨E.ls,E.la,fun j s g=>?_,E.nd,E.mu,fun b f=>?_,fun Wd U=>?_⟩,C⟩
 . by_cases B:j=i
   . subst B;rw[hi] at g;cases g;exact⟨_,_,Y,h,a,O,rfl,rfl,v,r.mono N⟩
   . obtain⟨o,R,G,I,q⟩:=E.sl j s g;rcases hs j s B g with rfl | ⟨d,rfl⟩ | ⟨t,rfl⟩
     . exact⟨o,R,G,I,q⟩
     . exact⟨o,R,G,I,q.1,let ⟨u,e,ru⟩:=q.2;⟨u,e,ru.mono N⟩⟩
     . obtain⟨o2,P,S,D,V⟩:=T.sl j (.bx t) (by rw[ac2 (Ne.symm B)];exact g);rw[ac2 (Ne.symm B)] at D;exact⟨o2,P,S,D,V⟩
 . by_cases z:b=a
   . subst z;exact⟨_,v,fun xs z=>by cases z⟩
   . exact T.al b ⟨f,z⟩
 . have y:=E.w Wd U;have L:=T.w Wd U;exact⟨L.bs,L.ex,y.fr,y.m0,y.m1,y.bx,y.fz⟩
def PV(i:Nat)(t:bD):bD:=fun l Q=> ∃u,l[i]?=some (.ow u)/\(∀j s,j≠i->l[j]?=some s->s= .no\/(∃d,s= .im d)\/ ∃t,s= .bx t)/\t (l.set i (.im (.lst u))) fun d m=>m=l.set i (.im (.lst u))/\yA d/\Q d l
def J8(i:Nat)(h:Ev X e t):Ev X e (PV i t):=PE.imp h fun J H Q m=>(by obtain⟨W,M,N,D,G,E,⟨z,I,n,q⟩,k⟩:=m;exact(by
 obtain⟨a,B,A,f,C,r⟩:=E.ow I;refine⟨W,_,N.set i [],_,_,E.FO I f,q,fun d o y v R T F w=>?_⟩;obtain⟨s,j,u⟩:=R;subst s;obtain⟨l,g⟩:=E.Uj I n f T F;exact k _ _ _ _ u l g (w.CC j l.al)))
end
section
variable{X:Cx}{a b e:Expr}{t ta tk:bD}{tA:gH}{pos p apos bz:Pos}
inductive UK(ds:List Dt)(Q:Dt->Prop):Prop
 | mk (ns:List Int) (h1:ds= [.lst (ns.map .int)]) (h2:Q (.int ns.sum))
def Mk(m:X.calm=true)(O:X.mg "sum"=none)(f:Av X [e] tA)(c:Gl X "sum":=by rfl)(y:starEach [e] X.env=(false,eval e X.env)::starEach [] X.env:=by rfl)(V:(backTo pos 137).any (·.1)=false:=by rfl):
  Ev X (.Call (.Name "sum" p) [e] [] pos) (z0 UK tA):=kX (GF m) (fun M H g u G Q C r w k=>(by
 obtain⟨S,e,q⟩:=w;subst e;obtain⟨x,rfl,A⟩:=fP r;obtain⟨a,B,rfl,f,n,I⟩:=A.eE;rw[ints_rep I] at f;exact⟨a,S,rfl,dr.of f,k H _ _ q 187 (.int _)⟩)) c O B8 f 104 104 y V
end
end LD
namespace Am
open PySem PySem.Spec PyProof.Rows
def Vw(h base:Heap)(e:Addr)(cls a0:212)(l:210 Addr)(c:212):Prop:=
 ∃b u T B L,h.get? e=some b/\b.cls=cls/\b.dict=l/\u[0]?=some a0/\b.data= .fields u/\u[1]?=some (.ref T)/\base.get? T=none/\T≠e/\h.get? T=some B/\B.data= .fields L/\L[3]?=some c
structure QU(base:Heap)(l:List Env)(e:Addr)(cls a0:212)(dc:210 Addr)(fl:212)(h h':Heap):Prop where
 st:base.StaysIn h'
 ff:h'.FunFrames base l
 tr:Vw h' base e cls a0 dc fl
 sl:h.UpToSlots h'
section
variable{M:Model}{A:244}{E:212->211->Prop}{s:211}{base:Heap}{env:Env}{outer l:List Env}{L e:Addr}{oe:Obj}{vs:Array 212}{head cls a0 fl:212}{dc:210 Addr}{Q:Unit->211->Prop}
def F8(f:Array 212->Array 212)(o:Obj):(Obj.mapFields f o).dict=o.dict:=by
 unfold Obj.mapFields;split <;> rfl
def F0(X:A.frames=some (env::outer))(B:s.heap.FunFrames base (env::outer))(j:env.frame=some L)(C:s.heap.get? e=some oe)(Y:base.StaysIn s.heap)(H:base.get? e=none)(hd:oe.data= .fields vs)(hsz:1 < vs.size)(g:vs[0]?=some a0)(h: ∀r,QU base (env::outer) e oe.cls a0 oe.dict (rawInt L) s.heap r->Q () {s with heap:=r}):
  218 M A (do let a<-frameOf env;let d<-entryPlaceOf L Vn;let b<-EntryCells.newEntry head a .none (rawInt L) .none d;setField (.ref e) 1 b) Q E s:=by
 have V:e∉(env::outer).filterMap (·.frame):=fun O=>by
  obtain⟨_,o,y,R⟩:=B.mem O;rw[C] at y;injection y with y;subst y;exact R vs hd
 refine aa8 (wpAny_frameOf_fun X B j fun x Z=>?_);refine aa8 (wpAny_entryPlaceOf fun d W=>?_);unfold EntryCells.newEntry newFields;refine aa8 (ag2 ?_ (W.sizeOk5 _ _ _ _ _));have v:x.get? e=some oe:=(Z.2.1 e V).trans C;have w:base.StaysIn x:=fun b o z=>(Z.2.1 b fun O=>by rw[(B.mem O).1] at z;cases z).trans (Y b o z);generalize Ve:({cls:= .type "traceback",dict:=none,data:= .fields ([head,.ref L,.none,rawInt L,.none]++(if d.isEmpty then 206 6 221 else d)).toArray}:Obj)=ob;have t:ob.data= .fields ([head,.ref L,.none,rawInt L,.none]++(if d.isEmpty then 206 6 221 else d)).toArray:=by rw[<-Ve]
 have D:=ab1 (h:=x) ob v;refine aq6 D hd hsz (h _ ?_);have P:x.objs.size≠e:=ao6 (ac5 v);have F:=am9 hd ((·.setIfInBounds 1 (226 x.objs.size)));have T:=aj2 (Obj.mapFields ((·.setIfInBounds 1 (226 x.objs.size)))) D (at3 F);have U:=(ah3 (x.push ob) (Obj.mapFields ((·.setIfInBounds 1 (226 x.objs.size)))) (Ne.symm P)).trans (ac3 x (by rw[<-Ve];rfl));have N: ∀b o,b≠e->x.get? b=some o->((x.push ob).update e (Obj.mapFields ((·.setIfInBounds 1 (226 x.objs.size))))).get? b=some o:=fun b o f c=>by
  rw[ah3 _ _ (Ne.symm f)];exact ab1 _ c
 have G: ∀b o,s.heap.get? b=some o->(∀vs,o.data≠ .fields vs)->b≠e:=fun b o c R q=>by
  rw[q,C] at c;injection c with c;subst c;exact R vs hd
 refine⟨fun b o z=>N b o (fun q=>by rw[q,H] at z;cases z) (w b o z),B.of_keeps fun b o c R=>?_,?_,fun b o c R=>?_⟩
 . obtain⟨S,n⟩:=Z.2.2 b o c;exact⟨_,N b _ (G b o c R) n,rfl⟩
 . exact⟨_,_,x.objs.size,ob,_,T,Obj.cls_mapFields _ _,F8 _ _,by rw[Array.getElem?_setIfInBounds_ne 104];exact g,F,by simp [hsz],w.fresh,P,U,t,by simp⟩
 . obtain⟨S,n⟩:=Z.2.2 b o c;exact⟨S,N b _ (G b o c R) n⟩
def zJ(S:base.StaysIn s.heap)(I:s.heap.FunFrames base l)(X:Vw s.heap base e cls a0 dc fl)
  (h: ∀r,QU base l e cls a0 dc .none s.heap r->Q () {s with heap:=r}):218 M A (setFlight (.ref e) none) Q E s:=by
 obtain⟨oe,vs,T,J,O,y,V,P,i,G,g,D,N,U,B,H⟩:=X;have C:3 < O.size:=(aj9.mp H).1;have c: ∀b,b≠T->(s.heap.update T (Obj.mapFields (·.setIfInBounds 3 ((none:210 Addr).elim 221 fun f=>rawInt f)))).get? b=s.heap.get? b:=fun b d=>ah3 _ _ (Ne.symm d);have F: ∀b o,s.heap.get? b=some o->(∀vs,o.data≠ .fields vs)->b≠T:=fun b o d R q=>by
  rw[q,U] at d;injection d with d;subst d;exact R O B
 unfold setFlight;refine aa8 (ai2 y G g ?_);rw[if_pos (show(Value.ref T !=Value.none)=true from by simp)];refine aq6 U B C (h _ ⟨fun b o z=>(c b fun q=>by rw[q,D] at z;cases z).trans (S b o z),I.of_keeps fun b o d R=>⟨o,(c b (F b o d R)).trans d,rfl⟩,?_,fun b o d R=>⟨o.slots,(c b (F b o d R)).trans d⟩⟩);exact⟨oe,vs,T,_,_,(c e (Ne.symm N)).trans y,V,P,i,G,g,D,N,aj2 _ U (at3 (am9 B _)),am9 B _,by simp [C]⟩
def Sa(S:A.frames=some (env::outer))(I:s.heap.FunFrames base (env::outer))(j:env.frame=some L)(X:Vw s.heap base e cls a0 dc .none)(V:base.StaysIn s.heap)(G:base.get? e=none)
  (h: ∀r,QU base (env::outer) e cls a0 dc (rawInt L) s.heap r->Q () {s with heap:=r}):218 M A (noteFrame (.ref e) env) Q E s:=by
 obtain⟨oe,vs,T,J,P,y,W,N,g,F,f,H,O,U,B,D⟩:=X;subst W N;unfold noteFrame;simp only [j];refine aa8 (ai2 y F f ?_);rw[if_pos (show(Value.ref T !=Value.none)=true from by simp)];refine aa8 (ai2 U B D ?_);rw[if_neg (show¬((Value.none==rawInt L)=true) from by simp [rawInt])];refine aa8 (aq6 U B (aj9.mp D).1 ?_);have c: ∀b,b≠T->(s.heap.update T (Obj.mapFields (·.setIfInBounds 3 221))).get? b=s.heap.get? b:=fun b d=>ah3 _ _ (Ne.symm d);have C: ∀b o,s.heap.get? b=some o->(∀vs,o.data≠ .fields vs)->b≠T:=fun b o d R q=>by
  rw[q,U] at d;injection d with d;subst d;exact R P B
 refine F0 S (I.of_keeps fun b o d R=>⟨o,(c b (C b o d R)).trans d,rfl⟩) j ((c e (Ne.symm O)).trans y)
  (fun b o z=>(c b fun q=>by rw[q,H] at z;cases z).trans (V b o z)) G F (aj9.mp f).1 g
  fun r x=>h r ⟨x.st,x.ff,x.tr,fun b o d R=>x.sl b o ((c b (C b o d R)).trans d) R⟩
def Ob(R:A.frames=some (env::outer))(B:s.heap.FunFrames base (env::outer))(j:env.frame=some L)
  (y:s.heap.get? e=some oe) (O:base.StaysIn s.heap) (z:base.get? e=none) (hd:oe.data= .fields vs) (d:vs[1]?=some .none) (c:vs[0]?=some a0)
  (h: ∀r,QU base (env::outer) e oe.cls a0 oe.dict (rawInt L) s.heap r->Q () {s with heap:=r}):218 M A (noteFrame (.ref e) env) Q E s:=by
 unfold noteFrame;simp only [j];refine aa8 (ai2 y hd d ?_);rw[if_neg 104];exact F0 R B j y O z hd (aj9.mp d).1 c h
structure mE(base:Heap)(l:List Env)(e:Addr)(cls a0:212)(dc:210 Addr)(fl:212)(h:Heap):Prop where
 st:base.StaysIn h
 nw:base.get? e=none
 ff:h.FunFrames base l
 tr:Vw h base e cls a0 dc fl
def QU.Yn(x:QU base l e cls a0 dc fl h h')(n:base.get? e=none):mE base l e cls a0 dc fl h':=⟨x.st,n,x.ff,x.tr⟩
def mE.up(x:mE base (env::outer) e cls a0 dc fl h):mE base outer e cls a0 dc fl h:=⟨x.st,x.nw,x.ff.2.2,x.tr⟩
def Jm(S:A.frames=some (env::outer))(j:env.frame=some L)(B:s.heap.FunFrames base (env::outer))(z:s.heap.get? e=some oe)(O:base.StaysIn s.heap)(y:base.get? e=none)(hd:oe.data= .fields vs)(d:vs[1]?=some .none)(c:vs[0]?=some a0)
  (W: ∀r,mE base outer e oe.cls a0 oe.dict .none r->s.heap.UpToSlots r->Q () {s with heap:=r}):218 M A (leaving env (.ref e)) Q E s:=by
 unfold leaving;refine aa8 (Ob S B j z O y hd d c fun d R=>?_);exact zJ R.st R.ff R.tr fun f F=>W f (F.Yn y).up (R.sl.trans F.sl)
def Sj(S:A.frames=some (env::outer))(j:env.frame=some L)(g:mE base (env::outer) e cls a0 dc .none s.heap)
  (W: ∀r,mE base (env::outer) e cls a0 dc (rawInt L) r->s.heap.UpToSlots r->Q () {s with heap:=r}):218 M A (noteFrame (.ref e) env) Q E s:=
 Sa S g.ff j g.tr g.st g.nw fun d R=>W d (R.Yn g.nw) R.sl
def LA(g:mE base l e cls a0 dc fl s.heap)(W: ∀r,mE base l e cls a0 dc .none r->s.heap.UpToSlots r->Q () {s with heap:=r}):218 M A (setFlight (.ref e) none) Q E s:=
 zJ g.st g.ff g.tr fun d R=>W d (R.Yn g.nw) R.sl
end
end Am
namespace LX
open PySem PySem.W PySem.Spec PySem.Calls PyProof.Rows
section
variable{prog:214}{w:237}{A:244}{E:212->211->Prop}{h:Heap}{g:Array GenState}{d:Drawn}{t:Nat}{os:OsState}{K:Frag}{x D dx:Addr}{ox:Obj}{mA:Str->210 212}{name:Str}{v:212}{cd:ClassData}
def uL(X:K.In h)(i:h.get? x=some ox)(m:ox.cls= .ref D)(B:ox.dict=some dx)(V:h.Ns1 dx mA)(y:mA name=some v)(n:findIn K 173 name=some none)(T:clsIn K D=some cd)(L:cd.hasDict=true)(hd:ox.data= .fields fs)(U:Q (.done (.ret v)) ⟨h,g,d,t,os⟩):218 105 A (Builtin.«object.__getattribute__» ⟨[.ref x,.str name tk],[]⟩) Q E ⟨h,g,d,t,os⟩:=by
 have u: ∀{A:244} {E:212->211->Prop} {Q:210 212->211->Prop},Q none ⟨h,g,d,t,os⟩->218 105 A (typeLookup 173 name) Q E ⟨h,g,d,t,os⟩:=fun q=>(as9 (M:=model prog w) X n).at q;have r: ∀{A:244} {E:212->211->Prop} {Q:ClassData->211->Prop},Q cd ⟨h,g,d,t,os⟩->218 105 A (classData D) Q E ⟨h,g,d,t,os⟩:=fun q=>(looks_clsIn (M:=model prog w) X T).at q;repeat (any_goals (first | assumption | (with_reducible refine ai5 i ?_;rw[m]) | with_reducible refine u ?_ | with_reducible refine r ?_ | wp_step))
 rw[hd];show 218 _ _ (instanceDict x false) _ _ _;unfold instanceDict;refine aa8 (ai5 i ?_);rw[m,B];refine aa8 (r ?_);rw[L];rw[if_neg 104];refine ab0 ?_;show 218 _ _ (Builtin.ObjectAttr.inDict name (some dx)) _ _ _;refine wpAny_nsGet V.ns ?_;rw[y];repeat (any_goals (first | assumption | wp_step))
def xh(X:K.In h)(i:h.get? x=some ox)(m:ox.cls= .ref D)(B:ox.dict=some dx)(V:h.Ns1 dx mA)(u:mA name=some v)(n:findIn K 173 name=some none)(T:clsIn K D=some cd)(L:cd.hasDict=true)(hd:ox.data= .fields fs)(j:mroIn K D 144=some true)(y:Slot "BaseException" "__getattribute__" "BaseException.__getattribute__")(U:R (.ok (.ret v)) ⟨h,g,d,t,os⟩):
  codeAny 105 A (.call 120 ⟨[.ref x,.str name tk],[]⟩) R ⟨h,g,d,t,os⟩:=
 an6 y.plain F.entry_bexc_ga (qY X i m j (uL X i m B V u n T L hd U))
def D8{u f:Bool}(X:K.In h)(i:h.get? x=some ox)(m:ox.cls= .ref D)(F:ox.dict=some dx)(V:h.Ns1 dx mA)(C:mA name=some v)(n:findIn K 173 name=some none)(T:clsIn K D=some cd)(L:cd.hasDict=true)(hd:ox.data= .fields fs)(j:mroIn K D 144=some true)(y:Slot "BaseException" "__getattribute__" "BaseException.__getattribute__")(k:findIn K 173 "__getattribute__"=some (some 120))(e:findIn K 173 "__getattr__"=some none)(B: ∀p,v≠ .builtin p)(U:Q v ⟨h,g,d,t,os⟩):
  218 105 A (getAttrBy (.ref x) (.str name tk) u f) Q E ⟨h,g,d,t,os⟩:=by
 have J:=y.bind (.ref x);have l:(f && onTheHeap (Value.builtin "BaseException.__getattribute__"))=false:=by cases f <;> rfl
 have Y:(Value.builtin "BaseException.__getattribute__"==Value.builtin "object.__getattribute__")=false:=by decide+kernel
 have G:(onTheHeap (226 D) && Value.builtin "BaseException.__getattribute__"==Value.builtin "object.__getattribute__")=false:=by rw[Y];rfl
 have z: ∀{A:244} {E:212->211->Prop} {Q:210 212->211->Prop},Q (some 120) ⟨h,g,d,t,os⟩->218 105 A (typeLookup 173 "__getattribute__") Q E ⟨h,g,d,t,os⟩:=fun q=>(as9 (M:=model prog w) X k).at q;have r: ∀{A:244} {E:212->211->Prop} {Q:210 212->211->Prop},Q none ⟨h,g,d,t,os⟩->218 105 A (typeLookup 173 "__getattr__") Q E ⟨h,g,d,t,os⟩:=fun q=>(as9 (M:=model prog w) X e).at q;repeat (any_goals (first | assumption | (with_reducible refine ai5 i ?_;rw[m]) | with_reducible refine z ?_ | with_reducible refine r ?_ | wp_step))
 refine xh X i m F V C n T L hd j y ?_;repeat (any_goals (first | assumption | wp_step))
 split
 . rename_i p;exact 213 rfl (B p)
 . exact ab0 U
def AV(X:K.In h)(k:h.get? x=some ox)(m:ox.cls= .ref D)(B:ox.dict=some dx)(V:h.Ns1 dx mA)(y:mA name=some v)(n:findIn K 173 name=some none)(T:clsIn K D=some cd)(L:cd.hasDict=true)(hd:ox.data= .fields fs)(i:mroIn K D 144=some true)(z:Slot "BaseException" "__getattribute__" "BaseException.__getattribute__")(j:findIn K 173 "__getattribute__"=some (some 120))(e:findIn K 173 "__getattr__"=some none)(u: ∀p,v≠ .builtin p)(U:Q v ⟨h,g,d,t+1,os⟩):
  218 105 A (getAttr (.ref x) name expr) Q E ⟨h,g,d,t,os⟩:=
 aa8 (wpAny_mkText (D8 X k m B V y n T L hd i z j e u U))
end
end LX
namespace L2
open PySem PySem.Spec PyProof.Rows Am
def Ht(P:214)(w:237):Hs:=fun X H s E e S=> ∃(ea t dx:Addr) (cls:212) (args:List 212) (H':Hp) (B:Heap),e= .ref ea/\S.os=s.os/\AllBare S.gens/\Un (ik X) [] H H' s.heap S.heap/\gG P w H' S.heap/\
 mE B X ea cls (.ref t) (some dx) .none S.heap/\(∀b o,S.heap.get? b=some o->b∉ik X->((H' b).isSome=true\/(s.heap.get? b).isSome=true)->B.get? b=some o)/\S.heap.TupAt t args/\B.get? t=none/\H' ea=none/\E cls (some dx) H'
def xF(I:Inv X pins σ H s)(S:X.stack=X.env::X.outer)(Q:X.env.frame=some X.env.locals)(R:X.ex= [])(B:s.heap.get? ea=some oe)(mj:oe.cls=cls)(P:oe.dict=some dx)(T:oe.data= .fields #[.ref t, .none, .none, .none, .bool false, .none])(p:s.heap.TupAt t args)(J:H ea=none)(nt:H t=none)(v:X.s₀.heap.get? ea=none)(Z:X.s₀.heap.get? t=none)(q:E cls (some dx) H):
  218 107 X.A (leaving X.env (.ref ea)) (fun _ U=>Ht X.prog X.w X.outer X.H₀ X.s₀ E (.ref ea) U) E' s:=by
 have i:s.heap.FunFrames X.base 193:=by have:=I.stack;rwa [S] at this
 have mO: ∀b∈ik 193,H b=none:=by have:=I.ny;rwa [S] at this
 have G: ∀env∈193,∀b,env.frame=some b->b∈ea::t::ik 193:=fun env B b c=>ac0 _ (ac0 _ (am2.mpr ⟨env,B,c⟩));have x: ∀b,b∈ea::t::ik 193->H b=none:=fun b c=>by
  rcases ad8.mp c with rfl | c
  . exact J
  rcases ad8.mp c with rfl | c
  . exact nt
  . exact mO b c
 have L: ∀b∈ea::t::ik 193,(PySem.W.hideAll s.heap (ea::t::ik 193)).get? b=none:=fun b c=>PySem.W.hideAll_none _ c;refine Jm (base:=PySem.W.hideAll s.heap (ea::t::ik 193)) (a0:= .ref t) (by rw[<-S];exact I.ok.frames) Q (PySem.W.funFrames_hide i G) B (fun b o e=>PySem.W.of_hideAll _ e) (L ea ac9) T rfl rfl fun r d O=>?_;rw[mj,P] at d;have D: ∀b o,s.heap.get? b=some o->b∉ea::t::ik 193->r.get? b=some o:=fun b o e n=>d.st b o (PySem.W.hideAll_get _ e n);have C: ∀b o,X.s₀.heap.get? b=some o->b∉ik X.outer->b∉ea::t::ik 193:=fun b o e n z=>by
  rcases ad8.mp z with rfl | z
  . rw[v] at e;cases e
  rcases ad8.mp z with rfl | z
  . rw[Z] at e;cases e
  rcases am2.mp z with ⟨env,B,j⟩
  rcases ad8.mp B with rfl | B
  . rw[Q] at j;have l1:=ac5 e;have M:=I.ok.above;have l3:228=b:=215 j;rw[l3] at M;exact 213 l1 (Nat.not_lt.mpr M)
  . exact n (am2.mpr ⟨env,B,j⟩)
 have l:gG X.prog X.w H r:=fun a o e=>(I.aQ a o e).gM (fun b u c qb=>D b u qb fun z=>by
   rcases c with rfl | c
   . rw[x b z] at e;cases e
   . rw[x b z] at c;cases c) (fun _ q=>q) fun _ _ q=>q
 refine⟨ea,t,dx,cls,args,H,PySem.W.hideAll s.heap (ea::t::ik 193),rfl,I.os,I.bare,?_,l,d,fun b o e n c=>?_,p.of_slots O,L t (ac0 _ ac9),J,q⟩
 . have Y: ∀b:Addr,b∉X.ex:=fun b z=>by rw[R] at z;cases z
   refine⟨fun b o e n c _=>D b o (I.base.keep b o e n c (Y b)) (C b o e c),fun b o e n c _=>?_,fun b o e n _=>I.base.free b o e n (Y b),fun b o e _=>?_,I.base.jB,I.base.kO,I.base.lQ⟩
   . obtain⟨sl0,k⟩:=I.base.slot b o e n c (Y b);obtain⟨_,N,g,F⟩:=I.ok.kM.mem c;rw[e] at g;cases g;obtain⟨V,k2⟩:=O b _ k F;exact⟨V,k2⟩
   . by_cases c:b∈ik X.outer
     . obtain⟨_,N,g,_⟩:=d.ff.mem c;exact⟨N,g⟩
     . obtain⟨h,k⟩:=I.base.there b o e (Y b);exact⟨h,D b h k (C b o e c)⟩
 . have fin : ∀ u, s.heap.get? b = some u -> b ∉ ea :: t :: ik (X.env :: X.outer) -> (PySem.W.hideAll s.heap (ea :: t :: ik (X.env :: X.outer))).get? b = some o := fun u k m => by
     have:=D b u k m;rw[e] at this;cases this;exact PySem.W.hideAll_get _ k m
   rcases c with c | c
   . obtain⟨z,f⟩:=an7.mp c;obtain⟨u,k⟩:=hasObj (I.aQ b z f);exact fin u k fun y=>by rw[x b y] at f;cases f
   . obtain⟨z,f⟩:=an7.mp c;have f:X.s₀.heap.get? b=some z:=f;obtain⟨u,k⟩:=I.base.there b z f (by rw[R];simp);exact fin u k (C b z f n)
end L2
namespace LX
open PySem
def o6(x C D:Addr)(h:Heap):Prop:= ∃N j,h.get? x=some N/\N.cls= .ref C/\N.dict=some D/\N.data= .fields j
end LX
namespace L2
open PySem PySem.Spec PyProof.Rows Am
structure jY(X:Cx)(H:Hp)(s:211)(ea t dx:Addr)(cls:212)(H':Hp)(B:Heap)(s2:211):Prop where
 un:Un (ik X.stack) [] H H' s.heap s2.heap
 aQ:gG X.prog X.w H' s2.heap
 Ug:lJ (ik X.stack) H' s.heap s2.heap B
 fl:mE B X.stack ea cls (.ref t) (some dx) .none s2.heap
 os:s2.os=s.os
 bare:AllBare s2.gens
section
variable{X:Cx}{pins:List 121}{σ:St}{H H':Hp}{s s2:211}{ea t dx:Addr}{cls:212}{B:Heap}
def jY.free(I:Inv X pins σ H s)(a:jY X H s ea t dx cls H' B s2): ∀b∈ik X.stack,H' b=none:=fun b c=>by
 obtain⟨_,o,x,_⟩:=I.stack.mem c;exact a.un.free b o x (I.ny b c) 111
def jY.move(I:Inv X pins σ H s)(a:jY X H s ea t dx cls H' B s2)(d:mE B X.stack ea cls (.ref t) (some dx) .none h')(M:s2.heap.UpToSlots h'):jY X H s ea t dx cls H' B {s2 with heap:=h'}:=by
 refine⟨Q7 a.un a.Ug d.st M (fun b c o e u=>?_) (fun b c o _=>?_),OP a.aQ a.Ug d.st (a.free I),fun b o e n c=>?_,d,a.os,a.bare⟩
 . obtain⟨_,q,g,D⟩:=I.stack.mem c;rw[e] at g;cases g;exact D u
 . obtain⟨_,q,g,_⟩:=d.ff.mem c;exact⟨q,g⟩
 . have y : ∃ f, s2.heap.get? b = some f := by
     rcases c with c | c
     . obtain⟨z,h⟩:=an7.mp c;exact hasObj (a.aQ b z h)
     . obtain⟨z,h⟩:=an7.mp c;exact a.un.there b z h 111
   obtain⟨f,j⟩:=y;have A:=a.Ug b f j n c;have k:=d.st b f A;have e:h'.get? b=some o:=e;rw[e] at k;cases k;exact A
def jY.apart(a:jY X H s ea t dx cls H' B s2):ea∉ik X.stack:=fun c=>by
 obtain⟨_,q,b,D⟩:=a.fl.ff.mem c;obtain⟨d,u,_,_,_,y,_,_,_,E,_⟩:=a.fl.tr;rw[y] at b;cases b;exact D u E
def jY.new(a:jY X H s ea t dx cls H' B s2):s.heap.get? ea=none:=by
 cases e:s.heap.get? ea with
 | none=>rfl
 | some o=>
  obtain⟨b,j⟩:=a.un.there ea o e 111;have:=a.Ug ea b j a.apart (.inr (by rw[e];rfl));rw[a.fl.nw] at this;cases this
def jY.none(a:jY X H s ea t dx cls H' B s2):H' ea= .none:=by
 cases e:H' ea with
 | none=>rfl
 | some z=>
  obtain⟨b,j⟩:=hasObj (a.aQ ea z e);have:=a.Ug ea b j a.apart (.inl (by rw[e];rfl));rw[a.fl.nw] at this;cases this
def jY.inv(I:Inv X pins σ H s)(a:jY X H s ea t dx 186 H' B s2):Inv X pins σ (upd H' ea (.ext (LX.o6 ea C dx))) s2:=by
 obtain⟨F,g,d,G,j⟩:=s2;obtain rfl:j=s.os:=a.os;have V:=a.none;have Q: ∀b z,H' b=some z->b≠ea:=fun b z e q=>by rw[q,V] at e;cases e
 refine I.call (h':=F) (g':=g) (d':=d) (t':=G) (ch:= []) ⟨a.un.keep,a.un.slot,fun b o e n x=>?_,a.un.there,fun b i e=>?_,fun b o u e=>?_,fun b A e=>?_⟩ (fun b o e=>?_) a.bare fun b z=>213 z 111
 . have r:b≠ea:=fun q=>by rw[q] at e;rw[a.new] at e;cases e
   rw[ah r];exact a.un.free b o e n x
 . have:=a.un.jB b i e;rw[ah (Q b _ this)];exact this
 . have:=a.un.kO b o u e;rw[ah (Q b _ this)];exact this
 . obtain⟨v,this⟩:=a.un.lQ b A e;exact⟨v,by rw[ah (Q b _ this)];exact this⟩
 . by_cases q:b=ea
   . subst q;rw[ag] at e;cases e;obtain⟨w,J,_,_,_,f,h,D,_,E,_⟩:=a.fl.tr;exact⟨⟨w,J,f,h,D,E⟩,⟨w,f⟩,fun f h y k=>(by obtain⟨o,m,l,p⟩:=y;exact(⟨o,m,k o l,p⟩))⟩
   . rw[ah q] at e;refine(a.aQ b o e).gM (fun _ _ _ z=>z) (fun c z=>?_) fun c i z=>?_
     . rw[ah (Q c _ z)];exact z
     . rw[ah (Q c _ z)];exact z
def zN(K:207)(Z:Addr)(ts:TS)(D:Ends)(ie:Nat)(σ:St):XK:=fun cls b J=> ∃dx C,cls= .ref C/\b=some dx/\PySem.W.exmOne K 186 (.ref Z)=some true/\(∀ea,J ea=none->ts (F1 D ie) (σ.set ie (some (.ref ea))) (upd J ea (.ext (LX.o6 ea C dx))))
def K4(K:207)(Z:Addr)(sp:Sp)(iy ie:Nat)(t:TA)(ts:TS):TS:=fun D σ H=>t σ H fun u l=>sp u l (fun v J=>D.nx (σ.set iy (some v)) J) (zN K Z ts D ie σ)
def yf{D:Ends}{ie:Nat}{n c:Str}{cp hp:Pos}{E:Stmt}{l:List Stmt}{rest:List ExceptHandler}(I:Inv X pins σ H s)(d:X.N.Nodup)(Z:X.stack=X.env::X.outer)(qO:X.env.frame=some X.env.locals)(hi:X.N[ie]?=some n)(F:X.env.scope.names.lookup n=some .local)(S6:Gl X c)(SW:X.mg c=some (.ref C0))(hs: ∀ea,jw (X.marked ea) (E::l) ts)(q:Ht X.prog X.w X.stack H s (zN X.K C0 ts D ie σ) e s2)(jh:(c==("__debug__":Str))=false):
  218 107 X.A (noteFrame e 216) (fun _ J=>218 107 X.A (setFlight e none) (fun _ r=>218 107 X.A (handleBy e X.env (.ExceptHandler (some (.Name c cp)) (some n) (E::l) hp::rest)) (SP X pins D) E' r) E' J) E' s2:=by
 obtain⟨ea,t,dx,cls,y,H',B,rfl,os,V,un,aQ,k,cv,tp,bt,W7,dx',C,rfl,e2,U,q⟩:=q;cases e2;have L:mE B 193 ea 186 (.ref t) (some dx) .none s2.heap:=by rw[<-Z];exact k
 have j:jY X H s ea t dx 186 H' B s2:=⟨un,aQ,cv,k,os,V⟩
 refine Sj (by rw[<-Z];exact I.ok.frames) qO L fun h2 T UZ=>?_;refine LA T fun h3 Q g=>?_;have a:jY X H s ea t dx 186 H' B {s2 with heap:=h3}:=j.move I (by rw[Z];exact Q) (UZ.trans g);have i:=a.inv I;have Im:=i.marked ea;refine wpAny_handleBy_cons (codeAny_handlers_test (kB Im S6 SW ?_ jh)) (by intro z;cases z);obtain⟨ob,_,_,_,_,Y,sV,_⟩:=a.fl.tr;refine(PySem.W.exm_one (M:=model X.prog X.w) i.l7 (LX.C6 Y sV) U).at ?_;refine codeAny_handlers_suite_as ?_;refine LA a.fl fun h6 S h=>?_;have m:=(a.move I S h).inv I;refine cY m d hi (.inl F) (v:= .ref ea) rfl (fun s7 p=>?_) (.inr F);refine ae3 (hs ea pins s7 _ _ (F1 D ie) (p.marked ea) (q ea j.none)) (fun f s8 x=>?_) fun _ _ z=>z.elim;cases f with
 | next=>
  obtain⟨R,G,O,P⟩:=x;exact nF (O.unmarked I.ok) d hi F fun b o=>⟨_,_,o,P⟩
 | brk=>
  obtain⟨R,G,O,P⟩:=x;exact nF (O.unmarked I.ok) d hi F fun b o=>⟨_,_,o,P⟩
 | cont=>
  obtain⟨R,G,O,P⟩:=x;exact nF (O.unmarked I.ok) d hi F fun b o=>⟨_,_,o,P⟩
 | ret u=>
  obtain⟨v,R,G,O,rx,P⟩:=x;exact nF (O.unmarked I.ok) d hi F fun b o=>⟨v,_,_,o,rx,P⟩
def uH{k:Nat}{f a:Addr}{b:FuncData}{E:List Str}{sp:Sp}{x y n c:Str}{iy ie:Nat}{g p R C j hp pos:Pos}{e:Expr}{es:List Expr}{t:TA}(F:aU X.prog X.w X.K X.mg X.base (Ht X.prog X.w) k f b E sp)(hr:bN k X.A)(hg:Gl X x)(hm:X.mg x=some (.ref f))(G:PySem.W.keepIn X.K (.ref f)=true)(hb:Binds X.K b E [])(ha:PA X.EM (e::es) t)(d:X.N.Nodup)(oR:X.stack=X.env::X.outer)(qO:X.env.frame=some X.env.locals)(S:X.N[iy]?=some y)(hy:Loc X.env.scope y)(T:X.N[ie]?=some n)(M:X.env.scope.names.lookup n=some .local)(o:Gl X c)(L:X.mg c=some 190)(hs: ∀ea,jw (X.marked ea) (b₀::qB) ts)(V:X.fn y=true\/X.env.scope.names.lookup y=some .local:=by first | exact .inl rfl | exact .inr rfl | assumption)(jh:123=false:=by decide)(O:(c==("__debug__":Str))=false:=by decide)(he:starEach (e::es) X.env=(false,eval e X.env)::starEach es X.env:=by rfl)(dB:(backTo R (starEach es X.env)).any (·.1)=false:=by rfl)(m:swapsWith (.Call (.Name x g) (e::es) [] R) (some (.Name y p)) C.line X.env=pure false:=by rfl):
  PS X (.Try [.Assign [.Name y p] (.Call (.Name x g) (e::es) [] R) C] [.ExceptHandler (some (.Name c j)) (some n) (b₀::qB) hp] [] [] pos) (K4 X.K a sp iy ie t ts):=by
 intro pins s σ H D I h;rw[arm_exec_Try];refine aa8 (ah1 (wpAny_tryStmt_except ?_));refine wpAny_execs_cons (ae3 (Q:=fun f P=>f= .next/\SP X pins D .next P) (wpAny_Assign_Name ?_ m) (fun f P q=>?_) fun _ _ z=>z)
 . refine am1 (kB I hg hm ?_ jh);refine PySem.W.callWith_K (h₀:=X.base) I.ok.mod.Sq G (ae3 (ha R pins s σ H _ (I.nP _) h) (fun Z P ⟨vs,l,Y,r,q⟩=>⟨Y.l7,?_⟩) fun _ _ z=>z.elim) he dB;have Y:=Y.gL;have hl:Z.length=E.length:=by rw[<-r.length];exact F.len _ _ _ _ q
   refine wpAny_call (ao5 (F.run X.A X.stack P l ⟨Z,[]⟩ Z vs _ _ hr Y.Pt (by have:=hb P Z Y.l7 (by simpa using hl);simpa using this) r q) fun rr s' U=>?_);cases rr with
   | error ev=>exact yf Y d oR qO T M o L hs U O
   | ok fl=>
    cases fl with
    | ret u=>
     obtain⟨v,H2,i,r2,q2⟩:=Y.after U;exact cY i d S hy r2 (fun s3 J=>⟨rfl,_,_,J,q2⟩) V
    | next=>exact False.elim U
    | brk=>exact False.elim U
    | cont=>exact False.elim U
 . obtain⟨rfl,q⟩:=q;exact ar8 (ar8 q)
end
section
variable{X:Cx}{e:Expr}{f:Str}{pos:Pos}{ta:TE}
structure Qp(K:207)(D:Addr)(f:Str):Prop where
 cl:243 K 173 f=some none
 cd: ∃cd,PySem.W.clsIn K D=some cd/\cd.hasDict=true
 be:PySem.W.mroIn K D 144=some true
 ga:243 K 173 "__getattribute__"=some (some 120)
 gx:243 K 173 "__getattr__"=some none
def Nl(K:207)(f:Str)(ta:TE):TE:=fun b H Q=>ta b H fun x l=> ∃Y D C j v,x= .ref Y/\l Y=some (.ext (LX.o6 Y D C))/\l C=some (.xd j)/\j.lookup f=some v/\Qp K D f/\Q v l
def El(y:PE X e ta)(c:attributeBase e f X.env (eval e 216)=eval e 216):PE X (.Attribute e f pos) (Nl X.K f ta):=by
 intro a s b H Q I h;refine Kz c (aV (y a s b H _ I h) fun u P G=>?_);obtain⟨x,m,Y,k,W,D,C,M,v,t,i,j,l,F,q⟩:=G;subst t;obtain rfl:u=Value.ref W:=k;obtain⟨⟨V,R,A,B,E,Z⟩,_⟩:=Y.aQ W _ i;obtain⟨U,w,r⟩:=Y.aQ C _ j;obtain⟨u',n,p⟩:=jT.some_of (v:=v) (o:=U f) (by rw[<-l];exact r f);obtain⟨J,T,L⟩:=F.cd;obtain⟨N,g,d,tk,S⟩:=P;refine LX.AV Y.l7 A B E w n F.cl T L Z F.be LX.Ah F.ga F.gx (fun O z=>?_) ⟨v,m,Y.tok _,p,q⟩;rw[z] at p;cases v <;> first | (obtain⟨_,e⟩:=p;cases e) | cases p
def RO(K:207):List V->Hp->VK->Prop:=fun g H Q=> ∃Y D E c b,g= [.ref Y,c]/\H Y=some (.ext (LX.o6 Y D E))/\LX.Qo K D/\
 ((∃C,c= .ref C/\PySem.W.kitOne K 173 186=some b)\/(∃T,c= .ty T/\PySem.W.kitOne K 173 (.type T)=some b)\/(∃(p:Addr) (cs:List Addr),c= .ref p/\H p=some (.tup (cs.map .ref))/\PySem.W.kitAny K 173 (cs.map .ref)=some b))/\Q (.bl b) H
def rA:fK X (.builtin "isinstance") (RO X.K):=by
 intro d s S H R l Q I r h;obtain⟨a,D,J,c,b,rfl,A,Y,m,q⟩:=h;cases r with
 | cons r1 r2=>
  cases r2 with
  | cons r2 r3=>
   cases r3;cases r1;have Z:PySem.W.KitX X.K 190 173 (LX.excAt a D):=LX.EZ Y LX.Ah;obtain⟨⟨N,_,j,v,_⟩,_⟩:=(show aX X.prog X.w H s.heap a (.ext (LX.o6 a D J)) from I.aQ a _ A)
   have p:LX.excAt a D s.heap:=⟨N,j,v⟩
   rcases m with ⟨C,rfl,E⟩ | ⟨T,rfl,E⟩ | ⟨y,t,rfl,g,E⟩
   . cases r2;exact ai7 Z I.l7 p E (fun z=>by cases z) fun G=>⟨.bl b,H,I.tok _,rfl,q⟩
   . cases r2;exact ai7 Z I.l7 p E (fun z=>by cases z) fun G=>⟨.bl b,H,I.tok _,rfl,q⟩
   . cases r2;obtain⟨_,O,M,o,x,u,B,n,L⟩:=(show aX X.prog X.w H s.heap y (.tup (t.map .ref)) from I.aQ y _ g)
     cases qt M;obtain⟨i,P,F,k⟩:=o;cases (show i= .type "tuple" from u);cases (show F= .seq (t.map Value.ref).toArray n from L);exact PySem.W.kia_tup Z I.l7 p x E (fun z=>by cases z) fun G=>⟨.bl b,H,I.tok _,rfl,q⟩
end
end L2
namespace Am
open PySem PySem.Spec
section
variable{prog:214}{w:237}{A:244}{E:212->211->Prop}{h:Heap}{g:Array GenState}{d:Drawn}{t:Nat}{os:OsState}
variable{nm q:Str}{C N:Addr}{bs bm nJ P8:List 212}{hdct:Bool}{sn:List Str}{sub:List 212}{ab:Bool}{col:210 Bool}{dd:210 Addr}{k0 k1 k2 k3 k5:210 212}{B Bn newId Oe Hg jM:String}
def nV(k:ExcBaseFacts Bn newId Hg P8)(z:nJ.contains (.type Bn)=true)(F:ExcBaseFacts B Oe jM nJ)(T:OwnTail h nJ bm)(j:h.get? C=some 125)(V:h.Ns N mN)(hi:mN "__init__"=some (.ref fI))(y:h.get? fI=some oI)(v:oI.cls= .type "function")(U: ∀u e,Heap.MadeExcOf h u e 186 rest->wpAny 105 A (call (.ref fI) (.ref e::rest)) (fun r S=>r= .none/\Q (.done (.ret (.ref e))) S) E ⟨u,g,d,t,os⟩)(M:rest.length<=sizeLine):
  218 105 A (Builtin.«type.__call__» ⟨.ref C::rest,[]⟩) Q E ⟨h,g,d,t,os⟩:=by
 repeat (first | with_reducible refine ai5 j ?_ | with_reducible refine wpAny_madeBy_exc j ?_ | wp_step)
 refine codeAny_call_builtin_code (av1 _ k.quiet) (wpAny_check_new_subU k z T j ?_);refine codeAny_exc_new_subU k z F T j ?_ M;show 218 _ _ _ _ _ _;have c: ∀b o,h.get? b=some o->((h.push {cls:= .type "tuple",data:= .seq rest.toArray}).push {cls:= .ref C,data:= .fields #[.ref 231,.none,.none,.none,.bool false,.none]}).get? b=some o:=fun b o e=>ab1 _ (ab1 _ e);have D:=c _ _ j;have X:=c _ _ y;have Y:((h.push {cls:= .type "tuple",data:= .seq rest.toArray}).push {cls:= .ref C,data:= .fields #[.ref 231,.none,.none,.none,.bool false,.none]}).Ns N mN:=
  let ⟨o,es,ep,e,r⟩:=V;⟨o,es,ep,c _ _ e,r⟩
 have G:((h.push {cls:= .type "tuple",data:= .seq rest.toArray}).push
   {cls:= .ref C,data:= .fields #[.ref 231,.none,.none,.none,.bool false,.none]}).get? (231+1)=some
   {cls:= .ref C,data:= .fields #[.ref 231,.none,.none,.none,.bool false,.none]}:=by heap_get
 have O:(226 C::bm).contains 186=true:=by simp
 have s:=T.keeps c;unfold isInstance;repeat (first | with_reducible refine ai5 G ?_ | (with_reducible refine wpAny_isSubtype_exc D ?_;rw[O]) | wp_step)
 show 218 _ _ (typeLookup 186 _) _ _ _;refine wpAny_typeLookup_tail D Y s F.mroIs F.init.lookup ?_;rw[hi];refine af6 (aa8 ?_);unfold bindSpecial;refine aa8 (wpAny_typeOf (T:="function") ⟨_,X,v⟩ ?_);rw[if_pos 104];refine ab0 (aa8 (ae3 (U _ (231+1) ⟨c,Heap.get?_none_of_le (aw3 _),231,G,Heap.get?_none_of_le (ab6 _),?_⟩) (fun r S p=>?_) fun _ _ x=>x))
 . exact ab1 _ (Heap.get?_push_at rfl rfl)
 . obtain⟨rfl,W⟩:=p;wp_walk
   exact W
def B6(k:ExcBaseFacts Bn newId Hg P8)(z:nJ.contains (.type Bn)=true)(F:ExcBaseFacts B Oe jM nJ)(T:OwnTail h nJ bm)(j:h.get? C=some 125)(V:h.Ns N mN)(hi:mN "__init__"=some (.ref fI))(v:h.get? fI=some oI)(u:oI.cls= .type "function")(U: ∀s e,Heap.MadeExcOf h s e 186 rest->wpAny 105 (A.under (.builtin "type.__call__" ⟨.ref C::rest,[]⟩)) (call (.ref fI) (.ref e::rest)) (fun r S=>r= .none/\Q (.ref e) S) E ⟨s,g,d,t,os⟩)(M:rest.length<=sizeLine):
  218 105 A (call 186 rest) Q E ⟨h,g,d,t,os⟩:=by
 have i:=tc_lookup;have l:=tc_bind 186;have W:(⟨h,g,d,t,os⟩:211).TypeIs 186 "type":=⟨_,j,rfl⟩
 refine wpAny_call (codeAny_of_tree ?_);show 218 _ _ (callAny 186 _) _ _ _;repeat (any_goals (first | assumption | with_reducible refine ai5 j ?_ | wp_step))
 refine⟨rfl,?_⟩;refine codeAny_call_builtin_at (av1 _ 174) entry_typeCall (wpAny_check_type_call_sub j (nV k z F T j V hi v u (fun s e O=>?_) M));exact U s e O
end
def AQ(p:bm.contains 144=true)(L:A.handled=none)(h:wpAny M A x (fun v R=> ∃e b t,v= .ref e/\R.heap.get? C=some 125/\R.heap.get? e=some b/\b.cls= .ref C/\b.data= .fields #[.ref t, .none, .none, .none, .bool false, .none]/\E (.ref e) R) E s):
  218 M A (raiseStmt env (some x) none) Q E s:=by
 have O:(226 C::bm).contains 144=true:=by rw[List.contains_cons,p,Bool.or_true]
 unfold raiseStmt;refine aa8 (ae3 h (fun v R y=>?_) fun _ _ x=>x);obtain⟨e,b,P,rfl,j,B,m,D,z⟩:=y;cases b;cases m;cases D;obtain⟨F,g,d,t,r⟩:=R;repeat (first | with_reducible refine ai5 B ?_ | with_reducible refine ai5 j ?_ | (with_reducible refine wpAny_isSubtype_exc j ?_;rw[O]) | wp_step)
 exact wpAny_raiseNew_none L z
def yq (k : ExcBaseFacts Bn newId Hg P8) (J : nJ.contains (.type Bn) = true) (F : ExcBaseFacts B Oe jM nJ) {W : Obj} (p : bm.contains 144 = true) (O : A.handled = none) (Z : (backTo bz (starEach args env)).any (·.1) = false) (hi : mN "__init__" = some (.ref fI)) (L : W.cls = .type "function") (h : wpAny 105 A (eval (.Name x np) env) (fun f R => f = .ref C /\ wpAny 105 A (evalArgs 186 true (backTo bz (starEach args env)) [])
   (fun a I=>a.kw= []/\a.pos.length<=208/\I.heap.get? C=some 125/\I.heap.Ns N mN/\I.heap.get? fI=some W/\OwnTail I.heap nJ bm/\
    ∀D e,Heap.MadeExcOf I.heap D e 186 a.pos->218 105 (A.under (.builtin "type.__call__" ⟨.ref C::a.pos,[]⟩)) (call (.ref fI) (.ref e::a.pos))
     (fun r S=>r= .none/\S.heap.get? C=some 125/\(∃b t,S.heap.get? e=some b/\b.cls= .ref C/\b.data= .fields #[.ref t,.none,.none,.none,.bool false,.none])/\E (.ref e) S) E {I with heap:=D}) E R) E s):
  218 105 A (exec (.Raise (some (.Call (.Name x np) args [] bz)) none pos) env) Q E s:=by
 rw[arm_exec_Raise];refine aa8 (ah1 (AQ (C:=C) (nm:=nm) (q:=q) (N:=N) (bs:=bs) (bm:=bm) (hdct:=hdct) (sn:=sn) (sub:=sub) (ab:=ab) (col:=col) (dd:=dd) (k0:=k0) (k1:=k1) (k2:=k2) (k3:=k3) (k5:=k5) (newId:=newId) p O (aa8 (ae3 (wpAny_Call_ofName (ae3 h (fun f R y=>?_) fun _ _ x=>x)) (fun v H P=>aa8 (ah1 (ab0 P))) fun _ _ x=>x))));obtain⟨rfl,y⟩:=y;unfold callWith;refine aa8 (af6 (ae3 y (fun a I u=>aa8 (ah1 ?_)) fun _ _ x=>x));obtain⟨G,U⟩:=a;obtain⟨V,n,j,Y,M,T,u⟩:=u;obtain rfl:U= []:=V;obtain⟨hp,g,d,tk,os⟩:=I;simp only [Z];refine aa8 (wpAny_keeperOf_exc j ?_);refine aa8 (B6 k J F T j Y hi M L (fun D e X=>ae3 (u D e X) (fun r S z=>?_) fun _ _ x=>x) n);obtain⟨m,c,⟨b,l,i,o,z6⟩,z5⟩:=z;refine⟨m,aa8 (af6 (wpAny_point (ab0 ⟨e,b,l,rfl,c,i,o,z6,z5⟩)))⟩
end Am
namespace Am
open PySem PySem.Spec PySem.W PySem.Builtin PySem.Builtin.ObjectAttr
def w8(t:212)(u v:Addr):refuseLoop t "__setattr__" [.ref u,.ref v,.type "ValueError",.type "Exception",.type "BaseException",.type "object"]=pure ():=by
 rw[refuseLoop_ref,refuseLoop_ref];kernel_rfl
def JS (X : K.In s.heap) (I : InstAt s.heap x ox C od) (m : clsIn K C = some cd) (O : mroIn K C 189 = some true) (B : refuseLoop (.ref x) "__setattr__" cd.mro = pure ()) (Y : takerIn K C name = some none) (h : ∀ b, wpAny 105 A.in1 (storeInOwnDict (.ref x) 186 (.str name tk) name v b)
   (fun fin S=>match fin with | .done f=>R (.ok f) S | .again c'=>c'.quiet=true/\codeAny 105 A c' R S) (fun e S=>R (.error e) S) s):
  codeAny 105 A (.call (.builtin "object.__setattr__") ⟨[.ref x,.str name tk,v],[]⟩) R s:=by
 have y:=PySem.F.store_object;have z:Looks 105 s.heap (isInstance (.ref x) 189) true:=I.type.andThen (looks_mroIn X O);refine an6 y.slot.plain y.entry (@check_slot 105 _ _ s "object.__setattr__" "object" "__setattr__" (.ref x) [.str name tk,v] [] _ y.kind y.split z (y.args (.ref x) (.str name tk) v) ?_);obtain⟨D,g,o⟩:=Option.bind_eq_some_iff.mp Y;have J:Looks 105 s.heap (mroOf 186) cd.mro:=(looks_clsIn X m).andThen .now;have Z:Looks 105 s.heap (storeTaker? D) none:=by
  cases D with
  | none=>cases o;exact .now
  | some a=>
   obtain⟨b,c,e⟩:=ak1.mp o;refine(looks_takesIn X c).andThen ?_;cases b with
   | true=>cases e
   | false=>exact .now
 rw[osa_eq,refuse_eq];refine aa8 (aa8 (I.type.here (aa8 (J.here ?_))));rw[B];refine ab0 (aa8 (I.type.here (aa8 ((as9 X g).here (aa8 (Z.here ?_))))));exact h _
def BN(X:K.In s.heap)(i:s.heap.get? x=some o)(m:o.cls= .ref C)(z:o.dict=none)(U: ∀c,o.data≠ .cls c)(T:clsIn K C=some cd)(M:cd.hasDict=true)(Z: ∀r B,r.get? x=some {o with dict:=some s.heap.objs.size}->r.Ns1 s.heap.objs.size (fun y=>if y=name then some v else none)->(∀b u,b≠x->s.heap.get? b=some u->r.get? b=some u)->Q (.done (.ret .none)) {s with heap:=r,toks:=B}):
  218 105 A (storeInOwnDict (.ref x) 186 (.str name tk) name v b) Q E s:=by
 obtain⟨h,g,d,t,O⟩:=s;obtain⟨q,a,G,k⟩:=o;dsimp only at m z;subst m z;refine aa8 (ab0 (aa8 (aa8 (wpAny_loadPart i (aa8 ((looks_clsIn X T).here ?_))))));rw[M];have F:(151).get? x=some ⟨.ref C,none,G,k⟩:=ab1 _ i;have H:x≠h.objs.size:=af1 (ac5 i);dsimp only;rw[if_neg 104,if_neg (by simp [typeHasDict])];have V:((151).update x fun o=>{cls:=o.cls,dict:=some 231,data:=o.data,slots:=o.slots}).get? 231=some {cls:= .type "dict",data:= .dict #[]}:=
  (Heap.get?_update_ne _ _ _ _ H.symm).trans (Heap.get?_push_at rfl rfl)
 have D:((151).update x fun o=>{cls:=o.cls,dict:=some 231,data:=o.data,slots:=o.slots}).Ns h.objs.size (fun _=>none):=
  ⟨_,#[],_,V,rfl,fun e I=>213 I 111,fun _=>rfl⟩
 split
 . rename_i c;exact 213 rfl (U c)
 refine aa8 (wpAny_alloc' ?_);refine aa8 (wpAny_update' F ?_);refine ab0 ?_;show 218 _ _ (storeInDict h.objs.size (.str name tk) name v) _ _ _;unfold storeInDict newKeyGuard;refine aa8 (ab0 (aa8 (wpAny_nsSet1 (Heap.Ns1.of_empty D) fun r f n=>?_)));obtain⟨N,p,l,J,W,L⟩:=f.count (Within.cons name v Within.nil);refine aa8 (wpAny_lookBehind J (by rw[W];exact pastItsLine_dict (ad9 L (by rw[ad6,ak9,ao4];omega))) ?_);refine ab0 (Z r _ ?_ f fun b u Y j=>(n.2 b (af1 (ac5 j))).trans ((Heap.get?_update_ne _ _ _ _ Y).trans (ab1 _ j)));refine(n.2 x H).trans (aj2 _ F ?_);have R:=(Heap.get?_some_iff.mp i).2;cases G <;> first | rfl | exact R
def JR(X:K.In s.heap)(h:s.heap.get? x=some o)(m:o.cls= .ref C)(u:o.dict=none)(U: ∀c,o.data≠ .cls c)(p:notCls o=true)(n:findIn K 186 "__setattr__"=some (some (.builtin "object.__setattr__")))(T:clsIn K C=some cd)(L:cd.hasDict=true)(O:mroIn K C 189=some true)(B:refuseLoop (.ref x) "__setattr__" cd.mro=pure ())(Y:takerIn K C name=some none)(V: ∀r t,r.get? x=some {o with dict:=some s.heap.objs.size}->r.Ns1 s.heap.objs.size (fun y=>if y=name then some v else none)->(∀b z,b≠x->s.heap.get? b=some z->r.get? b=some z)->Q () {s with heap:=r,toks:=t}):
  218 105 A (setAttr (.ref x) name v) Q E s:=by
 have I:InstAt s.heap x o C none:=⟨h,m,p,by rw[u];trivial⟩
 refine set_plain X I n (JS (s:={s with toks:=235+1}) X I T O B Y fun b=>?_);exact BN (s:={s with toks:=235+1}) X h m u U T L fun r t d e D=>V r t d e D
end Am
namespace LX
open PySem
def vB(x C t:Addr)(h:Heap):Prop:=h.get? x=some {cls:= .ref C,data:= .fields #[.ref t,.none,.none,.none,.bool false,.none]}
def sZ(x C t D:Addr)(h:Heap):Prop:=h.get? x=some {cls:= .ref C,dict:=some D,data:= .fields #[.ref t,.none,.none,.none,.bool false,.none]}
end LX
namespace L2
open PySem PySem.Spec PyProof.Rows Am
def Inv.Wb(I:Inv X pins σ H s)(e:H x=some (.ext (LX.vB x C t)))(G:RelV v u)(g:LX.sZ x C t s.heap.objs.size h')(h:h'.Ns1 s.heap.objs.size (fun y=>if y=f then some u else none))(D: ∀b B,b≠x->s.heap.get? b=some B->h'.get? b=some B):
  Inv X pins σ (upd (upd H s.heap.objs.size (.xd [(f,v)])) x (.ext (LX.sZ x C t 205))) {s with heap:=h',toks:=tk}:=by
 have F: ∀b z,H b=some z->b≠s.heap.objs.size:=fun b z d q=>by
  obtain⟨o,E⟩:=hasObj (I.aQ b z d);have:=ac5 E;rw[q] at this;exact 213 this (af7 _)
 have Z: ∀b o,s.heap.get? b=some o->b≠s.heap.objs.size:=fun b o E q=>by
  have:=ac5 E;rw[q] at this;exact 213 this (af7 _)
 have Y: ∀b,H b=none->b≠x:=fun b d q=>by rw[q,e] at d;cases d
 have A: ∀b z,H b=some z->b≠x->upd (upd H s.heap.objs.size (.xd [(f,v)])) x (.ext (LX.sZ x C t 205)) b=some z:=fun b z d i=>by rw[ah i,ah (F b z d)];exact d
 refine I.call (h':=h') (g':=s.gens) (d':=s.drawn) (t':=tk) (ch:= []) ⟨fun b o q n _ _=>D b o (Y b n) q,fun b o q n _ _=>⟨o.slots,D b o (Y b n) q⟩,fun b o q n _=>?_,fun b o q _=>?_,fun b j q=>A b _ q fun z=>?_,fun b o w q=>A b _ q fun z=>?_,fun b J q=>⟨#[],?_⟩⟩ (fun b o q=>?_) I.bare fun b z=>213 z 111
 . rw[ah (Y b n),ah (Z b o q)];exact n
 . by_cases z:b=x
   . subst z;exact⟨_,g⟩
   . exact⟨o,D b o z q⟩
 . rw[z,e] at q;cases q
 . rw[z,e] at q;cases q
 . rw[Array.append_empty];exact A b _ q fun z=>by rw[z,e] at q;cases q
 . by_cases z:b=x
   . subst z;rw[ag] at q;cases q;exact⟨g,⟨_,g⟩,fun a c p k=>k _ p⟩
   . rw[ah z] at q;by_cases w:b=s.heap.objs.size
     . subst w;rw[ag] at q;cases q;refine⟨_,h,fun y=>?_⟩;by_cases c:y=f
       . subst c;simp [List.lookup,jT,G]
       . have:(y==f)=false:=ai3.mpr c;simp [List.lookup,this,c,jT]
     . rw[ah w] at q;refine(I.aQ b o q).gM (fun c B m k=>D c B (fun y=>?_) k) (fun c k=>?_) fun c j k=>?_
       . rcases m with m | m
         . exact z (m.symm.trans y)
         . rw[y,e] at m;cases m
       . exact A c _ k fun y=>by rw[y,e] at k;cases k
       . exact A c _ k fun y=>by rw[y,e] at k;cases k
structure Ck(K:207)(C:Addr)(f:Str):Prop where
 sa:243 K 186 "__setattr__"=some (some (.builtin "object.__setattr__"))
 cd: ∃cd C1 C2,PySem.W.clsIn K C=some cd/\cd.hasDict=true/\cd.mro= [.ref C1,.ref C2,.type "ValueError",.type "Exception",.type "BaseException",.type "object"]
 ob:PySem.W.mroIn K C 189=some true
 tk:PySem.W.takerIn K C f=some none
section
variable{X:Cx}{o value:Expr}{f:Str}{pos pos':Pos}{ta tv:TE}
def RD(K:207)(f:Str)(ta tv:TE):TS:=fun D b H=>tv b H fun y l=>ta b l fun x J=> ∃Y C t,x= .ref Y/\J Y=some (.ext (LX.vB Y C t))/\Ck K C f/\ ∀E,J E=none->D.nx b (upd (upd J E (.xd [(f,y)])) Y (.ext (LX.sZ Y C t E)))
def Io(i:PE X o ta)(G:PE X value tv)(r:swapsWith value (some (.Attribute o f pos')) pos.line 216=pure false):PS X (.Assign [.Attribute o f pos'] value pos) (RD X.K f ta tv):=by
 intro a s b H D I h;refine plainObj_wpAny_Assign_Attribute (aV (G a s b H _ I h) fun u P n=>?_) r;obtain⟨y,l,Y,O,q⟩:=n;refine aV (i a P b l _ Y q) fun T v n=>?_;obtain⟨x,J,g,m,W,C,t,B,d,F,e⟩:=n;subst B;obtain rfl:T=Value.ref W:=m;obtain⟨Q,_⟩:=g.aQ W _ d;obtain⟨Z,R,S,L,M,k⟩:=F.cd;have N:J v.heap.objs.size=none:=by
  cases z:J v.heap.objs.size with
  | none=>rfl
  | some w=>
   obtain⟨o,E⟩:=hasObj (g.aQ _ w z);exact 213 (ac5 E) (af7 _)
 refine JR g.l7 Q rfl rfl (fun c z=>by cases z) rfl F.sa L M F.ob (by rw[k];exact w8 _ _ _) F.tk fun V U j p A=>?_;exact⟨b,_,g.Wb d O j p A,e _ N⟩
end
def qZ(H:Hp)(a:Addr):Hp:=fun b=>if b=a then none else H b
def dq(h:b≠a):qZ H a b=H b:=if_neg h
def jO:qZ H a a=none:=if_pos rfl
def gV(h:H b=none):qZ H a b=none:=by
 by_cases z:b=a
 . subst z;exact jO
 . rw[dq z];exact h
end L2
namespace LX
open PySem PySem.W PyProof.Rows
def xt{K:Frag}(X:K.In h)(G:h.Ns N mg)(e:nsIn K N n=some (some v)):mg n=some v:=by
 obtain⟨o,P,w,x,D,_,j⟩:=G;unfold nsIn at e;split at e
 . rename_i c d J U M q;have:=X _ _ q;rw[x] at this;cases this;cases D;split at e
   . rename_i A y;cases e;rw[<-j];unfold nsFind findBy;rw[<-Array.find?_toList,y];rfl
   . split at e <;> cases e
 . cases e
structure nL(x:Str)(C fI:Addr)(nJ:List 212)(newId:String)(mg:Str->210 212)(h:Heap):Prop where
 bound:mg x=some 186
 obj: ∃bm N nm q bs hdct sn sub ab col dd k0 k1 k2 k3 k5 mN,h.get? C=some 125/\h.Ns N mN/\mN "__init__"=some (.ref fI)/\OwnTail h nJ bm
 fn: ∃oI,h.get? fI=some oI/\oI.cls= .type "function"
def RX{K:Frag}{h:Heap}{H:Str->210 212}{x nm q:Str}{C N z:Addr}{t bs bm sub:List 212}{hd ab:Bool}(X:K.In h)(G:h.Ns 217 H)(e:nsIn K 217 x=some (some 186))(l:K.lookup C=some (excClassObj nm q C N bs bm hd sn sub ab col dd k0 k1 k2 k3 k5 newId))(k:nsOkIn K N=true)(Z:nsIn K N "__init__"=some (some (.ref z)))(Y:tailIn K t bm=true)(s:K.lookup z=some ⟨.type "function",od,.func fd,Cs⟩):nL x C z t newId H h:=
 ⟨mg_of X G e,⟨bm,N,nm,q,bs,hd,sn,sub,ab,col,dd,k0,k1,k2,k3,k5,_,X _ _ l,.of_isNs (isNs_of_in X k),xt X (.of_isNs (isNs_of_in X k)) Z,tail_of_in X Y⟩,⟨_,X _ _ s,rfl⟩⟩
end LX
namespace L2
open PySem PySem.Spec PyProof.Rows Am
section
variable{X:Cx}{pins:List 121}{σ:St}{H:Hp}{s:211}{a:Addr}{φ:Heap->Prop}
def Inv.drop'(I:Inv X pins σ H s)(e:H a=some (.ext φ)):Inv X pins σ (qZ H a) s:=by
 refine⟨I.ok,I.os,I.bare,⟨I.base.keep,I.base.slot,fun b o d f C=>gV (I.base.free b o d f C),I.base.there,fun b g h=>?_,fun b o u h=>?_,fun b D h=>?_⟩,I.loc,I.cell,gV I.free,fun y c h=>gV (I.fF y c h),fun p B=>?_,fun b o h=>?_,I.len⟩
 . have:=I.base.jB b g h;rw[dq fun z=>by rw[z,e] at this;cases this];exact this
 . have:=I.base.kO b o u h;rw[dq fun z=>by rw[z,e] at this;cases this];exact this
 . obtain⟨m,this⟩:=I.base.lQ b D h;exact⟨m,by rw[dq fun z=>by rw[z,e] at this;cases this];exact this⟩
 . obtain⟨j,r,A,t,v⟩:=I.pin p B;exact⟨j,gV r,A,t,v⟩
 . have i:b≠a:=fun q=>by rw[q,jO] at h;cases h
   rw[dq i] at h;refine(I.aQ b o h).gM (fun _ _ _ z=>z) (fun c z=>?_) fun c g z=>?_
   . rw[dq fun q=>by rw[q,e] at z;cases z];exact z
   . rw[dq fun q=>by rw[q,e] at z;cases z];exact z
def Inv.Wf(I:Inv X pins σ H s)(h:s.heap.get? a=none):H a=none:=by
 cases e:H a with
 | none=>rfl
 | some z=>obtain⟨o,x⟩:=hasObj (I.aQ a z e);rw[h] at x;cases x
def Inv.Sd(I:Inv X pins σ H s)(R:X.ex= [])(h:s.heap.get? a=none):X.s₀.heap.get? a=none:=by
 cases e:X.s₀.heap.get? a with
 | none=>rfl
 | some z=>obtain⟨o,x⟩:=I.base.there a z e (by rw[R];simp);rw[h] at x;cases x
def Inv.exc{C t:Addr}{h':Heap}{args:List Value}(I:Inv X pins σ H s)(E: ∀b o,s.heap.get? b=some o->h'.get? b=some o)(V:s.heap.get? a=none)(y:h'.get? a=some {cls:= .ref C,data:= .fields #[.ref t, .none, .none, .none, .bool false, .none]}):
  Inv X pins σ (upd H a (.ext (LX.vB a C t))) {s with heap:=h'}:=by
 have f:=I.Wf V;have Q: ∀b z,H b=some z->b≠a:=fun b z h q=>by rw[q,f] at h;cases h
 refine I.call (h':=h') (g':=s.gens) (d':=s.drawn) (t':=235) (ch:= []) ⟨fun b o e _ _ _=>E b o e,fun b o e _ _ _=>⟨o.slots,E b o e⟩,fun b o e n _=>?_,fun b o e _=>⟨o,E b o e⟩,fun b g e=>?_,fun b o u e=>?_,fun b A e=>⟨#[],?_⟩⟩ (fun b o e=>?_) I.bare fun b z=>213 z 111
 . rw[ah fun q=>by rw[q,V] at e;cases e];exact n
 . rw[ah (Q _ _ e)];exact e
 . rw[ah (Q _ _ e)];exact e
 . rw[Array.append_empty,ah (Q _ _ e)];exact e
 . by_cases q:b=a
   . subst q;rw[ag] at e;cases e;exact⟨y,⟨_,y⟩,fun d i p k=>k _ p⟩
   . rw[ah q] at e;refine(I.aQ b o e).gM (fun c u _ z=>E c u z) (fun c z=>?_) fun c g z=>?_
     . rw[ah (Q c _ z)];exact z
     . rw[ah (Q c _ z)];exact z
end
def nZ(K:207)(f:Str):Sp:=fun u H Q _=> ∃X C t v,u= [.ref X,v]/\H X=some (.ext (LX.vB X C t))/\Ck K C f/\ ∀D,H D=none->Q .aO (upd (upd H D (.xd [(f,v)])) X (.ext (LX.sZ X C t D)))
section
variable{X:Cx}
def Vt(X:Cx)(C:Addr)(Q:Addr->Hp->Prop):Prop:= ∀(pins:List 121) (σ:St) (H:Hp) (s:211) (ea t dx:Addr) (args:List 212),Inv X pins σ H s->LX.sZ ea C t dx s.heap->s.heap.TupAt t args->H ea=none->H t=none->X.s₀.heap.get? ea=none->X.s₀.heap.get? t=none->Q dx H->X.xe (.ref ea) s
def HK(f:Str)(Q:Addr->Hp->Prop)(Y:TA):TS:=fun _ b H=>Y b H fun u l=> ∃v,u= [v]/\ ∀C,l C=none->Q C (upd l C (.xd [(f,v)]))
def AS(O:LX.nL x C fI nJ newId X.mg X.base)(Fn:ExcBaseFacts Bn newId Hg P8)(CB:nJ.contains (.type Bn)=true)(FB:ExcBaseFacts B Oe jM nJ)(FI:aU X.prog X.w X.K X.mg X.base dy k fI QN ["self",f] (nZ X.K f))(hb:Binds X.K QN ["self",f] [])(S:Ck X.K C f)(hr:bN (k+1) X.A)(hc:X.calm=true)(hg:Gl X x)(ha:PA X [e₀] ta)(SI:Vt X C Ew)(R:X.ex= [])(jh:123=false:=by decide)(he:starEach [e₀] X.env= [(false,eval e₀ X.env)]:=by rfl):
  PS X (.Raise (some (.Call (.Name x np) [e₀] [] bz)) none pos) (HK f Ew ta):=by
 intro a s σ H D I h;obtain⟨tl,N,nm,q,bs,P,sn,sub,ab,col,dd,k0,k1,k2,k3,k5,mN,hC,hN,XA,T⟩:=O.obj;obtain⟨oI,hoI,Vd⟩:=O.fn;refine yq (C:=C) (nm:=nm) (q:=q) (N:=N) (bs:=bs) (bm:=tl) (hdct:=P) (sn:=sn) (sub:=sub) (ab:=ab) (col:=col) (dd:=dd) (k0:=k0) (k1:=k1) (k2:=k2) (k3:=k3) (k5:=k5)
  Fn CB FB (mN:=mN) (T.hasType FB.hasBase) (I.ok.hd hc) (by rw[he];rfl) XA Vd (kB I hg O.bound ⟨rfl,?_⟩ (hd:=jh))
 have hh:=ha bz a s σ H _ I h;rw[he] at hh ⊢;refine Calls.evalArgs_plain (ae3 hh (fun Y s₂ W=>?_) fun _ _ y=>y);obtain⟨vs,l,Z,r1,v,ev,hq⟩:=W;have p:=Z.bk;subst ev;refine⟨rfl,by rw[<-r1.length];show 1<=208;decide,p _ _ hC,hN.keeps p,p _ _ hoI,T.keeps p,fun h' e U=>?_⟩;obtain⟨t,Vk,Xs,d⟩:=U.there;have g:=Inv.exc (args:=Y) Z U.keeps U.new Vk;have et:t≠e:=fun z=>by rw[z,Vk] at d;cases d
 have J:=Z.Wf U.new;have L:=Z.Wf Xs;have n0e:=Z.Sd R U.new;have n0t:=Z.Sd R Xs;have r2:Vals [V.ref e,v] (226 e::Y):= .cons rfl r1;have hl:(226 e::Y).length=2:=by rw[<-r2.length];rfl
 refine wpAny_call (ao5 (FI.run _ X.stack _ _ ⟨226 e::Y,[]⟩ (226 e::Y) [V.ref e,v] (fun c r=>c= .aO/\ ∃E,upd l e (.ext (LX.vB e C t)) E=none/\r=upd (upd (upd l e (.ext (LX.vB e C t))) E (.xd [(f,v)])) e (.ext (LX.sZ e C t E))) (fun _ _ _=>False) (hr.make C Y []) (g.Pt.make C Y [])
  (by have:=hb _ (226 e::Y) g.l7 (by simpa using hl);simpa using this) r2 ⟨e,C,t,v,rfl,ag,S,fun E F=>⟨rfl,E,F,rfl⟩⟩) fun rr s' G=>?_)
 cases rr with
 | error ev=>exact G.elim
 | ok fl=>
  cases fl with
  | next=>exact G.elim
  | brk=>exact G.elim
  | cont=>exact G.elim
  | ret u=>
   have Z8:=G;obtain⟨c,r,QE,MF,i,Jw,ZD,⟨e1,E,F,eH⟩⟩:=Z8;obtain⟨v2,H2,n,rv,⟨e2,QO,aa6,eH2⟩⟩:=g.after (Q:=fun c j=>c= .aO/\ ∃E,upd l e (.ext (LX.vB e C t)) E=none/\j=upd (upd (upd l e (.ext (LX.vB e C t))) E (.xd [(f,v)])) e (.ext (LX.sZ e C t E))) ⟨c,r,QE,MF,i,Jw,ZD,⟨e1,E,F,eH⟩⟩;subst e2;subst e1;have n:=g.Ae (H':=r) QE i Jw MF fun b z=>213 z 111;have ne:E≠e:=fun z=>by rw[z,ag] at F;cases F
   have M:r e=some (.ext (LX.sZ e C t E)):=by rw[eH,ag]
   have tk:s'.heap.get? t=some {cls:= .type "tuple",data:= .seq Y.toArray}:=by
    refine i.keep t _ d (by rw[ah et];exact L) (fun z=>?_) 111;obtain⟨_,o,ho,_⟩:=Z.stack.mem z;rw[Xs] at ho;cases ho
   have m:r t=none:=i.free t _ d (by rw[ah et];exact L) 111;have I4:=n.drop' M;have eD:qZ r e=upd l E (.xd [(f,v)]):=by
    funext b
    by_cases z:b=e
    . subst z;rw[jO,ah (Ne.symm ne)];exact J.symm
    . rw[dq z,eH,ah z];by_cases y:b=E
      . subst y;rw[ag,ag]
      . rw[ah y,ah y,ah z]
   obtain⟨b1,_⟩:=n.aQ e _ M;refine⟨?_,I4.bk _ _ hC,⟨_,t,b1,rfl,rfl⟩,?_⟩
   . cases ZD;rfl
   . rw[eD] at I4;have QM:l E=none:=by rw[ah ne] at F;exact F
     exact SI a σ _ s' e t E Y I4 b1 ⟨_,_,tk,rfl,rfl⟩ (by rw[ah (Ne.symm ne)];exact J) (by
      have:qZ r e t=none:=by rw[dq et];exact m
      rw[eD] at this;exact this) n0e n0t (hq E QM)
def MX{P:Program}{w:World}{K:PySem.W.Frag}:
  Vt (jj (Ht P w) P w K mg base N qual scope f cd A outer s H E) C (fun D r=>E 186 (some D) r):=fun a b r S Z t D y I z Y d e F B q=>
 xF (X:=jj (Ht P w) P w K mg base N qual scope f cd A outer s H E) I rfl rfl rfl z rfl rfl rfl Y d e F B q
end
def GZ(P:214)(w:237)(K:207)(G:Str->210 212)(base:Heap)(x:Str)(k:Nat)(z:List Str)(sp:Sp):Prop:=
 ∃f a,G x=some (.ref f)/\PySem.W.keepIn K (.ref f)=true/\Binds K a z []/\aU P w K G base (Ht P w) k f a z sp
def xc{d p P B m F pos:Pos}(h:GZ X.prog X.w X.K X.mg X.base x k ps sp)(s:bN k X.A)(r:PA X.EM (e::es) t)(j:X.N.Nodup)(q:X.mg c=some (.ref C0))(u: ∀W,jw (X.marked W) (b₀::qB) ts)(b:Gl X x:=by rfl)(o:Gl X c:=by rfl)(R:X.stack=X.env::X.outer:=by rfl)(Q:X.env.frame=some X.env.locals:=by rfl)(H:X.N[iy]?=some y:=by rfl)(v:Loc X.env.scope y:=by first | exact Or.inl rfl | exact Or.inr rfl)(I:X.N[ie]?=some n:=by rfl)(E:X.env.scope.names.lookup n=some .local:=by rfl)(J:X.fn y=true\/X.env.scope.names.lookup y=some .local:=by first | exact .inl rfl | exact .inr rfl | assumption)(G:123=false:=by decide)(O:(c==("__debug__":Str))=false:=by decide)(z:starEach (e::es) X.env=(false,eval e X.env)::starEach es X.env:=by rfl)(V:(backTo P (starEach es X.env)).any (·.1)=false:=by rfl)(l:swapsWith (.Call (.Name x d) (e::es) [] P) (some (.Name y p)) B.line X.env=pure false:=by rfl):
  PS X (.Try [.Assign [.Name y p] (.Call (.Name x d) (e::es) [] P) B] [.ExceptHandler (some (.Name c m)) (some n) (b₀::qB) F] [] [] pos) (K4 X.K C0 sp iy ie t ts):=by
 obtain⟨f,a,g,i,C,D⟩:=h;exact uH D s b g i C r j R Q H v I E o q u J G O z V l
end L2
namespace LD
open PySem PySem.Spec L2 LB PyProof.Rows LW
abbrev KR:=dw->(Int->List Sl->Prop)->List Sl->Prop
def YLk(f:Str)(Ws:List Wd)(Q:Addr->Hp->Prop)(G:Int->List Sl->Prop):Prop:= ∀M N H b i n C,aE Ws M N H b i->G n i->H C=none->Q C (upd H C (.xd [(f,.int n)]))
def lY(f:Str)(Q:Addr->Hp->Prop)(T:KR):TS:=fun D b H=> ∃s M N i E G,aE s M N H b i/\Lk s D E/\YLk f s Q G/\T E G i
section
variable{X:Cx}{f:Str}{Ew:Addr->Hp->Prop}{st:Stmt}{rest body:List Stmt}{T:j3}{TX UX:KR}{c e tg iter:Expr}{es:List Expr}{u:lF}{tA:gH}{ti:rJ}{g:wa}{pos:Pos}
def yOf(T:j3):KR:=fun E _ i=>T E i
def Wa(T U:KR):KR:=fun E G i=>T {E with nx:=U E G} G i
def yIf(u:lF)(T U:KR):KR:=fun E G i=>u i fun b k=>if b=true then T E G k else U E G k
def Q3:KR:=fun E _ i=>E.nx i
def MW(t:gH):KR:=fun _ G i=>t i fun v k=> ∃n,v= [.int n]/\G n k
def V8(h:Ex X st T):PS X st (lY f Ew (yOf T)):=PS.imp h fun D b H w=>(by obtain⟨s,M,N,i,F,G,E,L,_,q⟩:=w;exact(⟨s,M,N,i,F,E,L,q⟩))
def MV(d:PS X st (lY f Ew TX))(h:jw X rest (lY f Ew UX)):jw X (st::rest) (lY f Ew (Wa TX UX)):=jw.imp (bf d h) fun D b H O=>(by obtain⟨s,M,N,i,F,G,E,L,I,q⟩:=O;exact(
 ⟨s,M,N,i,{F with nx:=UX F G},G,E,⟨fun M N H b i E q=>⟨s,M,N,i,F,G,E,L,I,q⟩,L.rt,L.bk,L.ct⟩,I,q⟩))
def KU(d:PS X st (lY f Ew TX)):jw X [st] (lY f Ew TX):=dQ d
def Q2:jw X [] (lY f Ew Q3):=jw.imp ko fun D b H m=>(by obtain⟨s,M,N,i,F,G,E,L,_,q⟩:=m;exact(L.nx _ _ _ _ _ E q))
def V9(m:Tv X c u)(h:jw X sa (lY f Ew TX))(d:jw X sb (lY f Ew UX)):PS X (.If c sa sb pos) (lY f Ew (yIf u TX UX)):=PS.imp (uI m h d) fun D j H Y=>(by obtain⟨t,M,N,i,I,G,E,L,F,q⟩:=Y;exact(
 ⟨t,M,N,i,_,E,q,fun b k r s U J=>by
  cases b with
  | true=>rw[if_pos rfl] at s ⊢;exact⟨t,M,N,k,I,G,U,L,F,s⟩
  | false=>rw[if_neg ab9] at s ⊢;exact⟨t,M,N,k,I,G,U,L,F,s⟩⟩))
def y_raise(O:LX.nL x C fI nJ newId X.mg X.base)(j:ExcBaseFacts Bn newId Hg P8)(z:nJ.contains (.type Bn)=true)(y:ExcBaseFacts B Oe jM nJ)(V:aU X.prog X.w X.K X.mg X.base dy k fI QN ["self",f] (nZ X.K f))(d:Binds X.K QN ["self",f] [])(S:Ck X.K C f)(o:bN (k+1) X.A)(m:X.calm=true)(h:Av X [e] tA)(F:Vt X C Ew)(R:X.ex= []:=by rfl)(b:Gl X x:=by rfl)(I:123=false:=by decide)(G:starEach [e] X.env= [(false,eval e X.env)]:=by rfl):
  PS X (.Raise (some (.Call (.Name x np) [e] [] bz)) none pos) (lY f Ew (MW tA)):=PS.imp (AS O j z y V d S o m b h F R I G) fun D σ H N=>(by obtain⟨s,M,Z,p,Δ,W,E,L,LX,q⟩:=N;exact(
 ⟨s,M,Z,p,_,E,q,fun ds r a vs Y U c1 P=>(by
  obtain⟨n,l,t⟩:=Y;subst l;obtain⟨v,ys,rfl,i,Q⟩:=P.aK;cases Q.cD;cases i.ofInt;exact⟨_,rfl,fun dx J=>LX _ _ _ _ _ _ _ U t J⟩)⟩))
end
def HN(f:Str)(C:Addr)(S:List Dt->(Dt->Prop)->(Int->Prop)->Prop):Sp:=fun u H Q E=> ∃M t G O,jW M H/\aB M H u t/\S t G O/\(∀r q J,G r->aF H q->Rep M q J r->Q J q)/\(∀n D q,O n->aF H q->q D=some (.xd [(f,.int n)])->E 186 (some D) q)
section
variable{P:214}{w:237}{K:207}{mg:Str->210 212}{base:Heap}
def Ym {U : Str} {x qual : Str} {st : Stmt} {k : Nat} (F : eW K x qual st f fd) (sc : aD N ps (ae st)) (p : ∀ t G O, S t G O -> t.length = ps.length) (Y : ∀ (bC : Value) (A : Around) (outer : List Env) (s : Shared) (H : Hp) (E : XK), bN k 139 -> Vt (jj (Ht P w) P w K mg base N qual (ae st) f bC A outer s H E) C (fun D u => E 186 (some D) u) ->
   ∃T,jw (jj (Ht P w) P w K mg base N qual (ae st) f bC A outer s H E) (bS st) (lY U (fun D u=>E 186 (some D) u) T)/\ ∀t G O,S t G O->T {nx:=fun _=>G .aO,rt:=fun d _=>G d} (fun n _=>O n) (t.map .im++206 133 .no)):
  aU P w K mg base (Ht P w) (k+1) f fd ps (HN U C S):=by
 refine F.okX sc (fun J H Q E h=>?_) (fun bC A outer s H J Q E hr h=>?_)
 . obtain⟨M,t,G,O,L,r,q,_⟩:=h;rw[r.1];exact p t G O q
 . obtain⟨M,t,G,O,L,r,q,V,ke⟩:=h;obtain⟨T,Z,hq⟩:=Y bC A outer s H E hr MX;refine⟨_,Z,[⟨H,fun _=>False,M,M,none⟩],M,List.replicate (t.length+133) [],t.map .im++List.replicate 133 .no,_,_,?_,?_,?_,hq t G O q⟩
   . have e:L2.start N J=J.map some++List.replicate 133 none:=by unfold L2.start;rw[r.1,p t G O q]
     rw[e];refine mv L r fun W hW=>?_;rw[ab4.mp hW];have X:(206 (t.length+133) 169).flatten= []:=by simp
     refine⟨fun b o e _=>e,fun b n=>n,fun a I=>by rw[X] at I;exact 213 I ab3,fun a h=>h,fun a h=> .inl h,fun d c e=>(by cases e),fun j s as h1 B _ a I=>?_⟩;rw[ad7] at B;split at B
     . cases B;exact 213 I ab3
     . cases B
   . have i : ∀ {g l u R m}, aE [⟨H, fun _ => False, M, M, none⟩] g l u R m -> aF H u /\ ∀ a, M a -> g a := fun y => by
       have k:=y.w _ (ab4.mpr rfl);exact⟨fun b o e=>k.bs b o e (fun z=>z),k.m0⟩
     exact⟨fun g l u R m y q=>V _ _ _ q (i y).1 .aO,fun g l u R m v d y r' q=>V _ _ _ q (i y).1 (r'.mono fun a o e n=>⟨e,fun z=>n ((i y).2 a z)⟩),fun _ _ _ _ _ _ z=>z.elim,fun _ _ _ _ _ _ z=>z.elim⟩
   . intro g l u R m n D y q mP;have k:=y.w _ (ab4.mpr rfl);refine ke n D _ q (fun b o e=>?_) ag;have:=k.bs b o e (fun z=>z);rw[ah fun z=>by rw[z,mP] at this;cases this];exact this
end
def tN(M:Addr->Prop)(H:Hp)(vs:List V)(L:List Sl):Prop:=234=L.length/\ ∀(i:Nat) v s,vs[i]?=some v->L[i]?=some s->qk M H (some v) s []/\s.cc=false
def tN.nil:tN M H [] []:=⟨rfl,fun i v s h=>by simp at h⟩
def tN.cons{M:Addr->Prop}{H:Hp}{v:V}{s:Sl}{vs:List V}{L:List Sl}(h:qk M H (some v) s [])(w:s.cc=false)(r:tN M H vs L):tN M H (v::vs) (s::L):=
 ⟨by rw[ad6,ad6,r.1],fun i y t d e=>by
  cases i with
  | zero=>cases d;cases e;exact⟨h,w⟩
  | succ j=>exact r.2 j y t (by simpa using d) (by simpa using e)⟩
abbrev DS:=List Sl->(Dt->Prop)->Prop
def spS(S:DS):Sp:=fun u H Q _=> ∃M L G,jW M H/\tN M H u L/\S L G/\ ∀r q J,G r->aF H q->Rep M q J r->Q J q
def xZ(C:jW M H)(r:tN M H vs ss)(w: ∀W∈Ws,Vu W M (List.replicate (ss.length+n) []) H (ss++List.replicate n .no)):
  aE Ws M (206 (ss.length+n) []) H (vs.map some++206 n none) (ss++206 n .no):=by
 have j:(206 (ss.length+n) 169).flatten= []:=by simp
 refine⟨by simp [r.1],by simp,fun i s h=>?_,by rw[j];exact aj8,fun a f=>by rw[j] at f;exact 213 f ab3,C,w⟩;have I:=(ac1.mp h).1;rw[ac6,ak6] at I;have f:(206 (ss.length+n) 169)[i]?=some []:=by rw[ad7,if_pos I]
 by_cases z:i < ss.length
 . rw[ae9 z] at h;have u:vs[i]?=some (vs[i]'(by rw[r.1];exact z)):=ab2 _;exact⟨_,[],by rw[ae9 (by rw[aa9,r.1];exact z),ab8,u];rfl,f,(r.2 i _ s u h).1⟩
 . rw[af4 163,ad7] at h;split at h
   . rename_i V;cases h;exact⟨none,[],by rw[af4 (by rw[aa9,r.1];omega),ad7,if_pos (by rw[aa9,r.1];exact V)],f,rfl⟩
   . cases h
def Aw:Vu ⟨H,fun _=>False,M,M,none⟩ M (206 k []) H δ:=by
 have i:(206 k 169).flatten= []:=by simp
 refine⟨fun b o e _=>e,fun b n=>n,fun a g=>by rw[i] at g;exact 213 g ab3,fun a h=>h,fun a h=> .inl h,fun d c e=>(by cases e),fun j s R l f _ a g=>?_⟩;rw[ad7] at f;split at f
 . cases f;exact 213 g ab3
 . cases f
section
variable{P:214}{w:237}{K:207}{mg:Str->210 212}{base:Heap}
def Dq{N z:List Str}(r:tN M H vs ss)(l:ss.length=z.length):L2.start N vs=vs.map some++206 (N.length - z.length) none:=by unfold L2.start;rw[r.1,l]
def fnS {x qual : Str} {st : Stmt} {k : Nat} (F : eW K x qual st f fd) (B : aD N ps (ae st)) (j : ∀ L G, S L G -> L.length = ps.length) (p : ∀ (bC : Value) (A : Around) (outer : List Env) (s : Shared) (H : Hp) (E : XK), bN k 139 ->
   ∃T,CH (jj dy P w K mg base N qual (ae st) f bC A outer s H E).EM (bS st) T/\ ∀L G,S L G->T {nx:=fun _=>G .aO,rt:=fun d _=>G d} (L++206 133 .no)):
  aU P w K mg base dy (k+1) f fd ps (spS S):=by
 refine F.ok B (fun D H Q E h=>?_) (fun bC A outer s H D Q E u h=>?_)
 . obtain⟨M,L,G,C,r,q,_⟩:=h;rw[r.1];exact j L G q
 . obtain⟨M,L,G,C,r,q,U⟩:=h;obtain⟨T,V,Y⟩:=p bC A outer s H E u;refine⟨lS T,V,[⟨H,fun _=>False,M,M,none⟩],M,List.replicate (L.length+133) [],L++List.replicate 133 .no,_,?_,?_,Y L G q⟩
   . rw[Dq r (j L G q)];exact xZ C r fun W X=>by rw[ab4.mp X];exact Aw
   . have i : ∀ {g l t R m}, aE [⟨H, fun _ => False, M, M, none⟩] g l t R m -> aF H t /\ ∀ a, M a -> g a := fun y => by
       have k:=y.w _ (ab4.mpr rfl);exact⟨fun b o e=>k.bs b o e (fun z=>z),k.m0⟩
     refine⟨fun g l t R m y q=>U _ _ _ q (i y).1 .aO,fun g l t R m v d y Z q=>U _ _ _ q (i y).1 (Z.mono fun a o e n=>⟨e,fun z=>n ((i y).2 a z)⟩),fun _ _ _ _ _ _ z=>z.elim,fun _ _ _ _ _ _ z=>z.elim⟩
end
end LD
namespace L2
open PySem PySem.Spec PyProof.Rows
def v8(P:214)(w:237)(K:207)(G:Str->210 212)(base:Heap)(f:Addr)(k:Nat)(z:List Str)(sp:Sp):Prop:=
 ∃a,PySem.W.keepIn K (.ref f)=true/\Binds K a z []/\aU P w K G base dy k f a z sp
section
variable{X:Cx}{f:Addr}{k i:Nat}{ps:List Str}{sp:Sp}{x:Str}{p pos:Pos}{e:Expr}{es:List Expr}{t:TA}
def Np(f:Addr)(sp:Sp)(i:Nat)(t:TA):TE:=fun b H Q=>b[i]?=some (some (.ref f))/\t b H fun u l=>sp u l Q E0
def Er(h:v8 X.prog X.w X.K X.mg X.base f k ps sp)(o:bN k X.A)(d:PE X (.Name x p) (fg i))(j:PA X (e::es) t)
  (z:209 (e::es) 216=(false,eval e 216)::209 es X.env:=by rfl) (V:(129).any (·.1)=false:=by rfl):
  PE X 135 (Np f sp i t):=by
 obtain⟨D,E,c,F⟩:=h;intro a s b H Q I L;obtain⟨Z,q⟩:=L;refine am1 (aV (d a s b H (fun v l=>v= .ref f/\t b l fun y J=>sp y J Q E0) I ⟨_,Z,rfl,q⟩) fun u P n=>?_);obtain⟨v,l,Y,G,B,C⟩:=n;subst B;obtain rfl:u=Value.ref f:=G;refine PySem.W.callWith_K (h₀:=X.base) I.ok.mod.Sq E (aV (j pos a P b l _ Y C) fun O N M=>?_) z V;obtain⟨y,J,g,r,m⟩:=M;refine⟨g.l7,?_⟩;exact DQ (dvs:= []) (ds:= []) F o c .nil Ln g r (by rw[ai1];exact m)
end
end L2
namespace LD
open PySem PySem.Spec L2 LB PyProof.Rows LW
abbrev G8:=List Sl->(List Sl->List Sl->Prop)->Prop
inductive lW(t:G8)(σ:L2.St)(H:Hp)(Q:List V->Hp->Prop):Prop
 | mk (W:List Wd) (M:Addr->Prop) (α:List 179) (δ:List Sl) (Qd:List Sl->List Sl->Prop) (h1:aE W M α H σ δ) (h2:t δ Qd) (h3: ∀ss δ' H' vs,Qd ss δ'->aE W M α H' σ δ'->cW α H H'->tN M H' vs ss->Q vs H')
abbrev Wv(X:Cx)(es:List Expr)(t:G8):Prop:=PA X es (lW t)
section
variable{X:Cx}{e:Expr}{es:List Expr}{te:bD}{t:G8}{tA:gH}{y x:Str}{yp p pos:Pos}{f:Addr}{k:Nat}{ps:List Str}{S:DS}{S1:DN}
def We:G8:=fun i Q=>Q [] i
def wIm(te:bD)(t:G8):G8:=fun i Q=>te i fun d M=>t M fun L W=>Q (.im d::L) W
def wFn(f:Addr)(i:Nat)(t:G8):G8:=fun j Q=>j[i]?=some (.fn f)/\t j fun L W=>Q (.fn f::L) W
def wGl(f:Addr)(t:G8):G8:=fun i Q=>t i fun L W=>Q (.fn f::L) W
def KY:Wv X [] We:=PA.imp aM fun b H Q n=>(by obtain⟨W,M,N,i,G,E,q,k⟩:=n;exact k _ _ _ _ q E cW.rf .nil)
def Q4(z:Ev X e te)(o:Wv X es t)(n:209 (e::es) 216=(false,eval e 216)::209 es X.env:=by rfl):Wv X (e::es) (wIm te t):=PA.imp (aj z o n) fun b H Q r=>(by
 obtain⟨W,M,O,i,G,E,q,k⟩:=r;exact⟨W,M,O,i,_,E,q,fun d N m v u T F w=>⟨W,M,O,N,_,T,u,fun L Y J A g l a h=>k _ _ _ _ g l (F.tr a) (.cons (s:= .im d) ⟨rfl,v,rfl,w.chg T a⟩ rfl h)⟩⟩)
def Q6(i:Nat)(z:PE X (.Name y yp) (fg i))(r:Wv X es t)(n:209 (.Name y yp::es) 216=(false,eval (.Name y yp) 216)::209 es X.env:=by rfl):Wv X (.Name y yp::es) (wFn f i t):=PA.imp (aj z r n) fun b H Q u=>(by
 obtain⟨W,M,N,m,G,E,⟨h,q⟩,k⟩:=u;obtain⟨o,R,P,v,Z,O⟩:=E.sl i _ h;subst O;exact⟨_,P,W,M,N,m,_,E,q,fun L Y J w g l a j=>k _ _ _ _ g l a (.cons (s:= .fn f) ⟨rfl,rfl⟩ rfl j)⟩)
def Q5(b:Gl X x)(O:X.mg x=some (.ref f))(o:Wv X es t)(A:123=false:=by decide)(n:209 (.Name x p::es) 216=(false,eval (.Name x p) 216)::209 es X.env:=by rfl):Wv X (.Name x p::es) (wGl f t):=PA.imp (aj (eV (v:= .ref f) b O rfl A) o n) fun c H Q r=>(by
 obtain⟨W,M,N,i,G,E,q,k⟩:=r;exact⟨W,M,N,i,_,E,q,fun L Y J u g l a h=>k _ _ _ _ g l a (.cons (s:= .fn f) ⟨rfl,rfl⟩ rfl h)⟩)
def dCS(S:DS)(t:G8):bD:=fun i Q=>t i fun L l=>S L fun r=>Q r l
def Mo(h:eP X.prog X.w X.K X.mg X.base x k ps (spS S))(o:bN k X.A)(g:Wv X (e::es) t)(b:Gl X x:=by rfl)
  (B:123=false:=by decide) (z:209 (e::es) 216=(false,eval e 216)::209 es X.env:=by rfl) (V:(129).any (·.1)=false:=by rfl):
  Ev X 135 (dCS S t):=PE.imp (ou h o b g B z V) fun c H Q n=>(by
 obtain⟨W,M,N,l,G,E,q,k⟩:=n;refine⟨W,M,N,l,_,E,q,fun L m u D v T F C=>?_⟩;show spS S (D++ []) u Q E0;rw[ai1];exact⟨M,L,_,T.al,C,v,fun r J I i s j=>k _ _ _ _ i (T.same s) (F.tr (cW.of s)) j⟩)
def YR(f:Addr)(S1:DN)(i:Nat)(tA:gH):bD:=fun j Q=>j[i]?=some (.fn f)/\tA j fun u l=>S1 u fun r=>Q r l
def i0(i:Nat)(h:v8 X.prog X.w X.K X.mg X.base f k ps (bT S1))(v:bN k X.A)(B:PE X (.Name y yp) (fg i))(g:Av X (e::es) tA)
  (z:209 (e::es) 216=(false,eval e 216)::209 es X.env:=by rfl) (V:(129).any (·.1)=false:=by rfl):
  Ev X (.Call (.Name y yp) (e::es) [] pos) (YR f S1 i tA):=PE.imp (Er h v B g z V) fun c H Q n=>(by
 obtain⟨W,M,N,G,R,E,⟨j,q⟩,k⟩:=n;obtain⟨o,U,P,Z,Y,O⟩:=E.sl i _ j;subst O;refine⟨P,W,M,N,G,_,E,q,fun u I J b C T F D=>?_⟩;exact⟨M,u,_,T.al,D,C,fun r L a l s m=>k _ _ _ _ l (T.same s) (F.tr (cW.of s)) m⟩)
end
def oN:List Dt->210 (List Key)
 | []=>some []
 | d::ds=>match Sr d,oN ds with
  | some k,some ks=>some (k::ks)
  | _,_=>none
def Bq:Dt->210 (List Key)
 | .tup ds=>oN ds
 | _=>none
def u6: ∀{ds:List Dt} {vs:List V} {ks:List Key},aB M H vs ds->oN ds=some ks->vs=ks.map kV
 | [],vs,ks,r,h=>by cases h;cases r.cD;rfl
 | d::ds,vs,ks,r,h=>by
  obtain⟨x,q,rfl,g,o⟩:=r.aK;unfold oN at h;split at h
  . rename_i k i e f;cases h;rw[Jn g e,u6 o f];rfl
  . cases h
def kC(r:Rep M H v d)(h:Bq d=some k): ∃b,v= .ref b/\H b=some (.tup (k.map kV)):=by
 cases d with
 | tup ds=>
  obtain⟨b,g,rfl,c,n,I⟩:=r.bU;rw[u6 I h] at c;exact⟨b,rfl,c⟩
 | _=>cases h
def Ay:List (List Key)->List Dt->List Key->210 Dt
 | k'::ks,d::ds,k=>if k'=k then some d else Ay ks ds k
 | _,_,_=>none
def uc: ∀{vs:List (List Key × V)} {ds:List Dt} {d:Dt},aB M H (vs.map (·.2)) ds->Ay (vs.map (·.1)) ds k=some d-> ∃v,gK vs k=some v/\Rep M H v d
 | [],ds,d,r,h=>by cases ds <;> cases h
 | (k',v)::vs,[],d,r,h=>by cases h
 | (k',v)::vs,d'::ds,d,r,h=>by
  obtain⟨x,q,e,f,p⟩:=r.aK;rw[ad4] at e;injection e with j e2
  have j:v=x:=j;subst j e2;rw[ad4,Ay] at h;by_cases c:k'=k
  . rw[if_pos c] at h;cases h;exact⟨v,by unfold gK;rw[List.find?_cons_of_pos (by simpa using c)];rfl,f⟩
  . rw[if_neg c] at h;obtain⟨u,m,o⟩:=uc p h;exact⟨u,by unfold gK at m ⊢;rw[List.find?_cons_of_neg (by simpa using c)];exact m,o⟩
def uG [DecidableEq κ]{J:List (κ × V)}(h:k∉J.map (·.1)):putK J k v=J++ [(k,v)]:=by
 unfold putK;rw[if_neg];intro z;obtain⟨R,m,e⟩:=au0.mp z;exact h (ad3.mpr ⟨R,m,by simpa using e⟩)
def TD(O:List (List Key))(ds:List Dt):Zg where
 rel:=fun M H v R=> ∃a u,R= [a]/\v= .ref a/\H a=some (.dT u)/\u.map (·.1)=O/\aB M H (u.map (·.2)) ds
 st:=fun z b k=>by
  obtain⟨a,u,rfl,A,h,e,r⟩:=z;exact⟨a,u,rfl,A,b a 111 _ h,e,r.mono k⟩
noncomputable abbrev td (O:List (List Key)) (ds:List Dt):Sl:= .ob (TD O ds)
section
variable{X:Cx}{a b e:Expr}{ta tb tv t:bD}{x:Str}{xp pos pos':Pos}
inductive Ka(Q:Dt->List Sl->Prop)(d1 d2:Dt)(δ2:List Sl):Prop
 | mk (ks:List (List Key)) (ds:List Dt) (k:List Key) (d:Dt) (h1:d1= .m8 ks ds) (h2:Bq d2=some k) (h3:Ay ks ds k=some d) (h4:Q d δ2)
def TQ(ta tb:bD):bD:=fun i Q=>ta i fun h M=>tb M fun B W=>Ka Q h B W
def iZ(m:241+1 < cLine)(f:Ev X a ta)(g:Ev X b tb)(r:Qf b:=by exact fun _ _=>rfl):Ev X (.Subscript a b pos) (TQ ta tb):=PE.imp (ku m f g r) fun σ H Q o=>(by
 obtain⟨W,M,O,z,R,E,q,k⟩:=o;refine⟨W,M,O,z,_,E,q,fun C N B x s T F w=>⟨W,M,O,N,_,T,s,fun D Y L y o l c j=>?_⟩⟩;obtain⟨Z,S,V,d,e,G,u,i⟩:=o;subst e;obtain⟨a,vs,rfl,f,n,p,I⟩:=(w.chg T c).Lu;subst p;obtain⟨v,h,J⟩:=uc I u;obtain⟨U,rfl,P⟩:=kC j G;exact⟨a,v,rfl,by rw[<-h];exact ni.t f P,k _ _ _ _ i l (F.tr c) J⟩)
inductive TN(i:Nat)(Δ:dw)(δ:List Sl):Prop
 | mk (h1:bP δ i) (h2:Δ.nx (δ.set i (td [] [])))
def DH(i:Nat)(c:X.N.Nodup)(hi:X.N[i]?=some x:=by rfl)(h:Loc X.env.scope x:=by first | exact Or.inl rfl | exact Or.inr rfl)(n:swapsWith (.Dict [] [] pos') (some (.Name x xp)) pos.line X.env=pure false:=by rfl)(j:X.fn x=true\/X.env.scope.names.lookup x=some .local:=by first | exact .inl rfl | exact .inr rfl | assumption):
  Ex X (.Assign [.Name x xp] (.Dict [] [] pos') pos) (TN i):=PS.imp (df c hi h uO n j) fun D d H o=>(by
 obtain⟨u,M,O,k,F,E,L,l,q⟩:=o;intro p B;exact L.nx _ _ _ _ _ (E.rX (s:=td [] []) B (fun g z=>by cases z) l rfl ⟨_,rfl,p,[],rfl,rfl,ag,rfl,.nil⟩) q)
def nY{i:Nat}(E:aE W M α H σ δ)(h:δ[i]?=some (td ks ds)): ∃a u,σ[i]?=some (some 190)/\α[i]?=some [a]/\H a=some (.dT u)/\u.map (·.1)=ks/\aB M H (u.map (·.2)) ds:=by
 obtain⟨o,R,P,w,v,rfl,a,u,rfl,rfl,d,f,C⟩:=E.sl i _ h;exact⟨a,u,P,w,d,f,C⟩
inductive zZ(i:Nat)(Δ:dw)(d d2:Dt)(δ2:List Sl):Prop
 | mk (k:List Key) (ks:List (List Key)) (ds:List Dt) (h1:Bq d2=some k) (h2:δ2[i]?=some (td ks ds)) (h3:ks.length < 208) (h4:k∉ks) (h5:Δ.nx (δ2.set i (td (ks++ [k]) (ds++ [d]))))
def TM(i:Nat)(tb tv:bD):j3:=fun E j=>tv j fun d M=>(∃F n,M[i]?=some (td F n))/\tb M fun B W=>zZ i E d B W
def se(i:Nat)(U:X.A.units+1 < cLine)(R:PE X (.Name x xp) (fg i))(c:Ev X b tb)(V:Ev X e tv)(S:swapsWith e (some (.Subscript (.Name x xp) b pos')) pos.line X.env=pure false:=by rfl):
  Ex X (.Assign [.Subscript (.Name x xp) b pos'] e pos) (TM i tb tv):=PS.imp (sD U R c V S) fun D σ H o=>(by
 obtain⟨s,M,P,δ,Δ,E,L,q⟩:=o;refine⟨s,M,P,δ,_,E,q,fun d N H1 v o T c1 r1=>?_⟩;obtain⟨⟨So,Mg,I⟩,Z⟩:=o;obtain⟨a,Zx,f,h2,h3,h4,r3⟩:=nY T I;refine⟨_,f,s,M,P,N,_,T,Z,fun d2 δ2 J y o m h r2=>?_⟩;obtain⟨k,ks,G,Q,F,l,Y,q2⟩:=o;obtain⟨a',w,g,r,C,j,p⟩:=nY m F;rw[f] at g;cases g;obtain⟨kb,rfl,vg⟩:=kC r2 Q;subst j;refine⟨a,_,rfl,ng.t C vg (by rw[aa9] at l;exact l),?_⟩;rw[uG Y];have W:M a:=m.mu a (br r 111);have O: ∀b u,J b=some u-> ¬M b->upd J a (.dT (w++ [(k,v)])) b=some u/\ ¬M b:=fun b u e n=>⟨by rw[ah (fun z=>n (by rw[z];exact W))];exact e,n⟩
 obtain⟨B,_⟩:=m.mod (s':=td (w.map (·.1)++ [k]) (G++ [d])) (H':=upd J a (.dT (w++ [(k,v)]))) F f r rfl ⟨_,rfl,a,w++ [(k,v)],rfl,rfl,ag,by rw[ad1];rfl,by
   rw[ad1];exact(p.mono O).append (.one ((r1.chg T h).mono O))⟩ (fun b u e n=>by rw[ah (fun z=>n (by rw[z];simp))];exact e) (fun b c=>by rw[ab4.mp c];exact 167)
 exact L.nx _ _ _ _ _ B q2)
inductive fL:List Sl->List Sl->Prop
 | nil:fL [] []
 | no {δ δ0:List Sl}:fL δ δ0->fL (.no::δ) (.no::δ0)
 | im {d:Dt} {δ δ0:List Sl}:fL δ δ0->fL (.im d::δ) (.im d::δ0)
 | fn {f:Addr} {δ δ0:List Sl}:fL δ δ0->fL (.fn f::δ) (.fn f::δ0)
 | td {ks:List (List Key)} {ds:List Dt} {δ δ0:List Sl}:fL δ δ0->fL (td ks ds::δ) (.im (.m8 ks ds)::δ0)
def fL.len(h:fL δ δ0):δ.length=δ0.length:=by induction h <;> simp_all
def fL.at(h:fL δ δ0): ∀{i:Nat} {s0:Sl},δ0[i]?=some s0->(δ[i]?=some s0/\(s0= .no\/(∃d,s0= .im d)\/ ∃f,s0= .fn f))\/ ∃O u,δ[i]?=some (LD.td O u)/\s0= .im (.m8 O u):=by
 induction h with
 | nil=>intro i s0 h;simp at h
 | no _ ih=>intro i s0 h;cases i with
  | zero=>cases h;exact .inl ⟨rfl,.inl rfl⟩
  | succ i=>simpa using ih 195
 | im _ ih=>intro i s0 h;cases i with
  | zero=>cases h;exact .inl ⟨rfl,.inr 196⟩
  | succ i=>simpa using ih 195
 | fn _ ih=>intro i s0 h;cases i with
  | zero=>cases h;exact .inl ⟨rfl,.inr (.inr ⟨_,rfl⟩)⟩
  | succ i=>simpa using ih 195
 | td _ ih=>intro i s0 h;cases i with
  | zero=>cases h;exact .inr ⟨_,_,rfl,rfl⟩
  | succ i=>simpa using ih 195
inductive PU(t:bD)(δ:List Sl)(Q:Dt->List Sl->Prop):Prop
 | mk (δ0:List Sl) (h1:fL δ δ0) (h2:t δ0 fun d _=>KS d/\Q d δ)
def Bp(E:aE W M α H σ δ)(h:fL δ δ0):aE [] (fun a=>M a/\a∉α.flatten) (206 δ0.length []) H σ δ0:=by
 have k:(206 δ0.length 169).flatten= []:=by simp
 have O: ∀a u,H a=some u-> ¬M a->H a=some u/\ ¬(M a/\a∉α.flatten):=fun a u e n=>⟨e,fun z=>n z.1⟩
 refine⟨by rw[E.ls,h.len],by simp,fun i m I=>?_,by rw[k];exact aj8,fun a g=>by rw[k] at g;exact 213 g ab3,fun a g=>E.al a g.1,fun W U=>213 U ab3⟩;have A:=(ac1.mp I).1;have g:(206 δ0.length 169)[i]?=some []:=by rw[ad7,if_pos A]
 rcases h.at I with ⟨D,p⟩ | ⟨P,w,D,rfl⟩
 . obtain⟨o,R,j,l,C⟩:=E.sl i _ D;refine⟨o,[],j,g,?_⟩;rcases p with rfl | ⟨d,rfl⟩ | ⟨f,rfl⟩
   . rfl
   . exact⟨rfl,let ⟨v,e,r⟩:=C.2;⟨v,e,r.mono O⟩⟩
   . exact⟨rfl,C.2⟩
 . obtain⟨a,y,j,l,C,B,r⟩:=nY E D;have G:=r.mono O;exact⟨_,[],j,g,rfl,_,rfl,.m8 C (fun z=>z.2 (br l 111)) B G.1 G.2⟩
def tq(h:Ev X e t):Ev X e (PU t):=PE.imp h fun c H Q n=>(by
 obtain⟨W,M,N,i,I,E,⟨l,J,q⟩,k⟩:=n;refine⟨[],_,_,l,_,Bp E J,q,fun d m r v n T G w=>?_⟩;obtain⟨f,s⟩:=n;have F:aF H r:=fun b u e=>G b u e 111;exact k _ _ _ _ s (E.same F) (cW.of F) (w.QS f))
end
def aE.Yk(E:aE Ws M α H σ δ)(hi:δ[i]?=some (td ks ds)): ∃T L,aE Ws T L H σ (δ.set i (.im (.m8 ks ds))):=by
 have F:=(ac1.mp hi).1;obtain⟨a,Q,Y,O,Z,h4,r⟩:=nY E hi;have D: ∀{v:V} {d:Dt},Rep M H v d->Rep (fun b=>M b/\b≠a) H v d:=fun r=>r.mono fun b u e n=>⟨e,fun z=>n z.1⟩
 have J: ∀{v:List V} {d:List Dt},aB M H v d->aB (fun b=>M b/\b≠a) H v d:=fun r=>r.mono fun b u e n=>⟨e,fun z=>n z.1⟩
 refine⟨fun b=>M b/\b≠a,α.set i [],⟨by rw[ae5,E.ls],by rw[ae5,ae5,E.la],fun j s h=>?_,cO E.nd aj8 (fun x C=>213 C ab3),fun b g=>?_,fun b g=>E.al b g.1,fun W hW=>?_⟩⟩
 . by_cases A:i=j
   . subst A;rw[ad5 F] at h;cases h;have P:=J r;exact⟨some 190,[],Y,by rw[ad5 (by rw[E.la];exact F)],rfl,_,rfl,.m8 Z (fun z=>z.2 rfl) h4 P.1 P.2⟩
   . rw[ac2 A] at h;obtain⟨o2,S,G,o,B⟩:=E.sl j s h;refine⟨o2,S,G,by rw[ac2 A];exact o,?_⟩;cases s with
     | no=>exact B
     | im d=>exact⟨B.1,let ⟨v,e,r⟩:=B.2;⟨v,e,D r⟩⟩
     | ow ds=>obtain⟨b,Q,m,p,I,r⟩:=B;exact⟨b,Q,m,p,I,J r⟩
     | bx t=>exact B
     | dk ks ds=>obtain⟨b,vs,m,p,I,X,r⟩:=B;exact⟨b,vs,m,p,I,X,J r⟩
     | ob R=>obtain⟨v,e,r⟩:=B;exact⟨v,e,R.st r (fun _ _ _ q=>q) fun b u q n=>⟨q,fun z=>n z.1⟩⟩
     | fn f=>exact B
 . obtain⟨l,hl,C⟩:=at9.mp g;obtain⟨j,h,e⟩:=ah7 hl;have N:(α.set i [])[j]?=some l:=by rw[ab2 h,e]
   by_cases A:i=j
   . subst A;rw[ad5 (by rw[E.la];exact F)] at N;cases N;exact 213 C ab3
   . rw[ac2 A] at N;refine⟨E.mu b (br N C),fun z=>?_⟩;subst z;exact gS E.nd N O (Ne.symm A) C 111
 . have k:=E.w W hW;refine⟨k.bs,k.ex,fun b g=>(bW g).elim (k.fr b) fun z=>absurd z ab3,fun b z=>⟨k.m0 b z,fun y=>?_⟩,fun b z=>k.m1 b z.1,fun d c e=>?_,fun j s U G o nb=>?_⟩
   . subst y;exact k.fz i _ _ hi O rfl b 111 z
   . obtain⟨t,m,p⟩:=k.bx d c e;have:i≠0:=fun z=>by subst z;rw[hi] at m;cases m
     exact⟨t,by rw[ac2 this];exact m,by rw[ac2 this];exact p⟩
   . by_cases A:i=j
     . subst A;rw[ad5 (by rw[E.la];exact F)] at o;cases o;exact fun b g=>213 g ab3
     . rw[ac2 A] at G o;exact k.fz j s U G o nb
section
variable{X:Cx}{st:Stmt}{rest:List Stmt}{T:j3}
inductive Mw(i:Nat)(T:j3)(Δ:dw)(δ:List Sl):Prop
 | mk (ks:List (List Key)) (ds:List Dt) (h1:δ[i]?=some (td ks ds)) (h2:T Δ (δ.set i (.im (.m8 ks ds))))
def BI: ∀D b H,lS (Mw i T) D b H->lS T D b H:=fun D b H x=>(by obtain⟨s,M,N,j,F,E,L,O,t,h,q⟩:=x;exact(by
 obtain⟨d,l,w⟩:=aE.Yk E h;exact⟨s,d,l,_,F,w,L,q⟩))
def n8(i:Nat)(h:Ex X st T):Ex X st (Mw i T):=PS.imp h BI
end
end LD
namespace L2
open PySem PySem.Spec PyProof.Rows
def qd (I : Nat -> Shared -> Prop) (turn : ∀ n s, I n s -> wpAny 105 A (pyNext it) (fun r Q => match r with
   | none=>R (.ok .next) Q
   | some v=>wpAny 105 A (letOwnedTupleGo target it v) (fun _ c=>wpAny 105 A (assign target env v) (fun _ J=>
     wpAny 105 A (eval kx env) (fun S g=>wpAny 105 A (eval vx env) (fun o u=>
       218 105 A (dictSet D S o) (fun _ z=> ∃m,m < n/\I m z) 122 u) 122 g) 122 J) 122 c) 122 Q) 122 s) (n:Nat) (h:I n s):codeAny 105 A (.compLoop (.DictComp kx vx [⟨target,iter,[],0⟩] scope pos) 0 it 173 env) R s:=by
 refine codeAny_loop rfl I (fun n s C=>?_) n h;show 218 _ A ((compTurn (.DictComp kx vx [⟨target,iter,[],0⟩] scope pos) 0 it 173 env).onRaise (fun x=>do noteFrame x env;theTreesLotGoes x)) _ _ s;refine wpAny_noted ?_;rw[compTurn_dict];refine aa8 (ah1 (aa8 (ae3 (turn n s C) (fun r Q y=>?_) fun _ _ t=>t.elim)));cases r with
 | none=>exact ab0 y
 | some v=>
  refine aa8 (ae3 y (fun _ c W=>?_) fun _ _ t=>t.elim);refine aa8 (ae3 W (fun _ J q=>aa8 (wpAny_tests_nil ?_)) fun _ _ t=>t.elim);refine aa8 (aa8 (ae3 q (fun S g B=>aa8 (af6 (ae3 B (fun o u i=>aa8 (ah1 (af6 (ae3 i (fun _ z N=>ab0 ⟨rfl,N⟩) fun _ _ t=>t.elim)))) fun _ _ t=>t.elim))) fun _ _ t=>t.elim))
def Hb(nt:Nat)(js:List Nat)(g:TG)(tk Z:TE)(c:St)(Q:VK)(D:Addr)(J:It)(b:Hp):Prop:=
 ∃W:Nat->Nat->Hp->Prop,(∃m,W 0 m b)/\ ∀i m H,W i m H->
  (J.stop i H/\Q 173 H)\/(J.go i H/\ ∃B:Hp->Prop,(∀q,B q-> ∃N,N < m/\W (i+1) N q)/\ ∀x q,J.wy i H x q->g x (hG nt js c) q fun h M=>
   tk h M fun R O=>Z h O fun v p=> ∃L,ng p D R v L/\B L)
def Dh(nt:Nat)(js:List Nat)(k:TI)(g:TG)(tk Z:TE):TE:=fun b H Q=>k b H fun J l=> ∀D,l D=none->Hb nt js g tk Z b Q D J (upd l D (.dT []))
def nO(h:Q 118 {s with heap:=s.heap.push {cls:= .type "dict",data:= .dict #[]}}):218 M A newDict Q E s:=by
 unfold newDict;exact ag2 h
def BX(m:A.units < cLine)(I:Inv X pins σ H s)(g:ng H a y v H')(o:RelV y u)(G:RelV v r)(h: ∀S,Inv X pins σ H' S->Q () S):
  218 107 A (dictSet a u r) Q E s:=by
 rcases g with ⟨J,k,e,W,l,B⟩ | ⟨J,k,b,e,W,Z,l,B⟩
 . subst W B;obtain⟨z,D,T,p,C⟩:=F6 I.aQ e;have f:T.length<=sizeLine:=by rw[<-p.length];exact z
   have F:(putK J k v).length<=sizeLine:=by have:=dX J k v;lia
   refine wpAny_dictSet_pairs (hsz:=f) (va o) C fun t Y n=>h _ ?_;have R: ∃q,t.get? a=some q:=let ⟨q,_,_,U,_⟩:=Y;⟨q,U⟩;exact fS I 201 n R (x6 F D (p.put k G) Y)
 . subst W B;cases (show u=Value.ref b from o);obtain⟨z,D,j,p,C⟩:=vI I.aQ e;have f:j.length<=sizeLine:=by rw[<-Paired.length p];exact z
   have F:(putK J k v).length<=sizeLine:=by have:=dX J k v;lia
   refine wpAny_dictSet_heap (hsz:=f) m (sT I.aQ Z) C fun t Y n=>h _ ?_;obtain⟨q,P,x,U,i,M,N,_,O⟩:=Y;refine fS I 201 n ⟨q,U⟩ ⟨F,D,_,(p.put k Z G).keeps fun c V L=>?_,q,P,x,U,i,M,N,O⟩;rw[ah (zo L e 157)];exact L
def yb{kx vx tg iter:Expr}{pos:Pos}{g:TG}{tk tv:TE}{j:List (Str × Addr)}{Q:VK}{E:Value->Shared->Prop}{RR:Value->Addr->Result->Shared->Prop}(S:lC X N nt js scope)(hc:X.calm=true)(hg: ∀s H j C t,PG 177 tg g)(gf:lB nt g)(hk: ∀s H j C t,PE 177 kx tk)(hv: ∀s H j C t,PE 177 vx tv)(hu:X.A.units < cLine){tn:Nat->Heap->Prop}(I:Inv X pins σ H s)(T:Turn X.prog X.w X.K tg J fp it tn)(st:tn 0 s.heap)(l: ∀b∈fp,dZ X pins H b)(c1: ∀x c,(x,c)∈j->X.env.cells.lookup x=some c)(c2: ∀x,(x,NameKind.free)∈scope.names-> ∃c,(x,c)∈j)(R: ∀D,H D=none->Hb nt js g tk tv σ Q D J (upd H D (.dT [])))(fin: ∀(D C:Addr) (s':Shared) (H':Hp),Inv X pins σ H' s'->dZ X pins H' C->(∃m,s'.heap.Ns C m)->Q 173 H'->RR 173 C (.ok .next) s'):
  218 107 X.A newDict (fun L O=>218 107 X.A (newFunctionEnv scope X.env.globals j [] X.env.qual none .none (some 216)) (fun jQ P=>
   codeAny 107 X.A (.compStart (.DictComp kx vx [⟨tg,iter,[],0⟩] scope pos) 0 (.ref it) L {jQ with scope:=relabel scope 216}) (RR L jQ.locals) P) E O) E s:=by
 refine nO (fY fun jQ vH F2=>?_);rw[vH,F2];dsimp only;have hD:H 205=none:=I.aQ.fresh (ab6 _);obtain⟨W,⟨m0,w0⟩,turn⟩:=R s.heap.objs.size hD;have kD: ∀b u,s.heap.get? b=some u->(112).get? b=some u:=fun b u e=>ab1 _ e;have I3:Inv X pins σ 185 {s with heap:=s.heap.push {cls:= .type "dict",data:= .dict #[]},toks:=235}:=
  I.laid kD (ab6 _) (o9 s.heap I.big)
 have fs: ∀b∈fp,b < s.heap.objs.size:=fun b f=>by
  obtain⟨o,e,_⟩:=T.obj _ _ st b f;exact ac5 e
 have Mb: ∀b∈fp,dZ X pins 185 b:=fun b f=>⟨by rw[ah (af1 (fs b f))];exact(l b f).1,(l b f).2⟩
 have Z:=mB (tk:=235) S hc I3 Mb (fun b f=>by show b < (s.heap.push _).objs.size;rw[ah8];exact an9 (fs b f)) c1 c2;dsimp only at Z;have Tp:(112).objs.size=205+1:=ah8 ..;generalize hY:eO X N scope {s with heap:=s.heap.push {cls:= .type "dict",data:= .dict #[]},toks:=235} 185 j (112).objs.size fp=Y at Z;have hY2:=hY;have pO:Y.env=pI scope j (112).objs.size X.env:=by rw[<-hY];rfl
 have h:Y.prog=X.prog:=by rw[<-hY];rfl
 have a:Y.w=X.w:=by rw[<-hY];rfl
 have YA:Y.A=X.A:=by rw[<-hY];rfl
 have YK:Y.K=X.K:=by rw[<-hY];rfl
 have ly:Y.calm=true:=by rw[<-hY];exact hc
 have tX:Y.xe=fun _ _=>False:=by rw[<-hY];rfl
 have U:Y.ex=fp:=by rw[<-hY];rfl
 have Uo:Y.pn= []:=by rw[<-hY];rfl
 have Up:Y.fs=ik X.stack:=by rw[<-hY];rfl
 have MH:Y.s₀={s with heap:=s.heap.push {cls:= .type "dict",data:= .dict #[]},toks:=235}:=by rw[<-hY];rfl
 have Uq:Y.H₀=upd H s.heap.objs.size (.dT []):=by rw[<-hY];rfl
 have S7:PG Y tg g:=by rw[<-hY];exact hg _ _ _ _ _
 have hkY:PE Y kx tk:=by rw[<-hY];exact hk _ _ _ _ _
 have hvY:PE Y vx tv:=by rw[<-hY];exact hv _ _ _ _ _
 have huY:Y.A.units < cLine:=by rw[YA];exact hu
 have hm:(Y.N.length:Nat)=(hG nt js σ).length:=Z.len.symm;rw[<-pO,<-h,<-a,<-YA];have FP: ∀{H':Hp} (_: ∀b∈fp,H' b=none),∀b∈fp,dZ Y [] H' b:=fun{H'} hn b f=>by
  refine⟨hn b f,(Z.ok.JQ b (by rw[U];exact f)).1,Z.ok.vA b (by rw[U];exact f),.inl (by rw[U];exact f),(Z.ok.JQ b (by rw[U];exact f)).2,fun p hp=>?_⟩;rw[Uo] at hp;simp at hp
 have F: ∀{H':Hp} {s':211} {V:St},Inv Y [] V H' s'->Inv X pins σ H' s'/\dZ X pins H' Y.env.locals/\ ∃m,s'.heap.Ns Y.env.locals m:=fun{H' s' V} J=>by
  have f:Un (ik X.stack) fp 185 H' 112 s'.heap:=by
   have:=J.base;rw[Up,U,Uq,MH] at this;exact this
  have loc:Y.env.locals=205+1:=by rw[pO];exact Tp
  have os:s'.os=s.os:=by
   have:=J.os;rw[MH] at this;exact this
  have aQ:gG X.prog X.w H' s'.heap:=by
   have:=J.aQ;rw[h,a] at this;exact this
  refine⟨I3.Ae (ch:=fp) os f aQ J.bare fun b f=>⟨(l b f).2.2.2.1,(l b f).2.1,(l b f).2.2.2.2.1,(l b f).2.2.2.2.2⟩,?_,let ⟨m,q,_⟩:=J.loc;⟨m,q⟩⟩;exact I.vt (by rw[loc];exact aw3 _) J.free
 have y:codeAny (model Y.prog Y.w) Y.A (.compLoop (.DictComp kx vx [⟨tg,iter,[],0⟩] scope pos) 0 (.ref it) 118 Y.env) (RR 118 Y.env.locals)
   {s with heap:=pushCells ((112).push {cls:= .type "dict",data:= .dict #[]}) scope.names}:=by
  refine qd (fun n s'=> ∃i H',Inv Y [] (hG nt js σ) H' s'/\tn i s'.heap/\(∀b∈fp,H' b=none)/\W i n H') ?_ m0
   ⟨0,_,Z,T.keep _ _ _ st fun b _ o e=>an4 _ _ b o (ab1 _ (kD b o e)),fun b f=>(Mb b f).1,w0⟩
  rintro n s5 ⟨i,H5,I5,wK,BJ,w5⟩
  rcases turn i n H5 w5 with ⟨M,q⟩ | ⟨go,B,hB,z⟩
  . have G:=T.done Y h a YK ly i [] s5 _ H5 122 I5 (FP BJ) wK M;rw[<-h,<-a] at G;refine aV G fun r s6 j4=>?_;obtain⟨hr,I6⟩:=j4;subst hr;obtain⟨b1,b2,b3⟩:=F I6;exact fin _ _ _ _ b1 b2 b3 q
  . have G:=T.item Y h a YK ly i [] s5 _ H5 122 I5 (FP BJ) wK go;rw[<-h,<-a] at G;refine aV G fun r s6 mW=>?_;obtain⟨u,hr,h6⟩:=mW;subst hr;refine aV h6 fun _ s7 rK=>?_;obtain⟨x,H7,I7,r7,y7,wJ,Pe⟩:=rK;have Qn:=I7.pinned (FP Pe) (T.obj _ _ wJ);have g7:=gf _ _ _ _ (z x H7 y7);have h7:=S7 _ s7 _ H7 x u _ Qn r7 g7;rw[tX] at h7;refine aV h7 fun _ s8 nM=>?_;obtain⟨σ8,H8,I8,q8,l8,k8⟩:=nM;have h8:=hkY _ s8 σ8 H8 _ I8 q8;rw[tX] at h8;refine aV h8 fun kvl s9 gI=>?_;obtain⟨kv,H9,I9,r9,q9⟩:=gI;have h9:=hvY _ s9 σ8 H9 _ I9 q9;rw[tX] at h9;refine aV h9 fun vvl ir lL=>?_;obtain⟨vv,mV,v5,RQ,Hr,dp,NM⟩:=lL;have JK:=BX (E:=fun _ _=>False) (Q:=fun _ s'=> ∃m,m < n/\ ∃i H',Inv Y [] (hG nt js σ) H' s'/\tn i s'.heap/\(∀b∈fp,H' b=none)/\W i m H') huY v5 dp r9 RQ fun RE KP=>by
     obtain⟨m',Hj,M6⟩:=hB Hr NM;refine⟨m',Hj,i+1,Hr,KP.fb.weak l8.symm fun k v e=>?_,T.keep _ _ _ wJ fun b f o e=>(KP.pin (b,o) (ac8 _ (ac8 _ (bH f e)))).1,fun b f=>?_,M6⟩
     . by_cases hk:nt<=k
       . rw[k8 k hk];exact e
       . exfalso;unfold hG at e;rw[ae9 (by simp;lia),ad7,if_pos 102] at e;cases e
     . obtain⟨o,e,d⟩:=T.obj _ _ wJ b f;exact(KP.pin (b,o) (ac8 _ (ac8 _ (bH f e)))).2.1
    exact JK
 have vG:(112).objs.size=Y.env.locals:=by rw[pO];rfl
 rw[vG];exact codeAny_compStart_dict y (by rw[h,a,YA] at*;exact T.self _ 0 _ _ _ (T.keep _ _ _ st fun b _ o e=>an4 _ _ b o (ab1 _ (kD b o e))) y)
def Eo(S:lC X N nt js scope)(G:X.calm=true)(hi:PI X tg iter wi)(P: ∀s H i C t,PG 115 tg g)(z:lB nt g)(U: ∀s H i C t,PE 115 kx tk)(Z: ∀s H i C t,PE 115 vx tv)(Y:241 < cLine)(W: ∀x,225 iter X.env x=pure x:=by intro _;rfl):PE X (.DictComp kx vx [⟨tg,iter,[],0⟩] scope pos) (Dh nt js wi g tk tv):=by
 intro a s c H Q I h;obtain⟨i,mj,F,d⟩:=gY (scope:=scope) (env:=216) fun x hx e=>I.ok.has x.1 (S.QC x hx e);rw[arm_eval_DictComp];refine ar3 (use:=none) rfl W mj S.kind S.names (aV (hi a s c H _ I h) fun v s1 u=>aV u fun QG s2 B=>?_);obtain⟨it,fp,tn,J,H2,rfl,f,T,iq,l,R⟩:=B;refine yb (RR:=fun L C=>compPost 107 X.A X.xe none (EP X a c Q) L C) S G P z U Z Y f T iq l F d R fun D C s' r M n jz q=>?_;obtain⟨m,V⟩:=jz;refine⟨m,V,fun h' sb=>⟨.ref D,r,?_,rfl,q⟩⟩;obtain⟨j,k,_,O,p,y⟩:=n;exact M.turned (t':=s'.toks) (fun b o E e=>(sb.2 b E).trans e) j k O p y
end L2
namespace LD
open PySem PySem.Spec L2 LB PyProof.Rows LW
abbrev G9:=List Sl->(List (List Key)->List Dt->List Sl->Prop)->Prop
inductive ZY(t:G9)(σ:L2.St)(H:Hp)(Q:VK):Prop
 | mk (W:List Wd) (M:Addr->Prop) (α:List 179) (δ:List Sl) (Qd:List (List Key)->List Dt->List Sl->Prop) (h1:aE W M α H σ δ) (h2:t δ Qd) (h3: ∀ks ds δ' H1 vs a,Qd ks ds δ'->aE W M α H1 σ δ'->cW α H H1->vs.map (·.1)=ks->aB M H1 (vs.map (·.2)) ds->H1 a=none->Q 190 (upd H1 a (.dT vs)))
abbrev Zh(X:Cx)(e:Expr)(t:G9):Prop:=PE X e (ZY t)
section
variable{X:Cx}{N:List Str}{nt:Nat}{js:List Nat}{scope:Scope}{kx vx tg iter e:Expr}{pos pos':Pos}{ti:rJ}{g:wa}{tk tv:bD}{t:G9}{x:Str}{xp:Pos}
def TR(i:Nat)(t:G9):j3:=fun E j=>t j fun O u k=>bP k i/\E.nx (k.set i (td O u))
def DI(i:Nat)(c:X.N.Nodup)(A:Zh X e t)(hi:X.N[i]?=some x:=by rfl)(h:Loc X.env.scope x:=by first | exact Or.inl rfl | exact Or.inr rfl)(p:swapsWith e (some (.Name x xp)) pos.line X.env=pure false:=by rfl)(k:X.fn x=true\/X.env.scope.names.lookup x=some .local:=by first | exact .inl rfl | exact .inr rfl | assumption):
  Ex X (.Assign [.Name x xp] e pos) (TR i t):=PS.imp (df c hi h A p k) fun D f H o=>(by
 obtain⟨w,M,Q,r,J,E,L,q⟩:=o;refine⟨w,M,Q,r,_,E,q,fun O y F l v a o T G j C d=>?_⟩;obtain⟨m,B⟩:=o;have P: ∀b u,l b=some u-> ¬M b->upd l a (.dT v) b=some u/\ ¬(M b\/b=a):=fun b u e n=>⟨by rw[ah (au e d)];exact e,fun z=>z.elim n (au e d)⟩
 exact L.nx _ _ _ _ _ (T.rX (s:=td O y) d (fun I z=>by cases z) m rfl ⟨_,rfl,a,v,rfl,rfl,ag,j,C.mono P⟩) B)
def Gx(nt:Nat)(js:List Nat)(ti:rJ)(g:wa)(tk tv:bD):G9:=fun i Q=>ti i fun v M=>v.length<=208/\ ∃(fk:Dt->List Key) (fv:Dt->Dt),(∀d∈v,g d (cin nt js M) fun W=>tk W fun E D=>Bq E=some (fk d)/\tv D fun r _=>r=fv d)/\(v.map fk).Nodup/\Q (v.map fk) (v.map fv) M
def yd(vh: ∀v j H Q,lG g v j H Q->gh v j H Q): ∀j H Q,ZY (Gx nt js ti g tk tv) j H Q->Dh nt js (lI ti) gh (lE tk) (lE tv) j H Q:=fun j H Q zz=>(by
 obtain⟨W,M,α,δ,Qd,E,q,k⟩:=zz;refine⟨W,M,α,δ,_,E,q,fun B P l J fX T c1 yl D Y=>?_⟩;obtain⟨hsz,C,fv,O,nd,q1⟩:=fX;have s0:aF l (upd l D (.dT [])):=aF.new Y;refine⟨fun i m L=>m=B.length - i/\i<=B.length/\ ∃A,L D=some (.dT A)/\A.map (·.1)=(B.take i).map C/\aB 114 L (A.map (·.2)) ((B.take i).map fv)/\aF l L/\jW 114 L,⟨B.length,by simp,af2 _,[],ag,rfl,.nil,s0,fun a p=>?_⟩,?_⟩
 . rcases p with p | p
   . obtain⟨o,e,n⟩:=T.al a p;exact⟨o,s0 _ _ e,n⟩
   . subst p;exact 167
 rintro i m L ⟨rfl,hi,A,U,I,kn,S,Lx⟩
 have kf:Kf M l L:=fun b o e _=>S _ _ e;by_cases fC:i < B.length
 . have c: ∀b,l b≠none-> ¬M b-> ¬114 b:=fun b n z y=>y.elim z fun w=>n (by rw[w];exact Y);obtain⟨go,wy⟩:=yl.go i L 114 kf Lx c fC;refine .inr ⟨go,fun G=> ∃A,G D=some (.dT A)/\A.map (·.1)=(B.take (i+1)).map C/\aB 114 G (A.map (·.2)) ((B.take (i+1)).map fv)/\aF l G/\jW 114 G,fun G lK=>⟨B.length - (i+1),by omega,rfl,fC,lK⟩,fun x H3 y=>?_⟩;obtain⟨s3,d,hd,rx⟩:=wy x H3 y;have E2:aE [] 114 (List.replicate (nt+js.length) []) L (hG nt js j) (cin nt js P):=by
    have su:aF (upd l D (.dT A)) L:=fun b o e=>by
     by_cases c:b=D
     . subst c;rw[ag] at e;cases e;exact U
     . rw[ah c] at e;exact S _ _ e
    have Ea:aE [] 114 α L j P:=⟨T.ls,T.la,fun i s h=>let ⟨o,as,h1,h2,h3⟩:=T.sl i s h;⟨o,as,h1,h2,(h3.grow (u:= .dT A) Y).same su⟩,T.nd,fun a h=> .inl (T.mu a h),Lx,fun W hW=>213 hW ab3⟩
    exact tE Ea
   have E3:=E2.same s3;have bK:(206 (nt+js.length) 169).flatten= []:=by simp
   refine vh _ _ _ _ ⟨[],_,_,_,d,_,E3,rx,O d (ae4 hd),fun F δ4 σ4 q4 E4 hα=>?_⟩;have Hl:F.flatten= []:=al7.mpr fun x hx=>by have:=hα x hx;rw[bK] at this;exact 213 this ab3
   refine⟨[],_,F,δ4,_,E4,q4,fun dk δ5 H5 kv j5 E5 c5 rk=>?_⟩;obtain⟨hk,q5⟩:=j5;have s5:aF H3 H5:=fun b o e=>c5 b o e (by rw[Hl];exact ab3);refine⟨[],_,F,δ5,_,E5,q5,fun r δ6 R v e6 E6 c6 r6=>?_⟩;subst e6;have s6:aF H5 R:=fun b o e=>c6 b o e (by rw[Hl];exact ab3);have Z:aF L R:=fun b o e=>s6 _ _ (s5 _ _ (s3 _ _ e));have Yg:=Z _ _ U;have Wj:B.take (i+1)=B.take i++ [d]:=by rw[ap7,hd];rfl
   obtain⟨kb,ekv,vg⟩:=kC (rk.same s6) hk;subst ekv;have nk:C d∉A.map (·.1):=by
    rw[I];have:(B.map C).Nodup:=nd;rw[<-al8 (i+1) B,Wj,ad1,ad1] at this;have:=(aj4.mp (aj4.mp this).1).2.2;exact fun z=>this _ z _ ac9 rfl
   have lv:A.length < sizeLine:=by
    have:A.length=(B.take i).length:=by rw[<-aa9 (f:=(·.1)),I,aa9]
    rw[this,am0];exact ae2 163 hsz
   refine⟨_,ng.t Yg vg lv,?_⟩;rw[uG nk];have up: ∀{zs:List V} {ds:List Dt},aB 114 R zs ds->aB 114 (upd R D (.dT (A++ [(C d,v)]))) zs ds:=fun r=>r.mono fun a o e n=>⟨by rw[ah (fun z=>n (.inr z))];exact e,n⟩
   refine⟨A++ [(C d,v)],ag,by rw[Wj,ad1,ad1,I];rfl,?_,fun b o e=>by rw[ah (au e Y)];exact Z _ _ (S _ _ e),fun a p=>?_⟩
   . rw[Wj,ad1,ad1];exact up ((kn.same Z).append (.one r6))
   . by_cases c:a=D
     . subst c;exact 167
     . rw[ah c];exact E6.al a p
 . have e:i=B.length:=by omega
   subst e;refine .inl ⟨yl.stop L kf,?_⟩;rw[al1] at kn I;have eH:upd 182 D (.dT A)=L:=by
    funext b
    by_cases c:b=D
    . subst c;rw[ag,U]
    . rw[ah c,if_neg c]
   rw[<-eH];have sH:aF l 182:=fun b o e=>by
    show(if b=D then none else L b)=some o;rw[if_neg (au e Y)];exact S _ _ e
   refine k _ _ _ _ _ _ q1 (T.same sH) (c1.tr (cW.of sH)) I (kn.mono fun a o e n=>⟨?_,fun z=>n (.inl z)⟩) (by show(if D=D then none else L D)=none;rw[if_pos rfl]);show(if a=D then none else L a)=some o;rw[if_neg (fun z=>n (.inr z))];exact e)
def Jf(S:lC X N nt js scope)(m:X.calm=true)(hi:Iv X tg iter ti)(c: ∀s H i C u,PG (eO X N scope s H i C u) tg gh)(z:lB nt gh)(J: ∀v b H Q,lG g v b H Q->gh v b H Q)(E: ∀s H i C u,Ev (eO X N scope s H i C u) kx tk)(w: ∀s H i C u,Ev (eO X N scope s H i C u) vx tv)(o:241 < cLine)(n: ∀x,225 iter X.env x=pure x:=by intro _;rfl):Zh X (.DictComp kx vx [⟨tg,iter,[],0⟩] scope pos) (Gx nt js ti g tk tv):=PE.imp (Eo S m hi c z E w o n) (yd J)
end
section
variable{X:Cx}{x:Str}{xp p pos:Pos}
def vj(P:214)(w:237)(k:List Key):Int:=tupleKeyHash (a8 P w) k
inductive P4(P:214)(w:237)(i:Nat)(δ:List Sl)(Q:List (List Key)->List Dt->List Sl->Prop):Prop
 | mk (ks:List (List Key)) (ds:List Dt) (h1:δ[i]?=some (td ks ds)) (h2:ks≠ []) (h3:(ks.map (vj P w)).Nodup) (h4:Q ks ds δ)
def yh:227 "dict"=some (.type "dict"):=by decide+kernel
def Je(i:Nat)(Y:X.A.handled=none)(O:X.mg "dict"=none)(B:PE X (.Name x xp) (fg i))(b:Gl X "dict":=by rfl)(y:starEach [.Name x xp] X.env=(false,eval (.Name x xp) X.env)::starEach [] X.env:=by rfl)(V:(backTo pos 137).any (·.1)=false:=by rfl):
  Zh X (.Call (.Name "dict" p) [.Name x xp] [] pos) (P4 X.prog X.w i):=PE.imp (gq (Hq.yg Y) b O yh (aj B aM y) 104 104 y V) fun g H Q n=>(by
 obtain⟨W,M,N,j,G,E,⟨R,t,e,f,C,q⟩,k⟩:=n;obtain⟨a,u,P,v,c,L,Z⟩:=nY E e;subst L;refine⟨_,P,a,u,rfl,c,fun z=>f (by rw[z];rfl),by rw[ae6] at C;exact C,fun d D=>k _ _ _ _ _ _ q E cW.rf rfl Z D⟩)
end
end LD
namespace gZ
open PySem PySem.Spec L2 LB PyProof.Rows PySem.W VA
def xj{α N:Type}{R:α->N->Prop}{l:List α}{m:List N}(h:Paired R l m): ∀{i:Nat} {x:α} {y:N},l[i]?=some x->m[i]?=some y->R x y:=by
 induction h with
 | nil=>intro i x y h;simp at h
 | cons r _ ih=>
  intro i x y d e;cases i with
  | zero=>cases d;cases e;exact r
  | succ j=>exact ih (by simpa using d) (by simpa using e)
end gZ
namespace L2
open PySem PySem.Spec PyProof.Rows
def held:210 212->Array 212
 | none=> #[]
 | some v=> #[v,v]
def yG(val:Nat->Int)(j:Nat):210 212->Prop
 | none=>j=0
 | some v=> ∃i t,i < j/\v= .int (val i) t/\ ∀k,k < j->val k<=val i
def GN(a v:212):argsOk "max" ⟨[a],[("default",v)]⟩:=by unfold argsOk;kernel_rfl
section
variable{prog:214}{w:237}{A:244}{R:Result->211->Prop}{I S:Addr}{fp wr:List Addr}{n:Nat}{P:Nat->212->Prop}{St:Nat->Heap->Prop}{val:Nat->Int}{d:212}
def Bj(W:Walks prog w A.in1 I fp wr n P St)(hv: ∀i v,P i v-> ∃t,v= .int (val i) t)(M:S∉fp): ∀(k j:Nat) (s:Shared) (b:Option Value) (c:Nat),n - j=k->j<=n->St j s.heap->yG val j b->
  s.heap.get? S=some {cls:= .type "list",dict:=none,data:= .seq (held b) c,slots:= #[]}->
  (∀b y G,yG val n b->(∀x o,x∉wr->x≠S->s.heap.get? x=some o->y.get? x=some o)->R (.ok (.ret (b.getD d))) {s with heap:=y,toks:=G})->
  codeAny 105 A (.builtin "max.loop" ⟨[.ref I,.none,.ref S],[("default",d)]⟩) R s:=by
 have O:S∉wr:=fun z=>M (W.sub _ z);have m:(toString "max"++toString ".loop":String)="max.loop":=by decide
 intro k;induction k with
 | zero=>
  intro j s b c Y Z J g q L;have H:j=n:=by omega
  subst H;refine ap3 F.entry_max_loop ?_;rw[aq3 ar0 _];show 218 _ A.in1 (seqItems? (.ref S) >>=_) _ _ s;refine aa8 (ak4 q rfl ?_);show 218 _ A.in1 (tryCatch (pyNext (.ref I)) _ >>=_) _ _ s;refine aa8 (wpAny_tryCatch (W.done s _ _ J fun y G E=>?_));have f:=E S _ O q;cases b with
  | none=>exact aa8 (ak3 (ab0 (L none _ G g fun x o r Q e=>E x o r e)))
  | some v=>
   have V:y.get? S=some {cls:= .type "list",dict:=none,data:= .seq #[v,v] c,slots:= #[]}:=f;show 218 _ A.in1 (updateSeq S (fun _=> #[]) >>=_) _ _ _;refine aa8 (wpAny_updateSeq V rfl (aa8 (au4 204)));exact L (some v) _ G g fun x o r Q e=>(ah3 _ _ (Ne.symm Q)).trans (E x o r e)
 | succ k ih=>
  intro j s b c Y Z J g q L;have U:j < n:=by omega
  refine ap3 F.entry_max_loop ?_;rw[aq3 ar0 _];show 218 _ A.in1 (seqItems? (.ref S) >>=_) _ _ s;refine aa8 (ak4 q rfl ?_);show 218 _ A.in1 (tryCatch (pyNext (.ref I)) _ >>=_) _ _ s;refine aa8 (wpAny_tryCatch (W.item j s _ _ U J fun v y G a D E=>?_));have f:=E S _ O q;obtain⟨t,rfl⟩:=hv _ _ a;cases b with
  | none=>
   have H:j=0:=g;subst H;show 218 _ A.in1 (updateSeq S (fun _=> #[_,_]) >>=_) _ _ _;refine aa8 (wpAny_updateSeq f rfl ?_);rw[m];refine ab0 ⟨au3 ar0 _,ih 1 _ (some (.int (val 0) t)) _ 163 U (W.frame _ _ _ D fun x l o e=>?_) ⟨0,t,Nat.one_pos,rfl,fun k E=>?_⟩ (aj2 _ f rfl) fun b h T p C=>?_⟩
   . exact(ah3 _ _ (fun z:S=x=>M (by rw[z];exact l))).trans e
   . rw[show k=0 by omega];exact ak7 _
   . exact L b h T p fun x o r Q e=>C x o r Q ((ah3 _ _ (Ne.symm Q)).trans (E x o r e))
  | some u=>
   obtain⟨i,B,i1,rfl,X⟩:=g;have V:y.get? S=some {cls:= .type "list",dict:=none,data:= .seq #[.int (val i) B,.int (val i) B] c,slots:= #[]}:=f;show 218 _ A.in1 (tryCatch (holding [_,_] (richCompare .Gt (.int (val j) t) (.int (val i) B) >>=_)) _ >>=_) _ _ _;refine aa8 (wpAny_tryCatch (af6 (aa8 (CmpOf.ints_gt (P:=fun i v=> ∃t,v= .int (val i) t) val 187 j i _ _ _ _ _ ⟨t,rfl⟩ ⟨B,rfl⟩ ?_))));refine aa8 (af6 (al3 ?_));refine aa8 (au4 204);by_cases N:val j > val i
   . rw[if_pos (show(fun i j=>decide (val i > val j)) j i=true from af3 N)];refine aa8 (wpAny_updateSeq V rfl (aa8 (au4 ?_)));rw[m];refine ab0 ⟨au3 ar0 _,ih (j+1) _ (some (.int (val j) t)) _ 163 U (W.frame _ _ _ D fun x l o e=>?_) ⟨j,t,Nat.lt_succ_self _,rfl,fun k E=>?_⟩ (aj2 _ V rfl) fun b h T p C=>?_⟩
     . exact(ah3 _ _ (fun z:S=x=>M (by rw[z];exact l))).trans e
     . rcases Nat.lt_succ_iff_lt_or_eq.mp E with z | z
       . have:=X k z;omega
       . rw[z];exact ak7 _
     . exact L b h T p fun x o r Q e=>C x o r Q ((ah3 _ _ (Ne.symm Q)).trans (E x o r e))
   . rw[if_neg (show¬(fun i j=>decide (val i > val j)) j i=true from fun z=>N (ae1 z))];refine aa8 (au4 ?_);rw[m];refine ab0 ⟨au3 ar0 _,ih (j+1) _ (some (.int (val i) B)) c 163 U D ⟨i,B,by omega,rfl,fun k E=>?_⟩ f fun b h T p C=>?_⟩
     . rcases Nat.lt_succ_iff_lt_or_eq.mp E with z | z
       . exact X k z
       . rw[z];omega
     . exact L b h T p fun x o r Q e=>C x o r Q (E x o r e)
end
def Bk(L:A.handled=none)(z:s.heap.IsList l (intItems xs))(h: ∀b r G,yG (numAt xs) xs.size b->(∀x o,s.heap.get? x=some o->r.get? x=some o)->Q (b.getD d) {s with heap:=r,toks:=G}):
  218 105 A (call (.builtin "max") [.ref l] [("default",d)]) Q E s:=by
 have i:(toString "max"++toString ".loop":String)="max.loop":=by decide
 refine kmb_tree F.kind_max F.plain_max F.entry_max (GN _ _) ?_;show 218 _ A.in1 (Builtin.Builtins.bindParams "max" ["key","default"] 0 ⟨[],[("default",d)]⟩ >>=_) _ _ s;refine aa8 (wpAny_of_eq (show Builtin.Builtins.bindParams "max" ["key","default"] 0 ⟨[],[("default",d)]⟩=pure [none,some d] from rfl) ?_);refine aa8 204;refine aa8 (iter_intList z fun t e p J R=>?_);subst e;refine aa8 (ag2 ?_);rw[i];have f:(intItems xs).size=xs.size:=by simp [intItems]
 have W:=Walks.list (prog:=prog) (w:=w) (A:=A.in1) L s.heap.objs.size l R (intItems xs);refine ab0 ⟨au3 ar0 _,Bj (val:=numAt xs) W (fun _ _=>intItems_at) (fun O=>af7 _ (J _ O)) _ 0 _ none 0 rfl (af2 _) (W.frame _ _ _ p fun x _ o e=>ab1 _ e) rfl (ac3 _ rfl) fun b r G g H=>?_⟩;refine h b r G (f▸g) (old_kept fun x o n e=>H x o n (af1 (ac5 e)) (ab1 _ e))
section
variable{X:Cx}{e:Expr}{mJ:List Keyword}{t tk:TA}{p pos:Pos}
def GrD(S:List Int)(d:V)(v:V):Prop:=(S= []/\v=d)\/ ∃M,v= .int M/\M∈S/\ ∀a∈S,a<=M
def Rm(t tk:TA):TE:=fun b H Q=>t b H fun u l=>tk b l fun O J=> ∃(a:Addr) (ns:List Int) (d:V),u= [.ref a]/\O= [d]/\J a=some (.lst (ns.map V.int))/\ ∀v,GrD ns d v->Q v J
def B9:227 "max"=some (.builtin "max"):=by decide+kernel
def IB(D:X.calm=true)(F:Gl X "max")(O:X.mg "max"=none)(C:PA X [e] t)(E:PK X mJ tk)
  (z:(136).filterMap (·.1)=(["default"]:List Str):=by rfl) (k1:backTo pos 170=(false,eval e 216)::backTo pos 137:=by rfl) (k2:(backTo pos 170).any (·.1)=false:=by rfl)
  (k3:(136).all (·.1.isSome)=true:=by rfl) (G:(136).any (·.1.isNone)=false:=by rfl):
  PE X (.Call (.Name "max" p) [e] mJ pos) (Rm t tk):=by
 intro c s x H Q I h;refine am1 (dj I F O B9 (callWith_kw (aV (C pos c s x H _ I h) fun us s1 o=>?_) k1 k2 k3 G));obtain⟨vs,y,Y,R,N⟩:=o;refine aV (E pos c s1 x y _ Y N) fun ws s2 o=>?_;obtain⟨zs,J,f,rz,P⟩:=o;obtain⟨a,S,d,rfl,rfl,U,q⟩:=P;obtain⟨u,rfl,V⟩:=vals1 R;cases V;obtain⟨ud,rfl,T⟩:=vals1 rz;rw[z];obtain⟨A,W,M,_⟩:=f.list (dr.of U);have L:=intsAre_of W;obtain⟨l,w⟩:=L.allInts.items;have Z:s2.heap.IsList a (intItems l):=w▸M.isList;have k:S=l.toList.map (·.1):=by
  rw[<-nums_intItems,<-w];exact(show numsOf A.toArray.toList=S from L.numsOf).symm
 refine Bk (f.ok.hd D) Z fun b h' tk g E=>?_;have n:S.length=l.size:=by rw[k,aa9,ac7]
 cases b with
 | none=>exact⟨d,J,f.kept E,T,q d (.inl ⟨List.eq_nil_of_length_eq_zero (n.trans g),rfl⟩)⟩
 | some v=>
  obtain⟨i,t2,g1,rfl,B⟩:=g;refine⟨.int _,J,f.kept E,⟨_,rfl⟩,q _ (.inr ⟨_,rfl,?_,fun m O=>?_⟩)⟩
  . rw[numAt_eq,<-k];exact getD_mem 163
  . rw[k] at O;obtain⟨j,r,rfl⟩:=mem_getD O;rw[aa9,ac7] at r;rw[<-numAt_eq];exact B j r
end
end L2
namespace LD
open PySem PySem.Spec L2 LB PyProof.Rows LW
section
variable{X:Cx}{e:Expr}{tA:gH}{p pos sS cp:Pos}{j:Nat}{nm:210 Str}
inductive Qq(ds:List Dt)(Q:Dt->Prop):Prop
 | mk (ns:List Int) (h1:ds= [.lst (ns.map .int)]) (h2:ns= []->Q .aO) (h3: ∀m,m∈ns->(∀a∈ns,a<=m)->Q (.int m))
def PJ(r:X.calm=true)(O:X.mg "max"=none)(f:Av X [e] tA)(b:Gl X "max":=by rfl)
  (z:(backToKw pos (keywordEach [⟨nm,.Constant .none j cp,sS⟩] 216)).filterMap (·.1)=(["default"]:List Str):=by rfl) (k1:backTo pos 170=(false,eval e 216)::backTo pos 137:=by rfl) (k2:(backTo pos 170).any (·.1)=false:=by rfl)
  (k3:(backToKw pos (keywordEach [⟨nm,.Constant .none j cp,sS⟩] 216)).all (·.1.isSome)=true:=by rfl) (h:(backToKw pos (keywordEach [⟨nm,.Constant .none j cp,sS⟩] 216)).any (·.1.isNone)=false:=by rfl):
  Ev X (.Call (.Name "max" p) [e] [⟨nm,.Constant .none j cp,sS⟩] pos) (z0 Qq tA):=PE.imp (IB r b O f (zi sF D9) z k1 k2 k3 h) fun c H Q o=>(by
 obtain⟨W,M,N,t,G,E,q,k⟩:=o;refine⟨W,M,N,t,_,E,q,fun R P y A o T F w=>?_⟩;obtain⟨S,l,i,C⟩:=o;subst l;obtain⟨x,rfl,s⟩:=fP w;obtain⟨a,B,rfl,f,n,I⟩:=s.eE;rw[ints_rep I] at f;refine⟨a,S,.aO,rfl,rfl,f,fun v u=>?_⟩;rcases u with ⟨d,rfl⟩ | ⟨m,rfl,d,g⟩
 . exact k _ _ _ _ (i d) T F .aO
 . exact k _ _ _ _ (C m d g) T F (.int _))
end
end LD
namespace PySem
open Sem (wp)
open Builtin
def kz:fillsNumberSlot (.type "tuple") "mul"=pure false:=
 fillsNumberSlot_seq (id:="tuple.__mul__") (r:=some (.builtin "tuple.__rmul__")) F.slot_tuple_mul.lookup 174 F.slot_tuple_rmul.lookup 174
def p5:seqRepeat? (.type "tuple")=pure (some (.builtin "tuple.__mul__")):=by
 unfold seqRepeat?;rw[seqSlot_of (T:="tuple") (name:="__mul__") (id:="tuple.__mul__") F.slot_tuple_mul.lookup 174,seqSlot_of (T:="tuple") (name:="__rmul__") (id:="tuple.__rmul__") F.slot_tuple_rmul.lookup 174];rfl
def gs(a:Int)(t:Tok)(l:Addr)(items:Array Value)(n:Nat)(dd:Option Addr)(M:Array (Option Value)):
  Meets (Builtin.«int.__rmul__» ⟨[.int a t,.ref l],[]⟩) (fun _ R s=>s.heap.get? l=some {cls:= .type "tuple",dict:=dd,data:= .seq items n,slots:=M}/\R (.ok (.ret Value.notImplemented)) s):=
 .of_wp fun y w A R s h=>by obtain⟨B,g,d,G,q⟩:=s;obtain⟨z,h⟩:=h;wp_walk using ah5 z;exact⟨_,rfl,h⟩
def uf(l:Addr)(items:Array Value)(n:Nat)(dd:Option Addr)(M:Array (Option Value))(t:Tok):
  Meets (Builtin.«tuple.__mul__» ⟨[.ref l,.int 1 t],[]⟩) (fun _ R s=>s.heap.get? l=some {cls:= .type "tuple",dict:=dd,data:= .seq items n,slots:=M}/\R (.ok (.ret (226 l))) {s with heap:=s.heap,toks:=235}):=
 .of_wp fun y w A R s h=>by obtain⟨B,g,d,G,q⟩:=s;obtain⟨z,h⟩:=h;have i:=AutoSeq1.idx_int;wp_walk using ah5 z;exact⟨_,rfl,h⟩
def ue(l:Addr)(items:Array Value)(n:Nat)(dd:Option Addr)(M:Array (Option Value))(k:Int)(t:Tok)(q: ¬(decide (k < -(2^63)) || decide (k>=2^63))=true)(e: ¬(items.isEmpty || k==1)=true)(c: ¬(decide (k<=0) || items.isEmpty)=true)
  (p: ¬(items.size:Int)*k > (2^63 - 1) / 8) (m: ¬Builtin.Tuple.tupleTooMany ((items.size:Int)*k)=true) (hsz:(List.foldl (fun Q E=>Q++E) #[] (206 k.toNat items)).size<=208):
  Meets (Builtin.«tuple.__mul__» ⟨[.ref l,.int k t],[]⟩) (fun _ R s=>s.heap.get? l=some {cls:= .type "tuple",dict:=dd,data:= .seq items n,slots:=M}/\R (.ok (.ret (226 205))) {s with heap:=s.heap.push {cls:=Value.type "tuple",data:=Data.seq (List.foldl (fun Q E=>Q++E) #[] (206 k.toNat items))},toks:=235}):=
 .of_wp fun y w A R s h=>by obtain⟨B,g,d,G,r⟩:=s;obtain⟨z,h⟩:=h;have i:=AutoSeq1.idx_int;wp_walk using ah5 z;rw[if_neg q];dsimp only;wp_walk using ah5 z;rw[if_neg p,if_neg m];wp_walk using ah5 z;exact⟨_,rfl,h⟩
end PySem
namespace L2
open PySem PySem.Spec PyProof.Rows HT
section
variable{X:Cx}
def Lf:R2:=fun x y H Q=> ∃l k g,x= .ref l/\y= .int k/\H l=some (.tup g)/\g≠ []/\1<=k/\k < 2^63/\g.length*k.toNat<=208/\ ∀p q,vY H (206 k.toNat g).flatten p q->Q (.ref p) q
def II:jU X (binaryOp .Mult) Lf:=by
 intro g s σ H x y v u Q I m p h;obtain⟨l,k,C,rfl,rfl,e,L,O,P,f,q⟩:=h;cases m;obtain⟨t,rfl⟩:=p;obtain⟨w,r,j,_⟩:=I.tuple (dH.of e);obtain⟨⟨N,i,W,Z⟩,D,d,A,a⟩:=id j;simp only at d a;subst d a;have B:w≠ []:=fun z=>L (r.sM.mp z);have n:233*k.toNat<=sizeLine:=by rw[ad0,<-r.length];exact f
 refine wpAny_binaryOp_repeat_ref (T:="tuple") (U:="int") 104 ⟨_,D,rfl⟩ (fun S=>typeIs_int S k t) kz F.fills_int_mul F.slot_int_rmul p5 F.slot_int_index.lookup
  (ar7 F.slot_int_rmul (typeIs_int s k t) F.entry_int_rmul (F.args_int_rmul_2 _ _) (gs k t l w.toArray A i Z) ⟨D,rfl,⟨_,D,rfl⟩,?_⟩)
 by_cases G:k=1
 . subst G;refine ar7 F.slot_tuple_mul ⟨_,D,rfl⟩ F.entry_tuple_mul (F.args_tuple_mul_2 _ _) (uf l w.toArray A i Z t) ⟨D,?_⟩;exact⟨.ref l,H,I,rfl,q l H (.inl ⟨rfl,by simpa using e⟩)⟩
 . have c : List.foldl (fun R J => R ++ J) #[] (List.replicate k.toNat w.toArray) = (List.replicate k.toNat w).flatten.toArray := by
     have:=foldl_rep w k.toNat [];rw[List.nil_append] at this;exact this
   have E:((233:Int)*k)=((233*k.toNat:Nat):Int):=by
    rw[Int.natCast_mul,Int.toNat_of_nonneg 102]
   have M:(sizeLine:Nat)<=(2^63 - 1) / 8:=by decide
   refine ar7 F.slot_tuple_mul ⟨_,D,rfl⟩ F.entry_tuple_mul (F.args_tuple_mul_2 _ _) (ue l w.toArray A i Z k t (by simp;lia) (by simp [B,G]) (by simp [B];lia) (by rw[E];lia) (by rw[E];intro z;have Y:=ae1 z;lia) (by rw[c,ad0,len_rep];rw[ad0,Nat.mul_comm] at n;exact n)) ⟨D,?_⟩;rw[c];refine⟨.ref 205,_,I.laid (t':=235) (o:= .tup (206 k.toNat C).flatten) (fun b V q=>ab1 _ q) (ab6 _) ⟨by rw[len_rep,Nat.mul_comm];exact f,_,r.rep _,pV.new _ _⟩,rfl,q _ _ (.inr ⟨I.aQ.fresh (ab6 _),rfl⟩)⟩
end
end L2
namespace LD
open PySem PySem.Spec L2 PyProof.Rows
section
variable{X:Cx}{a b:Expr}{ta tb:bD}{pos:Pos}
def G2:D2:=fun h B Q=> ∃t k,h= .tup t/\B= .int k/\t≠ []/\1<=k/\k < 2^63/\t.length*k.toNat<=208/\Q (.tup (206 k.toNat t).flatten)
def JZ:yD Lf G2:=fun M H x y i B G Q C A h w k=>(by obtain⟨t,n,j,s,R,d,e,l,q⟩:=w;exact(by
 subst j;subst s;obtain⟨a,g,rfl,f,u,I⟩:=A.bU;refine⟨a,n,g,rfl,h.ofInt,f,fun z=>R (by subst z;have:=I.1;cases t with | nil=>rfl | cons _ _=>simp at this),d,e,by rw[I.1];exact l,fun p r v=>?_⟩;exact k r _ _ q v.keep (Rep.g9 v.at (C.Of v) ((I.rep _).same v.keep))))
def PH(f:Ev X a ta)(c:Ev X b tb):Ev X (.BinOp a .Mult b pos) (pd G2 ta tb):=vL II JZ f c
end
section
variable{X:Cx}{pos:Pos}
def Ga(i j l:Nat):wa:=fun d k Q=> ∃h B v,d= .tup [h,B,v]/\bP k i/\bP (k.set i (.im h)) j/\bP ((k.set i (.im h)).set j (.im B)) l/\Q (((k.set i (.im h)).set j (.im B)).set l (.im v))
def xS{i j l:Nat}{K:207}: ∀v b H Q,lG (Ga i j l) v b H Q->BH K 3 (eJ (bY i) (eJ (bY j) (eJ (bY l) vp))) v b H Q:=fun v b H Q N=>(by obtain⟨W,M,O,L,d,G,E,r,⟨u,B,w,e,m,o,U,q⟩,k⟩:=N;exact(by
 subst e;obtain⟨a,C,rfl,f,n,I⟩:=r.bU;obtain⟨x,D,rfl,p,t⟩:=I.aK;obtain⟨y,F,rfl,g,s⟩:=t.aK;obtain⟨z,J,rfl,A,Y⟩:=s.aK;cases Y.cD;exact⟨a,_,rfl,dH.of f,rfl,x,_,rfl,y,_,rfl,z,_,rfl,rfl,k _ _ _ q (((E.gn p m).gn g o).gn A U) fun x h=>bV x (bV x (bV x h))⟩))
def mn(i j l:Nat)(m:X.calm=true)(c:X.N.Nodup)(hi:X.N[i]?=some x:=by rfl)(g:X.N[j]?=some y:=by rfl)(A:X.N[l]?=some z:=by rfl)(h:Loc X.env.scope x:=by first | exact Or.inl rfl | exact Or.inr rfl)(n:Loc X.env.scope y:=by first | exact Or.inl rfl | exact Or.inr rfl)(f:Loc X.env.scope z:=by first | exact Or.inl rfl | exact Or.inr rfl)(k:X.fn x=true\/X.env.scope.names.lookup x=some .local:=by first | exact .inl rfl | exact .inr rfl | assumption)(o:X.fn y=true\/X.env.scope.names.lookup y=some .local:=by first | exact .inl rfl | exact .inr rfl | assumption)(t:X.fn z=true\/X.env.scope.names.lookup z=some .local:=by first | exact .inl rfl | exact .inr rfl | assumption)(V:(assignEach [.Name x px, .Name y py, .Name z pz] X.env).length=3:=by rfl)(R:(assignEach [.Name x px, .Name y py, .Name z pz] X.env).findIdx? (·.1)=none:=by rfl)(d:(assignEach [.Name x px, .Name y py, .Name z pz] X.env).map (·.2)=assign (.Name x px) X.env::(assignEach [.Name y py, .Name z pz] X.env).map (·.2):=by rfl)(e:(assignEach [.Name y py, .Name z pz] X.env).map (·.2)=assign (.Name y py) X.env::(assignEach [.Name z pz] X.env).map (·.2):=by rfl)(C:(assignEach [.Name z pz] X.env).map (·.2)=assign (.Name z pz) X.env::(assignEach [] X.env).map (·.2):=by rfl):
  Gv X (.Tuple [.Name x px,.Name y py,.Name z pz] kk pos) (Ga i j l):=PG.imp (cM m (aH (az c hi h k) (aH (az c g n o) (aH (az c A f t) bO C) e) d) V R) xS
end
end LD
namespace LD
open PySem PySem.Spec L2 LB PyProof.Rows LW
section
variable{X:Cx}{a b e f:Expr}{ta tb:bD}{tA:gH}{p pos:Pos}
inductive G5(ds:List Dt)(Q:Dt->Prop):Prop
 | mk (i j:Int) (h1:ds= [.int i,.int j]) (h2:0 < j) (h3:j < 2^64) (h4:Q (.tup [.int (i / j),.int (i % j)]))
def tJ:227 "divmod"=some (.builtin "divmod"):=by decide+kernel
def Gk(O:X.mg "divmod"=none)(h:Av X [e,f] tA)(c:Gl X "divmod":=by rfl)(z:starEach [e,f] X.env=(false,eval e X.env)::starEach [f] X.env:=by rfl)(V:(backTo pos (starEach [f] X.env)).any (·.1)=false:=by rfl):
  Ev X (.Call (.Name "divmod" p) [e,f] [] pos) (z0 G5 tA):=kX lu (fun M H w u G Q C r s k=>(by
 obtain⟨i,j,l,g,D,q⟩:=s;subst l;obtain⟨x,A,rfl,m,t⟩:=r.aK;obtain⟨y,B,rfl,n,o⟩:=t.aK;cases o.cD;cases m.ofInt;cases n.ofInt;refine⟨i,j,rfl,⟨g,D⟩,fun v U=>?_⟩;exact k _ _ _ q (aF.new U) (Rep.g9 ag (C.fresh U) (.cons (.int _) (.cons (.int _) .nil))))) c O tJ h 104 104 z V
end
section
variable{X:Cx}{pos:Pos}
inductive Gb(i j l m:Nat)(d:Dt)(δ:List Sl)(Q:List Sl->Prop):Prop
 | mk (d1 d2 d3 d4:Dt) (h1:d= .tup [d1,d2,d3,d4]) (h2:bP δ i) (h3:bP (δ.set i (.im d1)) j) (h4:bP ((δ.set i (.im d1)).set j (.im d2)) l) (h5:bP (((δ.set i (.im d1)).set j (.im d2)).set l (.im d3)) m) (h6:Q ((((δ.set i (.im d1)).set j (.im d2)).set l (.im d3)).set m (.im d4)))
def xT{i j l m:Nat}{K:207}: ∀v b H Q,lG (Gb i j l m) v b H Q->BH K 4 (eJ (bY i) (eJ (bY j) (eJ (bY l) (eJ (bY m) vp)))) v b H Q:=fun v b H Q F=>(by
 obtain⟨W,M,V,c,d,G,E,r,⟨J,L,N,O,e,p,o,U,w,q⟩,k⟩:=F;subst e;obtain⟨a,R,rfl,f,n,I⟩:=r.bU;obtain⟨x,S,rfl,s,t⟩:=I.aK;obtain⟨y,T,rfl,g,A⟩:=t.aK;obtain⟨z,P,rfl,B,Y⟩:=A.aK;obtain⟨u,Z,rfl,C,D⟩:=Y.aK;cases D.cD;exact⟨a,_,rfl,dH.of f,rfl,x,_,rfl,y,_,rfl,z,_,rfl,u,_,rfl,rfl,k _ _ _ q ((((E.gn s p).gn g o).gn B U).gn C w) fun x h=>bV x (bV x (bV x (bV x h)))⟩)
def Pd(i j l m:Nat)(n:X.calm=true)(c:X.N.Nodup)(hi:X.N[i]?=some x:=by rfl)(g:X.N[j]?=some y:=by rfl)(A:X.N[l]?=some z:=by rfl)(O:X.N[m]?=some u:=by rfl)(h:Loc X.env.scope x:=by first | exact Or.inl rfl | exact Or.inr rfl)(p:Loc X.env.scope y:=by first | exact Or.inl rfl | exact Or.inr rfl)(f:Loc X.env.scope z:=by first | exact Or.inl rfl | exact Or.inr rfl)(o:Loc X.env.scope u:=by first | exact Or.inl rfl | exact Or.inr rfl)(k:X.fn x=true\/X.env.scope.names.lookup x=some .local:=by first | exact .inl rfl | exact .inr rfl | assumption)(q:X.fn y=true\/X.env.scope.names.lookup y=some .local:=by first | exact .inl rfl | exact .inr rfl | assumption)(t:X.fn z=true\/X.env.scope.names.lookup z=some .local:=by first | exact .inl rfl | exact .inr rfl | assumption)(v:X.fn u=true\/X.env.scope.names.lookup u=some .local:=by first | exact .inl rfl | exact .inr rfl | assumption)(V:(assignEach [.Name x px, .Name y py, .Name z pz, .Name u pu] X.env).length=4:=by rfl)(R:(assignEach [.Name x px, .Name y py, .Name z pz, .Name u pu] X.env).findIdx? (·.1)=none:=by rfl)(d:(assignEach [.Name x px, .Name y py, .Name z pz, .Name u pu] X.env).map (·.2)=assign (.Name x px) X.env::(assignEach [.Name y py, .Name z pz, .Name u pu] X.env).map (·.2):=by rfl)(e:(assignEach [.Name y py, .Name z pz, .Name u pu] X.env).map (·.2)=assign (.Name y py) X.env::(assignEach [.Name z pz, .Name u pu] X.env).map (·.2):=by rfl)(C:(assignEach [.Name z pz, .Name u pu] X.env).map (·.2)=assign (.Name z pz) X.env::(assignEach [.Name u pu] X.env).map (·.2):=by rfl)(B:(assignEach [.Name u pu] X.env).map (·.2)=assign (.Name u pu) X.env::(assignEach [] X.env).map (·.2):=by rfl):
  Gv X (.Tuple [.Name x px,.Name y py,.Name z pz,.Name u pu] kk pos) (Gb i j l m):=PG.imp (cM n (aH (az c hi h k) (aH (az c g p q) (aH (az c A f t) (aH (az c O o v) bO B) C) e) d) V R) xT
end
section
variable{X:Cx}
inductive TZ(i:Nat)(δ:List Sl)(Q:Dt->List Sl->Prop):Prop
 | mk (ds:List Dt) (h1:δ[i]?=some (.ow ds)) (h2:Q .aO (δ.set i (.ow ds.reverse)))
def q0(i:Nat){c A P:Pos}(y:PE X (.Name x c) (fg i))(p:attributeBase (.Name x c) "reverse" X.env (eval (.Name x c) X.env)=eval (.Name x c) X.env:=by rfl)(R:(A.endLine==P.line)=true:=by rfl):
  Ev X (.Call (.Attribute (.Name x c) "reverse" A) [] [] P) (TZ i):=
 PE.imp (Es av4 PySem.F.slot_list_reverse PySem.F.type_list_reverse xw y p R) fun f H Q n=>(by
  obtain⟨W,M,N,j,G,E,⟨u,D,q⟩,k⟩:=n;obtain⟨a,g,d,e,C,t⟩:=E.ow D;refine⟨_,d,.inl ⟨rfl,_,dr.of C⟩,a,g,rfl,rfl,C,?_⟩;obtain⟨l,b⟩:=sG E D d e t.rev;exact k _ _ _ _ q l b .aO)
end
def Rep.Yo(f:yA d)(t: ∀b q,H b=some (.tup q)->H' b=some (.tup q))(C:jW M' H'): ∀{v:V},Rep M H v d->Rep M' H' v d:=by
 induction f with
 | aO=>intro v r;cases r;exact .aO
 | bl b=>intro v r;cases r;exact .bl b
 | int i=>intro v r;cases r;exact .int i
 | str x=>intro v r;cases r;exact .str x
 | @tup ds _ ih=>
  intro v r;obtain⟨a,j,rfl,g,_,I⟩:=r.bU;exact Rep.g9 (t _ _ g) (C.tup (t _ _ g)) ⟨I.1,fun i x d h e=>ih d (ae4 e) (I.2 i x d h e)⟩
section
variable{X:Cx}{x:Str}{k:Nat}{ps:List Str}{e:Expr}{es:List Expr}{p pos:Pos}
def YU(S:DN)(t:gH):yC:=fun i Q=>t i fun u l=>(∀d∈u,yA d)/\S u fun r=> ∃es,r= .lst es/\(∀d∈es,yA d)/\Q es l
def R7(h:eP X.prog X.w X.K X.mg X.base x k ps (bT S))(hr:bN k X.A)(Y:Av X (e::es) t)(hg:Gl X x:=by rfl)(jh:123=false:=by decide)(Z:starEach (e::es) X.env=(false,eval e X.env)::starEach es X.env:=by rfl)(V:(129).any (·.1)=false:=by rfl):
  Ov X 135 (YU S t):=PE.imp (ou h hr hg Y jh Z V) fun σ H Q D=>(by
 obtain⟨W,M,α,δ,Qd,E,q,k⟩:=D;refine⟨W,M,α,δ,_,E,q,fun G δ' u vs N T F r1=>?_⟩;obtain⟨O,q1⟩:=N;show bT S (vs++ []) u Q E0;rw[ai1];have C:jW (fun a=>M a\/ ∃o,u a=some o/\ ∀g,o≠ .tup g) u:=fun a z=>z.elim (T.al a) id;refine⟨_,G,_,C,r1.CC O C,q1,fun r J v2 mW s r2=>?_⟩;obtain⟨es,U,f,q2⟩:=mW;subst U;obtain⟨a,g,rfl,j,n,I⟩:=r2.eE;have P:u a=none:=by
  cases e:u a with
  | none=>rfl
  | some o=>
   have:=s _ _ e;rw[j] at this;cases this;exact 213 (.inr ⟨_,e,fun g z=>by cases z⟩) n
 have L:J=upd (fun b=>if b=a then none else J b) a (.lst g):=by
  funext b
  by_cases c:b=a
  . subst c;rw[ag];exact j
  . rw[ah c,if_neg c]
 have y:aF u (fun b=>if b=a then none else J b):=fun b o e=>by
  have:b≠a:=fun z=>by subst z;rw[P] at e;cases e
  show(if b=a then none else J b)=some o;rw[if_neg this];exact s _ _ e
 have m:=T.same y;have B:aB M (fun b=>if b=a then none else J b) g es:=⟨I.1,fun i x d R v=>Rep.Yo (f d (ae4 v)) (fun b ys l=>by
  have:b≠a:=fun z=>by subst z;rw[j] at l;cases l
  show(if b=a then none else J b)=_;rw[if_neg this];exact l) m.al (I.2 i x d R v)⟩
 rw[L];exact k _ _ _ _ _ q2 m (F.tr (cW.of y)) B (if_pos rfl))
end
end LD
namespace jV
open PySem PySem.Spec L2 LB LD PyProof.Rows
abbrev Pr:=Nat × Nat
def fW(n:Nat):List Pr:=(219 (n - 1)).flatMap fun k=>(219 (n - (k+1))).map fun j=>(j+1,j+1+(k+1))
def gP:p∈fW n↔1<=p.1/\p.1 < p.2/\p.2<=n:=by
 unfold fW;constructor
 . intro h;obtain⟨k,E,h⟩:=ai9.mp h;obtain⟨j,g,rfl⟩:=ad3.mp h;have:=ak5.mp E;have:=ak5.mp g;exact⟨by dsimp only;lia,by dsimp only;lia,by dsimp only;lia⟩
 . rintro⟨d,e,C⟩
   refine ai9.mpr ⟨p.2 - p.1 - 1,ak5.mpr 102,ad3.mpr ⟨p.1 - 1,ak5.mpr 102,?_⟩⟩;obtain⟨a,b⟩:=p;simp only at d e C ⊢;rw[show a - 1+1=a by lia,show a+(b - a - 1+1)=b by lia]
def lo(p q:Pr):Prop:=p.2 - p.1 < q.2 - q.1\/(p.2 - p.1=q.2 - q.1/\p.1 < q.1)
def GI(n:Nat):(fW n).Pairwise lo:=by
 unfold fW;rw[List.pairwise_flatMap];refine⟨fun k _=>?_,?_⟩
 . rw[av9];refine List.pairwise_lt_range.imp fun h=> .inr ⟨?_,?_⟩
   . show _+1+(k+1) - (_+1)=_+1+(k+1) - (_+1);lia
   . show _+1 < _+1;lia
 . refine List.pairwise_lt_range.imp fun h x l y m=> .inl ?_;obtain⟨j,_,rfl⟩:=ad3.mp l;obtain⟨i,_,rfl⟩:=ad3.mp m;show _+1+(_+1) - (_+1) < _+1+(_+1) - (_+1);lia
def vS(h:(fW n)[i]?=some p)(U:q∈fW n)(l:q.2 - q.1 < p.2 - p.1):q∈(fW n).take i:=by
 obtain⟨j,g,rfl⟩:=ah7 U;obtain⟨H,rfl⟩:=ac1.mp h;have S:j < i:=by
  rcases Nat.lt_trichotomy j i with c | c | c
  . exact c
  . subst c;lia
  . have:=al6.mp (GI n) i j H g c;unfold lo at this;lia
 exact List.mem_take_iff_getElem.mpr ⟨j,by lia,rfl⟩
def tH(h:(fW n)[i]?=some p):p∉(fW n).take i:=fun z=>by
 obtain⟨H,rfl⟩:=ac1.mp h;obtain⟨j,g,e⟩:=List.mem_take_iff_getElem.mp z;have:=al6.mp (GI n) j i 102 H 102;rw[e] at this;unfold lo at this;lia
def pk(p:Pr):List Key:= [.inl (p.1:Int),.inl (p.2:Int)]
def Ee(h:pk p=pk q):p=q:=by
 unfold pk at h;injection h with h1 h2
 injection h2 with h2 _
 injection h1 with h1
 injection h2 with h2
 exact Prod.ext 102 102
def eQ: ∀{L:List Pr},p∈L->Ay (L.map pk) (L.map g) (pk p)=some (g p)
 | q::L,h=>by
  rw[ad4,ad4,Ay];by_cases c:pk q=pk p
  . rw[if_pos c,Ee c]
  . rw[if_neg c];exact eQ ((ad8.mp h).elim (fun z=>213 (by rw[z]) c) id)
def NQ{p:Pr}{L:List Pr}(h:p∉L):pk p∉L.map pk:=fun z=>by
 obtain⟨q,U,e⟩:=ad3.mp z;exact h (Ee e▸U)
def dg(n:Nat):List Pr:=(116).map fun i=>(i,i)
def sO:p∈dg n↔p.1=p.2/\1<=p.1/\p.1<=n:=by
 unfold dg;constructor
 . intro h;obtain⟨i,H,rfl⟩:=ad3.mp h;have:=ai0.mp H;exact⟨rfl,by simp;lia,by simp;lia⟩
 . rintro⟨d,e,C⟩
   exact ad3.mpr ⟨p.1,ai0.mpr 176,Prod.ext rfl d⟩
def F9(h:(fW n)[i]?=some p):p∉dg n++(fW n).take i:=fun z=>by
 have:=gP.mp (ae4 h);rcases ad2.mp z with z | z
 . have:=sO.mp z;lia
 . exact tH h z
def Aj(e:(fW n)[i]?=some (l,h))(d:l<=a)(f:a<=b)(C:b<=h)(B:b - a < h - l):(a,b)∈dg n++(fW n).take i:=by
 have m:=gP.mp (ae4 e);simp only at m;by_cases c:a=b
 . exact af5 _ (sO.mpr ⟨c,by simp;lia,by simp;lia⟩)
 . exact ac8 _ (vS e (gP.mpr ⟨by simp;lia,by simp;lia,by simp;lia⟩) B)
def Za(e:(fW n)[i]?=some (l,h))(d:l<=a)(f:a < b)(C:b<=h)(B:b - a < h - l):(a,b)∈(fW n).take i:=by
 have m:=gP.mp (ae4 e);simp only at m;exact vS e (gP.mpr ⟨by simp;lia,by simp;lia,by simp;lia⟩) B
def take_snoc(h:(fW n)[i]?=some p):(fW n).take (i+1)=(fW n).take i++ [p]:=by rw[ap7,h];rfl
def hk(i:Nat):Int:=reduceHash (Builtin.Tuple.tupleHashOf [hashInt (i:Int),hashInt (i:Int)])
def JH(P:214)(w:237)(i:Nat):vj P w (pk (i,i))=hk i:=by rfl
def Fw:((List.range' 1 12).map hk).Nodup:=by decide+kernel
def Bd{f:Nat->Int}(J:((List.range' 1 m).map f).Nodup)(h:n<=m):((116).map f).Nodup:=by
 have e:List.range' 1 m=List.range' 1 n++List.range' (1+n) (m - n):=by
  rw[ap9,Nat.add_sub_cancel' h]
 rw[e,ad1] at J;exact J.sublist (List.sublist_append_left _ _)
def PB(f:List Key->Int)(n:Nat):((dg n).map pk).map f=(116).map fun i=>f (pk (i,i)):=by
 unfold dg;rw[ae6,ae6];rfl
def zU(P:214)(w:237)(h:n<=12):(((dg n).map pk).map (vj P w)).Nodup:=by
 have j:=PB (vj P w) n;have p:((116).map fun i=>vj P w (pk (i,i)))=(116).map hk:=ae0 fun i _=>JH P w i;exact(j.trans p)▸Bd Fw h
section
variable{α:Type}
def p6(B:List α->α)(z s:Nat->Nat->α)(l h:Nat):List α:=(171).map fun a=>B [z l a,s (a+1) h]
def NI(B:List α->α)(z rt:Nat->Nat->α)(l h:Nat):List α:=(List.range' (l+1) (h - l)).map fun a=>B [rt l a,z a h]
def Ot(B:List α->α)(s S:Nat->Nat->α)(l h:Nat):List α:=(171).map fun a=>B [s l a,S a h]
def toV(B:List α->α)(w s z:Nat->Nat->α)(n:Nat):List α:=(116).map fun t=>B [w t 0,s 1 t,z t n]
structure Zf(oJ oC:List α->Prop)(jn ch:List α->α)(n:Nat)(w rg rt lf lt:Nat->Nat->α):Prop where
 j0:oJ []
 r0: ∀l,rg l l=jn []
 l0: ∀l,lf l l=jn []
 ji: ∀l a h,1<=l->l<=a->a < h->h<=n->oJ [rg l a,lf (a+1) h]
 ci: ∀l h,1<=l->l < h->h<=n->oC (p6 jn rg lf l h)
 jr: ∀l h,1<=l->l < h->h<=n->oJ [w h l,ch (p6 jn rg lf l h)]
 er: ∀l h,1<=l->l < h->h<=n->rt l h=jn [w h l,ch (p6 jn rg lf l h)]
 jl: ∀l h,1<=l->l < h->h<=n->oJ [w l h,ch (p6 jn rg lf l h)]
 el: ∀l h,1<=l->l < h->h<=n->lt l h=jn [w l h,ch (p6 jn rg lf l h)]
 jR: ∀l a h,1<=l->l < a->a<=h->h<=n->oJ [rt l a,rg a h]
 cR: ∀l h,1<=l->l < h->h<=n->oC (NI jn rg rt l h)
 eR: ∀l h,1<=l->l < h->h<=n->rg l h=ch (NI jn rg rt l h)
 jL: ∀l a h,1<=l->l<=a->a < h->h<=n->oJ [lf l a,lt a h]
 cL: ∀l h,1<=l->l < h->h<=n->oC (Ot jn lf lt l h)
 eL: ∀l h,1<=l->l < h->h<=n->lf l h=ch (Ot jn lf lt l h)
 jt: ∀t,1<=t->t<=n->oJ [w t 0,lf 1 t,rg t n]
 ct:oC (toV jn w lf rg n)
variable (D:α->Dt)
def qU(l:List α->Prop)(f:List α->α):DN:=fun t Q=> ∃L:List α,t= [.lst (L.map D)]/\l L/\Q (D (f L))
def J6(L:List Pr)(f:Nat->Nat->α):Dt:= .m8 (L.map pk) (L.map fun p=>D (f p.1 p.2))
def uA(n:Nat)(w:Nat->Nat->α)(i:Nat):Dt:= .tup ((219 (n+1)).map fun o=>D (w i o))
def Ng(n:Nat)(w:Nat->Nat->α):Dt:= .tup ((116).map (uA D n w))
def sC{n:Nat}{w:Nat->Nat->α}{i x:Nat}(h:x<=n):jS ((219 (n+1)).map fun o=>D (w i o)) (x:Int)=some (D (w i x)):=
 aS (j:=x) (by rw[ab8,ak2 163];rfl)
def yM{n:Nat}{w:Nat->Nat->α}{x:Nat}(d:1<=x)(h:x<=n):jS ((116).map (uA D n w)) ((x:Int) - 1)=some (uA D n w x):=by
 rw[show(x:Int) - 1=((x - 1:Nat):Int) by omega];exact aS (j:=x - 1) (by rw[ab8,am4 163,show 1+1*(x - 1)=x by omega];rfl)
end
end jV
namespace LD
open PySem PySem.Spec L2 LB PyProof.Rows
def Ax{E:dw}(I:Nat->List Sl->Prop)(c: ∃m,I m i)(h: ∀m i,I m i-> ∀H:dw,(∀N k,N < m->I N k->H.nx k)->(∀d k,E.rt d k->H.rt d k)->u i fun b M=>if b=true then tb H M else E.nx M):Gn u tb E i:=
 ⟨I,c,fun m i B=>h m i B _ (fun N k O J=>⟨N,O,J⟩) fun _ _ z=>z⟩
def dR{v:List Dt}{g:wa}{X:j3}{E:dw}(I:Nat->List Sl->Prop)(c:I 0 δ1)(h: ∀i d W,v[i]?=some d->I i W-> ∀H:dw,(∀k,I (i+1) k->H.nx k)->(∀d k,E.rt d k->H.rt d k)->g d W fun D=>X H D)(fin: ∀W,I v.length W->E.nx W):
  ∃P:Nat->List Sl->Prop,P 0 δ1/\(∀i d W,v[i]?=some d->P i W->g d W fun D=>X {E with nx:=P (i+1),ct:=P (i+1),bk:=E.nx} D)/\ ∀W,P v.length W->E.nx W:=
 ⟨I,c,fun i d W e B=>h i d W e B _ (fun _ z=>z) fun _ _ z=>z,fin⟩
end LD
namespace rH
abbrev Wo:=210 Int
def ad:Wo->Wo->Wo
 | some a,some b=>some (a+b)
 | _,_=>none
def mx:Wo->Wo->Wo
 | some a,some b=>some (max a b)
 | some a,none=>some a
 | none,y=>y
def jd:List Wo->Wo
 | []=>some 0
 | x::xs=>ad x (jd xs)
def gu:List Wo->Wo
 | []=>none
 | x::xs=>mx x (gu xs)
def pN(x y z:Wo):ad (ad x y) z=ad x (ad y z):=by cases x <;> cases y <;> cases z <;> simp [ad,Int.add_assoc]
def nK(x y:Wo):ad x y=ad y x:=by cases x <;> cases y <;> simp [ad,Int.add_comm]
def KD(x:Wo):ad (some 0) x=x:=by cases x <;> simp [ad]
def pM(x:Wo):ad x (some 0)=x:=by cases x <;> simp [ad]
def Ak(x:Wo):ad x none=none:=by cases x <;> rfl
def zp(x:Wo):mx x none=x:=by cases x <;> rfl
def ET(x y z:Wo):mx (mx x y) z=mx x (mx y z):=by cases x <;> cases y <;> cases z <;> simp [mx] <;> lia
def MG(x y z:Wo):ad x (mx y z)=mx (ad x y) (ad x z):=by cases x <;> cases y <;> cases z <;> simp [ad,mx] <;> lia
def Sg(x y z:Wo):ad (mx y z) x=mx (ad y x) (ad z x):=by rw[nK,MG,nK x y,nK x z]
def HF(l m:List Wo):jd (l++m)=ad (jd l) (jd m):=by
 induction l with
 | nil=>simp [jd,KD]
 | cons x xs ih=>show ad x (jd (xs++m))=_;rw[ih,jd,pN]
def JN(l m:List Wo):gu (l++m)=mx (gu l) (gu m):=by
 induction l with
 | nil=>rfl
 | cons x xs ih=>show mx x (gu (xs++m))=_;rw[ih,gu,ET]
def C9{l m:List Wo}(h:l.Perm m):jd l=jd m:=by
 induction h with
 | nil=>rfl
 | cons x _ ih=>rw[jd,jd,ih]
 | swap x y l=>rw[jd,jd,jd,jd,<-pN,<-pN,nK y x]
 | trans _ _ i1 i2=>rw[i1,i2]
def kJ:gu l=none↔ ∀x∈l,x=none:=by
 induction l with
 | nil=>simp [gu]
 | cons x xs ih=>
  cases x with
  | none=>
   show gu xs=none↔_;rw[ih];exact⟨fun h y k=>(ad8.mp k).elim id (h y),fun h y k=>h y (ac0 _ k)⟩
  | some a=>
   refine⟨fun h=>?_,fun h=>?_⟩
   . cases e:gu xs with
     | none=>rw[gu,e] at h;cases h
     | some b=>rw[gu,e] at h;cases h
   . have:=h _ ac9;cases this
def nE: ∀{l:List Wo} {v:Int},gu l=some v->some v∈l
 | x::xs,v,h=>by
  cases x with
  | none=>exact ac0 _ (nE (by simpa [gu,mx] using h))
  | some a=>
   cases e:gu xs with
   | none=>rw[gu,e] at h;cases h;exact ac9
   | some b=>
    rw[gu,e] at h;have u:max a b=v:=215 h;by_cases c:a<=b
    . have:b=v:=by lia
      rw[this] at e;exact ac0 _ (nE e)
    . have:a=v:=by lia
      rw[this];exact ac9
def FE: ∀{l:List Wo} {v u:Int},gu l=some v->some u∈l->u<=v
 | x::xs,v,u,h,m=>by
  rcases ad8.mp m with e | m
  . subst e;cases e:gu xs with
    | none=>rw[gu,e] at h;cases h;exact ak7 _
    | some b=>rw[gu,e] at h;have:max u b=v:=215 h;lia
  . cases e:gu xs with
    | none=>have:=kJ.mp e _ m;cases this
    | some b=>
     have i:=FE e m;cases x with
     | none=>rw[gu,e] at h;cases h;exact i
     | some a=>rw[gu,e] at h;have:max a b=v:=215 h;lia
def gv{α N:Type}{f g:α->List N}: ∀{l:List α},(∀a∈l,f a=g a)->l.flatMap f=l.flatMap g
 | [],_=>rfl
 | a::l,h=>by rw[as6,as6,h a ac9,gv fun b c=>h b (ac0 _ c)]
abbrev Way:=List (Nat × Nat)
def wt(w:Nat->Nat->Wo)(a:Way):Wo:=jd (a.map fun p=>w p.1 p.2)
def ev(w:Nat->Nat->Wo)(S:List Way):Wo:=gu (S.map (wt w))
def pr(S T:List Way):List Way:=S.flatMap fun a=>T.map fun b=>a++b
def MZ(w:Nat->Nat->Wo)(a b:Way):wt w (a++b)=ad (wt w a) (wt w b):=by unfold wt;rw[ad1,HF]
def FU(w:Nat->Nat->Wo)(S T:List Way):ev w (S++T)=mx (ev w S) (ev w T):=by unfold ev;rw[ad1,JN]
def JU(w:Nat->Nat->Wo)(a:Way)(T:List Way):ev w (T.map fun b=>a++b)=ad (wt w a) (ev w T):=by
 induction T with
 | nil=>exact(Ak _).symm
 | cons b T ih=>
  show mx (wt w (a++b)) (ev w (T.map fun b=>a++b))=ad (wt w a) (mx (wt w b) (ev w T));rw[ih,MZ,MG]
def mQ(w:Nat->Nat->Wo)(S T:List Way):ev w (pr S T)=ad (ev w S) (ev w T):=by
 induction S with
 | nil=>rfl
 | cons a S ih=>
  show ev w ((T.map fun b=>a++b)++pr S T)=ad (mx (wt w a) (ev w S)) (ev w T);rw[FU,JU,ih,Sg]
def kQ(w:Nat->Nat->Wo)(L:List Nat)(f:Nat->List Way):ev w (L.flatMap f)=gu (L.map fun x=>ev w (f x)):=by
 induction L with
 | nil=>rfl
 | cons x L ih=>rw[as6,FU,ih];rfl
def Pk(w:Nat->Nat->Wo)(a:Way):ev w [a]=wt w a:=zp _
def tf(w:Nat->Nat->Wo)(i o:Nat):ev w [[(i,o)]]=w i o:=by rw[Pk];exact pM _
structure yr where
 rg:List Way
 rt:List Way
 lf:List Way
 lt:List Way
def zB(q:Nat->Nat->yr)(l h:Nat):List Way:=(171).flatMap fun e=>pr (q l e).rg (q (e+1) h).lf
def W9(q:Nat->Nat->yr)(rt:List Way)(l h:Nat):List Way:=(List.range' (l+1) (h - l)).flatMap fun a=>pr (if a=h then rt else(q l a).rt) (if a=h then [[]] else(q a h).rg)
def Xa(q:Nat->Nat->yr)(S:List Way)(l h:Nat):List Way:=(171).flatMap fun a=>pr (if a=l then [[]] else(q l a).lf) (if a=l then S else(q a h).lt)
def Sh(q:Nat->Nat->yr)(l h:Nat):yr:=⟨W9 q (pr [[(h,l)]] (zB q l h)) l h,pr [[(h,l)]] (zB q l h),Xa q (pr [[(l,h)]] (zB q l h)) l h,pr [[(l,h)]] (zB q l h)⟩
def sp:Nat->Nat->Nat->yr
 | 0,_,_=>⟨[[]],[],[[]],[]⟩
 | d+1,l,h=>if h<=l+d then sp d l h else Sh (sp d) l h
def Q(l h:Nat):yr:=sp (h - l) l h
def K9: ∀(d l h:Nat),h<=l+d->sp d l h=Q l h
 | 0,l,h,hd=>by unfold Q;rw[show h - l=0 by lia]
 | d+1,l,h,hd=>by
  by_cases c:h<=l+d
  . rw[sp,if_pos c];exact K9 d l h c
  . unfold Q;rw[show h - l=d+1 by lia]
def pQ(l:Nat):Q l l=⟨[[]],[],[[]],[]⟩:=by unfold Q;rw[Nat.sub_self];rfl
def Bi(e: ∀a b,l<=a->b<=h->b - a < h - l->q a b=r a b):Sh q l h=Sh r l h:=by
 have m:zB q l h=zB r l h:=by
  unfold zB;refine gv fun a f=>?_;have:=ai0.mp f;rw[e l a 102 102 102,e (a+1) h 102 102 102]
 have S: ∀x,W9 q x l h=W9 r x l h:=fun x=>gv fun a f=>by
  have:=ai0.mp f;by_cases c:a=h
  . rw[if_pos c,if_pos c,if_pos c,if_pos c]
  . rw[if_neg c,if_neg c,if_neg c,if_neg c,e l a 102 102 102,e a h 102 102 102]
 have F: ∀x,Xa q x l h=Xa r x l h:=fun x=>gv fun a f=>by
  have:=ai0.mp f;by_cases c:a=l
  . rw[if_pos c,if_pos c,if_pos c,if_pos c]
  . rw[if_neg c,if_neg c,if_neg c,if_neg c,e l a 102 102 102,e a h 102 102 102]
 unfold Sh;rw[m,S,F]
def eB(S:l < h):Q l h=Sh Q l h:=by
 obtain⟨d,e⟩: ∃d,h - l=d+1:=⟨h - l - 1,by lia⟩
 unfold Q;rw[e,sp,if_neg 102];exact Bi fun a b f g C=>K9 d a b 102
def Ny(w:Nat->Nat->Wo)(S:l < h):ev w (Q l h).rt=ad (w h l) (gu ((171).map fun a=>ad (ev w (Q l a).rg) (ev w (Q (a+1) h).lf))):=by
 rw[eB S];show ev w (pr [[(h,l)]] (zB Q l h))=_;rw[mQ,tf];unfold zB;rw[kQ];congr 2
 exact ae0 fun a _=>mQ _ _ _
def Ol(w:Nat->Nat->Wo)(S:l < h):ev w (Q l h).lt=ad (w l h) (gu ((171).map fun a=>ad (ev w (Q l a).rg) (ev w (Q (a+1) h).lf))):=by
 rw[eB S];show ev w (pr [[(l,h)]] (zB Q l h))=_;rw[mQ,tf];unfold zB;rw[kQ];congr 2
 exact ae0 fun a _=>mQ _ _ _
def NH(w:Nat->Nat->Wo)(S:l < h):ev w (Q l h).rg=gu ((List.range' (l+1) (h - l)).map fun a=>ad (ev w (Q l a).rt) (ev w (Q a h).rg)):=by
 have T:(Q l h).rg=(List.range' (l+1) (h - l)).flatMap fun a=>pr (Q l a).rt (Q a h).rg:=by
  conv=>lhs;rw[eB S]
  show(List.range' (l+1) (h - l)).flatMap _=_;refine gv fun a f=>?_;by_cases c:a=h
  . subst c;rw[if_pos rfl,if_pos rfl,pQ];congr 1
    rw[eB S];rfl
  . rw[if_neg c,if_neg c]
 rw[T,kQ];congr 1
 exact ae0 fun a _=>mQ _ _ _
def Oq(w:Nat->Nat->Wo)(S:l < h):ev w (Q l h).lf=gu ((171).map fun a=>ad (ev w (Q l a).lf) (ev w (Q a h).lt)):=by
 have T:(Q l h).lf=(171).flatMap fun a=>pr (Q l a).lf (Q a h).lt:=by
  conv=>lhs;rw[eB S]
  show(171).flatMap _=_;refine gv fun a f=>?_;by_cases c:a=l
  . subst c;rw[if_pos rfl,if_pos rfl,pQ];congr 1
    rw[eB S];rfl
  . rw[if_neg c,if_neg c]
 rw[T,kQ];congr 1
 exact ae0 fun a _=>mQ _ _ _
def ws(a:Way):List Nat:=a.map (·.1)
structure lJ(S:List Way)(lo n m:Nat):Prop where
 c: ∀a∈S,(ws a).Perm (List.range' lo n)/\ ∀p∈a,p.2<=m
def my(d:lJ S lo n m)(e:lJ T (lo+n) k m):lJ (pr S T) lo (n+k) m:=⟨fun a f=>by
 obtain⟨x,h,f⟩:=ai9.mp f;obtain⟨y,l,rfl⟩:=ad3.mp f;refine⟨?_,fun p B=>(ad2.mp B).elim ((d.c x h).2 p) ((e.c y l).2 p)⟩;unfold ws;rw[ad1,<-ap9];exact(d.c x h).1.append (e.c y l).1⟩
def pB{L:List Nat}{f:Nat->List Way}{M n m:Nat}(h: ∀x∈L,lJ (f x) M n m):lJ (L.flatMap f) M n m:=⟨fun a g=>by
 obtain⟨x,i,g⟩:=ai9.mp g;exact(h x i).c a g⟩
def nH:lJ [[]] lo 0 m:=⟨fun a f=>by rw[ab4.mp f];exact⟨.nil,fun p B=>213 B ab3⟩⟩
def tw(h:o<=m):lJ [[(i,o)]] i 1 m:=⟨fun a f=>by
 rw[ab4.mp f];exact⟨.refl _,fun p B=>by rw[ab4.mp B];exact h⟩⟩
def lJ.cast(h:lJ S lo n m)(j:lo=lo')(p:n=n'):lJ S lo' n' m:=by subst j;subst p;exact h
def GA(d:lJ S (lo+k) n m)(e:lJ T lo k m):lJ (pr S T) lo (n+k) m:=⟨fun a f=>by
 obtain⟨x,h,f⟩:=ai9.mp f;obtain⟨y,l,rfl⟩:=ad3.mp f;refine⟨?_,fun p B=>(ad2.mp B).elim ((d.c x h).2 p) ((e.c y l).2 p)⟩;unfold ws;rw[ad1,Nat.add_comm n k,<-ap9];exact List.perm_append_comm.trans ((e.c y l).1.append (d.c x h).1)⟩
def MB: ∀(d l h:Nat),h - l=d->l<=h->h<=m->lJ (Q l h).rg (l+1) (h - l) m/\lJ (Q l h).lf l (h - l) m/\(l < h->lJ (Q l h).rt (l+1) (h - l) m/\lJ (Q l h).lt l (h - l) m):=fun d=>by
 induction d using Nat.strongRecOn with
 | _ d ih=>
  intro l h D B O;by_cases c:l=h
  . subst c;rw[pQ,Nat.sub_self];exact⟨nH,nH,fun z=>213 z (af7 _)⟩
  have lt:l < h:=by lia
  have H:lJ (zB Q l h) (l+1) (h - l - 1) m:=pB fun a i=>by
   have:=ai0.mp i;have f:=(ih (a - l) 102 l a rfl 102 102).1;have g:=(ih (h - (a+1)) 102 (a+1) h rfl 102 102).2.1;exact(my f (g.cast 102 rfl)).cast rfl 102
  have G:lJ (Q l h).rt (l+1) (h - l) m:=by
   rw[eB lt];show lJ (pr [[(h,l)]] (zB Q l h)) _ _ _;have f:lJ [[(h,l)]] (l+1+(h - l - 1)) 1 m:=(tw 102).cast 102 rfl;exact(GA f H).cast rfl 102
  have A:lJ (Q l h).lt l (h - l) m:=by
   rw[eB lt];show lJ (pr [[(l,h)]] (zB Q l h)) _ _ _;exact(my (tw 102) H).cast rfl 102
  refine⟨?_,?_,fun _=>⟨G,A⟩⟩
  . rw[eB lt];refine pB fun a i=>?_;have:=ai0.mp i;by_cases e:a=h
    . rw[if_pos e,if_pos e];rw[eB lt] at G;exact(my G nH).cast rfl 102
    . rw[if_neg e,if_neg e];have f:=((ih (a - l) 102 l a rfl 102 102).2.2 102).1;have g:=(ih (h - a) 102 a h rfl 102 O).1;exact(my f (g.cast 102 rfl)).cast rfl 102
  . rw[eB lt];refine pB fun a i=>?_;have:=ai0.mp i;by_cases e:a=l
    . rw[if_pos e,if_pos e];rw[eB lt] at A;exact(my nH A).cast rfl 102
    . rw[if_neg e,if_neg e];have f:=(ih (a - l) 102 l a rfl 102 102).2.1;have g:=((ih (h - a) 102 a h rfl 102 O).2.2 102).2;exact(my f (g.cast 102 rfl)).cast rfl 102
def KH(n:Nat):List Way:=(116).flatMap fun t=>pr [[(t,0)]] (pr (Q 1 t).lf (Q t n).rg)
def HE(w:Nat->Nat->Wo)(n:Nat):ev w (KH n)=gu ((116).map fun t=>ad (w t 0) (ad (ev w (Q 1 t).lf) (ev w (Q t n).rg))):=by
 unfold KH;rw[kQ];congr 1
 exact ae0 fun t _=>by rw[mQ,tf,mQ]
def Aa(n:Nat): ∀a∈KH n,(ws a).Perm 116/\ ∀p∈a,p.2<=n:=fun a f=>by
 obtain⟨t,X,f⟩:=ai9.mp f;have:=ai0.mp X;have g:=(MB (m:=n) (t - 1) 1 t rfl 102 102).2.1;have h:=(MB (m:=n) (n - t) t n rfl 102 (ab6 _)).1;have C:lJ [[(t,0)]] t 1 n:=tw (af2 _);obtain⟨x,i,f⟩:=ai9.mp f;obtain⟨y,k,rfl⟩:=ad3.mp f;obtain⟨u,o,k⟩:=ai9.mp k;obtain⟨v,w,rfl⟩:=ad3.mp k;refine⟨?_,fun p B=>?_⟩
 . have j:=(g.c u o).1;have r:=(h.c v w).1;have b:=(C.c x i).1;unfold ws at j r b ⊢;rw[ad1,ad1];have e:List.range' 1 n=List.range' 1 (t - 1)++(List.range' t 1++List.range' (t+1) (n - t)):=by
    have D:List.range' t 1++List.range' (t+1) (n - t)=List.range' t (1+(n - t)):=ap9 ..;have d:List.range' 1 (t - 1)++List.range' (1+(t - 1)) (1+(n - t))=List.range' 1 ((t - 1)+(1+(n - t))):=ap9 ..;rw[D];rw[show(1:Nat)+(t - 1)=t by lia] at d;rw[d];congr 1
    lia
   rw[e];refine(b.append (j.append r)).trans ?_;rw[<-af9,<-af9];exact List.perm_append_comm.append_right _
 . rcases ad2.mp B with B | B
   . exact(C.c x i).2 p B
   . rcases ad2.mp B with B | B
     . exact(g.c u o).2 p B
     . exact(h.c v w).2 p B
def iw(w:Nat->Nat->Wo):Nat->List Nat->Wo
 | _,[]=>some 0
 | i,x::xs=>ad (w i x) (iw w (i+1) xs)
noncomputable abbrev lM (w:Nat->Nat->Wo) (h:List Nat):Wo:=iw w 1 h
def lk(a:Way)(i:Nat):Nat:=(a.lookup i).getD 0
def JI(n:Nat)(a:Way):List Nat:=(116).map (lk a)
def tZ(w:Nat->Nat->Wo)(f:Nat->Nat): ∀(n i:Nat),iw w i ((List.range' i n).map f)=jd ((List.range' i n).map fun j=>w j (f j))
 | 0,_=>rfl
 | n+1,i=>by rw[at8,ad4,ad4,iw,jd,tZ w f n (i+1)]
def lookup_mem: ∀{a:Way} {p:Nat × Nat},(ws a).Nodup->p∈a->a.lookup p.1=some p.2
 | q::a,p,nd,h=>by
  unfold ws at nd;rw[ad4,am5] at nd;obtain⟨N,y⟩:=q;rcases ad8.mp h with e | h
  . subst e;simp [ag3]
  . have Q:p.1≠N:=fun z=>nd.1 (by rw[<-z];exact ad3.mpr ⟨p,h,rfl⟩);have:(p.1==N)=false:=ai3.mpr Q;rw[ag3,this];exact lookup_mem nd.2 h
def Hy(w:Nat->Nat->Wo)(h:(ws a).Perm 116):wt w a=lM w (JI n a):=by
 have E:(ws a).Nodup:=h.nodup_iff.mpr List.nodup_range';unfold lM JI;rw[tZ];have e:a.map (fun p=>w p.1 p.2)=(ws a).map fun j=>w j (lk a j):=by
  unfold ws;rw[ae6];refine ae0 fun p B=>?_;show w p.1 p.2=w p.1 (lk a p.1);unfold lk;rw[lookup_mem E B];rfl
 unfold wt;rw[e];exact C9 (h.map _)
def mC(n:Nat):List 188:=(KH n).map (JI n)
def t8(w:Nat->Nat->Wo)(n:Nat):ev w (KH n)=gu ((mC n).map (lM w)):=by
 unfold ev mC;rw[ae6];congr 1
 exact ae0 fun a f=>Hy w (Aa n a f).1
def cE(m:h∈mC n):h.length=n:=by
 obtain⟨a,_,rfl⟩:=ad3.mp m;unfold JI;rw[aa9,ae7]
def Bm{a:Way}:a.lookup i=some x->(i,x)∈a:=by
 induction a with
 | nil=>intro h;cases h
 | cons p a ih=>
  intro h;obtain⟨j,C⟩:=p;rw[ag3] at h;by_cases c:i=j
  . subst c;simp at h;subst h;exact ac9
  . have:(i==j)=false:=ai3.mpr c;rw[this] at h;exact ac0 _ (ih h)
def nv(m:h∈mC n): ∀x∈h,x<=n:=by
 obtain⟨a,f,rfl⟩:=ad3.mp m;intro x j;obtain⟨i,_,rfl⟩:=ad3.mp j;unfold lk;cases e:a.lookup i with
 | none=>exact af2 _
 | some y=>exact(Aa n a f).2 _ (Bm e)
def code(B:Nat):List Nat->Int
 | []=>0
 | x::xs=>(x:Int)*(B:Int)^220+code B xs
def oj{B:Nat}(h:0 < B)(n:Nat):0 < (B:Int)^n:=Int.pow_pos 102
def i8: ∀{h:List Nat},(∀x∈h,x < B)->0<=code B h/\code B h < (B:Int)^h.length
 | [],_=>⟨ak7 _,by show(0:Int) < 1;decide⟩
 | x::xs,hx=>by
  have Q:=hx x ac9;obtain⟨a,b⟩:=i8 (h:=xs) fun y k=>hx y (ac0 _ k);have p:=oj (B:=B) 102 220;unfold code;rw[ad6,Int.pow_succ];generalize (B:Int)^220=P at*;have j:0<=(x:Int)*P:=Int.mul_nonneg 102 102;have q:((x:Int)+1)*P<=(B:Int)*P:=ag9 102 102;rw[an2,au5] at q;rw[Int.mul_comm P];exact 176
def rp(B:Nat): ∀(h:List Nat) (x:Nat),code B (h++ [x])=code B h*(B:Int)+(x:Int)
 | [],x=>by simp [code]
 | y::ys,x=>by
  rw[List.cons_append,code,code,rp B ys x,ac6,List.length_singleton,Int.pow_succ,an2,Int.mul_assoc,Int.add_assoc]
def U9:List Nat->List Nat->Bool
 | [],ys=>!ys.isEmpty
 | _::_,[]=>false
 | x::xs,y::ys=>if x=y then U9 xs ys else decide (x < y)
def pE: ∀{h g:List Nat},h.length=g.length->(∀x∈h,x < B)->(∀x∈g,x < B)->(code B h < code B g↔U9 h g=true)
 | [],[],_,_,_=>by simp [code,U9]
 | x::xs,y::ys,l,hx,hy=>by
  have u:220=ys.length:=by simpa using l
  have v:=pE u (fun z f=>hx z (ac0 _ f)) fun z f=>hy z (ac0 _ f);obtain⟨D,e⟩:=i8 (h:=xs) fun z f=>hx z (ac0 _ f);obtain⟨Q,j⟩:=i8 (h:=ys) fun z f=>hy z (ac0 _ f);have p:=oj (B:=B) (by have:=hx x ac9;lia) 220;unfold code U9;rw[<-u] at j ⊢;generalize (B:Int)^220=P at*;by_cases c:x=y
  . subst c;rw[if_pos rfl,<-v];constructor <;> intro <;> lia
  . rw[if_neg c,decide_eq_true_iff];rcases Nat.lt_or_gt_of_ne c with d | d
    . have q:((x:Int)+1)*P<=(y:Int)*P:=ag9 102 102;rw[an2,au5] at q;exact⟨fun _=>d,fun _=>by lia⟩
    . have q:((y:Int)+1)*P<=(x:Int)*P:=ag9 102 102;rw[an2,au5] at q;exact⟨fun z=>by lia,fun z=>by lia⟩
def code_inj: ∀{h g:List Nat},h.length=g.length->(∀x∈h,x < B)->(∀x∈g,x < B)->code B h=code B g->h=g
 | [],[],_,_,_,_=>rfl
 | x::xs,y::ys,l,hx,hy,e=>by
  have u:220=ys.length:=by simpa using l
  obtain⟨D,i⟩:=i8 (h:=xs) fun z f=>hx z (ac0 _ f);obtain⟨Q,j⟩:=i8 (h:=ys) fun z f=>hy z (ac0 _ f);have p:=oj (B:=B) (by have:=hx x ac9;lia) 220;unfold code at e;rw[<-u] at j e;have c:x=y:=by
   generalize (B:Int)^220=P at*;rcases Nat.lt_trichotomy x y with d | d | d
   . have q:((x:Int)+1)*P<=(y:Int)*P:=ag9 102 102;rw[an2,au5] at q;lia
   . exact d
   . have q:((y:Int)+1)*P<=(x:Int)*P:=ag9 102 102;rw[an2,au5] at q;lia
  subst c;rw[code_inj u (fun z f=>hx z (ac0 _ f)) (fun z f=>hy z (ac0 _ f)) 102]
def wr(n:Nat)(w:Nat->Nat->Wo)(i o:Nat):Wo:=(w i o).map fun v=>v*175^n - (o:Int)*175^(n - i)
def nj(n:Nat)(w:Nat->Nat->Wo): ∀(h:List Nat) (i:Nat),i+h.length=n+1->1<=i->iw (wr n w) i h=(iw w i h).map fun v=>v*175^n - code (n+1) h
 | [],i,e,_=>by simp [iw,code]
 | x::xs,i,e,i1=>by
  have H:i+1+220=n+1:=by rw[ad6] at e;lia
  rw[iw,iw,nj n w xs (i+1) H 102];unfold wr;rw[show n - i=xs.length by lia];have I:code (n+1) (x::xs)=(x:Int)*175^220+code (n+1) xs:=by
   rw[code];push_cast
   rfl
  rw[I];cases w i x with
  | none=>rfl
  | some a=>
   cases iw w (i+1) xs with
   | none=>rfl
   | some b=>
    show some ((a*175^n - (x:Int)*175^220)+(b*175^n - code (n+1) xs))=some ((a+b)*175^n - ((x:Int)*175^220+code (n+1) xs));congr 1
    rw[an2];generalize a*175^n=p;generalize b*175^n=q;generalize (x:Int)*175^220=r;lia
inductive tT(n:Nat)(w:Nat->Nat->Wo):210 (Int × List Nat)->Prop
 | no (h: ∀g∈mC n,lM w g=none):tT n w none
 | yes (v:Int) (h:List Nat) (m:h∈mC n) (e:lM w h=some v) (b: ∀g∈mC n,∀u,lM w g=some u->u < v\/(u=v/\code (n+1) h<=code (n+1) g)):tT n w (some (v,h))
def Ih{v u c d P:Int}(r:0<=c)(D:c < P)(E:0<=d)(F:d < P)(h:u*P - d<=v*P - c):u < v\/(u=v/\c<=d):=by
 rcases Int.lt_trichotomy u v with z | z | z
 . exact .inl z
 . subst z;exact .inr ⟨rfl,by lia⟩
 . have p:(v+1)*P<=u*P:=ag9 102 102;rw[an2,au5] at p;lia
def qr(m:h∈mC n):0<=code (n+1) h/\code (n+1) h < 175^n:=by
 have:=i8 (B:=n+1) (h:=h) fun x i=>av7 (nv m x i);rw[cE m] at this;push_cast at this
 exact this
def Ce(h:ev (wr n w) (KH n)=none):tT n w none:= .no fun g m=>by
 rw[t8] at h;have:=kJ.mp h _ (ad3.mpr ⟨g,m,rfl⟩);unfold lM at this;rw[nj n w g 1 (by rw[cE m];lia) 104] at this;cases e:lM w g with
 | none=>rfl
 | some v=>unfold lM at e;rw[e] at this;cases this
def Cd(h:ev (wr n w) (KH n)=some T): ∃v g,tT n w (some (v,g))/\T=v*175^n - code (n+1) g:=by
 rw[t8] at h;obtain⟨g,m,e⟩:=ad3.mp (nE h);unfold lM at e;rw[nj n w g 1 (by rw[cE m];lia) 104] at e;cases o:lM w g with
 | none=>unfold lM at o;rw[o] at e;cases e
 | some v=>
  have L:=o;unfold lM at L;rw[L] at e;have O:v*175^n - code (n+1) g=T:=215 e;refine⟨v,g,.yes v g m o fun W N u F=>?_,O.symm⟩;have P:some (u*175^n - code (n+1) W)∈(mC n).map (lM (wr n w)):=ad3.mpr ⟨W,N,by
   unfold lM at F ⊢;rw[nj n w W 1 (by rw[cE N];lia) 104,F];rfl⟩
  have:=FE h P;rw[<-O] at this;obtain⟨a,b⟩:=qr m;obtain⟨c,d⟩:=qr N;exact Ih a b c d this
abbrev Rs:=Int × List Nat
structure InR(n:Nat)(r:Rs):Prop where
 l:r.2.length=n
 b: ∀x∈r.2,x<=n
def Kx(h:tT n w (some r)):InR n r:=by
 cases h with
 | yes v h m e b=>exact⟨cE m,nv m⟩
def Cc(h:tT n w r)(h':tT n w r'):r=r':=by
 cases h with
 | no h=>cases h' with
  | no _=>rfl
  | yes v g m e b=>rw[h g m] at e;cases e
 | yes v g m e b=>cases h' with
  | no h=>rw[h g m] at e;cases e
  | yes v' g' m' e' b'=>
   have k:=b g' m' v' e';have U:=b' g m v e;have A:v=v':=by lia
   subst A;have H:code (n+1) g=code (n+1) g':=by lia
   rw[code_inj (by rw[cE m,cE m']) (fun x i=>av7 (nv m x i)) (fun x i=>av7 (nv m' x i)) H]
def m7(B:Int):Nat->Int->List Int
 | 0,_=> []
 | k+1,x=>x % B::m7 B k (x / B)
def qX(S:0 < B)(v:Int): ∀(n:Nat) (h:List Nat),h.length=n->(∀x∈h,x < B)->m7 B n (code B h - v*(B:Int)^n)=h.reverse.map Int.ofNat
 | 0,[],_,_=>rfl
 | n+1,h,l,hx=>by
  have Q:h≠ []:=fun z=>by rw[z] at l;cases l
  obtain⟨o,x,e⟩: ∃o x,h=o++ [x]:=⟨h.dropLast,h.getLast Q,(at4 Q).symm⟩
  subst e;have u:o.length=n:=by rw[ac6] at l;simpa using l
  have G:=hx x 111;have j:code B (o++ [x]) - v*(B:Int)^(n+1)=(x:Int)+(code B o - v*(B:Int)^n)*(B:Int):=by
   rw[rp,Int.pow_succ,Int.sub_mul,Int.mul_assoc];lia
  have E:(B:Int)≠0:=by lia
  rw[m7,j,Int.add_mul_emod_self_right,Int.emod_eq_of_lt 102 102,Int.add_mul_ediv_right _ _ E,Int.ediv_eq_zero_of_lt 102 102,Int.zero_add,qX S v n o u fun y k=>hx y (af5 _ k)];simp
end rH
namespace qp
open PySem L2
def BA(h:Q 0xFCA86420 {s with toks:=235+1}):218 105 A (pyHash .none) Q E s:=by
 unfold pyHash;have u: [221].any Value.onHeap=false:=rfl;refine aa8 ?_;rw[cRoomFor,if_neg (by rw[u];exact ab9)];refine ab0 ?_;refine aa8 (an3 (typeIs_none s) F.slot_NoneType_hash.lookup ?_);show 218 _ _ (if (some (Value.builtin "NoneType.__hash__")==some 221)=true then _ else _) Q E s;rw[if_neg (by rw[beq_builtin_none];exact ab9)];refine aa8 (an3 (typeIs_none s) F.slot_NoneType_hash.lookup ?_);show 218 _ _ (callSpecialIfBoundUnlessNone? 221 "__hash__" _ >>=_) Q E s;refine aa8 (wpAny_callSpecialIfBoundUnlessNone?_slot (typeIs_none s) F.slot_NoneType_hash (ai4 F.slot_NoneType_hash (typeIs_none s) F.entry_NoneType_hash (show 218 _ _ (do ret (<-mkInt 0xFCA86420)) _ _ s from wpAny_ret_mkInt ?_) (F.args_NoneType_hash_1 _)));show 218 _ _ (if (decide (-(2:Int)^63<=0xFCA86420) && decide ((0xFCA86420:Int) < 2^63))=true then _ else _) Q E _;rw[if_pos 104];exact ab0 h
def ZL:210 Int->212->Bool
 | none,.none=>true
 | none,_=>false
 | some i,v=>v.isInt i
def R8:210 Int->Int
 | none=>0xFCA86420
 | some i=>hashInt i
def gO(h:ZL k v=true):(k=none/\v= .none)\/ ∃i t,k=some i/\v= .int i t:=by
 cases k with
 | none=>cases v <;> first | exact .inl ⟨rfl,rfl⟩ | cases h
 | some i=>obtain⟨t,e⟩:=Value.isInt_shape (show v.isInt i=true from h);exact .inr ⟨i,t,rfl,e⟩
def optKind(prog:214)(w:237):PySem.KeyKind prog w (210 Int) where
 is:=ZL
 hash:=R8
 inj:=fun v a b f d=>by
  rcases gO f with ⟨rfl,rfl⟩ | ⟨i,t,rfl,rfl⟩
  . rcases gO d with ⟨rfl,_⟩ | ⟨j,u,rfl,e⟩
    . rfl
    . cases e
  . rcases gO d with ⟨rfl,e⟩ | ⟨j,u,rfl,e⟩
    . cases e
    . injection e with e1 _;rw[e1]
 byValue:=fun k v h=>by rcases gO h with ⟨rfl,rfl⟩ | ⟨i,t,rfl,rfl⟩ <;> rfl
 pyHash:=fun y h=>by
  rcases gO y with ⟨rfl,rfl⟩ | ⟨i,t,rfl,rfl⟩
  . exact BA h
  . exact wpAny_pyHash_int h
 eqBool:=fun m y h=>by
  rcases gO m with ⟨rfl,rfl⟩ | ⟨i,t,rfl,rfl⟩
  . rcases gO y with ⟨rfl,rfl⟩ | ⟨j,u,rfl,rfl⟩
    . exact SeqAt.EqAt.same _ _ _ _ _ 195
    . exact SeqAt.EqAt.none_int _ _ _ _ _ _ 195
  . rcases gO y with ⟨rfl,rfl⟩ | ⟨j,u,rfl,rfl⟩
    . exact SeqAt.EqAt.int_none _ _ _ _ _ _ 195
    . exact wpAny_eqBool_int (by
        have e:decide (some i=some j)=(i==j):=by
         by_cases c:i=j
         . subst c;simp
         . rw[ae8 (fun z=>c (Option.some.inj z))];exact(ai3.mpr c).symm
        rw[e] at h;exact h)
 «strs» :=fun k x t v h=>by rcases gO h with ⟨_,e⟩ | ⟨_,_,_,e⟩ <;> cases e
abbrev SK:=List Int × Int × List (210 Int)
def jX(prog:214)(w:237)(h:Heap)(k:SK)(a:Addr):Prop:= ∃o n D t d,h.get? a=some o/\o.cls= .type "tuple"/\o.data= .seq #[.ref D,.int k.2.1 t,.ref d] n/\IsTupleKey (intKind prog w) h k.1 D/\IsTupleKey (optKind prog w) h k.2.2 d
def rW(prog:214)(w:237)(k:SK):Int:=reduceHash (Builtin.Tuple.tupleHashOf [tupleKeyHash (intKind prog w) k.1,hashInt k.2.1,tupleKeyHash (optKind prog w) k.2.2])
section
variable{prog:214}{w:237}{A:244}{E:212->211->Prop}{s:211}
def jX.typeIs(x:jX prog w s.heap k a):s.TypeIs 190 "tuple":=let ⟨o,_,_,_,_,ho,hc,_⟩:=x;⟨o,ho,hc⟩
def jX.inj(i:jX prog w h x a)(k:jX prog w h y a):x=y:=by
 obtain⟨o,n,F,t,g,z,_,D,d,f⟩:=i;obtain⟨b,U,p,v,r,j,_,q,c,u⟩:=k;obtain rfl:o=b:=215 (z.symm.trans j);rw[D] at q;simp only [Data.seq.injEq,List.toArray_inj,Array.mk.injEq,List.cons.injEq,Value.ref.injEq,Value.int.injEq,and_true] at q;obtain⟨⟨rfl,⟨e,_⟩,rfl⟩,_⟩:=q;exact Prod.ext (d.inj c) (Prod.ext e (f.inj u))
def jX.keeps{es ep}(x:jX prog w h k a)(y:h.get? d=some o)(hd:o.data= .dict es ep)(p:Heap.SameBut d h h'):jX prog w h' k a:=by
 obtain⟨b,n,D,t,e,j,m,q,f,g⟩:=x;have I:a≠d:=by
  rintro rfl
  obtain rfl:b=o:=215 (j.symm.trans y);rw[hd] at q;exact nomatch q
 exact⟨b,n,D,t,e,(p.2 a I).trans j,m,q,f.keeps y hd p,g.keeps y hd p⟩
def HU(m:A.units+1 < cLine)(G:jX prog w s.heap k a)(h:Q (rW prog w k) {s with toks:=s.toks+(k.1.length+k.2.2.length+4)}):
  218 105 A (pyHash 190) Q E s:=by
 have T:=G.typeIs;obtain⟨p,b,q⟩:=k;obtain⟨o,n,D,t,d,x,_,H,f,g⟩:=G;unfold pyHash;first | unfold pyHashByItsType | skip
 first | refine aa8 (wpAny_cRoomFor_or (.inr 102) ?_) | skip
 refine aa8 (an3 T F.slot_tuple_hash.lookup ?_);show 218 _ _ (if (some (Value.builtin "tuple.__hash__")==some 221)=true then _ else _) Q E s;rw[if_neg (by rw[beq_builtin_none];exact ab9)];refine aa8 (an3 T F.slot_tuple_hash.lookup ?_);show 218 _ _ (callSpecialIfBoundUnlessNone? 190 "__hash__" _ >>=_) Q E s;refine aa8 (wpAny_callSpecialIfBoundUnlessNone?_slot T F.slot_tuple_hash (ai4 F.slot_tuple_hash T F.entry_tuple_hash ?_ (F.args_tuple_hash_1 _)));show 218 _ _ (Builtin.Tuple.tupleItemsOf 190 >>=_) _ _ s;refine aa8 (wpAny_tupleItemsOf x H ?_);refine aa8 ?_;rw[<-Array.forIn_toList];show 218 _ _ (forIn [226 D,Value.int b t,226 d] _ _) _ _ s;have P:A.in1.units < cLine:=au8 (knd:=intKind prog w) m;rw[ai8];refine aa8 (aa8 (wpAny_pyHash_tuple P f 204));dsimp only;rw[ai8];refine aa8 (aa8 (wpAny_pyHash_int 204));dsimp only;rw[ai8];refine aa8 (aa8 (wpAny_pyHash_tuple P g 204));dsimp only;rw[aq7];refine ab0 ?_;show 218 _ _ (retInt (Builtin.Tuple.tupleHashOf [tupleKeyHash (intKind prog w) p,hashInt b,tupleKeyHash (optKind prog w) q])) _ _ _;generalize hz:Builtin.Tuple.tupleHashOf [tupleKeyHash (intKind prog w) p,hashInt b,tupleKeyHash (optKind prog w) q]=z;refine wpAny_ret_mkInt ?_;show 218 _ _ (if (decide (-(2:Int)^63<=z) && decide (z < 2^63))=true then _ else _) Q E _;have e:rW prog w (p,b,q)=reduceHash z:=by unfold rW;rw[hz]
 rw[e] at h;unfold reduceHash at h;have S:235+(p.length+1)+1+(q.length+1)+1=235+(p.length+q.length+4):=by lia
 by_cases r:(decide (-(2:Int)^63<=z) && decide (z < 2^63))=true
 . rw[if_pos r];rw[if_pos r] at h;refine ab0 ?_;dsimp only at h ⊢;rw[S];exact h
 . rw[if_neg r];rw[if_neg r] at h;refine aa8 (ak3 204);dsimp only at h ⊢;rw[S];exact h
def wN(n:A.units < cLine)(G:jX prog w s.heap x a)(l:jX prog w s.heap y b)(h:P (.done (.ret (.bool (decide (x=y))))) s):
  218 105 A (Builtin.«tuple.__eq__» ⟨[.ref a,.ref b],[]⟩) P E s:=by
 have B:=l.typeIs;obtain⟨p,i,q⟩:=x;obtain⟨I,Q,J⟩:=y;obtain⟨N,L,D,t,d,C,_,v,f,g⟩:=G;obtain⟨O,M,R,u,j,r,_,H,e,o⟩:=l;show 218 _ _ (isInstance (.ref b) (.type "tuple") >>=_) _ _ s;refine aa8 (at6 B isSubtype_tuple_tuple ?_);simp only [am3,ag1,ak0];refine aa8 (wpAny_tupleItemsOf C v ?_);refine aa8 (wpAny_tupleItemsOf r H ?_);refine aa8 ?_;show 218 _ _ (forIn [(226 D,226 R),(Value.int i t,Value.int Q u),(226 d,226 j)] _ _) _ _ s;rw[ai8];refine aa8 (aa8 (wpAny_eqBool_tuple n f e ?_));by_cases F:p=I
 . subst F;rw[af3 rfl];simp only [am3,ag1,ak0];refine ab0 ?_;dsimp only;rw[ai8];refine aa8 (aa8 (wpAny_eqBool_int ?_));by_cases c:i=Q
   . subst c;rw[beq_self_eq_true];simp only [am3,ag1,ak0];refine ab0 ?_;dsimp only;rw[ai8];refine aa8 (aa8 (wpAny_eqBool_tuple n g o ?_));by_cases m:q=J
     . subst m;rw[af3 rfl] at h ⊢;simp only [am3,ag1,ak0];refine ab0 ?_;dsimp only;rw[aq7];exact ab0 (ab0 h)
     . rw[ae8 m];rw[ae8 (fun z=>m (ah4 (fun k:SK=>k.2.2) z))] at h;simp only [Bool.not_false,as8];exact aa8 (ab0 (ab0 (ab0 (ab0 h))))
   . rw[ai3.mpr c];rw[ae8 (fun z=>c (ah4 (fun k:SK=>k.2.1) z))] at h;simp only [Bool.not_false,as8];exact aa8 (ab0 (ab0 (ab0 (ab0 h))))
 . rw[ae8 F];rw[ae8 (fun z=>F (ah4 (fun k:SK=>k.1) z))] at h;simp only [Bool.not_false,as8];exact aa8 (ab0 (ab0 (ab0 (ab0 h))))
def RA(m:A.units+1 < cLine)(i:jX prog w s.heap x a)(k:jX prog w s.heap y b)(h:Q (decide (x=y)) s):
  218 105 A (eqBool 190 (.ref b)) Q E s:=by
 unfold eqBool;try with_reducible refine af6 ?_
 show 218 _ _ (if (226 a==226 b)=true then _ else _) Q E s;by_cases z:(Value.ref a==Value.ref b)=true
 . rw[if_pos z];have e:a=b:=by have:=eq_of_beq z;injection this
   subst e;obtain rfl:=i.inj k;exact aa8 (ak3 (ab0 195))
 . rw[if_neg z];exact aa8 (wpAny_richCompare_same_room (op:= .Eq) i.typeIs k.typeIs F.slot_tuple_eq
    (ai4 F.slot_tuple_eq i.typeIs F.entry_tuple_eq (wN (au8 (knd:=intKind prog w) m) i k ⟨_,rfl,(fun e=>nomatch e),al3 h⟩) (F.args_tuple_eq_2 _ _)) 102)
def mG{K:Type} [DecidableEq K]{knd:KeyKind prog w K}{O:List K}{Q:Bool->211->Prop}(m:Nat)(G:IsTupleKey knd s.heap O a)(h:Q true s):218 105 A (eqIsQuiet (m+1) 190) Q E s:=by
 have T:=G.typeIs;obtain⟨o,p,n,x,_,D,H⟩:=G;unfold eqIsQuiet;refine aa8 (an3 T F.slot_tuple_eq.lookup ?_);show 218 _ _ (isInstance 190 (.type "tuple") >>=_) _ _ s;refine aa8 (at6 T isSubtype_tuple_tuple ?_);simp only [am3,ag1,ak0];refine aa8 (ak4 x D ?_);refine aa8 ?_;show 218 _ _ (forIn p _ _) _ _ s;rw[<-Array.forIn_toList];refine wpAny_forIn_list _ (fun B r S=>r.1=none/\S=s/\ ∀v∈B,carriedByValue v=true) _ ?_ ?_ _ _ ⟨rfl,rfl,H.byValue⟩
 . rintro v B r S ⟨q,rfl,d⟩
   rw[eqIsQuiet_byValue _ (d v ac9)];refine aa8 204;simp only [am3,ag1,ak0];exact ab0 ⟨rfl,rfl,fun u z=>d u (ac0 _ z)⟩
 . rintro⟨y,i⟩ S ⟨q,rfl,_⟩
   simp only at q;subst q;exact ab0 h
def Du(G:jX prog w s.heap k a)(h:Q true s):218 105 A (eqIsQuiet 8 190) Q E s:=by
 have T:=G.typeIs;obtain⟨o,n,D,t,d,x,_,H,e,f⟩:=G;unfold eqIsQuiet;refine aa8 (an3 T F.slot_tuple_eq.lookup ?_);show 218 _ _ (isInstance 190 (.type "tuple") >>=_) _ _ s;refine aa8 (at6 T isSubtype_tuple_tuple ?_);simp only [am3,ag1,ak0];refine aa8 (ak4 x H ?_);refine aa8 ?_;show 218 _ _ (forIn #[226 D,Value.int k.2.1 t,226 d] _ _) _ _ s;rw[<-Array.forIn_toList];show 218 _ _ (forIn [226 D,Value.int k.2.1 t,226 d] _ _) _ _ s;rw[ai8];refine aa8 (aa8 (mG 6 e ?_));simp only [am3,ag1,ak0];refine ab0 ?_;dsimp only;rw[ai8,eqIsQuiet_byValue _ (show carriedByValue (Value.int k.2.1 t)=true from rfl)];refine aa8 (aa8 204);simp only [am3,ag1,ak0];refine ab0 ?_;dsimp only;rw[ai8];refine aa8 (aa8 (mG 6 f ?_));simp only [am3,ag1,ak0];refine ab0 ?_;dsimp only;rw[aq7];exact ab0 (ab0 h)
end
def jC(prog:214)(w:237):HeapKind prog w SK where
 is:=jX prog w
 hash:=rW prog w
 draws:=fun k=>k.1.length+k.2.2.length+4
 room:=fun A=>A.units+1 < cLine
 inj:=fun i l=>i.inj l
 keeps:=fun x y D n=>x.keeps y D n
 pyHash:=fun m E h=>HU m E h
 eqBool:=fun m i l h=>RA m i l h
 quiet:=fun E h=>Du E h
end qp
namespace qp
open PySem PySem.Spec L2 PyProof.Rows
abbrev SE:=SK × Addr × V
def vX(p:SE)(q:SK × Addr × 212):Prop:=p.1=q.1/\p.2.1=q.2.1/\RelV p.2.2 q.2.2
def WG(P:214)(w:237)(a:Addr)(xs:List SE):Heap->Prop:=fun h=>220<=208/\(a==sysModules)=false/\ ∃q,Paired vX xs q/\ ∃o Q v,h.get? a=some o/\o.ExactDict/\o.data= .dict Q v/\Q.toList=q.map (entryOfKey (jC P w))/\(q.map (·.1)).Nodup
def rZ(P:214)(w:237)(a:Addr)(xs:List SE):HO:= .ext (WG P w a xs)
def oV:210 Int->V
 | none=> .aO
 | some i=> .int i
def lz(H:Hp)(k:SK)(b:Addr):Prop:= ∃Q j,H b=some (.tup [.ref Q,.int k.2.1,.ref j])/\H Q=some (.tup (k.1.map V.int))/\H j=some (.tup (k.2.2.map oV))
structure GR(P:214)(w:237)(H:Hp)(a:Addr)(xs:List SE):Prop where
 h:H a=some (rZ P w a xs)
 k: ∀x∈xs,lz H x.1 x.2.1
def mX(xs:List SE)(k:SK):210 V:=(xs.find? fun x=>decide (x.1=k)).map (·.2.2)
def mZ(xs:List SE)(k:SK)(b:Addr)(v:V):List SE:=if (mX xs k).isSome then xs.map (fun x=>if x.1=k then(x.1,x.2.1,v) else x) else xs++ [(k,b,v)]
def Fi{O:List Int}: ∀{us:List 212},Vals (O.map V.int) us->ItemsAre (intKind P w) O us:=by
 induction O with
 | nil=>intro us r;cases r;exact .nil
 | cons i O ih=>
  intro us r;rw[ad4] at r;cases r with
  | cons h t=>
   obtain⟨G,rfl⟩:=h;exact .cons (by show Value.isInt i (.int i G)=true;simp [Value.isInt]) (ih t)
def Ey{O:List (210 Int)}: ∀{us:List 212},Vals (O.map oV) us->ItemsAre (optKind P w) O us:=by
 induction O with
 | nil=>intro us r;cases r;exact .nil
 | cons i O ih=>
  intro us r;rw[ad4] at r;cases r with
  | cons h t=>
   cases i with
   | none=>cases (show _=Value.none from h);exact .cons rfl (ih t)
   | some i=>
    obtain⟨G,rfl⟩:=h;exact .cons (by show Value.isInt i (.int i G)=true;simp [Value.isInt]) (ih t)
def lz.is(l:gG P w H h)(x:lz H k b):(jC P w).is h k b:=by
 obtain⟨Q,j,e,m,p⟩:=x;obtain⟨_,D,r,o,d,f,_,n,C⟩:=(show aX P w H h b (.tup [.ref Q,.int k.2.1,.ref j]) from l b _ e)
 obtain⟨_,A,z,y,a,q,_,u,s⟩:=(show aX P w H h Q (.tup (k.1.map V.int)) from l Q _ m)
 obtain⟨_,W,B,v,g,i,_,R,J⟩:=(show aX P w H h j (.tup (k.2.2.map oV)) from l j _ p)
 cases r with
 | cons q1 r=>cases r with
  | cons q2 r=>cases r with
   | cons q3 r=>
    cases r;cases (show _=Value.ref Q from q1);obtain⟨t,rfl⟩:=q2;cases (show _=Value.ref j from q3);exact⟨o,n,Q,t,j,d,f,C,⟨y,A.toArray,u,a,q,s,by simpa using Fi z⟩,⟨v,W.toArray,R,g,i,J,by simpa using Ey B⟩⟩
def DA(n:gG P w H h)(d:GR P w H a xs):220<=208/\(a==sysModules)=false/\ ∃s,Paired vX xs s/\h.DictOfH (jC P w) a s:=by
 obtain⟨⟨z,y,s,r,o,Q,v,g,j,C,B,A⟩,_,_⟩:=(show aX P w H h a (rZ P w a xs) from n a _ d.h)
 refine⟨z,y,s,r,o,Q,v,g,j,C,B,?_,A⟩;have f: ∀{l:List SE} {m:List (SK × Addr × 212)},Paired vX l m->(∀x∈l,lz H x.1 x.2.1)-> ∀x∈m,(jC P w).is h x.1 x.2.1:=by
  intro l m q;induction q with
  | nil=>intro _ x i;exact nomatch i
  | @cons p q ps qs hq t ih=>
   intro E x i;rcases ad8.mp i with e | i
   . subst e;have:=(E p 111).is n;rw[hq.1,hq.2.1] at this;exact this
   . exact ih (fun x i=>E x (ac0 _ i)) x i
 exact f r d.k
def yX(r:Paired vX xs ys)(k:SK):jT (mX xs k) ((atKey ys k).map (·.2)):=by
 induction r with
 | nil=>exact 242
 | @cons p q ps qs h t ih=>
  obtain⟨d,_,f⟩:=h;by_cases e:p.1=k
  . have H:q.1=k:=d.symm.trans e;have Q:atKey (q::qs) k=some q.2:=by simp [atKey,al5,H]
    have j:mX (p::ps) k=some p.2.2:=by simp [mX,al5,e]
    rw[Q,j];exact f
  . have H: ¬q.1=k:=fun z=>e (d.trans z);have Q:atKey (q::qs) k=atKey qs k:=by simp [atKey,al5,H]
    have j:mX (p::ps) k=mX ps k:=by simp [mX,al5,e]
    rw[Q,j];exact ih
def DV(r:Paired vX xs ys)(k:SK)(o:RelV v u):Paired vX (xs.map fun x=>if x.1=k then(x.1,x.2.1,v) else x) (ys.map (putAt k u)):=by
 induction r with
 | nil=>exact .nil
 | @cons p q ps qs h t ih=>
  rw[ad4,ad4];refine .cons ?_ ih;obtain⟨d,f,C⟩:=h;unfold putAt;by_cases e:p.1=k
  . rw[if_pos e,if_pos (d.symm.trans e)];exact⟨d,f,o⟩
  . rw[if_neg e,if_neg (fun z=>e (d.trans z))];exact⟨d,f,C⟩
def Ig(r:Paired vX xs ys)(k:SK)(o:RelV v u):Paired vX (mZ xs k b v) (storedH ys k b u):=by
 have e:(mX xs k).isSome=(atKey ys k).isSome:=by rw[(yX r k).l9,Option.isSome_map]
 unfold mZ storedH;rw[e];by_cases q:(atKey ys k).isSome=true
 . rw[if_pos q,if_pos q];exact DV r k o
 . rw[if_neg q,if_neg q];exact Paired.snoc r ⟨rfl,rfl,o⟩
def D1:(mZ xs k b v).length<=220+1:=by
 unfold mZ;split
 . rw[aa9];exact aw3 _
 . rw[ac6];exact ab6 _
def AR{R:SK->Addr->Prop}(h: ∀x∈xs,R x.1 x.2.1)(c:R k b): ∀x∈mZ xs k b v,R x.1 x.2.1:=by
 intro x i;unfold mZ at i;split at i
 . obtain⟨y,l,rfl⟩:=ad3.mp i;split
   . exact h y l
   . exact h y l
 . rcases ad2.mp i with z | z
   . exact h x z
   . rw[ab4.mp z];exact c
def wO(Z:A.units+2 < cLine)(I:Inv X pins σ H s)(d:GR X.prog X.w H a xs)(N:lz H k b)(B:xs.length < sizeLine)(R:RelV v r)(h: ∀S,Inv X pins σ (upd H a (rZ X.prog X.w a (mZ xs k b v))) S->Q () S):
  218 107 A (setItem 190 (.ref b) r) Q E s:=by
 obtain⟨z,M,T,p,C⟩:=DA I.aQ d;have l:T.length<=sizeLine:=by rw[<-Paired.length p];exact z
 have B:(mZ xs k b v).length<=sizeLine:=by have:=D1 (xs:=xs) (k:=k) (b:=b) (v:=v);lia
 refine wpAny_setItem_heap (knd:=jC X.prog X.w) (hsz:=l) (show A.in1.units+1 < cLine by have:A.in1.units=A.units+1:=rfl;lia) (N.is I.aQ) C fun W Y n=>h _ ?_;obtain⟨q,P,x,U,e,D,F,_,G⟩:=Y;have u:=Ig (b:=b) p k R;refine fS I (by rw[d.h];exact 242) n ⟨q,U⟩ ⟨⟨B,M,_,u,q,P,x,U,e,D,F,G⟩,⟨q,U⟩,fun m c f O=>?_⟩;obtain⟨g,j,V,L,o,J,i,t,y⟩:=f;exact⟨g,j,V,L,o,J,i,O _ t,y⟩
def DC(h:Heap)(c:sysModules < 231):aX P w H 151 h.objs.size (rZ P w h.objs.size []):=
 ⟨⟨af2 _,ai3.mpr (Ne.symm (af1 c)),[],.nil,_,#[],0,ac3 _ rfl,⟨rfl,rfl,rfl⟩,rfl,rfl,aj8⟩,⟨_,ac3 _ rfl⟩,fun d q f y=>by
  obtain⟨g,j,A,L,o,J,i,p,x⟩:=f;exact⟨g,j,A,L,o,J,i,y _ p,x⟩⟩
def La(h V Z:TE)(P:214)(w:237):TS:=fun D c H=>Z c H fun v l=>h c l fun x J=>V c J fun y O=> ∃a b g k,x= .ref a/\y= .ref b/\GR P w O a g/\lz O k b/\g.length < 208/\D.nx c (upd O a (rZ P w a (mZ g k b v)))
def Ip(m:X.A.units+2 < cLine)(C:PE X o td)(hi:PE X i ty)(G:PE X value tv)(n:swapsWith value (some (.Subscript o i pos')) pos.line X.env=pure false):
  PS X (.Assign [.Subscript o i pos'] value pos) (La td ty tv X.prog X.w):=by
 intro c s e H D I h;refine wpAny_Assign_Subscript (aV (G c s e H _ I h) fun r P ⟨v,l,Y,O,M⟩=>aV (C c P e l _ Y M) fun u Q ⟨x,J,f,j,g⟩=>aV (hi c Q e J _ f g) fun L q t=>?_) n;obtain⟨y,R,E,p,a,b,T,k,z,W,d,F,B,N⟩:=t;subst z;subst W;obtain rfl:u=Value.ref a:=j;obtain rfl:L=Value.ref b:=p;exact wO m E d F B O fun S Z=>⟨e,_,Z,N⟩
end qp
namespace bb
open PySem L2 LB LD PyProof.Rows
def top(i:Nat):Stmt:=PySem.Challenge.pw_hungwords_k36_what_a_step_costs.main.body.getD i (.Pass ⟨0,0,0,0⟩)
noncomputable abbrev jE:Stmt:=top 11
noncomputable abbrev sA:Stmt:=top 12
noncomputable abbrev lU:Stmt:=top 14
noncomputable abbrev gp:Stmt:=top 15
noncomputable abbrev iH:Stmt:=top 16
noncomputable abbrev kg:Stmt:=top 17
noncomputable abbrev wW:Stmt:=top 18
noncomputable abbrev og:Stmt:=top 19
noncomputable abbrev jG:Stmt:=top 21
noncomputable abbrev iK:Stmt:=top 22
noncomputable abbrev iL:Stmt:=top 23
noncomputable abbrev iI:Stmt:=top 24
noncomputable abbrev iM:Stmt:=top 26
noncomputable abbrev fw:Stmt:=top 27
noncomputable abbrev ki:Stmt:=top 28
noncomputable abbrev jF:Stmt:=top 29
noncomputable abbrev wX:Stmt:=top 30
noncomputable abbrev yU:Stmt:=top 31
noncomputable abbrev DK:Stmt:=top 32
noncomputable abbrev fq:Stmt:=top 33
noncomputable abbrev sr:Stmt:=top 35
noncomputable abbrev si:Stmt:=top 36
noncomputable abbrev iJ:Stmt:=top 37
noncomputable abbrev DL:Stmt:=top 38
noncomputable abbrev n9:Stmt:=top 39
noncomputable abbrev DM:Stmt:=top 40
noncomputable abbrev wZ:Stmt:=top 41
noncomputable abbrev sh:Stmt:=top 42
noncomputable abbrev sj:Stmt:=top 43
noncomputable abbrev kh:Stmt:=top 44
noncomputable abbrev w6:Stmt:=top 45
noncomputable abbrev wY:Stmt:=top 46
noncomputable abbrev uz:Stmt:=top 47
noncomputable abbrev sf:Stmt:=top 48
structure Txt(mg:Str->210 212):Prop where
 nD:mg "isinstance"=none
 len:mg "len"=none
 Vq:mg "enumerate"=none
 tup:mg "tuple"=none
 int:mg "int"=none
 bool:mg "bool"=none
 je:mg "range"=none
 lst:mg "list"=none
 dvm:mg "divmod"=none
 all:mg "all"=none
 str:mg "str"=none
 sum:mg "sum"=none
 zip:mg "zip"=none
 Qy:mg "sorted"=none
 max:mg "max"=none
 Yy:mg "dict"=none
def iC:aD ["stand","pile","ahead","ons","found"] ["stand"] (ae jE):=101
def j9:aD ["stand","word","pile","ahead","ons","high","on"] ["stand","word"] (ae sA):=101
def wQ:aD ["worths"] ["worths"] (ae lU):=101
def wU:aD ["worths"] ["worths"] (ae gp):=101
def AM:aD ["w","h"] ["w","h"] (ae iH):=101
def uv:aD ["w","scale"] ["w"] (ae kg):=101
def sd:aD ["base","many","scale","place"] ["base","many"] (ae wW):=101
def i5:aD ["number","base","many","found","place","figure"] ["number","base","many"] (ae og):=101
def iF:aD ["w","total","h"] ["w"] (ae jG):=101
def jD:aD ["w","joined","chosen","right","left","right_tied","left_tied","low","high","inner"] ["w","joined","chosen"] (ae iK):=101
def AN:aD ["n"] ["n"] (ae iL):=101
def qE:aD ["w","joined","chosen","right","right_tied","left","left_tied"] ["w","joined","chosen"] (ae iI):=101
def AO:aD ["stand"] ["stand"] (ae iM):=101
def fO:aD ["stand","word","pile","ahead","ons","bottomed","coming"] ["stand","word"] (ae fw):=101
def DF:aD ["w","lists"] ["w","lists"] (ae ki):=101
def ux:aD ["w","stand"] ["w","stand"] (ae jF):=101
def yR:aD ["w","stand","best"] ["w","stand"] (ae wX):=101
def DG:aD ["w","stand","step"] ["w","stand","step"] (ae yU):=101
def Nt:aD ["before","after"] ["before","after"] (ae DK):=101
def uu:aD ["w","stand"] ["w","stand"] (ae fq):=101
def n6:aD ["_law_script","_law_cells"] ["_law_script"] (ae sr):=101
def gN:aD ["_law_state","_law_many","_law_turn","_law_place","_law_cell","_law_digit","_law_stirred"] ["_law_state","_law_many"] (ae si):=101
def yS:aD ["_law_found","_law_due_here"] ["_law_found","_law_due_here"] (ae iJ):=101
def wR:aD ["_law_stand","_law_pile","_law_coming","_law_ons","_law_more"] ["_law_stand"] (ae DL):=101
def lR:aD ["_law_stand","_law_word","_law_pile","_law_coming","_law_ons","_law_on"] ["_law_stand","_law_word"] (ae n9):=101
def DD:aD ["_law_stand","_law_pile","_law_coming","_law_ons"] ["_law_stand"] (ae DM):=101
def j7:aD ["_law_stand","_law_known","_law_waiting","_law_found","_law_here","_law_word","_law_behind_here"] ["_law_stand"] (ae wZ):=101
def iE:aD ["_law_state","_law_many","_law_most","_law_stand","_law_steps","_law_turn","_law_some"] ["_law_state","_law_many","_law_most"] (ae sh):=101
def fm:aD ["_law_state","_law_many","_law_way","_law_none","_law_rows","_law_word","_law_row","_law_on","_law_some"] ["_law_state","_law_many"] (ae sj):=101
def uw:aD ["_law_w","_law_h","_law_some"] ["_law_w","_law_h"] (ae kh):=101
def j8:aD ["_law_w","_law_some","_law_found","_law_h","_law_worth_here"] ["_law_w","_law_some"] (ae w6):=101
def i4:aD ["_law_w","_law_stand","_law_word","_law_told_here","_law_caught","error","_law_others"] ["_law_w","_law_stand","_law_word"] (ae wY):=101
def DE:aD ["_law_w","_law_stand","_law_word","_law_ahead","_law_behind_here"] ["_law_w","_law_stand","_law_word"] (ae uz):=101
def iD:aD ["_law_script","_law_state","_law_turn","_law_many","_law_stand","_law_w","_law_odd","_law_due_here","_law_again","_law_sure","_law_found"] ["_law_script"] (ae sf):=101
end bb
namespace bb
open PySem PySem.Spec L2 LB LD PyProof.Rows rH
def ic{c A B:Prop} [Decidable c](m:c)(h:A):if c then A else B:=by rw[if_pos m];exact h
def gQ{c A B:Prop} [Decidable c](m: ¬c)(h:B):if c then A else B:=by rw[if_neg m];exact h
def cV:Wo->Dt
 | none=> .aO
 | some v=> .int v
def lN:DN:=fun t Q=> ∃L:List Wo,t= [.lst (L.map cV)]/\Q (cV (jd L))
def qR:DN:=fun t Q=> ∃L:List Wo,t= [.lst (L.map cV)]/\L.length<=208/\Q (cV (gu L))
def yJ(L:List Wo):(L.map cV).all eM=true:=by
 induction L with
 | nil=>rfl
 | cons x xs ih=>rw[ad4,aw5,ih,Bool.and_true];cases x <;> rfl
def KW(L:List Wo):inD .aO (L.map cV)=decide (none∈L):=by
 induction L with
 | nil=>rfl
 | cons x xs ih=>
  unfold inD at ih ⊢;rw[ad4,ao0,ih];cases x with
  | none=>simp [cV,Me]
  | some v=>simp [cV,Me]
def nW: ∀{L:List Wo},none∈L->jd L=none
 | x::xs,h=>by
  rcases ad8.mp h with e | e
  . rw[<-e];rfl
  . rw[jd,nW e,Ak]
def nX: ∀(L:List Wo),none∉L-> ∃S:List Int,L=S.map some/\jd L=some S.sum
 | [],_=>⟨[],rfl,rfl⟩
 | none::xs,h=>213 ac9 h
 | some v::xs,h=>by
  obtain⟨S,j,p⟩:=nX xs fun z=>h (ac0 _ z);exact⟨v::S,by rw[j];rfl,by rw[jd,p];rfl⟩
def yI(S:List Int):(S.map some).map cV=S.map Dt.int:=by rw[ae6];rfl
def iB(L:List Wo):List Int:=L.filterMap id
def Xj:Dt->Bool
 | .aO=>false
 | _=>true
def CU(L:List Wo):((L.map cV).filter Xj).map id=(iB L).map Dt.int:=by
 induction L with
 | nil=>rfl
 | cons x xs ih=>
  rw[List.map_id] at ih ⊢;cases x with
  | none=>exact ih
  | some v=>show Dt.int v::((xs.map cV).filter Xj)=_;rw[ih];rfl
def JL(h:iB L= []):gu L=none:=kJ.mpr fun x i=>by
 cases x with
 | none=>rfl
 | some v=>
  have:v∈iB L:=am2.mpr ⟨some v,i,rfl⟩;rw[h] at this;cases this
def JM(d:m∈iB L)(f: ∀a∈iB L,a<=m):gu L=some m:=by
 induction L generalizing m with
 | nil=>cases d
 | cons x xs ih=>
  cases x with
  | none=>exact ih d f
  | some v=>
   have e:iB (some v::xs)=v::iB xs:=rfl;rw[e] at d f;show mx (some v) (gu xs)=some m;cases p:gu xs with
   | none=>
    have n:iB xs= []:=by
     cases A:iB xs with
     | nil=>rfl
     | cons a as=>
      have O:a∈iB xs:=by rw[A];exact ac9
      obtain⟨y,k,R⟩:=am2.mp O;have:=kJ.mp p y k;rw[this] at R;cases R
    rw[n] at d;cases ab4.mp d;rfl
   | some u=>
    have o:some u∈xs:=nE p;have g:u∈iB xs:=am2.mpr ⟨some u,o,rfl⟩;show some (max v u)=some m;have D:=f v ac9;have h:=f u (ac0 _ g);rcases ad8.mp d with z | z
    . rw[z] at h ⊢;congr 1;omega
    . have:=ih z fun a i=>f a (ac0 _ i);rw[p] at this;cases this;congr 1;omega
section
variable{P:214}{w:237}{K:207}{mg:Str->210 212}{base:Heap}
def mI(F:eW K "together" "together" lU f fd)(T:Txt mg):aU P w K mg base dy 1 f fd ["worths"] (bT lN):=by
 refine mq F wQ 192 (fun r A X s H E o=>⟨_,(ao (cZ (HJ fT (dv 0))
 (aG (aL fT))
 bE)
 (aG (aL (Mk rfl T.sum 149)))),fun t G h=>?_⟩)
 . obtain⟨L,rfl,_⟩:=h;rfl
 . obtain⟨L,rfl,q⟩:=h;refine⟨_,rfl,⟨_, .inl rfl,rfl,yJ L,?_⟩⟩;rw[KW];by_cases c:none∈L
   . rw[af3 c];rw[nW c] at q;exact⟨true,rfl,bJ q⟩
   . rw[ae8 c];obtain⟨S,j,p⟩:=nX L c;rw[p] at q;exact⟨false,rfl,bo ⟨_,rfl,S,by rw[j,yI],q⟩⟩
def uQ(F:eW K "greatest" "greatest" gp f fd)(T:Txt mg):aU P w K mg base dy 1 f fd ["worths"] (bT qR):=by
 refine mq F wU 192 (fun p A X s H E o=>⟨_,(aG (aL (PJ rfl T.max (aa (Ov.ev (cm (N:= ["worth"]) (nt:=1) (js:= []) ⟨rfl,by decide+kernel,by decide,rfl,by decide+kernel,(by show∀x∈(_:List 131),x.2=224->(ae gp).names.lookup x.1=some .cell\/(ae gp).names.lookup x.1=some .free;decide+kernel)⟩ rfl (mi (dv 0)) (fun _ _ _ _ _=>az (i:=0) (show(["worth"]:List Str).Nodup by decide+kernel) rfl 103) bB aY (fun _ _ _ _ _=>zM (rQ (dv 0))) (fun _ _ _ _ _=>(dv 0)))) af)))),fun t G h=>?_⟩)
 . obtain⟨L,rfl,_⟩:=h;rfl
 . obtain⟨L,rfl,l,q⟩:=h;refine⟨_,rfl,⟨_,rfl,by rw[aa9];exact l,Xj,id,fun d D=>?_,?_⟩⟩
   . obtain⟨x,_,rfl⟩:=ad3.mp D;refine⟨⟨_,rfl,rfl⟩,?_⟩;cases x with
     | none=>exact⟨_,rfl,false,rfl,rfl,fun z=>by cases z⟩
     | some v=>exact⟨_,rfl,true,rfl,rfl,fun z=>⟨_,rfl,rfl⟩⟩
   . rw[CU];refine⟨_,rfl,fun z=>?_,fun m e g=>?_⟩
     . rw[JL z] at q;exact q
     . rw[JM e g] at q;exact q
end
def kq(b:Int)(m:Nat):List Int:=(219 (m+1)).map fun i=>b^i
def C4:DN:=fun t Q=> ∃(b:Int) (m:Nat),t= [.int b,.int (m:Int)]/\0<=b/\b < 2^60/\m<=60/\Q (.lst ((kq b m).reverse.map .int))
def shr(B:Int):Nat->Int->Int
 | 0,x=>x
 | k+1,x=>shr B k x / B
def Dz(B:Int): ∀(k:Nat) (x:Int),shr B k (x / B)=shr B (k+1) x
 | 0,_=>rfl
 | k+1,x=>by rw[shr,Dz B k x];rfl
def qW(B:Int): ∀(k:Nat) (x:Int),m7 B (k+1) x=m7 B k x++ [shr B k x % B]
 | 0,_=>rfl
 | k+1,x=>by rw[m7,qW B k (x / B),Dz,m7];rfl
def vz(B:Int): ∀(k:Nat) (x:Int),(m7 B k x).length=k
 | 0,_=>rfl
 | k+1,x=>by rw[m7,ad6,vz B k]
def vy:DN:=fun t Q=> ∃(x b:Int) (m:Nat),t= [.int x,.int b,.int (m:Int)]/\0 < b/\b < 2^60/\m<=60/\Q (.lst ((m7 b m x).reverse.map .int))
inductive UnI(b:Int)(m:Nat)(i:Nat)(δ:List Sl):Prop
 | mk (s:Sl) (h1:δ= [.im (.int b),.im (.int (m:Int)),.ow ((kq b i).map .int),s]) (h2:s.cc=false)
inductive FiI(x b:Int)(m:Nat)(i:Nat)(δ:List Sl):Prop
 | mk (s4 s5:Sl) (h1:δ= [.im (.int (shr b i x)),.im (.int b),.im (.int (m:Int)),.ow ((m7 b i x).map .int),s4,s5]) (h2:s4.cc=false) (h3:s5.cc=false)
def qG(b:Int)(m:Nat):kq b (m+1)=kq b m++ [b^(m+1)]:=by
 unfold kq;rw[List.range_succ,ad1];rfl
section
variable{P:214}{w:237}{K:207}{mg:Str->210 212}{base:Heap}
def EA(F:eW K "units" "units" wW f fd)(T:Txt mg):aU P w K mg base dy 1 f fd ["base","many"] (bT C4):=by
 refine mq F sd 192 (fun p A X s H E o=>⟨_,(ao (iG 2 sd.nd (ky (aa ay af)))
 (ao (jm rfl (mf T.je 155) (gR 3 sd.nd)
 (aG (eA (cH 2 (pv 2) (aa (zY (Gi 2 (pv 2) (ju ay)) (dv 0)) af)))) ak8)
 (ao (eA (q0 2 (pv 2)))
 (aG (kc 2 (aL (dv 2))))))),fun t G h=>?_⟩)
 . obtain⟨b,m,rfl,_⟩:=h;rfl
 . obtain⟨b,m,rfl,N,Q,S,q⟩:=h;refine⟨by show 1<=sizeLine;decide,⟨_,rfl,rfl⟩,?_⟩;refine⟨_,rfl,_,rfl,by lia,by lia,?_⟩;refine dR (UnI b m) ⟨.no,by rw[show kq b 0= [1] from by simp [kq]];rfl,rfl⟩ (fun i d j J I L c M=>?_) (fun j I=>?_)
   . obtain⟨s,rfl,n⟩:=I;have B:i < m:=by have:=(ac1.mp J).1;rw[aa9,af0] at this;lia
     refine⟨⟨_,rfl,n⟩,?_⟩;have z:jS ((kq b i).map Dt.int) (-1)=some (.int (b^i)):=by
      cases i with
      | zero=>rw[show kq b 0= [1] from by simp [kq]];rw[Int.pow_zero];exact pL (α:=Dt) [] _
      | succ i=>rw[qG,ad1];exact pL _ _
     refine⟨⟨_,rfl⟩,⟨_,rfl⟩,_,rfl,_,_,_,rfl,rfl,z,_,rfl,?_⟩;refine⟨_,_,rfl,rfl,.inr 176,_,_,rfl,rfl,?_,c _ ⟨.im d,?_,rfl⟩⟩
     . rw[aa9];exact ae2 (show(kq b i).length < 100 by rw[kq,aa9,af0];lia) 104
     . rw[qG,ad1,Int.pow_succ];rfl
   . obtain⟨s,rfl,n⟩:=I;rw[aa9,af0,ai6];refine 203;rw[List.map_reverse] at q;exact⟨_,rfl,q⟩
def xo(F:eW K "figures" "figures" og f fd)(T:Txt mg):aU P w K mg base dy 1 f fd ["number","base","many"] (bT vy):=by
 refine mq F i5 192 (fun p A X s H E o=>⟨_,(ao (iG 3 i5.nd (ky af))
 (ao (jm rfl (mf T.je (aa (dv 2) af)) (gR 4 i5.nd)
 (ao (kd (Gk T.dvm (aa (dv 0) 155)) (FK 0 5 rfl i5.nd))
 (aG (eA (cH 3 (pv 3) (aa (dv 5) af))))) ak8)
 (ao (eA (q0 3 (pv 3)))
 (aG (kc 3 (aL (dv 3))))))),fun t G h=>?_⟩)
 . obtain⟨x,b,m,rfl,_⟩:=h;rfl
 . obtain⟨x,b,m,rfl,J,Q,S,q⟩:=h;refine⟨by show 0<=sizeLine;decide,⟨_,rfl,rfl⟩,?_⟩;refine⟨_,rfl,_,rfl,by lia,by lia,?_⟩;refine dR (FiI x b m) ⟨.no, .no,rfl,rfl,rfl⟩ (fun i d j L I N c O=>?_) (fun j I=>?_)
   . obtain⟨M,Y,rfl,B,v⟩:=I;have C:i < m:=by have:=(ac1.mp L).1;rw[aa9,af0] at this;lia
     refine⟨⟨_,rfl,B⟩,?_⟩;refine⟨_,rfl,_,rfl,_,_,rfl,J,by lia,_,_,rfl,⟨_,rfl,rfl⟩,⟨_,rfl,v⟩,?_⟩;refine⟨⟨_,rfl⟩,_,rfl,_,_,rfl,rfl,?_,c _ ⟨.im d,.im (.int (shr b i x % b)),?_,rfl,rfl⟩⟩
     . rw[aa9,vz];exact ae2 (show i < 100 by lia) 104
     . rw[qW,ad1];rfl
   . obtain⟨M,Y,rfl,B,v⟩:=I;rw[aa9,af0,ai6];refine 203;rw[List.map_reverse] at q;exact⟨_,rfl,q⟩
end
def U2(p:Nat × Nat):Dt:= .tup [.int (p.1:Int),.int (p.2:Int)]
def fW(n:Nat):List (Nat × Nat):=(219 (n - 1)).flatMap fun k=>(219 (n - (k+1))).map fun j=>(j+1,j+1+(k+1))
def vR:DN:=fun t Q=> ∃n:Nat,t= [.int (n:Int)]/\n<=60/\Q (.lst ((fW n).map U2))
def u5{α N:Type}{f:α->List N}{c:Nat}: ∀{l:List α},(∀x∈l,(f x).length<=c)->(l.flatMap f).length<=l.length*c
 | [],_=>by simp
 | x::l,h=>by
  rw[as6,ac6,ad6,Nat.succ_mul];have:=u5 (l:=l) fun y k=>h y (ac0 _ k);have:=h x ac9;omega
def Ag(h:n<=60):(fW n).length < 3601:=by
 have:=u5 (f:=fun k=>(219 (n - (k+1))).map fun j=>(j+1,j+1+(k+1))) (c:=60) (l:=219 (n - 1)) fun x _=>by rw[aa9,af0];omega
 rw[af0] at this;have e:(n - 1)*60<=60*60:=Nat.mul_le_mul_right _ 163;unfold fW;omega
def wF(n:Nat):Dt->List Dt
 | .int v=>(219 (n - v.toNat)).map fun j=>U2 (j+1,j+1+v.toNat)
 | _=> []
def wf1(v:Int):Dt->Dt
 | .int u=> .tup [.int u,.int (u+v)]
 | _=> .aO
def CZ(n:Nat):((219 ((n:Int) - 1).toNat).map fun k=>Dt.int (1+(k:Nat))).flatMap (wF n)=(fW n).map U2:=by
 unfold fW;rw[List.flatMap_map,List.map_flatMap,show((n:Int) - 1).toNat=n - 1 by omega];congr 1
 funext k
 show(219 (n - (1+(k:Int)).toNat)).map _=_;rw[show(1+(k:Int)).toNat=k+1 by omega,ae6];rfl
section
variable{P:214}{w:237}{K:207}{mg:Str->210 212}{base:Heap}
def xq(F:eW K "by_width" "by_width" iL f fd)(T:Txt mg):aU P w K mg base dy 1 f fd ["n"] (bT vR):=by
 refine mq F AN 192 (fun p A X s H E o=>⟨_,(aG (aL (Ov.ev (Jg 1 (N:= ["width","low","n"]) (nt:=2) (js:= [0]) ⟨rfl,by decide+kernel,by decide,rfl,by decide+kernel,(by show∀x∈(_:List 131),x.2=224->(ae iL).names.lookup x.1=some .cell\/(ae iL).names.lookup x.1=some .free;decide+kernel)⟩ rfl
 (iT T.je (aa ay 149)) (fun _ _ _ _ _=>az (i:=0) (show(["width","low","n"]:List Str).Nodup by decide+kernel) rfl 103) bB aY 141 (fun _ _ _ _ _=>(iT T.je (aa ay (aa (dY (gy (dv 2) (dv 0)) ay) af)))) (fun _ _ _ _ _=>az (i:=1) (show(["width","low","n"]:List Str).Nodup by decide+kernel) rfl 103) BG aY 141 (fun _ _ _ _ _=>(ba (aa (dv 1) (aa (dY (dv 1) (dv 0)) af)))))))),fun t G h=>?_⟩)
 . obtain⟨n,rfl,_⟩:=h;rfl
 . obtain⟨n,rfl,r,q⟩:=h;refine⟨_,rfl,_,_,rfl,⟨by decide,by decide,by lia,by lia⟩,?_⟩;refine⟨wF n,?_,fun d D=>?_,?_⟩
   . rw[CZ,aa9];exact ae2 (Ag r) 104
   . obtain⟨k,I,rfl⟩:=ad3.mp D;have z:k < n - 1:=by have:=ak5.mp I;omega
     refine⟨⟨_,rfl,rfl⟩,?_⟩;simp only [Mq,as8];refine⟨_,rfl,_,rfl,_,_,rfl,rfl,_,_,rfl,rfl,_,_,rfl,⟨by decide,by decide,by lia,by lia⟩,fun _=>true,wf1 (1+(k:Int)),fun e y=>?_,?_⟩
     . obtain⟨j,_,rfl⟩:=ad3.mp y;refine⟨⟨_,rfl,rfl⟩,rfl,fun _=>?_⟩;exact⟨_,rfl,_,rfl,_,rfl,_,_,rfl,rfl,by show 2<=208;decide,rfl⟩
     . rw[ag6.mpr fun _ _=>rfl,ae6];show(219 (n - (1+(k:Int)).toNat)).map _=_;rw[show(1+(k:Int)).toNat=k+1 by omega,show((n:Int) - (1+(k:Int))+1 - 1).toNat=n - (k+1) by omega];refine ae0 fun j _=>?_;show Dt.tup [.int ((j+1:Nat):Int),.int ((j+1+(k+1):Nat):Int)]=Dt.tup [.int (1+(j:Int)),.int (1+(j:Int)+(1+(k:Int)))];rw[show((j+1:Nat):Int)=1+(j:Int) by omega,show((j+1+(k+1):Nat):Int)=1+(j:Int)+(1+(k:Int)) by omega]
   . show G (.lst _);rw[CZ];exact q
end
def eU(n:Nat)(w:Nat->Nat->Wo)(i:Nat):Dt:= .tup 164
def ez(n:Nat)(w:Nat->Nat->Wo):Dt:= .tup ((116).map (eU n w))
def xI(x:Nat):Dt:= .int (x:Int)
def oX(h:List Nat):Dt:= .tup (h.map xI)
def t7:DN:=fun t Q=> ∃(n:Nat) (w:Nat->Nat->Wo) (h:List Nat),t= [ez n w,oX h]/\h.length=n/\(∀x∈h,x<=n)/\n<=60/\Q (cV (lM w h))
def oh{n:Nat}{w:Nat->Nat->Wo}(h:x<=n):jS 164 (x:Int)=some (cV (w i x)):=
 aS (j:=x) (by rw[ab8,ak2 163];rfl)
def Pu:Dt->Dt
 | .tup [.tup ds,.int v]=>(jS ds v).getD .aO
 | _=> .aO
def rM: ∀{h:List Nat} {i:Nat},(∀x∈h,x<=n)->(cX ((List.range' i h.length).map (eU n w)) (h.map xI)).map Pu=(List.zipWith w (List.range' i h.length) h).map cV
 | [],_,_=>rfl
 | x::h,i,hx=>by
  have u:=rM (n:=n) (w:=w) (h:=h) (i:=i+1) fun y k=>hx y (ac0 _ k);rw[ad6,at8,ad4,ad4,as3,ad4,<-u];unfold cX;rw[as3,ad4];congr 1
  show(jS 164 (x:Int)).getD .aO=_;rw[oh (hx x ac9)];rfl
def wq: ∀{h:List Nat} {i:Nat} {d:Dt},d∈cX ((List.range' i h.length).map (eU n w)) (h.map xI)-> ∃j x,x∈h/\d= .tup [eU n w j,xI x]
 | [],_,d,hd=>by cases hd
 | x::h,i,d,hd=>by
  rw[ad6,at8,ad4,ad4] at hd;unfold cX at hd;rw[as3] at hd;rcases ad8.mp hd with e | e
  . exact⟨i,x,ac9,e⟩
  . obtain⟨j,y,k,e⟩:=wq (i:=i+1) e;exact⟨j,y,ac0 _ k,e⟩
def rO: ∀{h:List Nat} {i:Nat},jd (List.zipWith w (List.range' i h.length) h)=iw w i h
 | [],_=>rfl
 | x::h,i=>by rw[ad6,at8,as3,jd,rO,iw]
section
variable{P:214}{w:237}{K:207}{mg:Str->210 212}{base:Heap}
def xk(F:eW K "worth_of" "worth_of" iH f fd)(T:Txt mg)(r:eP P w K mg base "together" 1 ["worths"] (bT lN)):aU P w K mg base dy 2 f fd ["w","h"] (bT t7):=by
 refine mq F AM 192 (fun p A X s H E o=>⟨_,(aG (aL (aZ r (o.mono 104) (aa (Ov.ev (cm (N:= ["row","on"]) (nt:=2) (js:= []) ⟨rfl,by decide+kernel,by decide,rfl,by decide+kernel,(by show∀x∈(_:List 131),x.2=224->(ae iH).names.lookup x.1=some .cell\/(ae iH).names.lookup x.1=some .free;decide+kernel)⟩ rfl 147 (fun _ _ _ _ _=>cM rfl (aH (az (i:=0) (show(["row","on"]:List Str).Nodup by decide+kernel) rfl 103) (aH (az (i:=1) (show(["row","on"]:List Str).Nodup by decide+kernel) rfl 103) bO))) bX bq 141 (fun _ _ _ _ _=>(dD (dv 0) (dv 1))))) af)))),fun t G h=>?_⟩)
 . obtain⟨n,w,h,rfl,_⟩:=h;rfl
 . obtain⟨n,w,h,rfl,l,k,u,q⟩:=h;subst l;refine⟨_,rfl,_,rfl,true,true,_,_,rfl,?_⟩;have M:(cX ((List.range' 1 h.length).map (eU h.length w)) (h.map xI)).length<=60:=by
    unfold cX;rw[ao2,aa9,aa9,ae7];omega
   refine⟨ad9 M 104,fun _=>true,Pu,fun d D=>?_,?_⟩
   . obtain⟨j,x,O,rfl⟩:=wq D;refine 126;exact⟨_,rfl,_,rfl,_,_,_,.inr rfl,rfl,oh (k x O),by show cV (w j x)=(jS _ _).getD _;rw[oh (k x O)];rfl⟩
   . rw[ag6.mpr fun _ _=>rfl,rM k];exact⟨_,rfl,by rw[rO];exact q⟩
end
def Dv{env:Env}: ∀x∈([]:List 131),x.2= .free->env.kindOf x.1=some .cell\/env.kindOf x.1=some .free:=fun x h=>213 h ab3
def yQ{env:Env}{p:Str × NameKind}(h:p.2≠ .free)(r: ∀x∈l,x.2= .free->env.kindOf x.1=some .cell\/env.kindOf x.1=some .free): ∀x∈p::l,x.2= .free->env.kindOf x.1=some .cell\/env.kindOf x.1=some .free:=fun x i e=>by
 rcases ad8.mp i with z | z
 . subst z;exact 213 e h
 . exact r x z e
def yP{env:Env}{p:Str × NameKind}(h:env.kindOf p.1=some .cell\/env.kindOf p.1=some .free)(r: ∀x∈l,x.2= .free->env.kindOf x.1=some .cell\/env.kindOf x.1=some .free): ∀x∈p::l,x.2= .free->env.kindOf x.1=some .cell\/env.kindOf x.1=some .free:=fun x i e=>by
 rcases ad8.mp i with z | z
 . subst z;exact h
 . exact r x z e
def Sm(w:Nat->Nat->Wo):Prop:= ∀i o v,w i o=some v-> -(2^60) < v/\v < 2^60
def yY:DN:=fun t Q=> ∃(n:Nat) (w:Nat->Nat->Wo),t= [ez n w]/\n<=60/\Sm w/\Q (ez n (wr n w))
def RH(n i:Nat):Dt->Dt
 | .tup [.int o,.int v]=> .int (v*175^n - o*175^(n - i))
 | _=> .aO
def ZE(n:Nat):Dt->Dt
 | .tup [.int i,.tup ds]=> .tup ((bQ 0 ds).map (RH n i.toNat))
 | _=> .aO
def nG(h:d∈bQ k ds): ∃j e,ds[j]?=some e/\d= .tup [.int ((j+k:Nat):Int),e]:=by
 unfold bQ at h;obtain⟨j,g,e⟩:=List.mem_mapIdx.mp h;exact⟨j,_,ab2 g,e.symm⟩
def ND(n:Nat)(w:Nat->Nat->Wo)(i:Nat):(bQ 0 164).map (RH n i)=(219 (n+1)).map fun o=>cV (wr n w i o):=by
 apply al4;intro j;unfold bQ;rw[ab8,aq1,ab8,ab8];cases e:(List.range (n+1))[j]? with
 | none=>rfl
 | some o=>
  have:o=j:=by
   have:=ac1.mp e;obtain⟨d,f⟩:=this;rw[List.getElem_range] at f;exact f.symm
  subst this;show some (RH n i (.tup [.int ((o+0:Nat):Int),cV (w i o)]))=some (cV (wr n w i o));unfold wr;cases w i o <;> rfl
def NG(n:Nat)(w:Nat->Nat->Wo):(bQ 1 ((116).map (eU n w))).map (ZE n)=(116).map (eU n (wr n w)):=by
 apply al4;intro j;unfold bQ;rw[ab8,aq1,ab8,ab8];cases e:(116)[j]? with
 | none=>rfl
 | some i=>
  have:i=j+1:=by
   obtain⟨d,f⟩:=ac1.mp e;rw[List.getElem_range'] at f;omega
  subst this;show some (Dt.tup ((bQ 0 _).map (RH n (((j+1:Nat):Int)).toNat)))=some (eU n (wr n w) (j+1));rw[ai6,ND];rfl
def D7{n k:Nat}(h:k<=n):jS ((kq 175 n).reverse.map Dt.int) (k:Int)=some (.int (175^(n - k))):=
 aS (j:=k) (by
  unfold kq;rw[ab8,List.getElem?_reverse (by rw[aa9,af0];omega),aa9,af0,ab8,ak2 163];rw[show n+1 - 1 - k=n - k by omega];rfl)
section
variable{P:214}{w:237}{K:207}{mg:Str->210 212}{base:Heap}
def A5(F:eW K "ranked" "ranked" kg f fd)(T:Txt mg)(M:eP P w K mg base "units" 1 ["base","many"] (bT C4)):aU P w K mg base dy 2 f fd ["w"] (bT yY):=by
 refine mq F uv 192 (fun R A X s H E u=>⟨_,(ao (cG 1 uv.nd (aZ M (u.mono 104) (aa (dY (cQ T.len 149) ay) (aa (cQ T.len 149) af))))
 (aG (aL (kU T.tup (aa (Ov.ev (cm (N:= ["word","row","scale"]) (nt:=2) (js:= [1]) ⟨rfl,by decide+kernel,by decide,rfl,by decide+kernel,(by show∀x∈(_:List 131),x.2=224->(ae kg).names.lookup x.1=some .cell\/(ae kg).names.lookup x.1=some .free;decide+kernel)⟩ rfl (zD T.Vq 149 ay) (fun _ _ _ _ _=>cM rfl (aH (az (i:=0) (show(["word","row","scale"]:List Str).Nodup by decide+kernel) rfl 103) (aH (az (i:=1) (show(["word","row","scale"]:List Str).Nodup by decide+kernel) rfl 103) bO))) bX bq 141 (fun _ _ _ _ _=>(kU T.tup (aa (Ov.ev (cm (N:= ["on","worth","scale","word"]) (nt:=2) (js:= [2,0]) ⟨rfl,by decide+kernel,by decide,rfl,by decide+kernel,(by repeat (first | exact Dv | refine yP 103 ?_ | refine yQ 157 ?_))⟩ rfl (zE T.Vq 155) (fun _ _ _ _ _=>cM rfl (aH (az (i:=0) (show(["on","worth","scale","word"]:List Str).Nodup by decide+kernel) rfl 103) (aH (az (i:=1) (show(["on","worth","scale","word"]:List Str).Nodup by decide+kernel) rfl 103) bO))) bX bq 141 (fun _ _ _ _ _=>(fV (jk (dv 1)) fT (gy (zY (dv 1) (dD (dv 2) ay)) (zY (dv 0) (dD (dv 2) (dv 3)))))))) af))))) af))))),fun t G h=>?_⟩)
 . obtain⟨n,w,rfl,_⟩:=h;rfl
 . obtain⟨n,w,rfl,r,J,q⟩:=h;have B:((116).map (eU n w)).length=n:=by rw[aa9,ae7]
   have b:(bQ 1 ((116).map (eU n w))).length=n:=by unfold bQ;rw[as0,B]
   refine⟨_,rfl,_,.inr rfl,_,_,rfl,rfl,_,rfl,_,.inr rfl,?_⟩;rw[B];refine⟨(n:Int)+1,n,rfl,by lia,by lia,r,⟨_,rfl,rfl⟩,?_⟩;refine⟨_,rfl,_,rfl,rfl,by rw[b];exact ad9 r 104,fun _=>true,ZE n,fun d D=>?_,?_⟩
   . obtain⟨j,e,y,rfl⟩:=nG D;have C:j < n:=by have:=(ac1.mp y).1;rw[B] at this;exact this
     have O:e=eU n w (j+1):=by
      rw[ab8,am4 C] at y;have:=(215 y).symm;rw[this];congr 1;omega
     subst O;have Q:(bQ 0 ((219 (n+1)).map fun o=>cV (w (j+1) o))).length=n+1:=by unfold bQ;rw[as0,aa9,af0]
     refine 126;refine⟨_,rfl,_,rfl,by rw[Q];exact ad9 (show n+1<=61 by omega) 104,fun _=>true,RH n (j+1),fun d D=>?_,?_⟩
     . obtain⟨o,e,y,rfl⟩:=nG D;have S:o<=n:=by have:=(ac1.mp y).1;rw[aa9,af0] at this;omega
       have O:e=cV (w (j+1) o):=by
        rw[ab8,ak2 163] at y;exact(215 y).symm
       subst O;refine 126;cases p:w (j+1) o with
       | none=>exact⟨_,rfl,true,rfl,bJ rfl⟩
       | some v=>
        have U:=J _ _ _ p;refine⟨_,rfl,false,rfl,bo ?_⟩;have I:yE ((o+0:Nat):Int) (175^(n - (j+1))):= .inl 176;have L:yE v (175^(n - 0)):= .inl 176;exact⟨_,rfl,_,rfl,_,_,_,.inl rfl,rfl,D7 (k:=0) (af2 _),_,_,rfl,rfl,L,_,rfl,_,rfl,_,rfl,_,_,_,.inl rfl,rfl,D7 (k:=j+1) C,_,_,rfl,rfl,I,_,_,rfl,rfl,rfl⟩
     . rw[ag6.mpr fun _ _=>rfl];exact⟨_,.inl rfl,rfl⟩
   . rw[ag6.mpr fun _ _=>rfl,NG];exact⟨_,.inl rfl,q⟩
end
def rsD(r:Rs):Dt:= .tup [.int r.1,oX r.2]
def NZ:210 Rs->Dt
 | none=> .aO
 | some r=>rsD r
end bb
namespace bb
open PySem PySem.Spec L2 LB LD PyProof.Rows jV
def RG:((219 m).map fun k=>Dt.int (1+(k:Nat)))=(List.range' 1 m).map xI:=by
 rw[ar4,ae6];refine ae0 fun k _=>?_;show Dt.int _=Dt.int _;congr 1
def fI{N:Type} [Inhabited N](g:Nat->N):Dt->N
 | .int v=>g v.toNat
 | _=>default
instance:Inhabited Dt:=⟨.aO⟩
def NA{l h:Nat}:((219 ((h:Int) - (l:Int)).toNat).map fun k=>Dt.int ((l:Int)+(k:Nat)))=(171).map xI:=by
 rw[show((h:Int) - (l:Int)).toNat=h - l by omega,ar4,ae6];refine ae0 fun k _=>?_;show Dt.int _=Dt.int _;congr 1
def xA{L:List Nat}{g:Nat->Dt}:(((L.map xI).filter fun _=>true).map (fI g))=L.map g:=by
 rw[ag6.mpr fun _ _=>rfl,ae6];rfl
def zt:((116).map xI).map (fI fun i=>pk (i,i))=(dg n).map pk:=by
 unfold dg;rw[ae6,ae6];rfl
def HD{n:Nat}{d:Dt}(h: ∀i,f (i,i)=d):((116).map xI).map (fI fun _=>d)=(dg n).map f:=by
 unfold dg;rw[ae6,ae6];exact ae0 fun i _=>(h i).symm
section
variable{α:Type}(D:α->Dt)
noncomputable abbrev Nd (L:List Pr) (f:Nat->Nat->α):Sl:=td (L.map pk) (L.map fun p=>D (f p.1 p.2))
def Ma(C E:List α->Prop)(B ch:List α->α)(T O:Addr):DS:=fun L Q=> ∃(n:Nat) (w rg rt lf lt:Nat->Nat->α),L= [.im (Ng D n w),.fn T,.fn O]/\1<=n/\n<=12/\Zf C E B ch n w rg rt lf lt/\
 Q (.tup [J6 D (dg n++jV.fW n) rg,J6 D (jV.fW n) rt,J6 D (dg n++jV.fW n) lf,J6 D (jV.fW n) lt])
def FI(n:Nat)(w z rt s S:Nat->Nat->α)(T O:Addr)(i:Nat)(j:List Sl):Prop:= ∃(s7 s8 s9:Sl),j= [.im (Ng D n w),.fn T,.fn O,Nd D (dg n++(jV.fW n).take i) z,Nd D (dg n++(jV.fW n).take i) s,Nd D ((jV.fW n).take i) rt,Nd D ((jV.fW n).take i) S,s7,s8,s9]/\s7.cc=false/\s8.cc=false/\s9.cc=false/\fL [s9] [s9]
end
def zb{E:dw}(p:d2=U2 (l,h))(j:δ[i]?=some (Nd D L f))(k:L.length<=4000)(V:(l,h)∉L)(hd:d=D (f l h))(q:E.nx (δ.set i (Nd D (L++ [(l,h)]) f))):zZ i E d d2 δ:=by
 subst p;subst hd;refine⟨pk (l,h),_,_,rfl,j,by rw[aa9];exact ao9 k 104,NQ V,?_⟩;unfold Nd at q;rw[ad1,ad1] at q;exact q
section
variable{P:214}{wd:237}{K:207}{mg:Str->210 212}{base:Heap}
def IY(O: ∀x,KS (D x))(Y:v8 P wd K mg base fj 1 pj (bT (qU D oJ jn)))(j:v8 P wd K mg base fc 1 pc (bT (qU D oC ch)))(F:eW K "fill" "fill" iK f fd)(T:Txt mg)(GY:eP P wd K mg base "by_width" 1 ["n"] (bT vR)):aU P wd K mg base dy 2 f fd ["w","joined","chosen"] (spS (Ma D oJ oC jn ch fj fc)):=by
 refine fnS F jD (fun ss Qd h=>?_) (fun bC A Z s H E o=>⟨_,ao (DI 3 jD.nd (Jf (N:= ["word","joined"]) (nt:=1) (js:= [1]) 110 rfl (iT T.je (aa ay (aa (dY (cQ T.len 149) ay) af))) (fun _ _ _ _ _=>az (i:=0) (show(["word","joined"]:List Str).Nodup by decide+kernel) rfl 103) bB aY (fun _ _ _ _ _=>ba (aa (dv 0) 149)) (fun _ _ _ _ _=>i0 1 Y (o.mono 104) (pv 1) (aa (fU af) af)) (Nat.lt_of_succ_lt (eG o))))
  (ao (DI 4 jD.nd (Je 3 o.hd T.Yy (pv 3)))
  (ao (DH 5 jD.nd)
  (ao (DH 6 jD.nd)
  (ao (jm rfl (mi (aZ GY (o.mono 104) (aa (cQ T.len 149) af))) (FK 7 8 rfl jD.nd)
   (ao (cG 9 jD.nd (tq (i0 2 j (o.mono 104) (pv 2) (aa (Ov.ev (cm (N:= ["at","joined","right","low","left","high"]) (nt:=1) (js:= [1,3,7,4,8]) 110 rfl (iT T.je (aa (dv 7) (aa (dv 8) af))) (fun _ _ _ _ _=>az (i:=0) (show(["at","joined","right","low","left","high"]:List Str).Nodup by decide+kernel) rfl 103) bB aY 141 (fun _ _ _ _ _=>i0 1 Y (o.mono 104) (pv 1) (aa (fU (aa (iZ (eG o) (dv 2) (ba (aa (dv 3) 149))) (aa (iZ (eG o) (dv 4) (ba (aa (dY (dv 0) ay) (aa (dv 5) af)))) af))) af)))) af))))
   (ao (se 5 (eG o) (pv 5) (ba (aa (dv 7) (aa (dv 8) af))) (i0 1 Y (o.mono 104) (pv 1) (aa (fU (aa (dD (dD (dv 0) (gy (dv 8) ay)) (dv 7)) (aa (dv 9) af))) af)))
   (ao (se 6 (eG o) (pv 6) (ba (aa (dv 7) (aa (dv 8) af))) (i0 1 Y (o.mono 104) (pv 1) (aa (fU (aa (dD (dD (dv 0) (gy (dv 7) ay)) (dv 8)) (aa (dv 9) af))) af)))
   (ao (se 3 (eG o) (pv 3) (ba (aa (dv 7) (aa (dv 8) af))) (tq (i0 2 j (o.mono 104) (pv 2) (aa (Ov.ev (cm (N:= ["at","joined","right_tied","low","right","high"]) (nt:=1) (js:= [1,5,7,3,8]) 110 rfl (iT T.je (aa (dY (dv 7) ay) (aa (dY (dv 8) ay) af))) (fun _ _ _ _ _=>az (i:=0) (show(["at","joined","right_tied","low","right","high"]:List Str).Nodup by decide+kernel) rfl 103) bB aY 141 (fun _ _ _ _ _=>i0 1 Y (o.mono 104) (pv 1) (aa (fU (aa (iZ (eG o) (dv 2) (ba (aa (dv 3) 149))) (aa (iZ (eG o) (dv 4) (ba (aa (dv 0) (aa (dv 5) af)))) af))) af)))) af))))
   (aG (se 4 (eG o) (pv 4) (ba (aa (dv 7) (aa (dv 8) af))) (tq (i0 2 j (o.mono 104) (pv 2) (aa (Ov.ev (cm (N:= ["at","joined","left","low","left_tied","high"]) (nt:=1) (js:= [1,4,7,6,8]) 110 rfl (iT T.je (aa (dv 7) (aa (dv 8) af))) (fun _ _ _ _ _=>az (i:=0) (show(["at","joined","left","low","left_tied","high"]:List Str).Nodup by decide+kernel) rfl 103) bB aY 141 (fun _ _ _ _ _=>i0 1 Y (o.mono 104) (pv 1) (aa (fU (aa (iZ (eG o) (dv 2) (ba (aa (dv 3) 149))) (aa (iZ (eG o) (dv 4) (ba (aa (dv 0) (aa (dv 5) af)))) af))) af)))) af))))))))) ak8)
  (aG (n8 3 (n8 5 (n8 4 (n8 6 (aL (ba (aa (dv 3) (aa (dv 5) (aa (dv 4) (aa (dv 6) af))))))))))))))),fun ss Qd h=>?_⟩)
 . obtain⟨n,w,B,J,t,U,rfl,_⟩:=h;rfl
 . obtain⟨n,w,B,J,t,U,rfl,n1,u,V,q⟩:=h;have M:((116).map (uA D n w)).length=n:=by rw[aa9,ae7]
   refine⟨_,rfl,_,.inr rfl,_,_,rfl,rfl,1,_,rfl,⟨by decide,by decide,by rw[M];lia,by rw[M];lia⟩,?_⟩;rw[M,show((n:Int)+1 - 1).toNat=n by lia,RG];refine⟨by rw[aa9,ae7];exact ad9 u 104,fI fun i=>pk (i,i),fI fun i=>D (jn []),fun d I=>?_,?_,?_⟩
   . obtain⟨i,R,rfl⟩:=ad3.mp I;exact⟨⟨_,rfl,rfl⟩,_,rfl,_,rfl,by show 2<=208;decide,rfl,rfl,by show 0<=208;decide,[],rfl,V.j0,rfl⟩
   . rw[zt];exact List.Pairwise.of_map _ (fun a b z e=>z (ah4 _ e)) (zU P wd u)
   . rw[zt,show((116).map xI).map (fI fun i=>D (jn []))=(dg n).map fun p=>D (B p.1 p.2) from HD fun i=>by rw[V.r0]];refine⟨⟨_,rfl,rfl⟩,_,_,rfl,fun z=>?_,zU _ _ u,⟨_,rfl,rfl⟩,⟨_,rfl,rfl⟩,⟨_,rfl,rfl⟩,?_⟩
     . have:=ah4 List.length z;unfold dg at this;rw[aa9,aa9,ae7] at this;have:n=0:=this;lia
     refine⟨_,rfl,_,.inr rfl,n,by rw[M],ad9 u 104,_,rfl,?_⟩;have e0:((dg n).map fun p=>D (B p.1 p.2))=(dg n).map fun p=>D (t p.1 p.2):=ae0 fun p C=>by
      have:=(sO.mp C).1;rw[this,V.r0,V.l0]
     refine dR (FI D n w B J t U fj fc) ⟨.no,.no,.no,?_,rfl,rfl,rfl,.no .nil⟩ (fun i d δ R Q Δ' wc _=>?_) (fun δ Q=>?_)
     . rw[at0,ai1];show [_,_,_,td ((dg n).map pk) ((dg n).map fun p=>D (B p.1 p.2)),td ((dg n).map pk) ((dg n).map fun p=>D (B p.1 p.2)),td [] [],td [] [],_,_,_]= [_,_,_,td ((dg n).map pk) ((dg n).map fun p=>D (B p.1 p.2)),td ((dg n).map pk) ((dg n).map fun p=>D (t p.1 p.2)),td [] [],td [] [],_,_,_]
       rw[<-e0]
     . obtain⟨s7,s8,s9,rfl,k,m,r,v⟩:=Q;rw[ab8] at R;obtain⟨⟨l,h⟩,C,rfl⟩:=ak1.mp R;have C:(jV.fW n)[i]?=some (l,h):=C;obtain⟨S,X,G⟩:=gP.mp (ae4 C);have S:1<=l:=S;have X:l < h:=X;have G:h<=n:=G;have lw:(jV.fW n).length < 3601:=Ag (ad9 u 104);have lt':((jV.fW n).take i).length<=3601:=by rw[am0];lia
       have y:(dg n++(jV.fW n).take i).length<=4000:=by
        rw[ac6];have:(dg n).length=n:=by unfold dg;rw[aa9,ae7]
        lia
       refine⟨_,_,rfl,⟨_,rfl,k⟩,⟨_,rfl,m⟩,?_⟩;refine⟨_,fL.im (fL.fn (fL.fn (fL.td (fL.td (fL.td (fL.td (fL.im (fL.im v)))))))),rfl,?_⟩;refine⟨_,rfl,_,rfl,(l:Int),(h:Int),rfl,⟨by lia,by lia,by lia,by lia⟩,?_⟩;rw[NA];refine⟨by rw[aa9,ae7];exact ad9 (show h - l<=12 by lia) 104,fun _=>true,fI fun a=>D (jn [B l a,t (a+1) h]),fun d I=>?_,?_⟩
       . obtain⟨a,g,rfl⟩:=ad3.mp I;have:=ai0.mp g;exact⟨⟨_,rfl,rfl⟩,rfl,fun _=>⟨rfl,_,rfl,_,rfl,_,rfl,by show 2<=208;decide,⟨_,_,pk (l,a),_,rfl,rfl,eQ (Aj C 102 102 102 102),_,rfl,_,rfl,_,_,rfl,rfl,_,rfl,by show 2<=208;decide,⟨_,_,pk (a+1,h),_,rfl,rfl,eQ (Aj C 102 102 102 102),by show 2<=208;decide,[B l a,t (a+1) h],rfl,V.ji l a h 102 102 102 102,rfl⟩⟩⟩⟩
       rw[xA];refine⟨jV.p6 jn B t l h,by rw[jV.p6,ae6];rfl,V.ci l h S X G,O _,⟨_,rfl,r⟩,?_⟩;refine⟨rfl,_,rfl,_,rfl,_,_,rfl,rfl,_,_,_,.inr rfl,rfl,yM D 102 102,_,rfl,_,_,_,.inr rfl,rfl,sC D 102,_,rfl,by show 2<=208;decide,[w h l,ch (jV.p6 jn B t l h)],rfl,V.jr l h S X G,⟨_,_,rfl⟩,_,rfl,_,rfl,by show 2<=208;decide,zb (L:=(jV.fW n).take i) (f:=J) rfl rfl 102 (tH C) (by rw[V.er l h S X G]) ?_⟩;refine⟨rfl,_,rfl,_,rfl,_,_,rfl,rfl,_,_,_,.inr rfl,rfl,yM D 102 102,_,rfl,_,_,_,.inr rfl,rfl,sC D 102,_,rfl,by show 2<=208;decide,[w l h,ch (jV.p6 jn B t l h)],rfl,V.jl l h S X G,⟨_,_,rfl⟩,_,rfl,_,rfl,by show 2<=208;decide,zb (L:=(jV.fW n).take i) (f:=U) rfl rfl 102 (tH C) (by rw[V.el l h S X G]) ?_⟩;refine⟨_,fL.im (fL.fn (fL.fn (fL.td (fL.td (fL.td (fL.td (fL.im (fL.im (fL.im .nil))))))))),rfl,?_⟩;refine⟨_,rfl,_,_,rfl,rfl,_,rfl,_,_,rfl,rfl,((l+1:Nat):Int),((h+1:Nat):Int),rfl,⟨by lia,by lia,by lia,by lia⟩,?_⟩;rw[NA];have mt: ∀{a b:Nat},l<=a->a < b->b<=h->(a,b)∈(jV.fW n).take i++ [(l,h)]:=fun{a b} h1 h2 h3=>by
        by_cases c:b - a < h - l
        . exact af5 _ (Za C h1 h2 h3 c)
        . exact ac8 _ (by rw[show a=l by lia,show b=h by lia];exact ab4.mpr rfl)
       refine⟨by rw[aa9,ae7];exact ad9 (show h+1 - (l+1)<=12 by lia) 104,fun _=>true,fI fun a=>D (jn [J l a,B a h]),fun d I=>?_,?_⟩
       . obtain⟨a,g,rfl⟩:=ad3.mp I;have:=ai0.mp g;exact⟨⟨_,rfl,rfl⟩,rfl,fun _=>⟨rfl,_,rfl,_,rfl,_,rfl,by show 2<=208;decide,⟨_,_,pk (l,a),_,rfl,rfl,eQ (mt 102 102 102),_,rfl,_,rfl,_,rfl,by show 2<=208;decide,⟨_,_,pk (a,h),_,rfl,rfl,eQ (Aj C 102 102 102 102),by show 2<=208;decide,[J l a,B a h],rfl,V.jR l a h 102 102 102 102,rfl⟩⟩⟩⟩
       rw[xA];refine⟨NI jn B J l h,by rw[NI,ae6,Nat.add_sub_add_right];rfl,V.cR l h S X G,O _,⟨_,_,rfl⟩,_,rfl,_,rfl,by show 2<=208;decide,zb (L:=dg n++(jV.fW n).take i) (f:=B) rfl rfl y (F9 C) (by rw[V.eR l h S X G]) ?_⟩;refine⟨_,fL.im (fL.fn (fL.fn (fL.td (fL.td (fL.td (fL.td (fL.im (fL.im (fL.im .nil))))))))),rfl,?_⟩;refine⟨_,rfl,_,rfl,(l:Int),(h:Int),rfl,⟨by lia,by lia,by lia,by lia⟩,?_⟩;rw[NA];refine⟨by rw[aa9,ae7];exact ad9 (show h - l<=12 by lia) 104,fun _=>true,fI fun a=>D (jn [t l a,U a h]),fun d I=>?_,?_⟩
       . obtain⟨a,g,rfl⟩:=ad3.mp I;have:=ai0.mp g;exact⟨⟨_,rfl,rfl⟩,rfl,fun _=>⟨rfl,_,rfl,_,rfl,_,rfl,by show 2<=208;decide,⟨_,_,pk (l,a),_,rfl,rfl,eQ (Aj C 102 102 102 102),_,rfl,_,rfl,_,rfl,by show 2<=208;decide,⟨_,_,pk (a,h),_,rfl,rfl,eQ (mt 102 102 102),by show 2<=208;decide,[t l a,U a h],rfl,V.jL l a h 102 102 102 102,rfl⟩⟩⟩⟩
       rw[xA];refine⟨Ot jn t U l h,by rw[Ot,ae6];rfl,V.cL l h S X G,O _,⟨_,_,rfl⟩,_,rfl,_,rfl,by show 2<=208;decide,zb (L:=dg n++(jV.fW n).take i) (f:=t) rfl rfl y (F9 C) (by rw[V.eL l h S X G]) ?_⟩;refine wc _ ⟨.im (.int (l:Int)),.im (.int (h:Int)),.im (D (ch (jV.p6 jn B t l h))),?_,rfl,rfl,rfl,.im .nil⟩;rw[take_snoc C,<-af9];rfl
     . obtain⟨s7,s8,s9,rfl,k,m,r,v⟩:=Q;rw[aa9,show(bb.fW n).length=(jV.fW n).length from rfl,al1];exact⟨_,_,rfl,_,_,rfl,_,_,rfl,_,_,rfl,_,rfl,_,rfl,_,rfl,_,rfl,by show 4<=208;decide,q⟩
end
section
variable{α:Type}(D:α->Dt)
def Lp(C E:List α->Prop)(B ch:List α->α)(T O:Addr):DS:=fun L Q=> ∃(n:Nat) (w rg rt lf lt:Nat->Nat->α),L= [.im (Ng D n w),.fn T,.fn O]/\1<=n/\n<=12/\Zf C E B ch n w rg rt lf lt/\Q (D (ch (toV B w lf rg n)))
def Zy(g:Nat->Dt):Dt->Dt
 | .tup [.int v,_]=>g v.toNat
 | _=> .aO
def Jk{n:Nat}{w:Nat->Nat->α}{g:Nat->Dt}:((bQ 1 ((116).map (uA D n w))).filter fun _=>true).map (Zy g)=(116).map g:=by
 rw[ag6.mpr fun _ _=>rfl];apply al4;intro j;unfold bQ;rw[ab8,aq1,ab8,ab8];by_cases c:j < n
 . rw[am4 c];show some (g (((j+1:Nat):Int)).toNat)=some (g (1+1*j));rw[ai6,show 1+1*j=j+1 by lia]
 . rw[aj1 (by rw[ae7];lia)];rfl
end
section
variable{P:214}{wd:237}{K:207}{mg:Str->210 212}{base:Heap}
def xm(Q: ∀x,KS (D x))(Y:v8 P wd K mg base fj 1 pj (bT (qU D oJ jn)))(k:v8 P wd K mg base fc 1 pc (bT (qU D oC ch)))(F:eW K "over_all" "over_all" iI f fd)(T:Txt mg)(G:eP P wd K mg base "fill" 2 ["w","joined","chosen"] (spS (Ma D oJ oC jn ch fj fc))):aU P wd K mg base dy 3 f fd ["w","joined","chosen"] (spS (Lp D oJ oC jn ch fj fc)):=by
 refine fnS F qE (fun M I h=>?_) (fun p A X s H E o=>⟨_,(ao (kd (Mo G (o.mono 104) (Q4 (dv 0) (Q6 (f:=fj) 1 (pv 1) (Q6 (f:=fc) 2 (pv 2) KY)))) (Pd 3 4 5 6 rfl qE.nd))
 (aG (aL (i0 2 k (o.mono 104) (pv 2) (aa (Ov.ev (cm (N:= ["top","row","joined","left","right","w"]) (nt:=2) (js:= [1,5,3,0]) ⟨rfl,by decide+kernel,by decide,rfl,by decide+kernel,(by show∀x∈(_:List 131),x.2=224->(ae iI).names.lookup x.1=some .cell\/(ae iI).names.lookup x.1=some .free;decide+kernel)⟩ rfl (zD T.Vq 149 ay) (fun _ _ _ _ _=>cM rfl (aH (az (i:=0) (show(["top","row","joined","left","right","w"]:List Str).Nodup by decide+kernel) rfl 103) (aH (az (i:=1) (show(["top","row","joined","left","right","w"]:List Str).Nodup by decide+kernel) rfl 103) bO))) bX bq 141 (fun _ _ _ _ _=>(i0 2 Y (o.mono 104) (pv 2) (aa (fU (aa (dD (dv 1) ay) (aa (iZ (eG o) (dv 3) (ba (aa ay 149))) (aa (iZ (eG o) (dv 4) (ba (aa (dv 0) (aa (cQ T.len (aa (dv 5) af)) af)))) af)))) af))))) af))))),fun M I h=>?_⟩)
 . obtain⟨n,w,z,C,u,S,rfl,_⟩:=h;rfl
 . obtain⟨n,w,z,C,u,S,rfl,r,v,V,q⟩:=h;have B:((116).map (uA D n w)).length=n:=by rw[aa9,ae7]
   have g:(bQ 1 ((116).map (uA D n w))).length=n:=by unfold bQ;rw[as0,B]
   refine⟨_,rfl,rfl,rfl,n,w,z,C,u,S,rfl,r,v,V,_,_,_,_,rfl,⟨_,rfl,rfl⟩,⟨_,rfl,rfl⟩,⟨_,rfl,rfl⟩,⟨_,rfl,rfl⟩,?_⟩;refine⟨rfl,_,rfl,_,rfl,rfl,by rw[g];exact ad9 v 104,fun _=>true,Zy fun t=>D (jn [w t 0,u 1 t,z t n]),fun d J=>?_,?_⟩
   . obtain⟨j,e,y,rfl⟩:=nG J;have L:j < n:=by have:=(ac1.mp y).1;rw[B] at this;exact this
     have O:e=uA D n w (j+1):=by
      rw[ab8,am4 L] at y;have:=(215 y).symm;rw[this];congr 1;lia
     subst O;have U: ∀{a b:Nat},1<=a->a<=b->b<=n->(a,b)∈dg n++jV.fW n:=fun{a b} l m R=>by
      by_cases c:a=b
      . exact af5 _ (sO.mpr ⟨c,by dsimp only;lia,by dsimp only;lia⟩)
      . exact ac8 _ (gP.mpr ⟨by dsimp only;lia,by dsimp only;lia,by dsimp only;lia⟩)
     refine 126;refine⟨rfl,_,rfl,_,_,_,.inr rfl,rfl,sC D (x:=0) (af2 _),_,rfl,_,rfl,by show 2<=208;decide,?_⟩;refine⟨_,_,pk (1,j+1),_,rfl,rfl,eQ (U 102 102 102),_,rfl,_,rfl,_,rfl,_,.inr rfl,by show 2<=208;decide,?_⟩;rw[B];exact⟨_,_,pk (j+1,n),_,rfl,rfl,eQ (U 102 102 102),by show 3<=208;decide,[w (j+1) 0,u 1 (j+1),z (j+1) n],rfl,V.jt (j+1) 102 102,rfl⟩
   . rw[Jk];exact⟨toV jn w u z n,by rw[toV,ae6];rfl,V.ct,q⟩
end
open rH
def AG:jd [a,b]=ad a b:=by show ad a (ad b (some 0))=_;rw[pM]
def Wi:jd [a,b,c]=ad a (ad b c):=by show ad a (ad b (ad c (some 0)))=_;rw[pM]
def WZ(n:Nat)(L:List Wo):Prop:=L.length<=n
def FT(w:Nat->Nat->Wo):ev w [[]]=jd []:=by
 show mx (wt w []) none=jd [];exact zp _
def spv{n:Nat}(w:Nat->Nat->Wo)(s:n<=12):Zf (fun _=>True) (WZ 12) jd gu n w (fun l h=>ev w (Q l h).rg) (fun l h=>ev w (Q l h).rt) (fun l h=>ev w (Q l h).lf) (fun l h=>ev w (Q l h).lt) where
 j0:=trivial
 r0:=fun l=>by rw[pQ];exact FT w
 l0:=fun l=>by rw[pQ];exact FT w
 ji:=fun _ _ _ _ _ _ _=>trivial
 ci:=fun l h _ _ _=>by show(jV.p6 _ _ _ _ _).length<=12;unfold jV.p6;rw[aa9,ae7];lia
 jr:=fun _ _ _ _ _=>trivial
 er:=fun l h _ lt _=>by rw[AG,Ny w lt];unfold jV.p6;congr 2;exact ae0 fun a _=>AG.symm
 jl:=fun _ _ _ _ _=>trivial
 el:=fun l h _ lt _=>by rw[AG,Ol w lt];unfold jV.p6;congr 2;exact ae0 fun a _=>AG.symm
 jR:=fun _ _ _ _ _ _ _=>trivial
 cR:=fun l h _ _ _=>by show(NI _ _ _ _ _).length<=12;unfold NI;rw[aa9,ae7];lia
 eR:=fun l h _ lt _=>by rw[NH w lt];unfold NI;congr 1;exact ae0 fun a _=>AG.symm
 jL:=fun _ _ _ _ _ _ _=>trivial
 cL:=fun l h _ _ _=>by show(Ot _ _ _ _ _).length<=12;unfold Ot;rw[aa9,ae7];lia
 eL:=fun l h _ lt _=>by rw[Oq w lt];unfold Ot;congr 1;exact ae0 fun a _=>AG.symm
 jt:=fun _ _ _=>trivial
 ct:=by show(toV _ _ _ _ _).length<=12;unfold toV;rw[aa9,ae7];exact s
def Nb(w:Nat->Nat->Wo)(n:Nat):gu (toV jd w (fun l h=>ev w (Q l h).lf) (fun l h=>ev w (Q l h).rg) n)=ev w (KH n):=by
 rw[HE];unfold toV;congr 1
 exact ae0 fun t _=>Wi
def CV(x:Wo):KS (cV x):=by cases x <;> constructor
def ME:DN:=fun t Q=> ∃(n:Nat) (w:Nat->Nat->Wo),t= [ez n w]/\1<=n/\n<=12/\Sm w/\ ∀r,tT n w r->Q (NZ r)
abbrev Z1:DN:=qU cV (fun _=>True) jd
abbrev chS:DN:=qU cV (WZ 12) gu
def yO(h: ∀t Q,S' t Q->S t Q): ∀u H Q E,bT S' u H Q E->bT S u H Q E:=fun u H Q E z=>by
 obtain⟨M,t,G,C,r,q,k⟩:=z;exact⟨M,t,G,C,r,h _ _ q,k⟩
def Sv: ∀t Q,Z1 t Q->lN t Q:=fun t Q z=>by obtain⟨L,e,_,q⟩:=z;exact⟨L,e,q⟩
def Uh: ∀t Q,chS t Q->qR t Q:=fun t Q z=>by obtain⟨L,e,l,q⟩:=z;exact⟨L,e,ad9 l 104,q⟩
section
variable{P:214}{wd:237}{K:207}{mg:Str->210 212}{base:Heap}
def Jb(J:mg "together"=some (.ref fj))(Q:mg "greatest"=some (.ref fc))(F:eW K "best_plain" "best_plain" jG f fd)(T:Txt mg)(y:eP P wd K mg base "over_all" 3 ["w","joined","chosen"] (spS (Lp cV (fun _=>True) (WZ 12) jd gu fj fc)))(O:eP P wd K mg base "ranked" 2 ["w"] (bT yY))(z:eP P wd K mg base "figures" 1 ["number","base","many"] (bT vy))(M:eP P wd K mg base "worth_of" 2 ["w","h"] (bT t7)):aU P wd K mg base dy 4 f fd ["w"] (bT ME):=by
 refine mq F iF (fun C G h=>?_) (fun R A X s H E o=>⟨_,(ao (cG 1 iF.nd (Mo y (o.mono 104) (Q4 (aZ O (o.mono 104) 149) (Q5 158 J (Q5 158 Q KY)))))
 (ao (cZ (jk (dv 1))
 (aG (aL fT))
 bE)
 (ao (cG 2 iF.nd (kU T.tup (aa (aZ z (o.mono 104) (aa (ju (dv 1)) (aa (dY (cQ T.len 149) ay) (aa (cQ T.len 149) af)))) af)))
 (aG (aL (ba (aa (aZ M (o.mono 104) (aa (dv 0) (aa (dv 2) af))) (aa (dv 2) af)))))))),fun C G h=>?_⟩)
 . obtain⟨n,w,rfl,_⟩:=h;rfl
 . obtain⟨n,w,rfl,r,u,N,q⟩:=h;have L:((116).map (eU n w)).length=n:=by rw[aa9,ae7]
   refine⟨_,rfl,n,w,rfl,by lia,N,n,wr n w,_,_,_,_,rfl,r,u,spv (wr n w) u,⟨_,rfl,rfl⟩,?_⟩;rw[Nb];cases e:ev (wr n w) (KH n) with
   | none=>exact⟨_,rfl,true,rfl,bJ (q none (Ce e))⟩
   | some t=>
    obtain⟨v,g,B,rfl⟩:=Cd e;refine⟨_,rfl,false,rfl,bo ?_⟩;have I:=Kx B;have S:m7 175 n (-(v*175^n - code (n+1) g))=g.reverse.map Int.ofNat:=by
     have:=qX (B:=n+1) 102 v n g I.l fun x i=>av7 (I.b x i);rw[show -(v*175^n - code (n+1) g)=code (n+1) g - v*175^n by lia];push_cast at this
     exact this
    refine⟨_,rfl,_,rfl,_,rfl,_,.inr rfl,_,_,rfl,rfl,_,rfl,_,.inr rfl,?_⟩;rw[L];refine⟨_,_,n,rfl,by lia,by lia,by lia,?_⟩;rw[S];have p:lM w g=some v:=by cases B;assumption
    have D:((g.reverse.map Int.ofNat).reverse.map Dt.int)=g.map xI:=by rw[<-List.map_reverse,List.reverse_reverse,ae6];rfl
    rw[D];refine⟨_,.inl rfl,⟨_,rfl,rfl⟩,_,rfl,_,rfl,n,w,g,rfl,I.l,I.b,by lia,_,rfl,by show 2<=208;decide,?_⟩;rw[p];exact q (some (v,g)) B
end
end bb
namespace bb
open PySem PySem.Spec L2 LB LD PyProof.Rows
noncomputable abbrev nI (x:Nat):Dt:= .int (x:Int)
def oD:210 Nat->Dt
 | none=> .aO
 | some x=>nI x
structure St where
 aC:List Nat
 b:Nat
 bZ:List (210 Nat)
 deriving DecidableEq
def St.dt(s:St):Dt:= .tup [.tup (s.aC.map nI),nI s.b,.tup 194]
structure pW(s:St):Prop where
 n:s.bZ.length<=1000
 p:s.aC.length<=1000
 je: ∀w∈s.aC,1<=w/\w<=s.bZ.length
def St.read(s:St):St:=⟨s.aC++ [s.b],s.b+1,s.bZ⟩
def St.AH(s:St)(Q:Nat):St:=⟨s.aC.dropLast,s.b,s.bZ.set 199 (some Q)⟩
def St.next(s:St):St:=s.AH s.b
def St.under(s:St):St:=s.AH 180
def aT(s:St):Bool:=decide (s.b<=s.bZ.length)
def aP(s:St):Bool:=aT s && !s.aC.isEmpty
def aN(s:St):Bool:=decide (1 < s.aC.length)
def di(s:St):List Dt:=(if aT s then [Dt.str "read"] else [])++(if aP s then [Dt.str "next"] else [])++(if aN s then [Dt.str "under"] else [])
def first(n:Nat):St:=⟨[],1,206 n none⟩
def sR:DN:=fun t Q=> ∃s:St,t= [s.dt]/\pW s/\Q (.lst (di s))
def cK:DN:=fun t Q=> ∃(s:St) (w:Str),t= [s.dt,.str w]/\pW s/\((w="read"/\Q s.read.dt)\/(w="next"/\s.aC≠ []/\Q s.next.dt)\/(w="under"/\2<=s.aC.length/\Q s.under.dt))
def small(h:n<=3000):n<=sizeLine:=by
 have:3000<=sizeLine:=by decide
 omega
def Tr{α:Type}(n:Nat)(x:α):(206 n [x]).flatten=206 n x:=by
 induction n with
 | zero=>rfl
 | succ k ih=>rw[aj0,aj0,ag8,ih];rfl
section
variable{P:214}{w:237}{K:207}{mg:Str->210 212}{base:Heap}
def IX(F:eW K "steps_from" "steps_from" jE f fd)(T:Txt mg):aU P w K mg base dy 1 f fd ["stand"] (bT sR):=by
 refine mq F iC (fun t I h=>?_) (fun p A X s H E o=>⟨_,(ao (kd (dv 0) (mn 1 2 3 rfl iC.nd))
 (ao (iG 4 iC.nd (ky af))
 (ao (cZ (Q9 (dv 2) (cQ T.len (aa (dv 3) af)))
 (ao (eA (cH 4 (pv 4) (aa bM af)))
 (aG (cZ (Q8 (dv 1))
 (aG (eA (cH 4 (pv 4) (aa bM af))))
 bE)))
 bE)
 (ao (cZ (Ra (cQ T.len 155) ay)
 (aG (eA (cH 4 (pv 4) (aa bM af))))
 bE)
 (aG (kc 4 (aL (dv 4)))))))),fun t I h=>?_⟩)
 . obtain⟨n,rfl,_⟩:=h;rfl
 . obtain⟨s,rfl,e,q⟩:=h;refine⟨_,rfl,_,_,_,rfl,⟨_,rfl,rfl⟩,⟨_,rfl,rfl⟩,⟨_,rfl,rfl⟩,?_⟩;refine⟨by show 0<=sizeLine;decide,⟨_,rfl,rfl⟩,?_⟩;refine⟨_,rfl,_,rfl,_, .inr rfl,_,_,rfl,rfl,_,rfl,?_⟩;by_cases G:s.b<=s.bZ.length
   . refine ic (af3 (by rw[aa9];exact Int.ofNat_le.mpr G)) ?_;refine⟨⟨_,rfl⟩,_,_,rfl,rfl,by show 0 < sizeLine;decide,_,rfl,_,rfl,?_⟩;by_cases a:s.aC= []
     . refine gQ (by rw[a];decide) ?_;refine⟨_,rfl,_,.inr rfl,_,_,rfl,rfl,_,rfl,gQ (by rw[a];decide) 203⟩;simpa [di,aT,aP,aN,G,a] using q
     . refine ic (by simpa using a) ?_;refine⟨⟨_,rfl⟩,_,_,rfl,rfl,by show 1 < sizeLine;decide,?_⟩;refine⟨_,rfl,_, .inr rfl,_,_,rfl,rfl,_,rfl,?_⟩;by_cases m:1 < s.aC.length
       . refine ic (af3 (by rw[aa9];exact Int.ofNat_lt.mpr m)) ?_;refine⟨⟨_,rfl⟩,_,_,rfl,rfl,by show 2 < 208;decide,_,rfl,_,rfl,?_⟩;simpa [di,aT,aP,aN,G,a,m] using q
       . refine gQ (by rw[aa9];intro z;exact m (Int.ofNat_lt.mp (ae1 z))) 203;simpa [di,aT,aP,aN,G,a,m] using q
   . refine gQ (by rw[aa9];intro z;exact G (Int.ofNat_le.mp (ae1 z))) ?_;refine⟨_,rfl,_, .inr rfl,_,_,rfl,rfl,_,rfl,?_⟩;by_cases m:1 < s.aC.length
     . refine ic (af3 (by rw[aa9];exact Int.ofNat_lt.mpr m)) ?_;refine⟨⟨_,rfl⟩,_,_,rfl,rfl,by show 0 < 208;decide,_,rfl,_,rfl,?_⟩;simpa [di,aT,aP,aN,G,m] using q
     . refine gQ (by rw[aa9];intro z;exact m (Int.ofNat_lt.mp (ae1 z))) 203;simpa [di,aT,aP,aN,G,m] using q
def N5(F:eW K "_law_may" "_law_may" DL f fd)(T:Txt mg):aU P w K mg base dy 1 f fd ["_law_stand"] (bT sR):=by
 refine mq F wR (fun u J h=>?_) (fun p A X s H E o=>⟨_,(ao (kd (dv 0) (mn 1 2 3 rfl wR.nd))
 (ao (cG 4 wR.nd (Yz (dv 2) (cQ T.len (aa (dv 3) af))))
 (aG (aL (tu (tu (x9 (fU (aa bM af)) (ya T.int (aa (dv 4) af))) (x9 (fU (aa bM af)) (ya T.int (aa (i3 (dv 4) (kW (Gh o.rN (dv 1)))) af)))) (x9 (fU (aa bM af)) (ya T.int (aa (YB (cQ T.len 155) ay) af)))))))),fun u J h=>?_⟩)
 . obtain⟨n,rfl,_⟩:=h;rfl
 . obtain⟨s,rfl,g,q⟩:=h;refine⟨_,rfl,_,_,_,rfl,⟨_,rfl,rfl⟩,⟨_,rfl,rfl⟩,⟨_,rfl,rfl⟩,?_⟩;refine⟨_,rfl,_,rfl,_, .inr rfl,_,_,rfl,rfl,⟨_,rfl,rfl⟩,?_⟩;have R:decide (((s.b:Nat):Int)<=((194).length:Int))=aT s:=by
    rw[aa9];exact am8.mpr Int.ofNat_le
   dsimp only;rw[R];have M:decide (((s.aC.map nI).length:Int) > 1)=aN s:=by
    rw[aa9];exact am8.mpr (Int.ofNat_lt (n:=1))
   have fin: ∀G a m:Bool,Dt.lst (((206 (if G then(1:Int) else 0).toNat [Dt.str "read"]).flatten++(206 (if a then(1:Int) else 0).toNat [Dt.str "next"]).flatten)++(206 (if m then(1:Int) else 0).toNat [Dt.str "under"]).flatten)= .lst ((if G then [Dt.str "read"] else [])++(if a then [Dt.str "next"] else [])++(if m then [Dt.str "under"] else [])):=by
    intro G a m;cases G <;> cases a <;> cases m <;> rfl
   have N: ∀c:Bool,[Dt.aO].length*(if c then(1:Int) else 0).toNat<=sizeLine:=fun c=>by cases c <;> decide
   have L: ∀c:Bool,-(2^63)<=(if c then(1:Int) else 0):=fun c=>by cases c <;> decide
   have I: ∀c:Bool,(if c then(1:Int) else 0) < 2^63:=fun c=>by cases c <;> decide
   have Z: ∀(c:Bool) (x:Dt),(206 (if c then(1:Int) else 0).toNat [x]).flatten.length<=1:=fun c x=>by cases c <;> simp
   have O: ∀a:Bool,a=aP s->J (Dt.lst (((206 (if aT s then(1:Int) else 0).toNat [Dt.str "read"]).flatten++(206 (if a then(1:Int) else 0).toNat [Dt.str "next"]).flatten)++(206 (if aN s then(1:Int) else 0).toNat [Dt.str "under"]).flatten)):=fun a e=>by
    subst e;rw[fin];exact q
   refine⟨by show 1<=208;decide,_,rfl,_,rfl,_,_,rfl,rfl,L _,I _,N _,by show 1<=208;decide,_,rfl,_,rfl,?_⟩;have t: ∀(c U:Bool) (x y:Dt),(206 (if c then(1:Int) else 0).toNat [x]).flatten.length+(206 (if U then(1:Int) else 0).toNat [y]).flatten.length<=sizeLine:=fun c U x y=>small (by have:=Z c x;have:=Z U y;omega);have d: ∀(c U a:Bool) (x y z:Dt),((206 (if c then(1:Int) else 0).toNat [x]).flatten++(206 (if U then(1:Int) else 0).toNat [y]).flatten).length+(206 (if a then(1:Int) else 0).toNat [z]).flatten.length<=sizeLine:=fun c U a x y z=>small (by have:=Z c x;have:=Z U y;have:=Z a z;rw[ac6];omega);by_cases Q:aT s=true
   . refine ic Q ⟨_,rfl,_,rfl,_,rfl,_,_,rfl,rfl,L _,I _,N _,_,_,rfl,rfl,t _ _ _ _,by show 1<=208;decide,_,rfl,_,.inr rfl,_,_,rfl,rfl,_,rfl,_,_,rfl,rfl,L _,I _,N _,_,_,rfl,rfl,d _ _ _ _ _ _,?_⟩;dsimp only;rw[M];exact O _ (by unfold aP;rw[Q];simp)
   . refine gQ Q ⟨_,rfl,_,_,rfl,rfl,L _,I _,N _,_,_,rfl,rfl,t _ _ _ _,by show 1<=208;decide,_,rfl,_,.inr rfl,_,_,rfl,rfl,_,rfl,_,_,rfl,rfl,L _,I _,N _,_,_,rfl,rfl,d _ _ _ _ _ _,?_⟩;dsimp only;rw[M];exact O _ (by unfold aP;rw[Bool.not_eq_true] at Q;rw[Q];rfl)
end
def kZ(ds:List Dt):LD.cutD ds none (some (-1))=ds.dropLast:=by
 unfold LD.cutD;rw[HT.kj,at1,au6];have e:HT.da ds.length ds.length (some (-1))=ds.length - 1:=by
  show(if (-1:Int) < 0 then((-1:Int)+(ds.length:Int)).toNat else min (-1:Int).toNat ds.length)=_;rw[if_pos 104];omega
 rw[e,List.dropLast_eq_take]
def kY{os:List (210 Nat)}(O:1<=hi)(n:hi<=os.length)(m:i=((hi - 1:Nat):Int))(M:j=(hi:Int))(d:Dt)(x:210 Nat)(y:d=oD x):LD.cutD (os.map oD) none (some i)++ [d]++LD.cutD (os.map oD) (some j) none=(os.set (hi - 1) x).map oD:=by
 subst m;subst M;subst y;unfold LD.cutD;rw[HT.sv,HT.sv,HT.kj,HT.kj,aa9,Nat.min_eq_left n,Nat.min_eq_left 163,at1,au6,<-List.map_take,<-List.map_drop,as4 (l:=(os.drop hi).map oD) (by rw[aa9,aq8];exact ab6 _)];rw[List.set_eq_take_append_cons_drop,if_pos 163,ad1,ad4,af9];rw[show hi - 1+1=hi by omega];rfl
def ph(ds:List Dt)(L hi:210 Int):(LD.cutD ds L hi).length<=ds.length:=by
 unfold LD.cutD;have:=HT.DO ds.length ds.length (ab6 _) hi;exact ad9 (List.length_take_le ..) 163
def AF(h:ps≠ []):jS (ps.map nI) (-1)=some (nI (ps.getLastD 1)):=by
 have e:ps.map nI=ps.dropLast.map nI++ [nI (ps.getLastD 1)]:=by
  rw[<-List.map_singleton (f:=nI),<-ad1];congr 1
  rw[aq4,List.getLast?_eq_some_getLast h,at7,at4 h]
 rw[e];exact pL _ _
def top2{A:List Nat}(h:2<=A.length):jS (A.map nI) (-2)=some (nI (A.dropLast.getLastD 1)):=by
 have j:A.dropLast≠ []:=fun z=>by have:=ah4 List.length z;simp at this;omega
 have g:(A.map nI)[A.length - 2]?=some (nI (A.dropLast.getLastD 1)):=by
  rw[ab8,aq4,List.getLast?_eq_getElem?,aq0,List.getElem?_dropLast,if_pos 163];rw[show A.length - 1 - 1=A.length - 2 by omega,ab2 163];rfl
 unfold jS zw;rw[if_neg 104,aa9,if_pos 163];show(A.map nI)[_]?=_;rw[show(-2+(A.length:Int)).toNat=A.length - 2 by omega];exact g
def iY(h:ps≠ []):ps.getLastD 1∈ps:=by
 rw[aq4,List.getLast?_eq_some_getLast h,at7];exact List.getLast_mem h
section
variable{P:214}{w:237}{K:207}{mg:Str->210 212}{base:Heap}
def A9(F:eW K "behind" "behind" sA f fd)(T:Txt mg):aU P w K mg base dy 1 f fd ["stand","word"] (bT cK):=by
 refine mq F j9 192 (fun r A X s H E o=>⟨_,(ao (kd (dv 0) (mn 2 3 4 rfl j9.nd))
 (ao (cZ (uk (dv 1) bM)
 (aG (aL (ba (aa (gW (dv 2) (ba (aa (dv 3) af))) (aa (dY (dv 3) ay) (aa (dv 4) af))))))
 bE)
 (ao (cG 5 j9.nd (dD (dv 2) (ju ay)))
 (ao (cG 6 j9.nd (fV (uk (dv 1) bM) (dv 3) (dD (dv 2) (ju ay))))
 (aG (aL (ba (aa (mT (dv 2) iP (iO (ju ay))) (aa (dv 3) (aa (gW (gW (mT (dv 4) iP (iO (gy (dv 5) ay))) (ba (aa (dv 6) af))) (mT (dv 4) (iO (dv 5)) iP)) af)))))))))),fun t G h=>?_⟩)
 . obtain⟨s,w,rfl,_⟩:=h;rfl
 . obtain⟨s,w,rfl,g,q⟩:=h;refine⟨_,rfl,_,_,_,rfl,⟨_,rfl,rfl⟩,⟨_,rfl,rfl⟩,⟨_,rfl,rfl⟩,_,rfl,_,rfl,_,rfl,?_⟩;rcases q with ⟨rfl,q⟩ | ⟨rfl,C,q⟩ | ⟨rfl,C,q⟩
   . refine ic 104 ?_;refine⟨_,rfl,_,rfl,by show 1<=sizeLine;decide,_,_,rfl,rfl,small (by have:=g.p;rw[aa9];simp;omega),_,rfl,_,_,rfl,rfl,_,rfl,by show 3<=sizeLine;decide,?_⟩;have e:s.read.dt= .tup [.tup (s.aC.map nI++ [nI s.b]), .int ((s.b:Int)+1), .tup 194]:=by
      unfold St.read St.dt;rw[ad1];rfl
     rw[e] at q;exact q
   . refine gQ 104 ?_;have B:=g.je _ (iY C);have Z: ∀i:Option Int,(LD.cutD 194 none i).length<=s.bZ.length:=fun i=>by have:=ph 194 none i;rwa [aa9] at this
     have V:=g.n;have u:=kY (os:=s.bZ) (hi:=s.aC.getLastD 1) B.1 B.2 (i:=140 - 1) (j:=140) 163 rfl (nI s.b) (some s.b) rfl;refine⟨_,rfl,_,rfl,_,_,_,.inr rfl,rfl,AF C,⟨_,rfl,rfl⟩,_,rfl,_,rfl,_,rfl,ic 104 ⟨_,rfl,⟨_,rfl,rfl⟩,?_⟩⟩;refine⟨_,rfl,_,rfl,_,rfl,_,rfl,_,rfl,_,rfl,_,rfl,_,_,rfl,rfl,_,rfl,_,rfl,_,rfl,by show 1<=208;decide,_,_,rfl,rfl,small (by have:=Z (some (((s.aC.getLastD 1:Nat):Int) - 1));simp only [ad6,ak9];omega),_,rfl,_,rfl,_,rfl,_,rfl,_,_,rfl,rfl,?_,by show 3<=208;decide,?_⟩
     . rw[<-ac6,u,aa9,ae5];exact small 163
     . rw[u,kZ];have e:s.next.dt= .tup [.tup (s.aC.map nI).dropLast,nI s.b, .tup ((s.bZ.set 199 (some s.b)).map oD)]:=by
        unfold St.next St.AH St.dt;rw[aw0]
       rw[e] at q;exact q
   . refine gQ 104 ?_;have D:s.aC≠ []:=fun z=>by rw[z] at C;exact absurd C 104
     have B:=g.je _ (iY D);have Z: ∀i:210 Int,(LD.cutD 194 none i).length<=s.bZ.length:=fun i=>by have:=ph 194 none i;rwa [aa9] at this
     have V:=g.n;have u:=kY (os:=s.bZ) (hi:=s.aC.getLastD 1) B.1 B.2 (i:=140 - 1) (j:=140) 163 rfl (nI 180) (some 180) rfl;refine⟨_,rfl,_,rfl,_,_,_,.inr rfl,rfl,AF D,⟨_,rfl,rfl⟩,_,rfl,_,rfl,_,rfl,gQ 104 ⟨_,rfl,_,rfl,_,_,_,.inr rfl,rfl,top2 C,⟨_,rfl,rfl⟩,?_⟩⟩;refine⟨_,rfl,_,rfl,_,rfl,_,rfl,_,rfl,_,rfl,_,rfl,_,_,rfl,rfl,_,rfl,_,rfl,_,rfl,by show 1<=208;decide,_,_,rfl,rfl,small (by have:=Z (some (((s.aC.getLastD 1:Nat):Int) - 1));simp only [ad6,ak9];omega),_,rfl,_,rfl,_,rfl,_,rfl,_,_,rfl,rfl,?_,by show 3<=208;decide,?_⟩
     . rw[<-ac6,u,aa9,ae5];exact small 163
     . rw[u,kZ];have e:s.under.dt= .tup [.tup (s.aC.map nI).dropLast,nI s.b, .tup ((s.bZ.set 199 (some 180)).map oD)]:=by
        unfold St.under St.AH St.dt;rw[aw0]
       rw[e] at q;exact q
end
section
variable{P:214}{w:237}{K:207}{mg:Str->210 212}{base:Heap}
def xn(F:eW K "_law_behind" "_law_behind" n9 f fd)(T:Txt mg):aU P w K mg base dy 1 f fd ["_law_stand","_law_word"] (bT cK):=by
 refine mq F lR 192 (fun r A X s H E o=>⟨_,(ao (kd (dv 0) (mn 2 3 4 rfl lR.nd))
 (ao (cZ (uk (dv 1) bM)
 (aG (aL (ba (aa (gW (dv 2) (ba (aa (dv 3) af))) (aa (dY (dv 3) ay) (aa (dv 4) af))))))
 bE)
 (ao (cG 5 lR.nd (fV (uk (dv 1) bM) (dv 3) (dD (dv 2) (ju ay))))
 (aG (aL (ba (aa (mT (dv 2) iP (iO (ju ay))) (aa (dv 3) (aa (gW (gW (mT (dv 4) iP (iO (gy (dD (dv 2) (ju ay)) ay))) (ba (aa (dv 5) af))) (mT (dv 4) (iO (dD (dv 2) (ju ay))) iP)) af))))))))),fun t G h=>?_⟩)
 . obtain⟨s,w,rfl,_⟩:=h;rfl
 . obtain⟨s,w,rfl,g,q⟩:=h;refine⟨_,rfl,_,_,_,rfl,⟨_,rfl,rfl⟩,⟨_,rfl,rfl⟩,⟨_,rfl,rfl⟩,_,rfl,_,rfl,_,rfl,?_⟩;rcases q with ⟨rfl,q⟩ | ⟨rfl,C,q⟩ | ⟨rfl,C,q⟩
   . refine ic 104 ?_;refine⟨_,rfl,_,rfl,by show 1<=sizeLine;decide,_,_,rfl,rfl,small (by have:=g.p;rw[aa9];simp;omega),_,rfl,_,_,rfl,rfl,_,rfl,by show 3<=sizeLine;decide,?_⟩;have e:s.read.dt= .tup [.tup (s.aC.map nI++ [nI s.b]), .int ((s.b:Int)+1), .tup 194]:=by
      unfold St.read St.dt;rw[ad1];rfl
     rw[e] at q;exact q
   . refine gQ 104 ?_;have B:=g.je _ (iY C);have Z: ∀i:Option Int,(LD.cutD 194 none i).length<=s.bZ.length:=fun i=>by have:=ph 194 none i;rwa [aa9] at this
     have V:=g.n;have u:=kY (os:=s.bZ) (hi:=s.aC.getLastD 1) B.1 B.2 (i:=140 - 1) (j:=140) 163 rfl (nI s.b) (some s.b) rfl;refine⟨_,rfl,_,rfl,_,rfl,ic 104 ⟨_,rfl,⟨_,rfl,rfl⟩,?_⟩⟩;refine⟨_,rfl,_,rfl,_,rfl,_,rfl,_,rfl,_,rfl,_,rfl,_,rfl,_,_,_,.inr rfl,rfl,AF C,_,_,rfl,rfl,_,rfl,_,rfl,_,rfl,by show 1<=208;decide,_,_,rfl,rfl,small (by have:=Z (some (140 - 1));simp only [ad6,ak9];omega),_,rfl,_,rfl,_,rfl,_,_,_,.inr rfl,rfl,AF C,_,rfl,_,rfl,_,_,rfl,rfl,?_,by show 3<=208;decide,?_⟩
     . rw[<-ac6,u,aa9,ae5];exact small 163
     . rw[u,kZ];have e:s.next.dt= .tup [.tup (s.aC.map nI).dropLast,nI s.b, .tup ((s.bZ.set 199 (some s.b)).map oD)]:=by
        unfold St.next St.AH St.dt;rw[aw0]
       rw[e] at q;exact q
   . refine gQ 104 ?_;have D:s.aC≠ []:=fun z=>by rw[z] at C;exact absurd C 104
     have B:=g.je _ (iY D);have Z: ∀i:210 Int,(LD.cutD 194 none i).length<=s.bZ.length:=fun i=>by have:=ph 194 none i;rwa [aa9] at this
     have V:=g.n;have u:=kY (os:=s.bZ) (hi:=s.aC.getLastD 1) B.1 B.2 (i:=140 - 1) (j:=140) 163 rfl (nI 180) (some 180) rfl;refine⟨_,rfl,_,rfl,_,rfl,gQ 104 ⟨_,rfl,_,rfl,_,_,_,.inr rfl,rfl,top2 C,⟨_,rfl,rfl⟩,?_⟩⟩;refine⟨_,rfl,_,rfl,_,rfl,_,rfl,_,rfl,_,rfl,_,rfl,_,rfl,_,_,_,.inr rfl,rfl,AF D,_,_,rfl,rfl,_,rfl,_,rfl,_,rfl,by show 1<=208;decide,_,_,rfl,rfl,small (by have:=Z (some (140 - 1));simp only [ad6,ak9];omega),_,rfl,_,rfl,_,rfl,_,_,_,.inr rfl,rfl,AF D,_,rfl,_,rfl,_,_,rfl,rfl,?_,by show 3<=208;decide,?_⟩
     . rw[<-ac6,u,aa9,ae5];exact small 163
     . rw[u,kZ];have e:s.under.dt= .tup [.tup (s.aC.map nI).dropLast,nI s.b, .tup ((s.bZ.set 199 (some 180)).map oD)]:=by
        unfold St.under St.AH St.dt;rw[aw0]
       rw[e] at q;exact q
def vE(s:St):Dt:=if s.b<=s.bZ.length\/s.aC.length≠1 then .aO else .tup ((s.bZ.set (s.aC.headD 1 - 1) (some 0)).map oD)
def TB:DN:=fun t Q=> ∃s:St,t= [s.dt]/\pW s/\Q (vE s)
def IV(F:eW K "_law_end" "_law_end" DM f fd)(T:Txt mg):aU P w K mg base dy 1 f fd ["_law_stand"] (bT TB):=by
 refine mq F DD (fun t I h=>?_) (fun r A X s H E o=>⟨_,(ao (kd (dv 0) (mn 1 2 3 rfl DD.nd))
 (ao (cZ (PW.pt (w_or (Q9 (dv 2) (cQ T.len (aa (dv 3) af))) (nQ (AJ (cQ T.len 155) ay))))
 (aG (aL fT))
 bE)
 (aG (aL (gW (gW (mT (dv 3) iP (iO (gy (dD (dv 1) ay) ay))) (ba (aa ay af))) (mT (dv 3) (iO (dD (dv 1) ay)) iP)))))),fun t I h=>?_⟩)
 . obtain⟨s,rfl,_⟩:=h;rfl
 . obtain⟨s,rfl,e,q⟩:=h;refine⟨_,rfl,_,_,_,rfl,⟨_,rfl,rfl⟩,⟨_,rfl,rfl⟩,⟨_,rfl,rfl⟩,_,rfl,_,rfl,_, .inr rfl,_,_,rfl,rfl,_,rfl,?_⟩;by_cases G:s.b<=s.bZ.length
   . refine ic (af3 (by rw[aa9];exact Int.ofNat_le.mpr G)) (bJ ?_);rw[vE,if_pos (.inl G)] at q;exact q
   . refine gQ (by rw[aa9];intro z;exact G (Int.ofNat_le.mp (ae1 z))) ⟨_,rfl,_, .inr rfl,_,rfl,_,rfl,?_⟩;by_cases a:s.aC.length=1
     . refine gQ (by rw[aa9,a];decide) ?_;obtain⟨U,b,O⟩:=s;obtain⟨p,rfl⟩: ∃p,U= [p]:=by
        match U,a with
        | [p],_=>exact⟨p,rfl⟩
       have B:=e.je p 111;have V:=e.n;dsimp only at B V;have Z: ∀i:210 Int,(LD.cutD (O.map oD) none i).length<=O.length:=fun i=>by have:=ph (O.map oD) none i;rwa [aa9] at this
       have u:=kY (os:=O) (hi:=p) B.1 B.2 (i:=((p:Nat):Int) - 1) (j:=((p:Nat):Int)) 163 rfl (.int 0) (some 0) rfl;refine⟨_,rfl,_,rfl,_,_,_,.inr rfl,rfl,rfl,_,_,rfl,rfl,_,rfl,_,rfl,by show 1<=208;decide,_,_,rfl,rfl,small (by have:=Z (some (((p:Nat):Int) - 1));simp only [ad6,ak9];omega),_,rfl,_,rfl,_,_,_,.inr rfl,rfl,rfl,_,rfl,_,rfl,_,_,rfl,rfl,?_,?_⟩
       . rw[<-ac6,u,aa9,ae5];exact small 163
       . rw[u];rw[vE,if_neg (by intro z;rcases z with z | z;exact G z;exact z rfl)] at q;exact q
     . refine ic (by rw[aa9];simp;omega) ?_;rw[vE,if_pos (.inr a)] at q;exact q
end
end bb
namespace bb
open PySem PySem.Spec L2 LB LW LD PyProof.Rows
section
variable{P:214}{w:237}{K:207}{mg:Str->210 212}{base:Heap}
def IP(F:eW K "_law_take" "_law_take" si f fd)(T:Txt mg):aU P w K mg base dy 1 f fd ["_law_state","_law_many"] Dr:=by
 refine F.ok gN (fun O H Q E h=>?_) (fun bC A Y s H O Q E M h=>?_)
 . obtain⟨d,c,t,m,rfl,_⟩:=h;rfl
 . obtain⟨d,c,t,m,rfl,B,ht,U,I,q⟩:=h;have n:=eG M;have Z:=B.ne;have t0:=B.t0;obtain⟨S,v,L,R⟩:=B.cs;refine⟨_,bf (df (i:=2) gN.nd rfl (Or.inl rfl) (dh oy (ku n (pv 0) fZ (fun _ _=>rfl)) ck))
    (bf (sD n (pv 0) fZ (pv 2) rfl)
    (bf (df (i:=3) gN.nd rfl (Or.inl rfl) (dh lZ (pv 2) (gr lr 158 T.len PySem.boot_len (aj (ku n (pv 0) fZ (fun _ _=>rfl)) aM))))
    (bf (df (i:=4) gN.nd rfl (Or.inl rfl) (En sU (ku n (pv 0) fZ (fun _ _=>rfl)) (pv 3) (fun _ _=>rfl)))
    (bf (uI (i6 RZ (pv 4) (dh Ez ck ck) (dI _))
     (bf (xf (gr lu 158 T.dvm tK (aj (pv 4) (aj (pv 1) aM))) (cM rfl (aH (NS (ku n (pv 0) fZ (fun _ _=>rfl)) (pv 3) set_list) (aH (az (i:=5) gN.nd rfl (Or.inl rfl)) bO))))
      (dQ (lV (pv 5)))) ko)
    (bf (df (i:=6) gN.nd rfl (Or.inl rfl) (dh lZ (dh jI (dh oy (dh oy (dh lZ (pv 4) ck) (dh jI (dh jI (pv 2) (pv 2)) ck)) ck) ck) ck))
    (bf (df (i:=6) gN.nd rfl (Or.inl rfl) (dh lZ (dh jI (pv 6) (pv 6)) ck))
    (dQ (lV (dh lZ (dh IJ (dh lZ (dh jI (dh oy (pv 6) (dh jI (pv 2) ck)) ck) ck) ck) (pv 1)))))))))),?_⟩
   refine⟨_,rfl,d,_,rfl,by rw[<-Kv c t];exact ni.k (k:=Sum.inr "turn") B.dc,_,_,rfl,rfl,?_⟩;refine⟨_,rfl,_,rfl,d,_,rfl,ng.k (k:=Sum.inr "turn") B.dc (by show 2 < 208;decide),?_⟩;rw[P7];have x:197 d=some (.dK (bx c (t+1))):=ag;have a:197 c=some (.lst 172):=by rw[ah Z.symm];exact v
   have l:ni 197 d (.str "cells") (some (.ref c)):=by rw[<-vT c (t+1)];exact ni.k (k:=Sum.inr "cells") x
   have z:(0:Int) < ((172).length:Int):=by rw[aa9];omega
   refine⟨_,rfl,_,rfl,d,_,rfl,l,c,_,rfl,.inl (dr.of a),_,_,rfl,rfl,z,?_⟩;have X:0<=(t+1) % ((172).length:Int):=Int.emod_nonneg _ 163;have J:(t+1) % ((172).length:Int) < ((172).length:Int):=av0 _ z;obtain⟨C,N⟩: ∃C,(172)[((t+1) % ((172).length:Int)).toNat]?=some (V.int C):=by
    have y:((t+1) % ((172).length:Int)).toNat < S.length:=by rw[aa9] at X J ⊢;omega
    exact⟨S[((t+1) % ((172).length:Int)).toNat],by simp⟩
   refine⟨_,rfl,d,_,rfl,l,_,rfl,c,_,_,_,rfl,rfl,dr.of a,KC X N,?_⟩;refine⟨_,rfl,_,_,rfl,rfl,(show Cn 10 18 from by unfold Cn;decide),_,_,rfl,rfl,_,rfl,?_⟩;refine Xg (fun _=>?_) (fun _=>?_)
   . refine⟨_,rfl,_,rfl,_,_,rfl,⟨U,I⟩,fun p G=>?_⟩;have D:(upd 197 p (.tup [.int (C / m), .int (C % m)])) d=some (.dK (bx c (t+1))):=by rw[ah (au x G)];exact x
     have u:(upd 197 p (.tup [.int (C / m),.int (C % m)])) c=some (.lst 172):=by rw[ah (au a G)];exact a
     refine⟨p,_,rfl,dH.of ag,rfl,_,_,rfl,?_⟩;refine⟨_,rfl,d,_,rfl,by rw[<-vT c (t+1)];exact ni.k (k:=Sum.inr "cells") D,_,rfl,c,_,_,_,rfl,rfl,u,Jp X J,?_⟩;refine⟨_,_,rfl,rfl,?_⟩;refine⟨_,rfl,?_⟩;refine q _ _ (Int.emod_nonneg _ 163) (av0 _ U) ⟨by rw[ah Z];exact D,⟨S.set ((t+1) % ((172).length:Int)).toNat (C / m),?_,by rw[ae5];exact L,by rw[ae5];exact R⟩,by omega,by omega⟩ fun b o e g r=>?_
     . rw[ag,List.map_set]
     . have j:197 b=some o:=by rw[ah g];exact e
       rw[ah r,ah (au j G)];exact j
   . refine⟨_,rfl,_,_,rfl,rfl,(by show(0:Int) < 2147483549;decide),_,rfl,_,rfl,_,_,rfl,rfl, .inl ⟨by omega,by omega⟩,_,_,rfl,rfl, .inr ⟨by decide,by decide⟩,_,_,rfl,rfl,_,_,rfl,rfl,_,_,rfl,rfl, .inr ⟨by decide,by decide⟩,_,_,rfl,rfl,(by show(0:Int) < 2147483647;decide),?_⟩;generalize hmx:((C % 2147483549+(t+1)*(t+1)*4441+23)*48271 % 2147483647:Int)=mx;have m0:0<=mx:=by rw[<-hmx];exact Int.emod_nonneg _ 104
     have m1:mx < 2147483647:=by rw[<-hmx];exact av0 _ 104
     refine⟨_,rfl,_,rfl,_,_,rfl,rfl,.inl ⟨by omega,by omega⟩,_,_,rfl,rfl,(by show(0:Int) < 2147483399;decide),?_⟩;refine⟨_,rfl,_,rfl,_,_,rfl,rfl,.inr ⟨by decide,by decide⟩,_,_,rfl,rfl,_,_,rfl,rfl,.inr ⟨by decide,by decide⟩,_,_,rfl,rfl,(by show(0:Int) < 2147483549;decide),_,_,rfl,rfl,⟨by decide,by decide⟩,_,rfl,_,_,rfl,rfl,U,?_⟩;refine q _ _ (Int.emod_nonneg _ 163) (av0 _ U) ⟨x,⟨S,a,L,R⟩,by omega,by omega⟩ fun b o e g r=>?_;rw[ah g];exact e
def EI(F:eW K "_law_begin" "_law_begin" sr f fd)(T:Txt mg):aU P w K mg base dy 1 f fd ["_law_script"] (rS K):=by
 refine F.ok n6 (fun y H Q E h=>?_) (fun O A X s H y Q E r h=>?_)
 . obtain⟨a,S,rfl,_⟩:=h;rfl
 . obtain⟨a,S,rfl,M,Y,q⟩:=h;have U:=eG r;refine⟨_,bf (df (i:=1) n6.nd rfl (Or.inl rfl) (gq lq 158 T.lst cz (aj (uM HR (pv 0) zh (zf ck)) aM)))
    (bf (uI (i6 (A4 r.rN) (pv 1) (oq aM) (dI _)) (dQ (df (i:=1) n6.nd rfl (Or.inl rfl) (oq (aj ck aM)))) ko)
    (dQ (lV (ID (uK fZ (pv 1) (uK fZ ck Iy)) rfl rfl 111 104)))),?_⟩
   refine⟨_,rfl,_,rfl,a,_,rfl,M,fun p N=>?_⟩;have z:pA 172 none (some 63)=S.map V.int:=by
    unfold pA;rw[HT.kj,show((63:Int))=((63:Nat):Int) from rfl,HT.sv,at1,au6,aa9];exact as4 (by rw[aa9];omega)
   rw[z];refine⟨p,_,rfl,.inl (dr.of ag),fun l C=>?_⟩;have R:aF H (upd (upd H p (.lst 172)) l (.lst 172)):=fun b o e=>by
    have j:(upd H p (.lst 172)) b=some o:=by rw[ah (au e N)];exact e
    rw[ah (au j C)];exact j
   have I:(upd (upd H p (.lst 172)) l (.lst 172)) l=some (.lst 172):=ag;generalize upd (upd H p (.lst 172)) l (.lst 172)=H1 at R I;refine⟨_,rfl,af2 _,fun m L=>?_⟩;have t:aF H1 (upd H1 m (.lst [])):=fun b o e=>by rw[ah (au e L)];exact e
   refine⟨l,m,_,rfl,rfl,dr.of (t _ _ I),dr.of ag,_,rfl,?_⟩;have fin: ∀(g:Addr) (k:List Int) (J:Hp),aF H J->J g=some (.lst (k.map V.int))->0 < k.length->k.length<=63->K7 [(tC (.str "cells"),fg 1),(tC (.str "turn"),tC (.int 0))] [some 190,some (.ref g)] J Q:=fun g k J x c u v=>by
    intro d D;have G:g≠d:=au c D;refine⟨_,rfl,ag,[(Sum.inr "cells",.ref g),(Sum.inr "turn",.int 0)],rfl,by show 2<=15;decide,?_⟩;have B:jJ [] [((Sum.inr "cells":Key),V.ref g),(Sum.inr "turn",V.int 0)]=bx g 0:=by
     simp [jJ,putK,bx,Xf]
    rw[B];refine q d g _ ⟨ag,⟨k,by rw[ah G,ah G];exact c,u,v⟩,ak7 _,by decide⟩ fun b o e=>?_;have j:=x b o e;rw[ah (au j D),ah (au j D)];exact j
   cases n:S with
   | nil=>
    refine bJ ⟨by show 1<=208;decide,fun g c=>?_⟩;refine fin g [17] _ (fun b o e=>?_) ag 104 104;have j:=t _ _ (R b o e);rw[ah (au j c)];exact j
   | cons n0 nr=>
    refine bo ?_;exact fin l S _ (fun b o e=>t _ _ (R b o e)) (t _ _ I) (by rw[n];simp) Y
def ED(F:eW K "_law_take" "_law_take" si f fd)(T:Txt mg):aU P w K mg base dy 1 f fd ["_law_state","_law_many"] (Cq uj):=(IP F T).imp fun _ _ _ _ h=>HH h
end
end bb
namespace bb
open PySem PySem.Spec L2 LB LD PyProof.Rows
def jf(s:St)(w:Str):Bool:=(aT s && ("read":Str)==w) || (aP s && ("next":Str)==w) || (aN s && ("under":Str)==w)
def fN(s:St)(w:Str):St:=if ("read":Str)=w then s.read else if ("next":Str)=w then s.next else s.under
def oQ:inD (.str w) (di s)=jf s w:=by
 unfold di jf inD;cases aT s <;> cases aP s <;> cases aN s <;> simp [Me,Bool.or_assoc]
structure Good(n m:Nat)(s:St):Prop where
 l:s.bZ.length=n
 p:s.aC.length<=m
 b:1<=s.b
 je: ∀w∈s.aC,1<=w/\w<=n
def xU(n:Nat):Good n 0 (first n):=⟨ak6,ab6 _,ab6 _,fun w z=>213 z ab3⟩
def Good.BM(g:Good n m s)(t:n<=12)(A:m<=100):pW s:=⟨by rw[g.l];lia,by have:=g.p;lia,fun w z=>by rw[g.l];exact g.je w z⟩
def vo(g:Good n m s)(Q:Nat):Good n (m+1) (s.AH Q):=⟨by show(s.bZ.set _ _).length=n;rw[ae5,g.l],by show s.aC.dropLast.length<=_;rw[aq0];have:=g.p;lia,g.b,fun w z=>g.je w ((List.dropLast_sublist _).subset z)⟩
def fA(h:jf s w=true):(w="read"/\aT s=true/\fN s w=s.read)\/(w="next"/\aP s=true/\fN s w=s.next)\/(w="under"/\aN s=true/\fN s w=s.under):=by
 unfold jf at h;rw[Bool.or_eq_true,Bool.or_eq_true,ah9,ah9,ah9,ac4,ac4,ac4] at h;unfold fN;rcases h with (⟨h,e⟩ | ⟨h,e⟩) | ⟨h,e⟩
 . subst e;exact .inl ⟨rfl,h,if_pos rfl⟩
 . subst e;exact .inr (.inl ⟨rfl,h,by rw[if_neg 104,if_pos rfl]⟩)
 . subst e;exact .inr (.inr ⟨rfl,h,by rw[if_neg 104,if_neg 104]⟩)
def BF(g:Good n m s)(h:jf s w=true):Good n (m+1) (fN s w):=by
 rcases fA h with ⟨_,c,e⟩ | ⟨_,c,e⟩ | ⟨_,c,e⟩
 . rw[e];have T:s.b<=s.bZ.length:=ae1 c;refine⟨g.l,by show(s.aC++ [s.b]).length<=_;rw[ac6];have:=g.p;show s.aC.length+1<=_;lia,by show 1<=s.b+1;lia,fun w z=>?_⟩;rcases ad2.mp z with h | h
   . exact g.je w h
   . cases ab4.mp h;exact⟨g.b,by rw[<-g.l];exact T⟩
 . rw[e];exact vo g _
 . rw[e];exact vo g _
def dU(f:pW s)(h:jf s w=true)(q:Q (fN s w).dt):cK [s.dt,.str w] Q:=by
 refine⟨s,w,rfl,f,?_⟩;rcases fA h with ⟨e,c,z⟩ | ⟨e,c,z⟩ | ⟨e,c,z⟩
 . rw[z] at q;exact .inl ⟨e,q⟩
 . rw[z] at q;refine .inr (.inl ⟨e,fun y=>?_,q⟩);unfold aP at c;rw[y] at c;simp at c
 . rw[z] at q;exact .inr (.inr ⟨e,ae1 c,q⟩)
def oK:(di s).all eM=true:=by
 unfold di;cases aT s <;> cases aP s <;> cases aN s <;> rfl
def BL{n:Nat}:Dt.tup [.tup [],.int 1,.tup (206 ((n:Int)).toNat [Dt.aO]).flatten]=(first n).dt:=by
 show _=Dt.tup [.tup [],.int 1,.tup ((206 n none).map oD)];rw[Tr,List.map_replicate,ai6];rfl
def Pq:eq2 (nI x) (nI y)=some (decide (x=y)):=by
 show some (decide ((x:Int)=(y:Int)))=_;exact ah4 some (am8.mpr ⟨fun h=>by lia,fun h=>by rw[h]⟩)
def KA{ds:List Dt}{t:Nat}(e:1<=t)(h:ds[t - 1]?=some d):jS ds ((t:Int) - 1)=some d:=by
 rw[show((t:Int) - 1)=((t - 1:Nat):Int) by lia];exact aS h
def AE(n:List Nat):Dt:= .tup (n.map nI)
end bb
namespace qp
open PySem PySem.Spec L2 PyProof.Rows
def Nr{d e:Heap}(f:WG P w a xs d)(k: ∀o,d.get? a=some o->e.get? a=some o):WG P w a xs e:=by
 obtain⟨g,i,A,L,o,J,h,p,x⟩:=f;exact⟨g,i,A,L,o,J,h,k _ p,x⟩
def Nk(tk Z:TE)(P:214)(w:237):TE:=fun c H Q=> ∀p,H p=none->tk c (upd H p (rZ P w p [])) fun x l=>Z c l fun y J=> ∃b k,x= .ref b/\J p=some (rZ P w p [])/\lz J k b/\Q (.ref p) (upd J p (rZ P w p [(k,b,y)]))
def Ek(hu:241+2 < cLine)(N:PE X k tk)(O:PE X v tv):PE X (.Dict [some k] [v] pos) (Nk tk tv X.prog X.w):=by
 intro c s g H Q I q;have V:=I.aQ.fresh (ab6 205);have Y:=I.laid (a:=205) (o:=rZ X.prog X.w s.heap.objs.size []) (h':=s.heap.push {cls:= .type "dict",data:= .dict #[]}) (t':=235) (fun _ _ q=>ab1 _ q) (ab6 _) (DC s.heap I.big);rw[arm_eval_Dict,zip_pairTrees [some k] [v] X.env pos rfl rfl,dictDisplay_pairs _ (by show(_::_:List _)≠ [];intro z;cases z) (by show 1 < 17;decide)];refine aa8 (ah1 (aa8 ?_));unfold subDict;refine aa8 (wpAny_alloc ?_);refine aa8 (af6 ?_);rw[if_pos (by show 1<=15;decide)];refine aa8 (pairTrees_cons_walk (aV (N c _ g _ _ Y (q _ V)) fun u m ⟨x,H1,B,l,S⟩=>aV (O c m g _ _ B S) fun w2 s2 ⟨y,J,r,W,j⟩=>pairTrees_nil_walk ?_));obtain⟨b,κ,t,e,Z,T⟩:=j;subst t;cases (show u=Value.ref b from l);refine af6 (aa8 ?_);rw[ai8];have d:GR X.prog X.w J s.heap.objs.size []:=⟨e,fun x i=>213 i ab3⟩
 obtain⟨z,M,ys,p,C⟩:=DA r.aQ d;cases p;refine aa8 (aa8 (wpAny_dictSet_heap (knd:=jC X.prog X.w) (show 241+1 < cLine by lia) (Z.is r.aQ) C (fun h' wj n=>ab0 ?_) (af2 _)));dsimp only;rw[aq7];obtain⟨L,P,D,U,h,E,F,_,G⟩:=wj;refine ab0 (ab0 (ab0 (ab0 ⟨.ref 205,_,?_,rfl,T⟩)));refine fS r 201 n ⟨L,U⟩ ⟨⟨by show 1<=208;decide,M,[(κ,b,w2)],.cons ⟨rfl,rfl,W⟩ .nil,L,P,D,U,h,E,F,G⟩,⟨L,U⟩,fun h1 tW f R=>Nr f R⟩
end qp
namespace qp
open PySem PySem.Spec L2 LB LD PyProof.Rows
def ZM:210 Int->Dt
 | none=> .aO
 | some i=> .int i
def QA(k:SK):Dt:= .tup [.tup (k.1.map .int),.int k.2.1,.tup (k.2.2.map ZM)]
structure mD(M:Addr->Prop)(H:Hp)(k:SK)(b:Addr):Prop where
 ex: ∃b1 b2,(H b=some (.tup [.ref b1,.int k.2.1,.ref b2])/\ ¬M b)/\(H b1=some (.tup (k.1.map V.int))/\ ¬M b1)/\(H b2=some (.tup (k.2.2.map oV))/\ ¬M b2)
def mD.at(x:mD M H k b):lz H k b:=let ⟨b1,b2,e,e1,e2⟩:=x.ex;⟨b1,b2,e.1,e1.1,e2.1⟩
def mD.st(x:mD M H k b)(h: ∀a o,H a=some o-> ¬M a->H' a=some o/\ ¬M' a):mD M' H' k b:=let ⟨b1,b2,e,e1,e2⟩:=x.ex;⟨b1,b2,h _ _ e.1 e.2,h _ _ e1.1 e1.2,h _ _ e2.1 e2.2⟩
def zx: ∀{ns:List Int} {vs:List V},aB M H vs (ns.map Dt.int)->vs=ns.map V.int
 | [],vs,r=>r.cD
 | n::ns,vs,r=>by
  obtain⟨x,q,rfl,d,o⟩:=r.aK;cases d.ofInt;rw[zx o];rfl
def sI: ∀{ns:List (210 Int)} {vs:List V},aB M H vs (ns.map ZM)->vs=ns.map oV
 | [],vs,r=>r.cD
 | none::ns,vs,r=>by
  obtain⟨x,q,rfl,d,o⟩:=r.aK;cases d.R6;rw[sI o];rfl
 | some n::ns,vs,r=>by
  obtain⟨x,q,rfl,d,o⟩:=r.aK;cases d.ofInt;rw[sI o];rfl
def mD.of(r:Rep M H v (QA k)): ∃b,v= .ref b/\mD M H k b:=by
 obtain⟨b,i,rfl,c,w,I⟩:=r.bU;obtain⟨S,x,rfl,t,I⟩:=I.aK;obtain⟨E,h,rfl,f,I⟩:=I.aK;obtain⟨g,y,rfl,C,I⟩:=I.aK;cases I.cD;obtain⟨Q,l,rfl,d,s,P⟩:=t.bU;cases f.ofInt;obtain⟨j,z,rfl,e,R,u⟩:=C.bU;rw[zx P] at d;rw[sI u] at e;exact⟨b,rfl,Q,j,⟨c,w⟩,⟨d,s⟩,⟨e,R⟩⟩
def p7(xs:List SE):List (SK × V):=xs.map fun x=>(x.1,x.2.2)
end qp
namespace bb
open PySem PySem.Spec L2 LB LD PyProof.Rows qp
def sk(s:St):SK:=(s.aC.map Int.ofNat,Int.ofNat s.b,s.bZ.map (Option.map Int.ofNat))
def Dy:QA (sk s)=s.dt:=by
 unfold QA sk St.dt;simp only [ae6];congr 1
 refine List.cons_eq_cons.mpr ⟨rfl,List.cons_eq_cons.mpr ⟨rfl,List.cons_eq_cons.mpr ⟨?_,rfl⟩⟩⟩;congr 1
 refine ae0 fun o _=>?_;cases o <;> rfl
def Dw(h:sk s=sk t):s=t:=by
 obtain⟨p,b,o⟩:=s;obtain⟨u,j,a⟩:=t;unfold sk at h;obtain⟨d,h⟩:=Prod.mk.inj h;obtain⟨f,C⟩:=Prod.mk.inj h;have z: ∀x y:Nat,Int.ofNat x=Int.ofNat y->x=y:=fun x y e=>Int.ofNat.inj e;have W: ∀x y:210 Nat,x.map Int.ofNat=y.map Int.ofNat->x=y:=fun x y e=>by
  cases x with
  | none=>cases y with
   | none=>rfl
   | some y=>cases e
  | some x=>cases y with
   | none=>cases e
   | some y=>exact ah4 some (z x y (215 e))
 have k:p=u:=(au9 z).mp d;have q:b=j:=z _ _ f;have A:o=a:=(au9 W).mp C;rw[k,q,A]
def jK(s:St):List Str:=(if aT s then [("read":Str)] else [])++(if aP s then [("next":Str)] else [])++(if aN s then [("under":Str)] else [])
def qI:di s=(jK s).map .str:=by
 unfold di jK;rw[ad1,ad1];congr 1
 . congr 1 <;> split <;> rfl
 . split <;> rfl
def zq(h:w∈jK s):jf s w=true:=by
 rw[<-oQ,qI];unfold inD;exact au0.mpr ⟨_,List.mem_map_of_mem h,by show decide (w=w)=true;exact af3 rfl⟩
def OK(o:bN k A):A.units+2 < cLine:=ao9 (Nat.add_le_add_left (by decide:2<=64) _) o.units
def sQ:(di s).length<=3:=by
 unfold di;cases aT s <;> cases aP s <;> cases aN s <;> simp
structure Wk(n m:Nat)(s:St):Prop where
 g:Good n m s
 bl:s.b<=n+1
 nd:s.aC.Nodup
 lt: ∀w∈s.aC,w < s.b
 un: ∀w,1<=w->w<=n->(s.bZ[w - 1]?=some none↔w∈s.aC\/s.b<=w)
def CY(n:Nat):Wk n 0 (first n):=by
 refine⟨xU n,by show 1<=n+1;lia,aj8,fun w z=>213 z ab3,fun w d e=>⟨fun _=> .inr d,fun _=>?_⟩⟩;show(206 n none)[w - 1]?=some none;rw[ad7,if_pos 102]
def CW(k:Wk n m s)(g:Good n (m+1) (s.AH on))(Q:s.aC≠ []):Wk n (m+1) (s.AH on):=by
 obtain⟨q,h,e⟩: ∃q h,s.aC=q++ [h]:=⟨s.aC.dropLast,s.aC.getLast Q,(at4 Q).symm⟩
 have C:s.aC.getLastD 1=h:=by rw[e];simp
 have D:s.aC.dropLast=q:=by rw[e];simp
 have E:=k.nd;have S:=k.lt;have B:=k.g.je;rw[e] at E S B;have U:h∉q:=fun z=>by
  have:=aj4.mp E;exact this.2.2 h z h ac9 rfl
 have f:h < s.b:=S h 111;have d:1<=h/\h<=n:=B h 111;refine⟨g,k.bl,?_,fun w A=>?_,fun w O p=>?_⟩
 . show s.aC.dropLast.Nodup;rw[D];exact(aj4.mp E).1
 . have A:w∈s.aC.dropLast:=A;rw[D] at A;exact S w (af5 _ A)
 . show(s.bZ.set 199 (some on))[w - 1]?=some none↔w∈s.aC.dropLast\/s.b<=w;rw[C,D];have o:=k.un w O p;rw[e] at o;have L:=k.g.l;by_cases c:w=h
   . subst c;rw[ad5 102];exact⟨fun z=>(by cases z),fun z=>z.elim (fun y=>213 y U) fun y=>by lia⟩
   . rw[ac2 102,o,ad2,ab4];exact⟨fun z=>z.elim (fun y=>y.elim .inl fun x=>213 x c) .inr,fun z=>z.elim (fun y=> .inl (.inl y)) .inr⟩
def HA(k:Wk n m s)(h:jf s w=true):Wk n (m+1) (fN s w):=by
 have g:=BF k.g h;rcases fA h with ⟨_,c,e⟩ | ⟨_,c,e⟩ | ⟨_,c,e⟩
 . rw[e] at g ⊢;have T:s.b<=s.bZ.length:=ae1 c;have L:=k.g.l;refine⟨g,by show s.b+1<=n+1;lia,?_,fun w A=>?_,fun w O o=>?_⟩
   . show(s.aC++ [s.b]).Nodup;refine aj4.mpr ⟨k.nd,am5.mpr ⟨ab3,aj8⟩,fun a f b d z=>?_⟩;have:=k.lt a f;rw[ab4.mp d] at z;lia
   . rcases ad2.mp (show w∈s.aC++ [s.b] from A) with z | z
     . exact an9 (k.lt w z)
     . rw[ab4.mp z];exact Nat.lt_succ_self _
   . show s.bZ[w - 1]?=some none↔w∈s.aC++ [s.b]\/s.b+1<=w;rw[k.un w O o,ad2,ab4];constructor
     . rintro(z | z)
       . exact .inl (.inl z)
       . by_cases c:w=s.b
         . exact .inl (.inr c)
         . exact .inr 102
     . rintro((z | z) | z)
       . exact .inl z
       . exact .inr 102
       . exact .inr 102
 . rw[e] at g ⊢;refine CW k g fun z=>?_;unfold aP at c;rw[z] at c;simp at c
 . rw[e] at g ⊢;refine CW k g fun z=>?_;have c:1 < s.aC.length:=ae1 c;rw[z] at c;exact 213 c 111
structure Lv(n m:Nat)(s:St):Prop where
 k:Wk n m s
 c:m+s.aC.length+2=2*s.b
 p: ∀(i:Nat) x,s.bZ[i]?=some (some x)->1<=x
def EU(n:Nat):Lv n 0 (first n):=⟨CY n,rfl,fun i x h=>by
 have h:(206 n (none:210 Nat))[i]?=some (some x):=h;rw[ad7] at h;split at h <;> cases h⟩
def nA(l:Lv n m s)(o:jf s w=true):Lv n (m+1) (fN s w):=by
 refine⟨HA l.k o,?_,?_⟩
 . have Q:=l.k.g.b;have c:=l.c;rcases fA o with ⟨rfl,T,e⟩ | ⟨rfl,T,e⟩ | ⟨rfl,T,e⟩ <;> rw[e]
   . show m+1+(s.aC++ [s.b]).length+2=2*(s.b+1);rw[ac6];show m+1+(s.aC.length+1)+2=2*(s.b+1);lia
   all_goals
    have C:1<=s.aC.length:=by
     first
      | (unfold aP at T;rw[ah9] at T;cases q:s.aC with | nil=>rw[q] at T;cases T.2 | cons a b=>simp)
      | (unfold aN at T;have:=ae1 T;lia)
    show m+1+s.aC.dropLast.length+2=2*s.b;rw[aq0];lia
 . rcases fA o with ⟨rfl,T,e⟩ | ⟨rfl,T,e⟩ | ⟨rfl,T,e⟩ <;> rw[e]
   . exact l.p
   . intro i x h;have h:(s.bZ.set 199 (some s.b))[i]?=some (some x):=h;rw[List.getElem?_set] at h;split at h
     . split at h
       . cases h;exact l.k.g.b
       . cases h
     . exact l.p i x h
   . intro i x h;have h:(s.bZ.set 199 (some 180))[i]?=some (some x):=h;rw[List.getElem?_set] at h;split at h
     . split at h
       . cases h;have v:2<=s.aC.length:=by unfold aN at T;exact ae1 T
         have C:s.aC.dropLast≠ []:=fun z=>by have:=ah4 List.length z;rw[aq0,ak9] at this;lia
         exact(l.k.g.je _ ((List.dropLast_sublist _).subset (iY C))).1
       . cases h
     . exact l.p i x h
def Jl(l:Lv n m s)(r:1<=n):(s.b=n+1/\s.aC.length=1)↔m=2*n - 1:=by
 have c:=l.c;have M:=l.k.bl;constructor
 . rintro⟨d,e⟩;lia
 . intro h;constructor <;> lia
def cN(s:St):Bool:=!(decide (s.b<=s.bZ.length) || decide (s.aC.length≠1))
def kS(s:St):List Nat:=(s.bZ.set (s.aC.headD 1 - 1) (some 0)).map (·.getD 0)
def kA(l:Lv n m s)(r:1<=n):cN s=decide (m=2*n - 1):=by
 have:=Jl l r;have u:=l.k.g.l;have M:=l.k.bl;unfold cN;rw[u,ap4,Bool.not_eq_true',Bool.or_eq_false_iff,ar6,ar6,decide_eq_true_iff,<-this];constructor
 . rintro⟨d,e⟩;exact 176
 . rintro⟨d,e⟩;exact⟨by lia,fun z=>z e⟩
def Pw(h:cN s=false):vE s= .aO:=by
 unfold cN at h;unfold vE;rw[if_pos];simp only [Bool.not_eq_false',Bool.or_eq_true,decide_eq_true_eq] at h;exact h
def zO(l:Lv n m s)(h:cN s=true):vE s=AE (kS s):=by
 unfold cN at h;simp only [Bool.not_eq_true',Bool.or_eq_false_iff,ar6] at h;unfold vE;rw[if_neg (by rintro(z | z);exact h.1 z;exact h.2 z)];unfold AE kS;rw[ae6];congr 1
 refine ae0 fun o y=>?_;obtain⟨i,I,e⟩:=ah7 y;cases o with
 | some x=>rfl
 | none=>
  exfalso;have H:(s.bZ.set (s.aC.headD 1 - 1) (some 0))[i]?=some none:=by rw[ab2 I,e]
  have L:i < s.bZ.length:=by rw[ae5] at I;exact I
  rw[List.getElem?_set] at H;split at H
  . split at H <;> cases H
  . rename_i Q;have u:=l.k.g.l;have b:=(l.k.un (i+1) 102 102).mp (by rw[Nat.add_sub_cancel];exact H);rcases b with z | z
    . have Z : s.aC.length = 1 := by
        have:=h.2;exact Classical.not_not.mp this
      match hp:s.aC,Z with
      | [a],_=>
       rw[hp] at z Q;have:i+1=a:=ab4.mp z;exact Q (by show a - 1=i;lia)
    . exact h.1 102
end bb
namespace LD
open PySem PySem.Spec L2 LB PyProof.Rows LW
def rY{E:dw}(Q:List Sl->Prop)(h: ∀H:dw,(∀k,Q k->H.nx k)->(∀d k,E.rt d k->H.rt d k)->T H δ)(fin: ∀k,Q k->R E k):Kb T R E δ:=h _ fin fun _ _ z=>z
end LD
namespace bb
open PySem PySem.Spec L2 LB LD PyProof.Rows
def UU(n:List Nat)(w:Nat):Nat:=n.getD (w - 1) 0
def Wm(n:List Nat)(x:Nat):Nat × Nat:=(min x (UU n x),max x (UU n x))
def Y0(p q:Nat × Nat):Bool:=decide (p.1 < q.1) && (decide (q.1 < p.2) && decide (p.2 < q.2))
def KZ(n:List Nat):List (Nat × Nat):=(List.range' 1 n.length).map (Wm n)
def plB(n:List Nat):Bool:=(KZ n).all fun p=>((KZ n).filter (Y0 p)).isEmpty
def cyc(n:List Nat):Nat->Nat->Bool
 | 0,_=>true
 | k+1,x=>if UU n x=0 then false else cyc n k (UU n x)
def hgB(n:List Nat):Bool:=decide (n.count 0=1) && (List.range' 1 n.length).all fun v=>!cyc n (n.length+1) v
def WI(n:Nat):(219 n).map (fun j=>Dt.int (1+(j:Nat)))=(116).map nI:=by
 rw[ar4,ae6];refine ae0 fun j _=>?_;show Dt.int (1+(j:Int))=Dt.int ((1+j:Nat):Int);rw[show(1+(j:Int))=((1+j:Nat):Int) by lia]
def grow(n w:Nat)(h:List Nat):List 188:=((219 (n+1)).filter fun o=>decide (o≠w)).map fun o=>h++ [o]
def QD(n:Nat):Nat->List 188
 | 0=> [[]]
 | w+1=>(QD n w).flatMap (grow n (w+1))
def Zc(n:Nat):List 188:=(QD n n).filter hgB
def FD:(grow n w h).length<=n+1:=by
 unfold grow;rw[aa9];exact ad9 (al9 _ _) (by rw[af0];exact ab6 _)
def FQ{α N:Type}{f:α->List N}{k:Nat}(h: ∀x,(f x).length<=k): ∀{L:List α},(L.flatMap f).length<=L.length*k
 | []=>by simp
 | x::L=>by
  rw[as6,ac6,ad6,Nat.add_mul];have:=h x;have:=FQ h (L:=L);lia
def ze: ∀w,(QD n w).length<=(n+1)^w
 | 0=>ab6 _
 | w+1=>by
  have:=FQ (f:=grow n (w+1)) (fun _=>FD) (L:=QD n w);have u:=ze (n:=n) w;rw[Nat.pow_succ];exact ad9 this (Nat.mul_le_mul_right _ u)
def D6: ∀w,∀h∈QD n w,h.length=w/\ ∀x∈h,x<=n
 | 0=>fun h L=>by rw[ab4.mp L];exact⟨rfl,fun x i=>213 i ab3⟩
 | w+1=>fun h L=>by
  obtain⟨g,b,O⟩:=ai9.mp L;obtain⟨o,y,rfl⟩:=ad3.mp O;have y:=ak5.mp (an5.mp y).1;obtain⟨l,r⟩:=D6 w g b;refine⟨by rw[ac6,l];rfl,fun x i=>?_⟩;rcases ad2.mp i with z | z
  . exact r x z
  . rw[ab4.mp z];lia
def Yq(v:n<=5)(z:w<=5):(n+1)^w<=7776:=ad9 (Nat.pow_le_pow_left (show n+1<=6 by lia) w) (ad9 (Nat.pow_le_pow_right 104 z) 104)
end bb
namespace bb
open PySem PySem.Spec L2 LB LD PyProof.Rows qp
inductive Rc(n:Nat):Nat->St->Prop
 | zero:Rc n 0 (first n)
 | step {m:Nat} {s:St} {w:Str}:Rc n m s->jf s w=true->Rc n (m+1) (fN s w)
def Rc.lv(h:Rc n m s):Lv n m s:=by
 induction h with
 | zero=>exact EU n
 | step _ o ih=>exact nA ih o
def zr(h:cN s=true):jK s= []:=by
 unfold cN at h;rw[Bool.not_eq_true',Bool.or_eq_false_iff] at h;obtain⟨d,e⟩:=h;have d:=ag0 d;have e:s.aC.length=1:=Decidable.not_not.mp (ag0 e);have r:aT s=false:=ae8 d;have Y:aP s=false:=by unfold aP;rw[r];rfl
 have u:aN s=false:=ae8 102;unfold jK;rw[r,Y,u];rfl
def i7:w∈jK s↔jf s w=true:=by
 refine⟨zq,fun h=>?_⟩;unfold jK;rcases fA h with ⟨rfl,c,_⟩ | ⟨rfl,c,_⟩ | ⟨rfl,c,_⟩ <;> simp [c]
def Rc.le(r:1<=n)(h:Rc n m s):m<=2*n - 1:=by
 cases h with
 | zero=>lia
 | step h o=>
  rename_i m s w;have l:=h.lv;have c:=l.c;have M:=l.k.bl;by_cases z:m=2*n - 1
  . have:=kA l r;rw[af3 z] at this;have p:=i7.mpr o;rw[zr this] at p;exact 213 p ab3
  . have v:=(nA l o).c;have j:=(nA l o).k.bl;have P:=kA (nA l o) r;lia
def Rc.up(h:Rc n m s):s.aC.Pairwise (· < ·):=by
 induction h with
 | zero=>exact List.Pairwise.nil
 | step h o ih=>
  rename_i m s w;have S:=h.lv.k.lt;have W: ∀Q,(s.AH Q).aC.Pairwise (· < ·):=fun Q=>ih.sublist (List.dropLast_sublist _);rcases fA o with ⟨rfl,T,e⟩ | ⟨rfl,T,e⟩ | ⟨rfl,T,e⟩ <;> rw[e]
  . refine au2.mpr ⟨ih,av6 _ _,fun a f b c=>?_⟩;rw[ab4.mp c];exact S a f
  . exact W _
  . exact W _
def Dp(s:St):List St:=(if aT s then [s.read] else [])++(if aP s then [s.next] else [])++(if aN s then [s.under] else [])
def Rt:Dp s=(jK s).map (fN s):=by
 have r:fN s "read"=s.read:=rfl;have n:fN s "next"=s.next:=by unfold fN;rw[if_neg 104,if_pos rfl]
 have u:fN s "under"=s.under:=by unfold fN;rw[if_neg 104,if_neg 104]
 unfold Dp jK;cases aT s <;> cases aP s <;> cases aN s <;> simp [r,n,u]
def sN:t∈Dp s↔ ∃w,jf s w=true/\t=fN s w:=by
 rw[Rt,ad3];exact⟨fun⟨w,h,e⟩=>⟨w,i7.mp h,e.symm⟩,fun⟨w,h,e⟩=>⟨w,i7.mpr h,e.symm⟩⟩
def Js(A:List St)(t:St):List St:=if t∈A then A else A++ [t]
def U1(n:Nat):Nat->List St
 | 0=> [first n]
 | m+1=>((U1 n m).flatMap Dp).foldl Js []
def zy: ∀{L A:List St},t∈L.foldl Js A↔t∈A\/t∈L
 | [],A=>by simp
 | x::L,A=>by
  rw[List.foldl_cons,zy];have:t∈Js A x↔t∈A\/t=x:=by
   unfold Js;split
   . rename_i h;exact⟨.inl,fun z=>z.elim id fun y=>by rw[y];exact h⟩
   . rw[ad2,ab4]
  rw[this,ad8];exact⟨fun z=>z.elim (fun y=>y.elim .inl fun x=> .inr (.inl x)) fun y=> .inr (.inr y),fun z=>z.elim (fun y=> .inl (.inl y)) fun y=>y.elim (fun x=> .inl (.inr x)) .inr⟩
def DW(h:Rc n m s):s∈U1 n m:=by
 induction h with
 | zero=>exact ab4.mpr rfl
 | step _ o ih=>exact zy.mpr (.inr (ai9.mpr ⟨_,ih,sN.mpr ⟨_,o,rfl⟩⟩))
def Co(n:Nat):List St:=(219 (2*n)).flatMap (U1 n)
def NK(r:1<=n)(h:Rc n m s):s∈Co n:=ai9.mpr ⟨m,ak5.mpr (by have:=h.le r;lia),DW h⟩
inductive Fr(s:St):St->Prop
 | rf:Fr s s
 | step {t:St} {w:Str}:Fr s t->jf t w=true->Fr s (fN t w)
def Fr.rc(h:Rc n m s)(f:Fr s t): ∃N,Rc n N t:=by
 induction f with
 | rf=>exact⟨m,h⟩
 | step _ o ih=>obtain⟨N,r⟩:=ih;exact⟨_,r.step o⟩
def Fr.head(o:jf s w=true)(f:Fr (fN s w) t):Fr s t:=by
 induction f with
 | rf=>exact .step .rf o
 | step _ o' ih=>exact ih.step o'
def Fr.cases(f:Fr s t):t=s\/ ∃w,jf s w=true/\Fr (fN s w) t:=by
 induction f with
 | rf=>exact .inl rfl
 | step f o ih=>
  rcases ih with z | ⟨w,C,g⟩
  . subst z;exact .inr ⟨_,o,.rf⟩
  . exact .inr ⟨w,C,g.step o⟩
def vD:Nat->St->List 188
 | 0,s=>if cN s then [kS s] else []
 | k+1,s=>if cN s then [kS s] else(Dp s).flatMap (vD k)
def o8(v:1<=n): ∀(k m:Nat) (s:St) (h:List Nat),Rc n m s->m+k=2*n - 1->(h∈vD k s↔ ∃t,Fr s t/\cN t=true/\kS t=h)
 | 0,m,s,h,r,e=>by
  have P:=kA r.lv v;rw[af3 102] at P;unfold vD;rw[if_pos P];constructor
  . intro z;exact⟨s,.rf,P,(ab4.mp z).symm⟩
  . rintro⟨t,f,Z,rfl⟩
    rcases f.cases with z | ⟨w,o,_⟩
    . rw[z];exact ab4.mpr rfl
    . have p:=i7.mpr o;rw[zr P] at p;exact 213 p ab3
 | k+1,m,s,h,r,e=>by
  have P:=kA r.lv v;rw[ae8 102] at P;unfold vD;rw[if_neg (by rw[P];exact ab9),ai9];constructor
  . rintro⟨u,q,L⟩
    obtain⟨w,o,rfl⟩:=sN.mp q;obtain⟨t,f,Z,S⟩:=(o8 v k (m+1) _ h (r.step o) 102).mp L;exact⟨t,f.head o,Z,S⟩
  . rintro⟨t,f,Z,S⟩
    rcases f.cases with z | ⟨w,o,g⟩
    . rw[z,P] at Z;cases Z
    . exact⟨_,sN.mpr ⟨w,o,rfl⟩,(o8 v k (m+1) _ h (r.step o) 102).mpr ⟨t,g,Z,S⟩⟩
def uJ(p:List Nat)(i:Nat):Nat:=((0::p).filter fun x=>decide (x < i)).getLastD 0
def km(s:St)(i:Nat):List Nat:=match s.bZ.getD (i - 1) none with
 | some x=> [x]
 | none=>if i∈s.aC then uJ s.aC i::List.range' s.b (s.bZ.length+1 - s.b) else(0::s.aC)++(List.range' s.b (s.bZ.length+1 - s.b)).filter fun x=>decide (x≠i)
def rows(s:St):List 188:=(List.range' 1 s.bZ.length).map (km s)
def fG(n:Nat):List 188:=(Zc n).filter plB
def fits:List Nat->List 188->Bool
 | x::h,r::R=>decide (x∈r) && fits h R
 | _,_=>true
def Fh(E:List 188)(i:Nat)(r:List Nat):Bool:=E.all (fun h=>decide (h.getD i 0∈r)) && (r.all (fun x=>E.any fun h=>decide (h.getD i 0=x)) && (r.zip r.tail).all fun p=>decide (p.1 < p.2))
def chk(n m:Nat)(s:St):Bool:=
 let E:=(fG n).filter fun h=>fits h (rows s)
 let F:=vD (2*n - 1 - m) s
 F.all (fun h=>decide (h∈E)) && (E.all (fun h=>decide (h∈F)) && (219 n).all fun i=>Fh E i ((rows s).getD i []))
def B4(n:Nat):Bool:=(219 (2*n)).all fun m=>(U1 n m).all (chk n m)
def Y6:B4 1=true:=by decide+kernel
def Y5:B4 2=true:=by decide+kernel
def Y4:B4 3=true:=by decide+kernel
def Y3:B4 4=true:=by decide+kernel
end bb
namespace bb
open PySem PySem.Spec L2 LB LD PyProof.Rows
def lsN(r:List Nat):Dt:= .lst (r.map nI)
def Qa(s:St):List Nat:=List.range' s.b (s.bZ.length+1 - s.b)
def WJ(b n:Nat):(219 n).map (fun k=>Dt.int ((b:Int)+(k:Nat)))=(List.range' b n).map nI:=by
 rw[ar4,ae6];refine ae0 fun j _=>?_;show Dt.int _=Dt.int _;congr 1
def vw: ∀{L:List Nat} {k i:Nat},L.Pairwise (· < ·)->L[k]?=some i->L.filter (fun x=>decide (x < i))=L.take k
 | [],k,i,_,h=>by simp at h
 | a::L,0,i,p,h=>by
  cases h;rw[List.filter_cons_of_neg 111];exact List.filter_eq_nil_iff.mpr fun x j=>by have:=(ap0.mp p).1 x j;simp;lia
 | a::L,k+1,i,p,h=>by
  have h:L[k]?=some i:=by simpa using h
  have D:=(ap0.mp p).1 i (ae4 h);rw[List.filter_cons_of_pos (by simpa using D),vw (ap0.mp p).2 h];rfl
def Iw{p:List Nat}{j i:Nat}(c:p.Pairwise (· < ·))(d: ∀x∈p,1<=x)(h:p[j]?=some i):(0::p)[j]?=some (uJ p i):=by
 have E:(0::p).Pairwise (· < ·):=ap0.mpr ⟨fun x k=>d x k,c⟩;have g:j < p.length:=(ac1.mp h).1;unfold uJ;rw[vw E (show(0::p)[j+1]?=some i by simpa using h),aq4,List.getLast?_take,ab2 (show j < (0::p).length by rw[ad6];lia)];simp
 rw[ab2 (show j < (0::p).length by rw[ad6];lia)];rfl
def Hg{p:List Nat}:inD (nI i) (p.map nI)=decide (i∈p):=by
 unfold inD;rw[List.any_map,ap4,au0,decide_eq_true_iff];constructor
 . rintro⟨x,j,e⟩
   have e:((x:Int)==(i:Int))=true:=e;have:=eq_of_beq e;rw[show i=x by lia];exact j
 . intro h;exact⟨i,h,beq_self_eq_true (i:Int)⟩
def flN(p:List Nat):(p.map nI).all eM=true:=ag4.mpr fun d D=>by obtain⟨x,_,rfl⟩:=ad3.mp D;rfl
def ZR(i:Nat):Dt->Bool
 | .int x=>!decide (x=(i:Int))
 | _=>false
def Jh{L:List Nat}:(L.map nI).filter (ZR i)=(L.filter fun x=>decide (x≠i)).map nI:=by
 rw[List.filter_map];congr 1
 refine List.filter_congr fun x _=>?_;show(!decide ((x:Int)=(i:Int)))=decide (x≠i);by_cases c:x=i
 . rw[af3 102,ae8 (fun z=>z c)];rfl
 . rw[ae8 102,af3 c];rfl
def ZK:DN:=fun t Q=> ∃(n m:Nat) (s:St) (i:Nat),t= [s.dt,nI i]/\Rc n m s/\n<=12/\1<=i/\i<=n/\Q (lsN (km s i))
def Ld:DN:=fun t Q=> ∃(n m:Nat) (s:St),t= [s.dt]/\Rc n m s/\n<=12/\Q (.lst ((rows s).map lsN))
def DT{s:St}(h:s.bZ.getD (i - 1) none=some x):km s i= [x]:=by unfold km;rw[h]
def Nz{s:St}(h:s.bZ.getD (i - 1) none=none)(hi:i∈s.aC):km s i=uJ s.aC i::Qa s:=by unfold km;rw[h];exact if_pos hi
def Ic{s:St}(h:s.bZ.getD (i - 1) none=none)(hi:i∉s.aC):km s i=(0::s.aC)++(Qa s).filter fun x=>decide (x≠i):=by unfold km;rw[h];exact if_neg hi
def N4{s:St}(l:s.bZ.length=n)(d:1<=i)(e:i<=n):(194)[i - 1]?=some (oD (s.bZ.getD (i - 1) none)):=by
 rw[ab8,List.getD,ab2 (show i - 1 < s.bZ.length by lia)];rfl
section
variable{P:214}{w:237}{K:207}{mg:Str->210 212}{base:Heap}
def R3(F:eW K "allowed_of" "allowed_of" fw f fd)(T:Txt mg):aU P w K mg base dy 1 f fd ["stand","word"] (bT ZK):=by
 refine mq F fO (fun B L h=>?_) (fun a A Y s H E hr=>⟨_,(ao (kd (dv 0) (mn 2 3 4 rfl fO.nd))
 (ao (cZ (rQ (dD (dv 4) (gy (dv 1) ay)))
 (aG (aL (fU (aa (dD (dv 4) (gy (dv 1) ay)) af))))
 bE)
 (ao (cG 5 fO.nd (gW (ba (aa ay af)) (dv 2)))
 (ao (iG 6 fO.nd (Jd rfl T.lst T.je (aa (dv 3) (aa (dY (cQ T.len (aa (dv 4) af)) ay) af))))
 (ao (cZ (HJ (dv 1) (dv 2))
 (aG (kc 6 (aL (tu (fU (aa (dD (dv 5) (J9 (dv 2) 155)) af)) (dv 6)))))
 bE)
 (aG (kc 6 (aL (tu (Ov.ev (N8 T.lst (aa (dv 5) af))) (Ov.ev (cm (N:= ["other","word"]) (nt:=1) (js:= [1]) ⟨rfl,by decide+kernel,by decide,rfl,by decide+kernel,(by show∀x∈(_:List 131),x.2=224->(ae fw).names.lookup x.1=some .cell\/(ae fw).names.lookup x.1=some .free;decide+kernel)⟩ rfl (mi (dv 6)) (fun _ _ _ _ _=>az (i:=0) (show(["other","word"]:List Str).Nodup by decide+kernel) rfl 103) bB aY (fun _ _ _ _ _=>zM (AJ (dv 0) (dv 1))) (fun _ _ _ _ _=>(dv 0))))))))))))),fun B L h=>?_⟩)
 . obtain⟨n,m,s,i,rfl,_⟩:=h;rfl
 . obtain⟨n,m,s,i,rfl,I,pX,y,Z,q⟩:=h;have o:=I.lv;have U:=o.k.g.l;have e:=o.k.bl;have V:=o.k.g.b;have pl:s.aC.length<=30:=by have:=o.k.g.p;have:=o.c;lia
   have s3:3000<=sizeLine:=by decide
   have X:=KA y (N4 U y Z);have O:(194).length=n:=by rw[aa9,U]
   refine⟨_,rfl,_,_,_,rfl,⟨_,rfl,rfl⟩,⟨_,rfl,rfl⟩,⟨_,rfl,rfl⟩,?_⟩;refine⟨_,rfl,_,rfl,_,_,rfl,rfl,_,_,_,.inr rfl,rfl,X,?_⟩;cases Q:s.bZ.getD (i - 1) none with
   | some x=>
    rw[Q] at X;refine⟨true,rfl,bJ ?_⟩;refine⟨_,rfl,_,rfl,_,_,rfl,rfl,_,_,_,.inr rfl,rfl,X,by show 1<=208;decide,?_⟩;rw[DT Q] at q;exact q
   | none=>
    refine⟨false,rfl,bo ?_⟩;refine⟨by show 1<=208;decide,_,rfl,_,_,rfl,rfl,by rw[aa9];show 1+s.aC.length<=208;lia,⟨_,rfl,rfl⟩,?_⟩;refine⟨_,rfl,_,rfl,_,.inr rfl,_,_,rfl,rfl,(s.b:Int),s.bZ.length+1 - s.b,?_,by lia,by lia,by lia,⟨_,rfl,rfl⟩,?_⟩
    . rw[O,show(n:Int)+1=(s.b:Int)+((s.bZ.length+1 - s.b:Nat):Int) by lia]
    rw[WJ];have G:(Qa s).length<=13:=by unfold Qa;rw[ae7];lia
    refine⟨_,rfl,_,rfl,_,.inr rfl,rfl,flN _,?_⟩;rw[if_neg ab9,Hg];by_cases c:i∈s.aC
    . obtain⟨j,t,M⟩:=ah7 c;have C:s.aC[j]?=some i:=by rw[ab2 t,M]
      have nd:=o.k.nd;refine⟨true,by rw[af3 c],bJ ?_⟩;refine⟨_,rfl,_,rfl,_,rfl,⟨_,rfl⟩,_,rfl,_,nI i,j,nI i,rfl,rfl,rfl,flN _,by rw[ab8,C];rfl,beq_self_eq_true (i:Int),fun k u S v=>?_,?_⟩
      . rw[ab8] at v;obtain⟨x,r,rfl⟩:=ak1.mp v;show((x:Int)==(i:Int))=false;rw[ai3];intro z;have z:x=i:=by lia
        obtain⟨J,ek⟩:=ac1.mp r;have:=al6.mp I.up k j J t S;lia
      . have D:=Iw I.up (fun x r=>(o.k.g.je x r).1) C;refine⟨_,_,nI (uJ s.aC i), .inr rfl,rfl,aS (by
         show([Dt.int 0]++s.aC.map nI)[j]?=_;have: [Dt.int 0]++s.aC.map nI=(0::s.aC).map nI:=rfl;rw[this,ab8,D];rfl),by show 1<=208;decide,_,rfl,_,_,rfl,rfl,?_,?_⟩
        . show 1+((List.range' s.b (s.bZ.length+1 - s.b)).map nI).length<=208;rw[aa9];unfold Qa at G;lia
        . rw[Nz Q c] at q;exact q
    . refine⟨false,by rw[ae8 c],bo ?_⟩;refine⟨_,rfl,_,rfl,_, .inr rfl,?_⟩;refine⟨_,rfl,_,rfl,?_,ZR i,id,fun d R=>?_,?_⟩
      . rw[aa9];unfold Qa at G;lia
      . obtain⟨x,r,rfl⟩:=ad3.mp R;exact⟨⟨_,rfl,rfl⟩,_,rfl,_,rfl,_,rfl,_,rfl,rfl,fun _=>⟨_,rfl,rfl⟩⟩
      . rw[List.map_id,Jh];refine⟨_,_,rfl,rfl,?_,?_⟩
        . show(Dt.int 0::s.aC.map nI).length+_<=208;rw[ad6,aa9,aa9];have:=al9 (fun x=>decide (x≠i)) (List.range' s.b (s.bZ.length+1 - s.b));unfold Qa at G;lia
        . rw[Ic Q c] at q;unfold lsN at q;rw[ad1] at q;exact q
def xr(F:eW K "allowed" "allowed" iM f fd)(T:Txt mg)(J:eP P w K mg base "allowed_of" 1 ["stand","word"] (bT ZK)):aU P w K mg base dy 2 f fd ["stand"] (bT Ld):=by
 refine mq F AO (fun t I h=>?_) (fun r A X s H E o=>⟨_,(aG (aL (Ov.ev (cm (N:= ["word","stand"]) (nt:=1) (js:= [0]) ⟨rfl,by decide+kernel,by decide,rfl,by decide+kernel,(by show∀x∈(_:List 131),x.2=224->(ae iM).names.lookup x.1=some .cell\/(ae iM).names.lookup x.1=some .free;decide+kernel)⟩ rfl (iT T.je (aa ay (aa (dY (cQ T.len (aa (dD (dv 0) ay) af)) ay) af))) (fun _ _ _ _ _=>az (i:=0) (show(["word","stand"]:List Str).Nodup by decide+kernel) rfl 103) bB aY 141 (fun _ _ _ _ _=>(aZ J (o.mono 104) (aa (dv 1) 149))))))),fun t I h=>?_⟩)
 . obtain⟨n,m,s,rfl,_⟩:=h;rfl
 . obtain⟨n,m,s,rfl,G,u,q⟩:=h;have U:=G.lv.k.g.l;have O:(194).length=n:=by rw[aa9,U]
   refine⟨_,rfl,_,_,_,.inr rfl,rfl,aS (j:=2) rfl,_,.inr rfl,_,_,rfl,rfl,1,((194).length:Int)+1,rfl,⟨by decide,by decide,by lia,by lia⟩,?_⟩;rw[O,show((n:Int)+1 - 1).toNat=n by lia,WI];refine⟨by rw[aa9,ae7];exact small 102,fun _=>true,fun d=>match d with | .int x=>lsN (km s x.toNat) | d=>d,fun d D=>?_,?_⟩
   . obtain⟨x,p,rfl⟩:=ad3.mp D;rw[ai0] at p;refine⟨⟨_,rfl,rfl⟩,rfl,fun _=>⟨_,rfl,_,rfl,n,m,s,x,rfl,G,u,by lia,by lia,?_⟩⟩;show lsN (km s x)=lsN (km s ((x:Nat):Int).toNat);rw[ai6]
   . rw[ag6.mpr fun _ _=>rfl,ae6];unfold rows at q;rw[U,ae6] at q;have:(116).map ((fun d=>match d with | .int x=>lsN (km s x.toNat) | d=>d) ∘ nI)=(116).map (lsN ∘ km s):=ae0 fun x _=>by
      show lsN (km s ((x:Nat):Int).toNat)=_;rw[ai6];rfl
     rw[this];exact q
end
end bb
namespace qp
open PySem PySem.Spec L2 LB LD PyProof.Rows
def Oi{s s':Sl}(E:aE W M α H σ δ)(d:δ[i]?=some s)(P:σ[i]?=some (some 190))(D:α[i]?=some [a])(v:s'.cc=s.cc)(x: ∀g,o≠ .tup g)(p:(∀c u,H c=some u-> ¬M c->upd H a o c=some u/\ ¬M c)->LD.qk M (upd H a o) (some 190) s' [a]):aE W M α (upd H a o) σ (δ.set i s'):=by
 have k:M a:=E.mu a (br D 111);exact(E.mod (H':=upd H a o) d P D v (p fun c u e n=>⟨by rw[ah (fun z=>n (by rw[z];exact k))];exact e,n⟩) (fun c u e n=>by rw[ah (fun z=>n (by rw[z];simp))];exact e) (fun c m=>by rw[ab4.mp m];exact⟨_,ag,x⟩)).1
end qp
namespace qp
open PySem PySem.Spec L2 LB LD PyProof.Rows LW
section
variable{X:Cx}{d x y:Str}{dp xp yp pos pos' sE apos bz p:Pos}{k v:Expr}{tk tv:bD}{es:List Expr}{th:v9}
def WW{W:List Wd}{M:Addr->Prop}{α:List 179}{H:Hp}{F:L2.St}{D:List Sl}{p:Addr}(E:aE W M α H F D)(hd:v7 W M α p)(N: ∀P,o≠ .tup P):aE W M α (upd H p o) F D:=by
 have O: ∀c u,H c=some u-> ¬M c->upd H p o c=some u/\ ¬M c:=fun c u e n=>⟨by rw[ah (fun z=>n (by rw[z];exact hd.m))];exact e,n⟩
 refine⟨E.ls,E.la,fun j s L=>?_,E.nd,E.mu,fun a i=>?_,fun l U=>?_⟩
 . obtain⟨q,S,J,A,C⟩:=E.sl j s L;refine⟨q,S,J,A,?_⟩;have g: ∀a∈S,∀u,H a=some u->upd H p o a=some u:=fun a i u e=>by rw[ah (fun z=>hd.n (by rw[<-z];exact br A i))];exact e
   cases s with
   | no=>exact C
   | fn f=>exact C
   | bx t=>
    obtain⟨d,c,G,I,B⟩:=C;subst G;exact⟨d,c,rfl,I,g d 111 _ B.dc,(let ⟨ns,h,r⟩:=B.cs;⟨ns,g c 111 _ h,r⟩),B.t0,B.t1⟩
   | im d=>exact C.keep O g rfl
   | ow d=>exact C.keep O g rfl
   | dk a b=>exact C.keep O g rfl
   | ob R=>exact C.keep O g rfl
 . by_cases c:a=p
   . subst c;exact⟨_,ag,N⟩
   . obtain⟨u,e,n⟩:=E.al a i;exact⟨u,by rw[ah c];exact e,n⟩
 . have w:=E.w l U;refine⟨fun b u e n=>?_,fun b n=>?_,w.fr,w.m0,w.m1,w.bx,w.fz⟩
   . rw[ah (fun z => by
       subst z;rcases(hd.w l U).1 with y | y
       . exact n y
       . rw[y] at e;cases e)]
     exact w.bs b u e n
   . by_cases c:b=p
     . subst c;rw[ag];intro z;cases z
     . rw[ah c];exact w.ex b n
def hTd(th:v9):v9:=fun i Q=>th i fun L W=>Q (td [] []::L) W
def X9(o:Hv X es th)(n:209 (.Dict [] [] pos::es) 216=(false,eval (.Dict [] [] pos) 216)::209 es X.env:=by rfl):Hv X (.Dict [] [] pos::es) (hTd th):=PA.imp (aj uO o n) fun m H Q N=>(by
 obtain⟨W,M,O,i,G,E,q,k⟩:=N;intro p e;have F:aF H (upd H p (.dT [])):=aF.new e;obtain⟨B,D⟩:=E.hold (u:= .dT []) e (fun j z=>by cases z);refine⟨W,_,O,i,_,B,q,fun R Y J w h P g l b S V L c=>?_⟩;exact k _ _ _ _ _ _ g l ((cW.of F).tr b) (fun a z=>S a (.inl z)) (fun a z=>Ly E.mu cW.rf e (V a) z) (qP (s:=td [] []) e E D ⟨_,rfl,p,[],rfl,rfl,ag,rfl,.nil⟩ rfl l b S V L c)
  (fun a f=>by
   rcases ad2.mp f with y | y
   . rw[ab4.mp y];exact E.fresh e
   . exact fun z=>c a y (.inl z)))
end
def p8(O:List SK):List (SK × V):=O.map fun k=>(k,V.bl true)
def SkO(P:214)(w:237)(O:List SK):Zg where
 rel:=fun M H v R=> ∃a g,R= [a]/\v= .ref a/\H a=some (rZ P w a g)/\p7 g=p8 O/\ ∀x∈g,mD M H x.1 x.2.1
 st:=fun z b k=>by
  obtain⟨a,g,rfl,A,h,e,r⟩:=z;exact⟨a,g,rfl,A,b a 111 _ h,e,fun x i=>(r x i).st k⟩
noncomputable abbrev HS (P:214) (w:237) (O:List SK):Sl:= .ob (SkO P w O)
def kH{α:Type} [DecidableEq α](O:List α)(k:α):Bool:=O.any fun z=>decide (z=k)
def iX{α:Type} [DecidableEq α]{O:List α}{k:α}:kH O k=true↔k∈O:=by
 unfold kH;rw[au0];exact⟨fun⟨z,f,e⟩=>by rw[<-ae1 e];exact f,fun h=>⟨k,h,af3 rfl⟩⟩
def ig{α:Type} [DecidableEq α](O:List α)(k:α):List α:=if kH O k=true then O else O++ [k]
def oP{α:Type} [DecidableEq α]{O:List α}{k x:α}:x∈ig O k↔x∈O\/x=k:=by
 unfold ig;split
 . rename_i c;exact⟨.inl,fun z=>z.elim id fun y=>by rw[y];exact iX.mp c⟩
 . rw[ad2,ab4]
def zA [DecidableEq α]{O:List α}(h:O.Nodup):(ig O k).Nodup:=by
 unfold ig;split
 . exact h
 . rename_i c;refine aj4.mpr ⟨h,by simp,fun a f b d e=>c (iX.mpr ?_)⟩;rw[ab4.mp d] at e;rw[<-e];exact f
def vd{α:Type} [DecidableEq α]{O:List α}{k:α}(h:kH O k=false):ig O k=O++ [k]:=by
 unfold ig;rw[h];rfl
def Ds{i:Nat}(E:aE W M α H σ δ)(h:δ[i]?=some (HS P w ks)): ∃a g,σ[i]?=some (some 190)/\α[i]?=some [a]/\H a=some (rZ P w a g)/\p7 g=p8 ks/\ ∀x∈g,mD M H x.1 x.2.1:=by
 obtain⟨o,R,Q,t,v,rfl,a,g,rfl,rfl,d,e,C⟩:=E.sl i _ h;exact⟨a,g,Q,t,d,e,C⟩
def nR: ∀{xs:List SE} {ks:List SK},p7 xs=p8 ks->(mX xs k).isSome=kH ks k
 | [],[],_=>rfl
 | [],_::_,h=>by cases h
 | _::_,[],h=>by cases h
 | x::xs,y::ks,h=>by
  obtain⟨d,e⟩:=List.cons.inj h;obtain⟨C,B⟩:=Prod.mk.inj d;have u:=nR (k:=k) e;unfold mX at u ⊢;by_cases c:x.1=k
  . rw[List.find?_cons_of_pos (by simpa using c)];exact(iX.mpr (show k∈y::ks by rw[<-c,C];exact ac9)).symm
  . rw[List.find?_cons_of_neg (by simpa using c),u];unfold kH;rw[ao0,ae8 (fun z=>c (C.trans z)),Bool.false_or]
def qF: ∀{xs:List SE} {ks:List SK},p7 xs=p8 ks->p7 (xs.map fun x=>if x.1=k then(x.1,x.2.1,V.bl true) else x)=p8 ks
 | [],[],_=>rfl
 | [],_::_,h=>by cases h
 | _::_,[],h=>by cases h
 | x::xs,y::ks,h=>by
  obtain⟨d,e⟩:=List.cons.inj h;obtain⟨C,B⟩:=Prod.mk.inj d;have u:=qF (k:=k) e;unfold p7 p8 at u ⊢;rw[ad4,ad4,ad4,u];congr 1
  by_cases c:x.1=k
  . rw[if_pos c];exact Prod.ext C rfl
  . rw[if_neg c];exact Prod.ext C B
def DZ(h:p7 xs=p8 ks):p7 (mZ xs k b (V.bl true))=p8 (ig ks k):=by
 unfold mZ ig;rw[nR h];by_cases c:kH ks k=true
 . rw[if_pos c,if_pos c];exact qF h
 . rw[if_neg c,if_neg c];unfold p7 p8 at h ⊢;rw[ad1,ad1,h];rfl
section
variable{X:Cx}{d x y:Str}{dp xp yp pos pos' sE p:Pos}{k v e:Expr}{tk tv te:bD}{es:List Expr}{th:v9}
def Ii(P:214)(w:237):R2:=fun x y H Q=> ∃a b g k,x= .ref b/\y= .ref a/\GR P w H a g/\lz H k b/\Q (.bl (!(mX g k).isSome)) H
def AY(m:241+2 < cLine):jU X (compareOp .NotIn) (Ii X.prog X.w):=by
 intro c s i H x y v u Q I f o h;obtain⟨a,b,g,k,rfl,rfl,d,E,q⟩:=h;cases f;cases o;obtain⟨z,D,t,r,C⟩:=DA I.aQ d;refine wpAny_notIn_heap (knd:=jC X.prog X.w) (show X.A.in1.units+1 < cLine by have:X.A.in1.units=241+1:=rfl;lia) (E.is I.aQ) D C ?_;have e:(mX g k).isSome=(atKey t k).isSome:=by rw[(yX r k).l9,Option.isSome_map]
 rw[<-e];exact⟨.bl _,H,I.tok _,rfl,q⟩
def vO(P:214)(w:237)(i j:Nat):lF:=fun l Q=> ∃O k,l[i]?=some (HS P w O)/\l[j]?=some (.im (QA k))/\Q (!kH O k) l
def De(i j:Nat)(m:241+2 < cLine)(z:PE X (.Name d dp) (fg i))(n:PE X (.Name y yp) (fg j)):Tv X (.Compare (.Name y yp) [.NotIn] [.Name d dp] pos) (vO X.prog X.w i j):=PT.imp (i6 (AY m) n z rfl) fun c H Q r=>(by
 obtain⟨W,M,N,s,G,E,⟨O,k,f,g,q⟩,P⟩:=r;obtain⟨a,o,S,D,l,R,C⟩:=Ds E f;obtain⟨v,t,F⟩:=E.im g;obtain⟨b,rfl,B⟩:=mD.of F;refine⟨_,t,_,S,a,b,o,k,rfl,rfl,⟨l,fun x h=>(C x h).at⟩,B.at,_,rfl,?_⟩;rw[nR R];exact P _ _ _ q E cW.rf)
inductive Gq(P:214)(w:237)(i j:Nat)(Δ:dw)(δ:List Sl):Prop
 | mk (ks:List SK) (k:SK) (h1:δ[i]?=some (HS P w ks)) (h2:δ[j]?=some (.im (QA k))) (h3:ks.length < 208) (q:Δ.nx (δ.set i (HS P w (ig ks k))))
def HY{st:Stmt}(i j:Nat)(h:PS X st (La (fg i) (fg j) (tC (.bl true)) X.prog X.w)):Ex X st (Gq X.prog X.w i j):=PS.imp h fun D c H s=>(by
 obtain⟨u,M,N,C,J,E,L,O,k,f,r,l,q⟩:=s;obtain⟨a,g,Q,F,n,S,B⟩:=Ds E f;obtain⟨v,t,I⟩:=E.im r;obtain⟨b,rfl,A⟩:=mD.of I;have G:g.length=O.length:=by
  have:=ah4 List.length S;unfold p7 p8 at this;rw[aa9,aa9] at this;exact this
 refine⟨_,Q,_,t,a,b,g,k,rfl,rfl,⟨n,fun x m=>(B x m).at⟩,A.at,by rw[G];exact l,?_⟩;exact L.nx _ _ _ _ _ (Oi (s':=HS X.prog X.w (ig O k)) (o:=rZ X.prog X.w a (mZ g k b (V.bl true))) E f Q F rfl (fun g z=>by cases z) fun P=>⟨_,rfl,a,_,rfl,rfl,ag,DZ S,AR (R:=fun k b=>mD M _ k b) (fun x m=>(B x m).st P) (A.st P)⟩) q)
inductive FC(Q:SK->List Sl->Prop)(d1 d2:Dt)(δ2:List Sl):Prop
 | mk (k:SK) (h1:d1=QA k) (h2:d2= .bl true) (q:Q k δ2)
def Pa(P:214)(w:237)(tk tv:bD)(th:v9):v9:=fun i Q=>tk i fun h M=>tv M fun B W=>FC (fun k W=>th W fun L D=>Q (HS P w [k]::L) D) h B W
def JJ(hu:241+2 < cLine)(hk:Ev X k tk)(hv:Ev X v tv)(hr:Hv X es th)(hs:209 (.Dict [some k] [v] pos::es) 216=(false,eval (.Dict [some k] [v] pos) 216)::209 es X.env:=by rfl):Hv X (.Dict [some k] [v] pos::es) (Pa X.prog X.w tk tv th):=PA.imp (aj (Ek hu hk hv) hr hs) fun σ H Q r=>(by
 obtain⟨W,M,N,δ,Qd,E,q,kk⟩:=r;intro p C;obtain⟨R,D⟩:=E.hold (u:=rZ X.prog X.w p []) C (fun xs z=>by cases z);have sm:aF H (upd H p (rZ X.prog X.w p [])):=aF.new C;refine⟨W,_,N,δ,_,R,q,fun d1 P H1 x q1 T G r1=>⟨W,_,N,P,_,T,q1,fun d2 Y J y r l g r2=>?_⟩⟩;obtain⟨B,rfl,rfl,q2⟩:=r;cases r2.uR;obtain⟨b,rfl,F⟩:=mD.of (r1.chg T g);have i:J p=some (rZ X.prog X.w p []):=g _ _ (G _ _ ag D.n) D.n;refine⟨b,B,rfl,i,F.at,?_⟩;have s:=WW (o:=rZ X.prog X.w p [(B,b,.bl true)]) l D (fun xs z=>by cases z);have F:=F.st (H':=upd J p (rZ X.prog X.w p [(B,b,.bl true)])) (M':=fun b=>M b\/b=p) fun c u e t=>⟨by rw[ah (fun z=>t (.inr z))];exact e,t⟩
 have kp: ∀c u,H c=some u->c∉N.flatten->J c=some u:=fun c u e U=>g _ _ (G _ _ (sm _ _ e) U) U;generalize hH3:upd J p (rZ X.prog X.w p [(B,b,.bl true)])=H3 at s F ⊢;have O:H3 p=some (rZ X.prog X.w p [(B,b,.bl true)]):=by rw[<-hH3,ag]
 have Z: ∀c u,H c=some u->c∉N.flatten->H3 c=some u:=fun c u e U=>by rw[<-hH3,ah (fun z=>by rw[z,C] at e;cases e)];exact kp c u e U
 refine⟨W,_,N,Y,_,s,q2,fun ss δ3 H4 vs M' bs q3 L I S V m h=>?_⟩;refine kk _ _ _ _ _ _ q3 L (fun c u e U=>I _ _ (Z c u e U) U) (fun a z=>S a (.inl z)) (fun a z=>?_) (tS.cons (as:= [p]) ⟨rfl,_,rfl,p,[(B,b,.bl true)],rfl,rfl,I _ _ O D.n,rfl,fun x hx=>?_⟩ (fun a f=>by rw[ab4.mp f];exact⟨S p (.inr rfl),D.n,D.w⟩) 111 (fun a f=>by rw[ab4.mp f];exact fun z=>h p z (.inr rfl)) m) (fun a f=>?_)
 . cases e:H a with
   | none=>exact .inr rfl
   | some u=>
    by_cases j:a∈N.flatten
    . exact .inl (E.mu a j)
    . rcases V a z with (y | y) | y
      . exact .inl y
      . rw[y,C] at e;cases e
      . rw[Z a u e j] at y;cases y
 . rw[ab4.mp hx];exact F.st fun c u e n=>⟨I _ _ e fun z=>n (s.mu c z),fun z=>(V c z).elim n fun y=>by rw[e] at y;cases y⟩
 . rcases ad2.mp f with y | y
   . rw[ab4.mp y];exact E.fresh C
   . exact fun z=>h a y (.inl z))
def Cp{α:Type}(O:List α):List Dt:=O.map fun _=> .bl true
noncomputable abbrev Nc (O:List (List Key)):Sl:=td O (Cp O)
def K1: ∀{ks:List (List Key)} {vs:List (List Key × V)},vs.map (·.1)=ks->aB M H (vs.map (·.2)) (Cp ks)->vs=ks.map fun k=>(k,V.bl true)
 | [],[],_,_=>rfl
 | [],_::_,h,_=>by cases h
 | _::_,[],h,_=>by cases h
 | x::ks,v::vs,h,r=>by
  obtain⟨f,g⟩:=List.cons.inj h;obtain⟨y,s,e,o,I⟩:=r.aK;obtain⟨j,q⟩:=List.cons.inj e;cases o.uR;subst q;rw[K1 g I,ad4];congr 1
  exact Prod.ext f j
def Nf{k:List Key}{O:List (List Key)}:putK (O.map fun k=>(k,V.bl true)) k (V.bl true)=(ig O k).map fun k=>(k,V.bl true):=by
 unfold putK ig;have e:((O.map fun k=>(k,V.bl true)).any fun R=>decide (R.1=k))=kH O k:=by rw[List.any_map];rfl
 rw[e];by_cases c:kH O k=true
 . rw[if_pos c,if_pos c,ae6];refine ae0 fun z _=>?_;show(if z=k then(z,V.bl true) else(z,V.bl true))=_;split <;> rfl
 . rw[if_neg c,if_neg c,ad1];rfl
def HG{O:List (List Key)}:(O.map fun k=>(k,V.bl true)).map (·.1)=O:=by rw[ae6];exact List.map_id O
def yK: ∀{ks:List (List Key)},aB M H ((ks.map fun k=>(k,V.bl true)).map (·.2)) (Cp ks)
 | []=> .nil
 | x::ks=> .cons (.bl _) yK
inductive Gp(i:Nat)(Δ:dw)(d2:Dt)(δ2:List Sl):Prop
 | mk (k:List Key) (ks:List (List Key)) (h1:Bq d2=some k) (h2:δ2[i]?=some (Nc ks)) (h3:ks.length < 208) (h5:Δ.nx (δ2.set i (Nc (ig ks k))))
def PN(i:Nat)(te:bD):j3:=fun E j=>(∃F,j[i]?=some (Nc F))/\te j fun B W=>Gp i E B W
def HX{st:Stmt}(i:Nat)(h:PS X st (Lb (fg i) (lE te) (tC (.bl true)))):Ex X st (PN i te):=PS.imp h fun D σ H o=>(by
 obtain⟨A,M,R,S,Δ,E,L,⟨T,g⟩,q⟩:=o;obtain⟨a,U,f,h2,h3,h4,r3⟩:=nY E g;refine⟨_,f,A,M,R,S,_,E,q,fun d2 W J y o m Z N=>?_⟩;obtain⟨k,O,G,F,l,I⟩:=o;obtain⟨Y,vs,c,P,w,j,r⟩:=nY m F;rw[f] at c;cases c;obtain⟨kb,rfl,Q⟩:=kC N G;have B:=K1 j r;subst B;refine⟨a,_,rfl,ng.t w Q (by rw[aa9];exact l),?_⟩;rw[Nf];obtain⟨s,_⟩:=m.mod (s':=Nc (ig O k)) (H':=upd J a (.dT ((ig O k).map fun k=>(k,V.bl true)))) F f P rfl ⟨_,rfl,a,_,rfl,rfl,ag,HG,yK⟩ (fun b u e n=>by rw[ah (fun z=>n (by rw[z];simp))];exact e) (fun b C=>by rw[ab4.mp C];exact 167);exact L.nx _ _ _ _ _ s I)
end
end qp
namespace gA
open PySem PyProof.Rows gB
def rk(R:238->Int)(a:Array 238)(i:Nat):Int:=(a[i]?.map R).getD 0
def eZ(R:238->Int)(a:Array 238):Prop:=a.toList.Pairwise fun x y=>R x<=R y
def Out(R:238->Int)(a b m:Array 238):Prop:=m.toList.Perm (a.toList++b.toList)/\eZ R m
section
variable{R:238->Int}
def cj{a:Array 238}(h:i < 230):rk R a i=R a[i]:=by
 unfold rk;rw[af8 h];rfl
def eZ.rk{a:Array 238}(h:eZ R a){i j:Nat}(x:i<=j)(g:j < 230):rk R a i<=rk R a j:=by
 rw[cj (show i < a.size by lia),cj g];by_cases c:i=j
 . subst c;exact ak7 _
 . exact al6.mp h i j (by simpa using (show i < a.size by lia)) (by simpa using g) 102
def gT{a:Array 238}:(a.extract i j).toList=(a.toList.drop i).take (j - i):=by
 rw[Array.toList_extract,List.extract_eq_drop_take]
def dm{a:Array 238}(h:x∈(a.extract i j).toList): ∃k,i<=k/\k < j/\k < 230/\R x=gA.rk R a k:=by
 obtain⟨k,E,e⟩:=ah7 h;have Y:k < (a.extract i j).size:=by rw[<-ac7];exact E
 have n:(a.extract i j).size=min j 230 - i:=an0;refine⟨i+k,by lia,by lia,by lia,?_⟩;rw[cj (show i+k < a.size by lia),<-e];congr 1
 rw[Array.getElem_toList,Array.getElem_extract]
def eZ.ex(h:eZ R a)(i j:Nat):eZ R (a.extract i j):=by
 unfold eZ;rw[gT];exact(List.Pairwise.sublist (List.drop_sublist _ _) h).sublist (List.take_sublist _ _)
def zd{a out:Array 238}(h:i < 230):out.push a[i]=out++a.extract i (i+1):=by
 apply au1.mp;rw[ap8,ag7,gT,show i+1 - i=1 by lia];congr 1
 have r:i < a.toList.length:=by simpa using h
 rw[aq5 r,List.take_succ_cons,at0,Array.getElem_toList]
structure Lo(R:238->Int)(a b out:Array 238)(ia ib:Nat):Prop where
 pm:(out.toList++(a.toList.drop ia++b.toList.drop ib)).Perm (a.toList++b.toList)
 so:eZ R out
 la: ∀x∈out.toList,∀j,ia<=j->j < 230->R x<=rk R a j
 lb: ∀x∈out.toList,∀j,ib<=j->j < 240->R x<=rk R b j
def eZ.app(d:eZ R m)(e:eZ R n)(h: ∀x∈m.toList,∀y∈n.toList,R x<=R y):eZ R (m++n):=by
 unfold eZ;rw[ag7];exact au2.mpr ⟨d,e,h⟩
def zS{a:Array 238}(h:i<=j):a.toList.drop i=(a.extract i j).toList++a.toList.drop j:=by
 rw[gT];conv=>lhs;rw[<-al8 (j - i) (a.toList.drop i)]
 rw[List.drop_drop,show i+(j - i)=j by lia]
def Lo.j6{a b out:Array 238}{S c:Nat}(h:Lo R a b out S c)(sa:eZ R a)(g:eZ R b){ia':Nat}(d:S<=ia')(n:S < ia'->ia'<=230->c < 240->rk R a (ia' - 1)<=rk R b c)(f:ia'<=a.size:=by lia):Lo R a b (out++a.extract S ia') ia' c:=by
 refine⟨?_,h.so.app (sa.ex _ _) fun x i y o=>?_,fun x i j l r=>?_,fun x i j l r=>?_⟩
 . rw[ag7];refine List.Perm.trans ?_ h.pm;rw[zS (a:=a) d,af9,af9]
 . obtain⟨k,H,w,m,e⟩:=dm (R:=R) o;rw[e];exact h.la x i k H m
 . rw[ag7] at i;rcases ad2.mp i with z | z
   . exact h.la x z j 102 r
   . obtain⟨k,H,w,m,e⟩:=dm (R:=R) z;rw[e];exact sa.rk 102 r
 . rw[ag7] at i;rcases ad2.mp i with z | z
   . exact h.lb x z j l r
   . obtain⟨k,H,w,m,e⟩:=dm (R:=R) z;rw[e];have s:=sa.rk (show k<=ia' - 1 by lia) 102;have p:=n 102 f 102;have C:=g.rk l r;lia
def Lo.iA{a b out:Array 238}{S c:Nat}(h:Lo R a b out S c)(sa:eZ R a)(d:eZ R b){ib':Nat}(f:c<=ib')(n:c < ib'->ib'<=240->S < 230->rk R b (ib' - 1)<=rk R a S)(g:ib'<=b.size:=by lia):Lo R a b (out++b.extract c ib') S ib':=by
 refine⟨?_,h.so.app (d.ex _ _) fun x i y o=>?_,fun x i j l r=>?_,fun x i j l r=>?_⟩
 . rw[ag7];refine List.Perm.trans ?_ h.pm;rw[zS (a:=b) f,af9];refine List.Perm.append_left _ ?_;rw[<-af9,<-af9];exact List.Perm.append_right _ List.perm_append_comm
 . obtain⟨k,H,w,m,e⟩:=dm (R:=R) o;rw[e];exact h.lb x i k H m
 . rw[ag7] at i;rcases ad2.mp i with z | z
   . exact h.la x z j l r
   . obtain⟨k,H,w,m,e⟩:=dm (R:=R) z;rw[e];have s:=d.rk (show k<=ib' - 1 by lia) 102;have p:=n 102 g 102;have C:=sa.rk l r;lia
 . rw[ag7] at i;rcases ad2.mp i with z | z
   . exact h.lb x z j 102 r
   . obtain⟨k,H,w,m,e⟩:=dm (R:=R) z;rw[e];exact d.rk 102 r
def Lo.out{a b out:Array 238}{S c:Nat}(h:Lo R a b out S c)(d:S=230)(e:c=240):Out R a b out:=by
 refine⟨?_,h.so⟩;have:=h.pm;rw[d,e,List.drop_eq_nil_of_le 111,List.drop_eq_nil_of_le 111,ai1,ai1] at this;exact this
def Lo.done{a b out:Array 238}{S c:Nat}(h:Lo R a b out S c)(sa:eZ R a)(d:eZ R b)(f:S<=230)(e:c<=240)(L:c=b.size\/S=230):Out R a b (out++a.extract S 230++b.extract c 240):=
 ((h.j6 sa d f (fun k _ z=>by lia) (ab6 _)).iA sa d e (fun k _ z=>by lia) (ab6 _)).out rfl rfl
def Lo.last{a b out:Array 238}{S c:Nat}(h:Lo R a b out S c)(sa:eZ R a)(d:eZ R b)(f:S<=230)(e:c<=240)(A:c < 240->rk R b (240 - 1)<=rk R a S):Out R a b (out++b.extract c 240++a.extract S 230):=
 ((h.iA sa d e (fun k _ z=>A k) (ab6 _)).j6 sa d f (fun k _ z=>by lia) (ab6 _)).out rfl rfl
end
section
variable{prog:214}{w:237}{A:244}{E:212->211->Prop}{s:211}{κ:SortKind}{R:238->Int}{D:238->Prop}
def qm(prog:214)(w:237)(A:244)(E:212->211->Prop)(s:211)(κ:SortKind)(R:238->Int)(D:238->Prop):Prop:= ∀(st:SortSt) (x y:238) (Q:210 Bool->SortSt->Prop),kindOf st=κ->D x->D y->Q (some (decide (R x < R y))) st->wpS 105 A E s (lt' x y) Q st
def Dk(D:238->Prop)(a:Array 238):Prop:= ∀i (h:i < 230),D a[i]
def gF(R:238->Int)(left:Bool)(r:Int)(a:Array 238)(i:Nat):Bool:=if left then decide (rk R a i < r) else !decide (r < rk R a i)
def vU(h:rk R a i<=rk R a j)(c:gF R left r a j=true):gF R left r a i=true:=by
 unfold gF at c ⊢;cases left
 . simp at c ⊢;lia
 . simp at c ⊢;lia
def GJ(h:rk R a i<=rk R a j)(c:gF R left r a i=false):gF R left r a j=false:=by
 cases e:gF R left r a j with
 | false=>rfl
 | true=>rw[vU h e] at c;cases c
def pJ(h:gF R true r a i=true):rk R a i < r:=by unfold gF at h;simpa using h
def pK(h:gF R true r a i=false):r<=rk R a i:=by unfold gF at h;simpa using h
def yj(h:gF R false r a i=true):rk R a i<=r:=by unfold gF at h;simpa using h
def yk(h:gF R false r a i=false):r < rk R a i:=by unfold gF at h;simpa using h
def nq(L:qm prog w A E s κ R D){st:SortSt}{left:Bool}{base i:Nat}(F:kindOf st=κ)(j:Dk D arr)(r:D key)(hi:base+i < arr.size)(h:Q (some (gF R left (R key) arr (base+i))) st):
  wpS 105 A E s (do
   let x<-elem' arr (base+i)
   if left then lt' x key else return(<-lt' key x).map (!·)) Q st:=by
 refine ab5 (aI hi ?_);unfold gF at h;rw[cj hi] at h;cases left with
 | true=>rw[if_pos rfl] at h ⊢;exact L _ _ _ _ F (j _ hi) r h
 | false=>
  rw[if_neg ab9] at h ⊢;exact ab5 (L _ _ _ _ F r (j _ hi) (ab7 h))
def fM(L:qm prog w A E s κ R D){st:SortSt}{left:Bool}{base n B:Nat}(O:kindOf st=κ)(p:Dk D arr)(t:D key)(o:base+n<=arr.size)(Z:B < n)(U: ∀i j,i<=j->j < n->rk R arr (base+i)<=rk R arr (base+j))(h: ∀k,k<=n->(∀i,i < k->gF R left (R key) arr (base+i)=true)->(∀i,k<=i->i < n->gF R left (R key) arr (base+i)=false)->Q (some k) st):wpS 105 A E s (fQ left key arr base n B) Q st:=by
 have T: ∀j,j < n->gF R left (R key) arr (base+j)=true-> ∀i,i<=j->gF R left (R key) arr (base+i)=true:=fun j S o i H=>vU (U i j H S) o;have y: ∀i,gF R left (R key) arr (base+i)=false-> ∀j,i<=j->j < n->gF R left (R key) arr (base+j)=false:=fun i o j H S=>GJ (U i j H S) o;rw[xW];dsimp only;have J: ∀M H:Nat,M<=H->H<=n->(∀i,i < M->gF R left (R key) arr (base+i)=true)->(∀i,H<=i->i < n->gF R left (R key) arr (base+i)=false)->wpS 105 A E s (do
   let mut M:=M
   let mut H:=H
   for _ in [0:n] do
    if M>=H then break
    let m:=M+(H - M) / 2
    let some more<-(do
      let x<-elem' arr (base+m)
      if left then lt' x key else return(<-lt' key x).map (!·):StateT SortSt Sem (210 Bool)) | return none
    if more then M:=m+1 else H:=m
   return some H) Q st:=by
  intro M H W P Y X;dsimp only;refine ab5 (aj5 (ah0 (I:=fun x c G=>G=st/\c.1=none/\c.2.1<=c.2.2/\c.2.2<=n/\c.2.2 - c.2.1<=n - x/\(∀i,i < c.2.1->gF R left (R key) arr (base+i)=true)/\ ∀i,c.2.2<=i->i < n->gF R left (R key) arr (base+i)=false)
   (Q:=fun c G=>G=st/\c.1=none/\c.2.1=c.2.2/\c.2.2<=n/\(∀i,i < c.2.1->gF R left (R key) arr (base+i)=true)/\ ∀i,c.2.2<=i->i < n->gF R left (R key) arr (base+i)=false) ?step ?fin ⟨rfl,rfl,W,P,by dsimp only;lia,Y,X⟩) ?post)
  case post=>
   rintro⟨r,l,u⟩ G ⟨rfl,d,f,C,F,v⟩
   dsimp only at d f C F v ⊢;subst d;subst f;exact ab7 (h _ C F v)
  case fin=>
   rintro⟨r,l,u⟩ G ⟨g,d,f,C,F,v,N⟩
   dsimp only at f F;exact⟨g,d,by dsimp only;lia,C,v,N⟩
  case step=>
   rintro x ⟨r,l,u⟩ G _ a ⟨rfl,d,f,C,F,v,N⟩
   dsimp only at d f C F v N ⊢;subst d;by_cases c:l>=u
   . rw[if_pos c];exact ab7 ⟨rfl,rfl,by dsimp only;lia,C,v,N⟩
   . rw[if_neg c];refine ab5 (nq L O p t 102 ?_);cases e:gF R left (R key) arr (base+(l+(u - l) / 2))
     . exact ab7 ⟨rfl,rfl,by dsimp only;lia,by dsimp only;lia,by dsimp only;lia,v,y _ e⟩
     . exact ab7 ⟨rfl,rfl,by dsimp only;lia,C,by dsimp only;lia,fun i H=>T _ 102 e i (by dsimp only at H;lia),N⟩
 refine ab5 (nq L O p t 102 ?_);cases right:gF R left (R key) arr (base+B) with
 | true=>
  dsimp only;rw[if_pos rfl];refine ab5 (aj5 (ah0 (I:=fun x c G=>G=st/\c.1=none/\B+c.2.1 < n/\gF R left (R key) arr (base+(B+c.2.1))=true/\c.2.1 < c.2.2/\x+1<=c.2.2)
   (Q:=fun c G=>G=st/\c.1=none/\B+c.2.1 < n/\gF R left (R key) arr (base+(B+c.2.1))=true/\c.2.1 < c.2.2/\(n - B<=c.2.2\/B+c.2.2 < n/\gF R left (R key) arr (base+(B+c.2.2))=false)) ?step ?fin ⟨rfl,rfl,Z,by dsimp only;rw[au7];exact right,by decide,by decide⟩) ?post)
  case post=>
   rintro⟨r,l,u⟩ G ⟨rfl,d,f,C,F,v⟩
   dsimp only at d f C F v ⊢;subst d;have q: ∀i,B+min u (n - B)<=i->i < n->gF R left (R key) arr (base+i)=false:=fun i H V=>by
    rcases v with z | z
    . lia
    . exact y _ z.2 i 102 V
   exact J _ _ 102 102 (fun i H=>T _ f C i 102) q
  case fin=>
   rintro⟨r,l,u⟩ G ⟨g,d,f,C,F,v⟩
   dsimp only at v;exact⟨g,d,f,C,F,.inl (by dsimp only;lia)⟩
  case step=>
   rintro x ⟨r,l,u⟩ G _ _ ⟨rfl,d,f,C,F,v⟩
   dsimp only at d f C F v ⊢;subst d;by_cases c:u>=n - B
   . rw[if_pos c];exact ab7 ⟨rfl,rfl,f,C,F,.inl c⟩
   . rw[if_neg c];refine ab5 (nq L O p t 102 ?_);cases e:gF R left (R key) arr (base+(B+u))
     . exact ab7 ⟨rfl,rfl,f,C,F,.inr ⟨by dsimp only;lia,e⟩⟩
     . exact ab7 ⟨rfl,rfl,by dsimp only;lia,e,by dsimp only;lia,by dsimp only;lia⟩
 | false=>
  dsimp only;rw[if_neg ab9];refine ab5 (aj5 (ah0 (I:=fun x c G=>G=st/\c.1=none/\c.2.1<=B/\gF R left (R key) arr (base+(B - c.2.1))=false/\c.2.1 < c.2.2/\x+1<=c.2.2)
   (Q:=fun c G=>G=st/\c.1=none/\c.2.1<=B/\gF R left (R key) arr (base+(B - c.2.1))=false/\c.2.1 < c.2.2/\(B+1<=c.2.2\/c.2.2<=B/\gF R left (R key) arr (base+(B - c.2.2))=true)) ?step ?fin ⟨rfl,rfl,af2 _,by dsimp only;rw[au6];exact right,by decide,by decide⟩) ?post)
  case post=>
   rintro⟨r,l,u⟩ G ⟨rfl,d,f,C,F,v⟩
   dsimp only at d f C F v ⊢;subst d;have q: ∀i,i < B+1 - min u (B+1)->gF R left (R key) arr (base+i)=true:=fun i H=>by
    rcases v with z | z
    . lia
    . exact T _ 102 z.2 i 102
   exact J _ _ 102 102 q fun i H V=>y _ C i H V
  case fin=>
   rintro⟨r,l,u⟩ G ⟨g,d,f,C,F,v⟩
   dsimp only at v;exact⟨g,d,f,C,F,.inl (by dsimp only;lia)⟩
  case step=>
   rintro x ⟨r,l,u⟩ G _ _ ⟨rfl,d,f,C,F,v⟩
   dsimp only at d f C F v ⊢;subst d;by_cases c:u>=B+1
   . rw[if_pos c];exact ab7 ⟨rfl,rfl,f,C,F,.inl c⟩
   . rw[if_neg c];refine ab5 (nq L O p t 102 ?_);cases e:gF R left (R key) arr (base+(B - u))
     . exact ab7 ⟨rfl,rfl,by dsimp only;lia,e,by dsimp only;lia,by dsimp only;lia⟩
     . exact ab7 ⟨rfl,rfl,f,C,F,.inr ⟨by dsimp only;lia,e⟩⟩
end
def Lo.mH{a b out:Array 238}{S c:Nat}(h:Lo R a b out S c)(sa:eZ R a)(d:eZ R b)(hi:c < 240)(m:S < 230->rk R b c<=rk R a S):Lo R a b (out.push b[c]) S (c+1):=by
 rw[zd hi];exact h.iA sa d 102 (fun _ _ z=>by rw[Nat.add_sub_cancel];exact m z) 102
def Lo.hU{a b out:Array 238}{S c:Nat}(h:Lo R a b out S c)(sa:eZ R a)(d:eZ R b)(hi:S < 230)(m:c < 240->rk R a S<=rk R b c):Lo R a b (out.push a[S]) (S+1) c:=by
 rw[zd hi];exact h.j6 sa d 102 (fun _ _ z=>by rw[Nat.add_sub_cancel];exact m z) 102
def Lo.start(sa:eZ R a)(c:eZ R b)(Q:0 < 240)(m:0 < 230->rk R b 0<=rk R a 0):Lo R a b #[b[0]] 0 1:=
 Lo.mH (out:= #[]) ⟨by simp,List.Pairwise.nil,fun x h=>by simp at h,fun x h=>by simp at h⟩ sa c Q m
def t5{st:SortSt}(L:qm prog w A E s κ R D)(hk:kindOf st=κ)(ha:Dk D a)(hb:Dk D b)(sa:eZ R a)(n:eZ R b)(a1:1<=230)(b1:1<=240)(c0:rk R b 0<=rk R a 0)(C:rk R b (240 - 1)<=rk R a (230 - 1))(h: ∀m g,Out R a b m->Q m (setG st g)):wpS 105 A E s (oG a b) Q st:=by
 rw[uW];dsimp only;refine ab5 183;refine ab5 (aI 102 ?_);have y:Lo R a b #[b[0]] 0 1:=Lo.start sa n b1 fun _=>c0;by_cases c1:(1==b.size)=true
 . refine av c1 ?_;exact ab7 (h _ (gallopOf st) (y.done sa n 102 102 (.inl (ac4.mp c1))))
 refine ax c1 ?_;by_cases c2:(0+1==a.size)=true
 . refine av c2 ?_;have MD:=ac4.mp c2;exact ab7 (h _ (gallopOf st) (y.last sa n 102 102 fun _=>by rw[show a.size - 1=0 by lia] at C;exact C))
 refine ax c2 ?_;have c1:1≠b.size:=fun z=>c1 162;have c2:0+1≠a.size:=fun z=>c2 162;refine ab5 (as7 ?_);refine ab5 (aj5 (ah0 (I:=fun i c B=>(∃g,B=setG st g)/\c.1=none/\Lo R a b c.2.1 c.2.2.1 c.2.2.2.1/\c.2.2.1+1 < 230/\c.2.2.2.1 < 240/\1+i<=c.2.2.1+c.2.2.2.1)
  (Q:=fun c B=>(∃g,B=setG st g)/\ ∃r,c.1=some r/\Out R a b r) ?step ?fin ⟨⟨gallopOf st,rfl⟩,rfl,(by dsimp only;exact y),by dsimp only;lia,by dsimp only;lia,by dsimp only;lia⟩) ?post)
 case post=>
  rintro⟨r,f,S,d,O⟩ B ⟨⟨g,rfl⟩,r',o,l⟩
  dsimp only at o ⊢;subst o;exact ab7 (h _ _ l)
 case fin=>
  rintro⟨r,f,S,d,O⟩ B ⟨_,_,_,o,l,F⟩
  dsimp only at o l F;lia
 case step=>
  refine MA ?_;intro i f S d O g _ hi V;have y:Lo R a b f S d:=V.1;have o:S+1 < a.size:=V.2.1;have l:d < b.size:=V.2.2.1;have F:1+i<=S+d:=V.2.2.2;clear V;dsimp only;refine ab5 (aj5 (ah0 (I:=fun j c B=>B=setG st g/\c.1=none/\Lo R a b c.2.1 c.2.2.1 c.2.2.2.1/\c.2.2.1+1 < 230/\c.2.2.2.1 < 240/\1+i+min j 1<=c.2.2.1+c.2.2.2.1)
   (Q:=fun c B=>B=setG st g/\((∃r,c.1=some r/\Out R a b r)\/(c.1=none/\Lo R a b c.2.1 c.2.2.1 c.2.2.2.1/\c.2.2.1+1 < 230/\c.2.2.2.1 < 240/\1+(i+1)<=c.2.2.1+c.2.2.2.1))) ?istep ?ifin ⟨rfl,rfl,(by dsimp only;exact y),(by dsimp only;exact o),(by dsimp only;exact l),by dsimp only;lia⟩) ?ipost)
  case ifin=>
   rintro⟨r,f,S,d,W,X⟩ B ⟨e,hr,y,o,l,F⟩
   dsimp only at hr y o l F;exact⟨e,.inr ⟨hr,y,o,l,by dsimp only;lia⟩⟩
  case istep=>
   clear y o l F;refine Mz ?_;intro j f S d W X _ hj V;have y:Lo R a b f S d:=V.1;have o:S+1 < a.size:=V.2.1;have l:d < b.size:=V.2.2.1;have F:1+i+min j 1<=S+d:=V.2.2.2;clear V;have BC:S < a.size:=by lia
   dsimp only;refine ab5 (aI l (ab5 (aI BC (ab5 (L _ _ _ _ hk (hb _ l) (ha _ BC) ?_)))));rw[<-cj (R:=R) l,<-cj (R:=R) BC];cases bw:decide (rk R b d < rk R a S) with
   | true=>
    have bw:=ae1 bw;have U:=y.mH sa n l fun _=>am6 bw;dsimp only;refine av rfl ?_;refine ab5 (aI l ?_);by_cases u:(d+1==b.size)=true
    . refine av u ?_;exact ab7 ⟨rfl,.inl ⟨_,rfl,U.done sa n 102 102 (.inl (ac4.mp u))⟩⟩
    refine ax u ?_;have u:d+1≠b.size:=fun z=>u 162;by_cases M:X+1>=O
    . refine av M ?_;exact ab7 ⟨rfl,.inr ⟨rfl,by dsimp only;exact U,by dsimp only;lia,by dsimp only;lia,by dsimp only;lia⟩⟩
    . refine ax M ?_;exact ab7 ⟨rfl,rfl,by dsimp only;exact U,by dsimp only;lia,by dsimp only;lia,by dsimp only;lia⟩
   | false=>
    have bw:=ag0 bw;have Y:=y.hU sa n BC fun _=>at5.mp bw;dsimp only;refine ax ab9 ?_;refine ab5 (aI BC ?_);by_cases u:(S+1+1==a.size)=true
    . refine av u ?_;have c3':=ac4.mp u;exact ab7 ⟨rfl,.inl ⟨_,rfl,Y.last sa n 102 102 fun _=>by rw[show a.size - 1=S+1 by lia] at C;exact C⟩⟩
    refine ax u ?_;have u:S+1+1≠a.size:=fun z=>u 162;by_cases M:W+1>=O
    . refine av M ?_;exact ab7 ⟨rfl,.inr ⟨rfl,by dsimp only;exact Y,by dsimp only;lia,by dsimp only;lia,by dsimp only;lia⟩⟩
    . refine ax M ?_;exact ab7 ⟨rfl,rfl,by dsimp only;exact Y,by dsimp only;lia,by dsimp only;lia,by dsimp only;lia⟩
  case ipost=>
   clear y o l F;refine RT (fun r' f S d W X y=>?_) (fun f S d W X V=>?_)
   . exact ab7 ⟨⟨g,rfl⟩,_,rfl,y⟩
   have y:Lo R a b f S d:=V.1;have o:S+1 < a.size:=V.2.1;have l:d < b.size:=V.2.2.1;have F:1+(i+1)<=S+d:=V.2.2.2;clear V;dsimp only;refine ab5 183;refine ab5 (aj5 (ah0 (I:=fun j c B=>(∃g,B=setG st g)/\c.1=none/\Lo R a b c.2.1 c.2.2.1 c.2.2.2.1/\c.2.2.1+1 < 230/\c.2.2.2.1 < 240/\1+(i+1)<=c.2.2.1+c.2.2.2.1)
    (Q:=fun c B=>(∃g,B=setG st g)/\((∃r,c.1=some r/\Out R a b r)\/(c.1=none/\Lo R a b c.2.1 c.2.2.1 c.2.2.2.1/\c.2.2.1+1 < 230/\c.2.2.2.1 < 240/\1+(i+1)<=c.2.2.1+c.2.2.2.1))) ?gstep ?gfin ⟨⟨g,rfl⟩,rfl,(by dsimp only;exact y),(by dsimp only;exact o),(by dsimp only;exact l),(by dsimp only;exact F)⟩) ?gpost)
   case gfin=>
    rintro⟨r,f,S,d,O,W,X⟩ B ⟨e,hr,y,o,l,F⟩
    exact⟨e,.inr ⟨hr,y,o,l,F⟩⟩
   case gpost=>
    refine RS (fun r' f S d O W X g y=>?_) (fun f S d O W X g V=>?_)
    . exact ab7 ⟨⟨g,rfl⟩,_,rfl,y⟩
    . dsimp only;rw[cC];exact ab5 (am7 (ab7 ⟨⟨_,rfl⟩,rfl,V⟩))
   case gstep=>
    clear y o l F hi;refine My ?_;intro j f S d O W X g _ hj V;have y:Lo R a b f S d:=V.1;have o:S+1 < a.size:=V.2.1;have l:d < b.size:=V.2.2.1;have F:1+(i+1)<=S+d:=V.2.2.2;clear V;dsimp only;refine have key:?P:=?pk;?main
    case main=>
     by_cases c0:O > 1
     . refine av c0 ?_;clear c0;generalize O - 1=m;revert m
       exact key
     . refine ax c0 ?_;clear c0;generalize O=m;revert m
       exact key
    case pk=>
     intro m;rw[cC];refine ab5 (am7 ?_);refine ab5 (aI l ?_);refine ab5 (fM L hk ha (hb _ l) 102 102 (fun p q pq q2=>sa.rk 102 102) fun k hk1 T N=>?_);rw[<-cj (R:=R) l] at T N;dsimp only;have LC:0 < k->rk R a (S+k - 1)<=rk R b d:=fun z=>by have:=yj (T (k - 1) 102);rw[show S+(k - 1)=S+k - 1 by lia] at this;exact this
     have Ow:S+k < 230->rk R b d<=rk R a (S+k):=fun z=>am6 (yk (N k (ab6 _) 102));clear T N;by_cases u:k > 0
     . refine av u ?_;have Y:=y.j6 sa n (ia':=S+k) 102 (fun _ _ _=>LC u) 102;generalize f++a.extract S (S+k)=WY at Y;by_cases M:(S+k+1==a.size)=true
       . refine av M ?_;have c4':=ac4.mp M;exact ab7 ⟨⟨_,rfl⟩,.inl ⟨_,rfl,Y.last sa n 102 102 fun _=>by rw[show a.size - 1=S+k by lia] at C;exact C⟩⟩
       refine ax M ?_;have c4':S+k+1≠a.size:=fun z=>M 162;clear M;by_cases c9:(S+k==a.size)=true
       . refine av c9 ?_;exact ab7 ⟨⟨_,rfl⟩,.inl ⟨_,rfl,Y.done sa n 102 102 (.inr (ac4.mp c9))⟩⟩
       refine ax c9 ?_;have c9':S+k≠a.size:=fun z=>c9 162;clear c9;refine ab5 (aI l ?_);have U:=Y.mH sa n l Ow;by_cases G:(d+1==b.size)=true
       . refine av G ?_;exact ab7 ⟨⟨_,rfl⟩,.inl ⟨_,rfl,U.done sa n 102 102 (.inl (ac4.mp G))⟩⟩
       refine ax G ?_;have G:d+1≠b.size:=fun z=>G 162;have v:S+k < a.size:=by lia
       refine ab5 (aI v ?_);refine ab5 (fM L hk hb (ha _ v) 102 102 (fun p q pq q2=>n.rk 102 102) fun x Cy T N=>?_);rw[<-cj (R:=R) v] at T N;dsimp only;have lt':0 < x->rk R b (d+1+x - 1)<=rk R a (S+k):=fun z=>by have:=am6 (pJ (T (x - 1) 102));rw[show d+1+(x - 1)=d+1+x - 1 by lia] at this;exact this
       have Cu:d+1+x < 240->rk R a (S+k)<=rk R b (d+1+x):=fun z=>pK (N x (ab6 _) 102);clear T N;by_cases Z:x > 0
       . refine av Z ?_;have Bx:=U.iA sa n (ib':=d+1+x) 102 (fun _ _ _=>lt' Z) 102;by_cases t:(d+1+x==b.size)=true
         . refine av t ?_;exact ab7 ⟨⟨_,rfl⟩,.inl ⟨_,rfl,Bx.done sa n 102 102 (.inl (ac4.mp t))⟩⟩
         refine ax t ?_;have GH:d+1+x≠b.size:=fun z=>t 162;clear t;refine ab5 (aI v ?_);have J:=Bx.hU sa n v Cu;by_cases t:(S+k+1+1==a.size)=true
         . refine av t ?_;have GH:=ac4.mp t;exact ab7 ⟨⟨_,rfl⟩,.inl ⟨_,rfl,J.last sa n 102 102 fun _=>by rw[show a.size - 1=S+k+1 by lia] at C;exact C⟩⟩
         refine ax t ?_;have t:S+k+1+1≠a.size:=fun z=>t 162;by_cases H:(decide (k < 7) && decide (x < 7))=true
         . refine av H ?_;exact ab7 130
         . refine ax H ?_;exact ab7 132
       . refine ax Z ?_;have OD:x=0:=by lia
         subst OD;refine ab5 (aI v ?_);have J:=U.hU sa n v Cu;by_cases t:(S+k+1+1==a.size)=true
         . refine av t ?_;have GH:=ac4.mp t;exact ab7 ⟨⟨_,rfl⟩,.inl ⟨_,rfl,J.last sa n 102 102 fun _=>by rw[show a.size - 1=S+k+1 by lia] at C;exact C⟩⟩
         refine ax t ?_;have t:S+k+1+1≠a.size:=fun z=>t 162;by_cases H:(decide (k < 7) && decide (0 < 7))=true
         . refine av H ?_;exact ab7 130
         . refine ax H ?_;exact ab7 132
     . refine ax u ?_;have k0:k=0:=by lia
       subst k0;rw[au7] at Ow;refine ab5 (aI l ?_);have U:=y.mH sa n l Ow;by_cases G:(d+1==b.size)=true
       . refine av G ?_;exact ab7 ⟨⟨_,rfl⟩,.inl ⟨_,rfl,U.done sa n 102 102 (.inl (ac4.mp G))⟩⟩
       refine ax G ?_;have G:d+1≠b.size:=fun z=>G 162;have v:S < a.size:=by lia
       refine ab5 (aI v ?_);refine ab5 (fM L hk hb (ha _ v) 102 102 (fun p q pq q2=>n.rk 102 102) fun x Cy T N=>?_);rw[<-cj (R:=R) v] at T N;dsimp only;have lt':0 < x->rk R b (d+1+x - 1)<=rk R a (S):=fun z=>by have:=am6 (pJ (T (x - 1) 102));rw[show d+1+(x - 1)=d+1+x - 1 by lia] at this;exact this
       have Cu:d+1+x < 240->rk R a (S)<=rk R b (d+1+x):=fun z=>pK (N x (ab6 _) 102);clear T N;by_cases Z:x > 0
       . refine av Z ?_;have Bx:=U.iA sa n (ib':=d+1+x) 102 (fun _ _ _=>lt' Z) 102;by_cases t:(d+1+x==b.size)=true
         . refine av t ?_;exact ab7 ⟨⟨_,rfl⟩,.inl ⟨_,rfl,Bx.done sa n 102 102 (.inl (ac4.mp t))⟩⟩
         refine ax t ?_;have GH:d+1+x≠b.size:=fun z=>t 162;clear t;refine ab5 (aI v ?_);have J:=Bx.hU sa n v Cu;by_cases t:(S+1+1==a.size)=true
         . refine av t ?_;have GH:=ac4.mp t;exact ab7 ⟨⟨_,rfl⟩,.inl ⟨_,rfl,J.last sa n 102 102 fun _=>by rw[show a.size - 1=S+1 by lia] at C;exact C⟩⟩
         refine ax t ?_;have t:S+1+1≠a.size:=fun z=>t 162;by_cases H:(decide (0 < 7) && decide (x < 7))=true
         . refine av H ?_;exact ab7 130
         . refine ax H ?_;exact ab7 132
       . refine ax Z ?_;have OD:x=0:=by lia
         subst OD;refine ab5 (aI v ?_);have J:=U.hU sa n v Cu;by_cases t:(S+1+1==a.size)=true
         . refine av t ?_;have GH:=ac4.mp t;exact ab7 ⟨⟨_,rfl⟩,.inl ⟨_,rfl,J.last sa n 102 102 fun _=>by rw[show a.size - 1=S+1 by lia] at C;exact C⟩⟩
         refine ax t ?_;have t:S+1+1≠a.size:=fun z=>t 162;by_cases H:(decide (0 < 7) && decide (0 < 7))=true
         . refine av H ?_;exact ab7 130
         . refine ax H ?_;exact ab7 132
section
variable{R:238->Int}
structure Hi(R:238->Int)(a b out:Array 238)(na nb:Nat):Prop where
 pm:((a.toList.take na++b.toList.take nb)++out.reverse.toList).Perm (a.toList++b.toList)
 so:eZ R out.reverse
 la: ∀x∈out.reverse.toList,∀j,j < na->j < 230->rk R a j<=R x
 lb: ∀x∈out.reverse.toList,∀j,j < nb->j < 240->rk R b j<=R x
def cJ{out x:Array 238}:(out++x.reverse).reverse=x++out.reverse:=by
 apply au1.mp;simp
def yL{a:Array 238}(h:i<=j):a.toList.take j=a.toList.take i++(a.extract i j).toList:=by
 rw[gT];conv=>lhs;rw[show j=i+(j - i) by lia]
 rw[List.take_add]
def Hi.j6{a b out:Array 238}{na v:Nat}(h:Hi R a b out na v)(sa:eZ R a)(c:eZ R b){na':Nat}(d:na'<=na)(f:na<=230)(C:v<=240)(n:na' < na->0 < v->rk R b (v - 1)<=rk R a na'):Hi R a b (out++(a.extract na' na).reverse) na' v:=by
 refine⟨?_,?_,fun x i j m r=>?_,fun x i j m r=>?_⟩
 . rw[cJ,ag7];refine List.Perm.trans ?_ h.pm;rw[yL d];refine List.Perm.trans (List.Perm.of_eq (af9 _ _ _).symm) (List.Perm.append_right _ ?_);rw[af9,af9];exact List.Perm.append_left _ List.perm_append_comm
 . rw[cJ];exact(sa.ex _ _).app h.so fun x i y o=>by
    obtain⟨k,H,w,l,e⟩:=dm (R:=R) i;rw[e];exact h.la y o k w l
 . rw[cJ,ag7] at i;rcases ad2.mp i with z | z
   . obtain⟨k,H,w,l,e⟩:=dm (R:=R) z;rw[e];exact sa.rk 102 l
   . exact h.la x z j 102 r
 . rw[cJ,ag7] at i;rcases ad2.mp i with z | z
   . obtain⟨k,H,w,l,e⟩:=dm (R:=R) z;rw[e];have s:=sa.rk H l;have g:=n 102 102;have D:=c.rk (show j<=v - 1 by lia) 102;lia
   . exact h.lb x z j m r
def Hi.iA{a b out:Array 238}{na v:Nat}(h:Hi R a b out na v)(sa:eZ R a)(c:eZ R b){nb':Nat}(d:nb'<=v)(f:v<=240)(C:na<=230)(n:nb' < v->0 < na->rk R a (na - 1)<=rk R b nb'):Hi R a b (out++(b.extract nb' v).reverse) na nb':=by
 refine⟨?_,?_,fun x i j m r=>?_,fun x i j m r=>?_⟩
 . rw[cJ,ag7];refine List.Perm.trans ?_ h.pm;rw[yL (a:=b) d];simp only [af9];exact List.Perm.refl _
 . rw[cJ];exact(c.ex _ _).app h.so fun x i y o=>by
    obtain⟨k,H,w,l,e⟩:=dm (R:=R) i;rw[e];exact h.lb y o k w l
 . rw[cJ,ag7] at i;rcases ad2.mp i with z | z
   . obtain⟨k,H,w,l,e⟩:=dm (R:=R) z;rw[e];have s:=c.rk H l;have g:=n 102 102;have D:=sa.rk (show j<=na - 1 by lia) 102;lia
   . exact h.la x z j m r
 . rw[cJ,ag7] at i;rcases ad2.mp i with z | z
   . obtain⟨k,H,w,l,e⟩:=dm (R:=R) z;rw[e];exact c.rk 102 l
   . exact h.lb x z j 102 r
def Hi.out{a b out:Array 238}(h:Hi R a b out 0 0):Out R a b out.reverse:=by
 refine⟨?_,h.so⟩;have:=h.pm;rw[at0,at0,ai1,List.nil_append] at this;exact this
def Hi.done{a b out:Array 238}{na v:Nat}(h:Hi R a b out na v)(sa:eZ R a)(c:eZ R b)(f:na<=230)(d:v<=240)(L:na=0\/v=0):Out R a b (a.extract 0 na++b.extract 0 v++out.reverse):=by
 have:=((h.iA sa c (nb':=0) (af2 _) d f fun k U=>by lia).j6 sa c (na':=0) (af2 _) f (af2 _) fun k U=>by lia).out;rw[cJ,cJ,<-Array.append_assoc] at this;exact this
def Hi.first{a b out:Array 238}{na v:Nat}(h:Hi R a b out na v)(sa:eZ R a)(d:eZ R b)(f:na<=230)(c:v<=240)(L:v=1)(m:rk R b 0<=rk R a 0):Out R a b (b.extract 0 v++a.extract 0 na++out.reverse):=by
 have:=((h.j6 sa d (na':=0) (af2 _) f c fun k U=>by rw[L];exact m).iA sa d (nb':=0) (af2 _) c (af2 _) fun k U=>by lia).out;rw[cJ,cJ,<-Array.append_assoc] at this;exact this
def zc{a out:Array 238}(h:i < 230):out.push a[i]=out++(a.extract i (i+1)).reverse:=by
 apply au1.mp;rw[ap8,ag7,Array.toList_reverse,gT,show i+1 - i=1 by lia];congr 1
 have r:i < a.toList.length:=by simpa using h
 rw[aq5 r,List.take_succ_cons,at0,Array.getElem_toList];rfl
def Hi.hU{a b out:Array 238}{na v:Nat}(h:Hi R a b out na v)(sa:eZ R a)(c:eZ R b)(d:1<=na)(e:na<=230)(C:v<=240)(m:0 < v->rk R b (v - 1)<=rk R a (na - 1)):Hi R a b (out.push (a[na - 1]' 102)) (na - 1) v:=by
 rw[zc (show na - 1 < a.size by lia),show na - 1+1=na by lia];exact h.j6 sa c 102 e C fun _ z=>m z
def Hi.mH{a b out:Array 238}{na v:Nat}(h:Hi R a b out na v)(sa:eZ R a)(c:eZ R b)(d:1<=v)(e:v<=240)(C:na<=230)(m:0 < na->rk R a (na - 1)<=rk R b (v - 1)):Hi R a b (out.push (b[v - 1]' 102)) na (v - 1):=by
 rw[zc (show v - 1 < b.size by lia),show v - 1+1=v by lia];exact h.iA sa c 102 e C fun _ z=>m z
def Hi.start(sa:eZ R a)(c:eZ R b)(D:1<=230)(m:0 < 240->rk R b (240 - 1)<=rk R a (230 - 1)):Hi R a b #[a[230 - 1]' 102] (230 - 1) b.size:=
 Hi.hU (out:= #[]) (na:=230) ⟨by rw[<-ac7,<-ac7,al1,al1];simp,List.Pairwise.nil,fun x h=>by simp at h,fun x h=>by simp at h⟩ sa c D (ab6 _) (ab6 _) m
end
def t6{st:SortSt}(L:qm prog w A E s κ R D)(hk:kindOf st=κ)(ha:Dk D a)(hb:Dk D b)(sa:eZ R a)(d:eZ R b)(a1:1<=230)(b1:1<=240)(u:rk R b 0<=rk R a 0)(cl:rk R b (240 - 1)<=rk R a (230 - 1))(h: ∀m g,Out R a b m->Q m (setG st g)):wpS 105 A E s (oH a b) Q st:=by
 rw[uX];dsimp only;refine ab5 183;refine ab5 (aI 102 ?_);have y:=Hi.start sa d a1 fun _=>cl;by_cases c1:(a.size - 1==0)=true
 . refine av c1 ?_;exact ab7 (h _ (gallopOf st) (y.done sa d 102 102 (.inl (ac4.mp c1))))
 refine ax c1 ?_;by_cases c2:(b.size==1)=true
 . refine av c2 ?_;exact ab7 (h _ (gallopOf st) (y.first sa d 102 102 (ac4.mp c2) u))
 refine ax c2 ?_;have Y8:230 - 1≠0:=fun z=>c1 162;have MD:240≠1:=fun z=>c2 162;clear c1 c2;refine ab5 (as7 ?_);refine ab5 (aj5 (ah0 (I:=fun i c G=>(∃g,G=setG st g)/\c.1=none/\Hi R a b c.2.2.2.1 c.2.1 c.2.2.1/\1<=c.2.1/\c.2.1<=230/\2<=c.2.2.1/\c.2.2.1<=240/\1+i<=(230 - c.2.1)+(240 - c.2.2.1))
  (Q:=fun c G=>(∃g,G=setG st g)/\ ∃r,c.1=some r/\Out R a b r) ?step ?fin ⟨⟨gallopOf st,rfl⟩,rfl,(by dsimp only;exact y),by dsimp only;lia,by dsimp only;lia,by dsimp only;lia,by dsimp only;lia,by dsimp only;lia⟩) ?post)
 case post=>
  rintro⟨r,F,v,f,U⟩ G ⟨⟨g,rfl⟩,r',n,l⟩
  dsimp only at n ⊢;subst n;exact ab7 (h _ _ l)
 case fin=>
  rintro⟨r,F,v,f,U⟩ G ⟨_,_,y,n,l,H,C,M⟩
  dsimp only at n l H C M;lia
 case step=>
  refine MA ?_;intro i F v f U g _ hi V;have y:Hi R a b f F v:=V.1;have n:1<=F:=V.2.1;have l:F<=a.size:=V.2.2.1;have H:2<=v:=V.2.2.2.1;have C:v<=b.size:=V.2.2.2.2.1;have M:1+i<=(230 - F)+(240 - v):=V.2.2.2.2.2;clear V;dsimp only;refine ab5 (aj5 (ah0 (I:=fun j c G=>G=setG st g/\c.1=none/\Hi R a b c.2.2.2.1 c.2.1 c.2.2.1/\1<=c.2.1/\c.2.1<=230/\2<=c.2.2.1/\c.2.2.1<=240/\1+i+min j 1<=(230 - c.2.1)+(240 - c.2.2.1))
   (Q:=fun c G=>G=setG st g/\((∃r,c.1=some r/\Out R a b r)\/(c.1=none/\Hi R a b c.2.2.2.1 c.2.1 c.2.2.1/\1<=c.2.1/\c.2.1<=230/\2<=c.2.2.1/\c.2.2.1<=240/\1+(i+1)<=(230 - c.2.1)+(240 - c.2.2.1)))) ?istep ?ifin ⟨rfl,rfl,(by dsimp only;exact y),(by dsimp only;exact n),(by dsimp only;exact l),(by dsimp only;exact H),(by dsimp only;exact C),by dsimp only;lia⟩) ?ipost)
  case ifin=>
   rintro⟨r,F,v,f,ac,bc⟩ G ⟨e,hr,y,n,l,H,C,M⟩
   dsimp only at hr y n l H C M;exact⟨e,.inr ⟨hr,y,n,l,H,C,by dsimp only;lia⟩⟩
  case istep=>
   clear y n l H C M;refine Mz ?_;intro j F v f ac bc _ hj V;have y:Hi R a b f F v:=V.1;have n:1<=F:=V.2.1;have l:F<=a.size:=V.2.2.1;have H:2<=v:=V.2.2.2.1;have C:v<=b.size:=V.2.2.2.2.1;have M:1+i+min j 1<=(230 - F)+(240 - v):=V.2.2.2.2.2;clear V;have BC:F - 1 < a.size:=by lia
   have X:v - 1 < b.size:=by lia
   dsimp only;refine ab5 (aI X (ab5 (aI BC (ab5 (L _ _ _ _ hk (hb _ X) (ha _ BC) ?_)))));rw[<-cj (R:=R) X,<-cj (R:=R) BC];cases aw:decide (rk R b (v - 1) < rk R a (F - 1)) with
   | true=>
    have aw:=ae1 aw;have wb:=y.hU sa d n l C fun _=>am6 aw;dsimp only;refine av rfl ?_;refine ab5 (aI BC ?_);by_cases o:(F - 1==0)=true
    . refine av o ?_;exact ab7 ⟨rfl,.inl ⟨_,rfl,wb.done sa d 102 102 (.inl (ac4.mp o))⟩⟩
    refine ax o ?_;have c3':F - 1≠0:=fun z=>o 162;clear o;by_cases N:ac+1>=U
    . refine av N ?_;exact ab7 ⟨rfl,.inr ⟨rfl,by dsimp only;exact wb,by dsimp only;lia,by dsimp only;lia,by dsimp only;lia,by dsimp only;lia,by dsimp only;lia⟩⟩
    . refine ax N ?_;exact ab7 ⟨rfl,rfl,by dsimp only;exact wb,by dsimp only;lia,by dsimp only;lia,by dsimp only;lia,by dsimp only;lia,by dsimp only;lia⟩
   | false=>
    have aw:=ag0 aw;have W:=y.mH sa d 102 C l fun _=>at5.mp aw;dsimp only;refine ax ab9 ?_;refine ab5 (aI X ?_);by_cases o:(v - 1==1)=true
    . refine av o ?_;exact ab7 ⟨rfl,.inl ⟨_,rfl,W.first sa d 102 102 (ac4.mp o) u⟩⟩
    refine ax o ?_;have c3':v - 1≠1:=fun z=>o 162;clear o;by_cases N:bc+1>=U
    . refine av N ?_;exact ab7 ⟨rfl,.inr ⟨rfl,by dsimp only;exact W,by dsimp only;lia,by dsimp only;lia,by dsimp only;lia,by dsimp only;lia,by dsimp only;lia⟩⟩
    . refine ax N ?_;exact ab7 ⟨rfl,rfl,by dsimp only;exact W,by dsimp only;lia,by dsimp only;lia,by dsimp only;lia,by dsimp only;lia,by dsimp only;lia⟩
  case ipost=>
   clear y n l H C M;refine RT (fun r' F v f ac bc y=>?_) (fun F v f ac bc V=>?_)
   . exact ab7 ⟨⟨g,rfl⟩,_,rfl,y⟩
   have y:Hi R a b f F v:=V.1;have n:1<=F:=V.2.1;have l:F<=a.size:=V.2.2.1;have H:2<=v:=V.2.2.2.1;have C:v<=b.size:=V.2.2.2.2.1;have M:1+(i+1)<=(230 - F)+(240 - v):=V.2.2.2.2.2;clear V;dsimp only;refine ab5 183;refine ab5 (aj5 (ah0 (I:=fun j c G=>(∃g,G=setG st g)/\c.1=none/\Hi R a b c.2.2.2.1 c.2.1 c.2.2.1/\1<=c.2.1/\c.2.1<=230/\2<=c.2.2.1/\c.2.2.1<=240/\1+(i+1)<=(230 - c.2.1)+(240 - c.2.2.1))
    (Q:=fun c G=>(∃g,G=setG st g)/\((∃r,c.1=some r/\Out R a b r)\/(c.1=none/\Hi R a b c.2.2.2.1 c.2.1 c.2.2.1/\1<=c.2.1/\c.2.1<=230/\2<=c.2.2.1/\c.2.2.1<=240/\1+(i+1)<=(230 - c.2.1)+(240 - c.2.2.1)))) ?gstep ?gfin ⟨⟨g,rfl⟩,rfl,(by dsimp only;exact y),(by dsimp only;exact n),(by dsimp only;exact l),(by dsimp only;exact H),(by dsimp only;exact C),(by dsimp only;exact M)⟩) ?gpost)
   case gfin=>
    rintro⟨r,F,v,f,U,ac,bc⟩ G ⟨e,hr,y,n,l,H,C,M⟩
    exact⟨e,.inr ⟨hr,y,n,l,H,C,M⟩⟩
   case gpost=>
    refine RS (fun r' F v f U ac bc g y=>?_) (fun F v f U ac bc g V=>?_)
    . exact ab7 ⟨⟨g,rfl⟩,_,rfl,y⟩
    . dsimp only;rw[cC];exact ab5 (am7 (ab7 ⟨⟨_,rfl⟩,rfl,V⟩))
   case gstep=>
    clear y n l H C M hi;refine My ?_;intro j F v f U ac bc g _ hj V;have y:Hi R a b f F v:=V.1;have n:1<=F:=V.2.1;have l:F<=a.size:=V.2.2.1;have H:2<=v:=V.2.2.2.1;have C:v<=b.size:=V.2.2.2.2.1;have M:1+(i+1)<=(230 - F)+(240 - v):=V.2.2.2.2.2;clear V;dsimp only;refine have key:?P:=?pk;?main
    case main=>
     by_cases u:U > 1
     . refine av u ?_;clear u;generalize U - 1=m;revert m
       exact key
     . refine ax u ?_;clear u;generalize U=m;revert m
       exact key
    case pk=>
     intro m;have X:v - 1 < b.size:=by lia
     rw[cC];refine ab5 (am7 ?_);refine ab5 (aI X ?_);refine ab5 (fM L hk ha (hb _ X) 102 102 (fun p q pq q2=>sa.rk 102 102) fun k hk1 kt kf=>?_);rw[<-cj (R:=R) X] at kt kf;simp only [Nat.zero_add] at kt kf;dsimp only;have LC:0 < k->rk R a (k - 1)<=rk R b (v - 1):=fun z=>yj (kt (k - 1) 102);have Ow:k < F->rk R b (v - 1)<=rk R a k:=fun z=>am6 (yk (kf k (ab6 _) 102));clear kt kf;by_cases o:F - k > 0
     . refine av o ?_;have wb:=y.j6 sa d (na':=k) 102 l C (fun z _=>Ow z);generalize f++(a.extract k F).reverse=WY at wb;by_cases N:(k==0)=true
       . refine av N ?_;exact ab7 ⟨⟨_,rfl⟩,.inl ⟨_,rfl,wb.done sa d 102 102 (.inl (ac4.mp N))⟩⟩
       refine ax N ?_;have c4':k≠0:=fun z=>N 162;clear N;refine ab5 (aI X ?_);have W:=wb.mH sa d 102 C 102 LC;by_cases O:(v - 1==1)=true
       . refine av O ?_;exact ab7 ⟨⟨_,rfl⟩,.inl ⟨_,rfl,W.first sa d 102 102 (ac4.mp O) u⟩⟩
       refine ax O ?_;have c5':v - 1≠1:=fun z=>O 162;clear O;have S:k - 1 < a.size:=by lia
       refine ab5 (aI S ?_);refine ab5 (fM L hk hb (ha _ S) 102 102 (fun p q pq q2=>d.rk 102 102) fun x Cy Z Y=>?_);rw[<-cj (R:=R) S] at Z Y;simp only [Nat.zero_add] at Z Y;dsimp only;have T:0 < x->rk R b (x - 1)<=rk R a (k - 1):=fun z=>am6 (pJ (Z (x - 1) 102));have Cu:x < v - 1->rk R a (k - 1)<=rk R b x:=fun z=>pK (Y x (ab6 _) 102);clear Z Y;by_cases c6:v - 1 - x > 0
       . refine av c6 ?_;have Bx:=W.iA sa d (nb':=x) 102 102 102 (fun z _=>Cu z);by_cases t:(x==1)=true
         . refine av t ?_;exact ab7 ⟨⟨_,rfl⟩,.inl ⟨_,rfl,Bx.first sa d 102 102 (ac4.mp t) u⟩⟩
         refine ax t ?_;have GH:x≠1:=fun z=>t 162;clear t;by_cases B:(x==0)=true
         . refine av B ?_;exact ab7 ⟨⟨_,rfl⟩,.inl ⟨_,rfl,Bx.done sa d 102 102 (.inr (ac4.mp B))⟩⟩
         refine ax B ?_;have c8':x≠0:=fun z=>B 162;clear B;refine ab5 (aI S ?_);have J:=Bx.hU sa d 102 102 102 T;by_cases t:(k - 1==0)=true
         . refine av t ?_;exact ab7 ⟨⟨_,rfl⟩,.inl ⟨_,rfl,J.done sa d 102 102 (.inl (ac4.mp t))⟩⟩
         refine ax t ?_;have GH:k - 1≠0:=fun z=>t 162;clear t;by_cases B:(decide (F - k < 7) && decide (v - 1 - x < 7))=true
         . refine av B ?_;exact ab7 113
         . refine ax B ?_;exact ab7 119
       . refine ax c6 ?_;have OD:x=v - 1:=by lia
         refine ab5 (aI S ?_);have J:=W.hU sa d 102 102 102 (fun z=>by rw[<-OD] at z ⊢;exact T z);by_cases t:(k - 1==0)=true
         . refine av t ?_;exact ab7 ⟨⟨_,rfl⟩,.inl ⟨_,rfl,J.done sa d 102 102 (.inl (ac4.mp t))⟩⟩
         refine ax t ?_;have GH:k - 1≠0:=fun z=>t 162;clear t;by_cases B:(decide (F - k < 7) && decide (v - 1 - x < 7))=true
         . refine av B ?_;exact ab7 113
         . refine ax B ?_;exact ab7 119
     . refine ax o ?_;have k0:k=F:=by lia
       rw[k0] at LC;refine ab5 (aI X ?_);have W:=y.mH sa d 102 C 102 LC;by_cases O:(v - 1==1)=true
       . refine av O ?_;exact ab7 ⟨⟨_,rfl⟩,.inl ⟨_,rfl,W.first sa d 102 102 (ac4.mp O) u⟩⟩
       refine ax O ?_;have c5':v - 1≠1:=fun z=>O 162;clear O;have S:F - 1 < a.size:=by lia
       refine ab5 (aI S ?_);refine ab5 (fM L hk hb (ha _ S) 102 102 (fun p q pq q2=>d.rk 102 102) fun x Cy Z Y=>?_);rw[<-cj (R:=R) S] at Z Y;simp only [Nat.zero_add] at Z Y;dsimp only;have T:0 < x->rk R b (x - 1)<=rk R a (F - 1):=fun z=>am6 (pJ (Z (x - 1) 102));have Cu:x < v - 1->rk R a (F - 1)<=rk R b x:=fun z=>pK (Y x (ab6 _) 102);clear Z Y;by_cases c6:v - 1 - x > 0
       . refine av c6 ?_;have Bx:=W.iA sa d (nb':=x) 102 102 102 (fun z _=>Cu z);by_cases t:(x==1)=true
         . refine av t ?_;exact ab7 ⟨⟨_,rfl⟩,.inl ⟨_,rfl,Bx.first sa d 102 102 (ac4.mp t) u⟩⟩
         refine ax t ?_;have GH:x≠1:=fun z=>t 162;clear t;by_cases B:(x==0)=true
         . refine av B ?_;exact ab7 ⟨⟨_,rfl⟩,.inl ⟨_,rfl,Bx.done sa d 102 102 (.inr (ac4.mp B))⟩⟩
         refine ax B ?_;have c8':x≠0:=fun z=>B 162;clear B;refine ab5 (aI S ?_);have J:=Bx.hU sa d 102 102 102 T;by_cases t:(F - 1==0)=true
         . refine av t ?_;exact ab7 ⟨⟨_,rfl⟩,.inl ⟨_,rfl,J.done sa d 102 102 (.inl (ac4.mp t))⟩⟩
         refine ax t ?_;have GH:F - 1≠0:=fun z=>t 162;clear t;by_cases B:(decide (F - k < 7) && decide (v - 1 - x < 7))=true
         . refine av B ?_;exact ab7 113
         . refine ax B ?_;exact ab7 119
       . refine ax c6 ?_;have OD:x=v - 1:=by lia
         refine ab5 (aI S ?_);have J:=W.hU sa d 102 102 102 (fun z=>by rw[<-OD] at z ⊢;exact T z);by_cases t:(F - 1==0)=true
         . refine av t ?_;exact ab7 ⟨⟨_,rfl⟩,.inl ⟨_,rfl,J.done sa d 102 102 (.inl (ac4.mp t))⟩⟩
         refine ax t ?_;have GH:F - 1≠0:=fun z=>t 162;clear t;by_cases B:(decide (F - k < 7) && decide (v - 1 - x < 7))=true
         . refine av B ?_;exact ab7 113
         . refine ax B ?_;exact ab7 119
section
variable{R:238->Int}
def mF(h:a[i]?=b[j]?):rk R a i=rk R b j:=by unfold rk;rw[h]
def oi{a:Array 238}(g:j<=230)(k:Nat):rk R (mirror a i j ((j - i) / 2)) k=if i<=k/\k < j then rk R a (i+j - 1 - k) else rk R a k:=by
 have e:=getElem?_mirror_all (i:=i) (j:=j) (xs:=a) g k;by_cases c:i<=k/\k < j
 . rw[if_pos c] at e ⊢;exact mF e
 . rw[if_neg c] at e ⊢;exact mF e
def NF{a:Array 238}(f:i < 230)(hd:d<=i)(k:Nat):rk R (bubble a i d) k=if k=i - d then rk R a i else if i - d < k/\k<=i then rk R a (k - 1) else rk R a k:=by
 have e:=getElem?_bubble (xs:=a) (src:=i) f d hd k;by_cases c:k=i - d
 . rw[if_pos c] at e ⊢;exact mF e
 . rw[if_neg c] at e ⊢;by_cases b:i - d < k/\k<=i
   . rw[if_pos b] at e ⊢;exact mF e
   . rw[if_neg b] at e ⊢;exact mF e
def bA(R:238->Int)(a:Array 238)(i j:Nat):Prop:= ∀x y,i<=x->x<=y->y < j->rk R a x<=rk R a y
def bA.more{L n:Nat}(h:bA R a L (L+n))(r:1<=n)(z:rk R a (L+n - 1)<=rk R a (L+n)):bA R a L (L+(n+1)):=fun x y e f C=>by
 by_cases c:y < L+n
 . exact h x y e f c
 . have:y=L+n:=by lia
   subst this;by_cases d:x=L+n
   . rw[d];exact ak7 _
   . exact Int.le_trans (h x (L+n - 1) e 102 102) z
def bA.one{L:Nat}:bA R a L (L+1):=fun x y d e C=>by rw[show x=y by lia];exact ak7 _
structure Dx(R:238->Int)(a:Array 238)(lo n q:Nat):Prop where
 ds: ∀i j,lo<=i->i<=j->j < lo+n->rk R a j<=rk R a i
 q1:q+1<=n
 eq: ∀i,lo+n - (q+1)<=i->i < lo+n->rk R a i=rk R a (lo+n - 1)
def Dx.turn{L n q:Nat}(h:Dx R a L n q)(V:L+n<=230):rk R (mirror a (L+n - (q+1)) (L+n) ((L+n - (L+n - (q+1))) / 2)) i=rk R a i:=by
 rw[oi V];have:=h.q1;split
 . rename_i c;rw[h.eq _ 102 102,h.eq i c.1 c.2]
 . rfl
def Dx.turned{L n q:Nat}(h:Dx R a L n q)(V:L+n<=230):Dx R (mirror a (L+n - (q+1)) (L+n) ((L+n - (L+n - (q+1))) / 2)) L n q:=
 ⟨fun i j x y z=>by rw[h.turn V,h.turn V];exact h.ds i j x y z,h.q1,fun i x y=>by rw[h.turn V,h.turn V];exact h.eq i x y⟩
def Dx.more{L n q:Nat}(h:Dx R a L n q)(A:rk R a (L+n) < rk R a (L+n - 1)):Dx R a L (n+1) 0:=by
 have:=h.q1;refine⟨fun i j x y z=>?_,by lia,fun i x y=>by rw[show i=L+(n+1) - 1 by lia]⟩;by_cases g:j < L+n
 . exact h.ds i j x y g
 . have:j=L+n:=by lia
   subst this;by_cases H:i=L+n
   . subst H;exact ak7 _
   . exact Int.le_trans (am6 A) (h.ds i (L+n - 1) x 102 102)
def Dx.alike{L n q:Nat}(h:Dx R a L n q)(A:rk R a (L+n)=rk R a (L+n - 1)):Dx R a L (n+1) (q+1):=by
 have s:=h.q1;refine⟨fun i j x y z=>?_,by lia,fun i x y=>?_⟩
 . by_cases g:j < L+n
   . exact h.ds i j x y g
   . have:j=L+n:=by lia
     subst this;by_cases H:i=L+n
     . subst H;exact ak7 _
     . rw[A];exact h.ds i (L+n - 1) x 102 102
 . rw[show L+(n+1) - 1=L+n by lia];by_cases H:i=L+n
   . rw[H]
   . rw[A];exact h.eq i 102 102
def Dx.up{L n q:Nat}(h:Dx R a L n q)(V:L+n<=230):bA R (mirror a L (L+n) ((L+n - L) / 2)) L (L+n):=fun x y d e C=>by
 rw[oi V,oi V,if_pos 176,if_pos 176];exact h.ds _ _ 102 102 102
end
structure Wx(κ:SortKind)(a₀ ar:Array 238)(lo:Nat)(p:Array 142)(st:SortSt):Prop where
 pm:(138).Perm a₀
 kind:kindOf st=κ
 failed:failedOf st=none
 pend:pendingOf st=p
 keep: ∀i,i < lo->(138)[i]?=ar[i]?
section
variable{prog:214}{w:237}{A:244}{E:212->211->Prop}{s:211}{κ:SortKind}{R:238->Int}{D:238->Prop}{a₀ ar:Array 238}{p:Array 142}{lo:Nat}
def Wx.size{st:SortSt}(h:Wx κ a₀ ar lo p st):(138).size=a₀.size:=h.pm.size_eq
def Wx.dk{st:SortSt}(h:Wx κ a₀ ar lo p st)(Y: ∀x∈a₀.toList,D x):Dk D 138:=fun i H=>Y _ ((al2.mp h.pm).mem_iff.mp (xy H))
def Wx.lt{st:SortSt}(h:Wx κ a₀ ar lo p st)(L:qm prog w A E s κ R D)(Y: ∀x∈a₀.toList,D x){i j:Nat}(hi:i < a₀.size)(g:j < a₀.size)(q:Q (some (decide (rk R 138 i < rk R 138 j))) st):wpS 105 A E s (ltAt' i j) Q st:=by
 have M:i < (138).size:=by rw[h.size];exact hi
 have F:j < (138).size:=by rw[h.size];exact g
 rw[ltAt'_eq];refine ab5 (as7 ?_);rw[cj M,cj F] at q;exact ab5 (aI M (ab5 (aI F (L _ _ _ _ h.kind (h.dk Y _ M) (h.dk Y _ F) q))))
def Wx.rev{st:SortSt}(h:Wx κ a₀ ar lo p st){i j:Nat}(hi:lo<=i)(g:j<=a₀.size)(q: ∀B,Wx κ a₀ ar lo p B->arrOf B=mirror 138 i j ((j - i) / 2)->Q () B):wpS 105 A E s (reverseSlice' i j) Q st:=by
 rw[reverseSlice'_eq];refine am7 (q _ ⟨(mirror_perm _ _ _ _).trans h.pm,h.kind,h.failed,h.pend,fun k F=>?_⟩ rfl);show(mirror 138 i j ((j - i) / 2))[k]?=_;rw[getElem?_mirror_all (by rw[h.size];exact g),if_neg 102];exact h.keep k F
def Wx.mov{st:SortSt}(h:Wx κ a₀ ar lo p st){i j:Nat}(g:lo<=j)(x:j<=i)(hi:i < a₀.size)(q: ∀B,Wx κ a₀ ar lo p B->arrOf B=bubble 138 i (i - j)->Q () B):wpS 105 A E s (moveDown' i j) Q st:=by
 rw[moveDown'_eq];refine am7 (q _ ⟨(bubble_perm _ _ _).trans h.pm,h.kind,h.failed,h.pend,fun k F=>?_⟩ rfl);show(bubble 138 i (i - j))[k]?=_;rw[getElem?_bubble (by rw[h.size];exact hi) _ 102,if_neg 102,if_neg 102];exact h.keep k F
def CS(L:qm prog w A E s κ R D)(Y: ∀x∈a₀.toList,D x){st:SortSt}{o:Nat}(hn:lo+o<=a₀.size)(h1:1<=o)(V:Wx κ a₀ ar lo p st)(h: ∀m B,Wx κ a₀ ar lo p B->1<=m->m<=o->bA R 166 lo (lo+m)->Q (some m) B):wpS 105 A E s (countRun' lo o) Q st:=by
 rw[countRun'_eq];dsimp only;refine ab5 (aj5 (ah0 (I:=fun i c B=>B=st/\c.1=none/\c.2=i/\bA R 138 lo (lo+i)) (Q:=fun c B=>B=st/\c.1=none/\1<=c.2/\c.2<=o/\bA R 138 lo (lo+c.2)/\(c.2 < o->rk R 138 (lo+c.2) < rk R 138 (lo+c.2 - 1))) ?_ ?_ ⟨rfl,rfl,rfl,bA.one⟩) ?_)
 . rintro x ⟨r,n⟩ B P Z ⟨rfl,k,t,C⟩
   dsimp only at k t C ⊢;subst k;subst t;refine ab5 (V.lt L Y 102 102 ?_);cases O:decide 165 with
   | true=>exact ab7 117
   | false=>exact ab7 ⟨rfl,rfl,rfl,C.more 102 (at5.mp (ag0 O))⟩
 . rintro⟨r,n⟩ B ⟨N,g,l,J⟩
   dsimp only at g l J;rw[<-l] at J;have l:n=o:=by lia
   subst l;exact 145
 . rintro⟨r,n⟩ B ⟨rfl,k,t,C,v,a⟩
   dsimp only at k t C v a ⊢;subst k;dsimp only;by_cases d:(n==o)=true
   . rw[if_pos d];exact ab7 (h _ _ V t C v)
   rw[if_neg d];have Y8:n≠o:=fun z=>d 162;clear d;have a:=a 102;have f:=V.size;by_cases c2:n > 1
   . rw[if_pos c2];refine ab5 (V.lt L Y 102 102 ?_);cases O:decide (rk R 166 lo < rk R 166 (lo+n - 1)) with
     | true=>exact ab7 (h _ _ V t C v)
     | false=>
      have O:=ag0 O;dsimp only;rw[if_neg ab9];refine ab5 (V.rev 102 102 fun uo w1 W=>?_);refine ab5 183;have al: ∀i,lo<=i->i < lo+n->rk R 166 i=rk R 166 (lo+n - 1):=fun i e i2=>by
       have:=v lo i 102 e i2;have:=v i (lo+n - 1) e 102 102;lia
      have b: ∀i,lo<=i->i < lo+n->rk R (arrOf uo) i=rk R 166 (lo+n - 1):=fun i e i2=>by
       rw[W,oi 102,if_pos ⟨e,i2⟩];exact al _ 102 102
      have ar2:rk R (arrOf uo) (lo+n)=rk R 166 (lo+n):=by rw[W,oi 102,if_neg 102]
      have Yu:Dx R (arrOf uo) lo (n+1) 0:=Dx.more (q:=n - 1) ⟨fun i j x y z=>by rw[b i x 102,b j 102 z];exact ak7 _,by lia,fun i x y=>by rw[b i 102 y,b (lo+n - 1) 102 102]⟩ (by rw[ar2,b (lo+n - 1) 102 102];exact a);refine ab5 (aj5 (ah0 (I:=fun i c B=>Wx κ a₀ ar lo p B/\c.1=none/\c.2.1=i/\Dx R 166 lo c.2.1 c.2.2) (Q:=fun c B=>Wx κ a₀ ar lo p B/\c.1=none/\c.2.1<=o/\Dx R 166 lo c.2.1 c.2.2) ?_ ?_ ⟨w1,rfl,rfl,(by dsimp only;exact Yu)⟩) ?_)
      . rintro x ⟨r,m,q⟩ B P Z ⟨u,k,t,F⟩
        dsimp only at k t F ⊢;subst k;subst t;have q1:=F.q1;have f:=u.size;refine ab5 (u.lt L Y 102 102 ?_);cases O:decide (rk R 166 (lo+m) < rk R 166 (lo+m - 1)) with
        | true=>
         have O:=ae1 O;dsimp only;rw[if_pos rfl];by_cases c:q > 0
         . rw[if_pos c];exact ab5 (u.rev 102 102 fun iq H W=>ab7 ⟨H,rfl,rfl,by dsimp only;rw[W];exact(F.turned 102).more (by rw[F.turn 102,F.turn 102];exact O)⟩)
         . rw[if_neg c];exact ab7 ⟨u,rfl,rfl,by dsimp only;exact F.more O⟩
        | false=>
         have O:=ag0 O;dsimp only;rw[if_neg ab9];refine ab5 (u.lt L Y 102 102 ?_);cases Y9:decide (rk R 166 (lo+m - 1) < rk R 166 (lo+m)) with
         | true=>exact ab7 ⟨u,rfl,by dsimp only;lia,by dsimp only;exact F⟩
         | false=>exact ab7 ⟨u,rfl,rfl,by dsimp only;exact F.alike (by have:=ag0 Y9;lia)⟩
      . rintro⟨r,m,q⟩ B ⟨u,k,t,F⟩
        dsimp only at t;exact⟨u,k,by dsimp only;lia,F⟩
      . rintro⟨r,m,q⟩ B ⟨H,k,C,F⟩
        dsimp only at k C F ⊢;subst k;have q1:=F.q1;have f:=H.size;by_cases c:q > 0
        . rw[if_pos c];refine ab5 (H.rev 102 102 fun iq T W=>?_);have S:=F.turned 102;rw[<-W] at S;have sz2:=T.size;refine ab5 (T.rev 102 102 fun U M X=>?_);have v:=S.up 102;rw[<-X] at v;refine ab5 109
          . rintro x ⟨r,n⟩ B P Z ⟨rfl,k,t,C⟩
            dsimp only at k t C ⊢;subst k;subst t;refine ab5 (M.lt L Y 102 102 ?_);cases O:decide 165 with
            | true=>exact ab7 117
            | false=>exact ab7 ⟨rfl,rfl,rfl,C.more 102 (at5.mp (ag0 O))⟩
          . rintro⟨r,n⟩ B ⟨N,g,l,J⟩
            dsimp only at g l J;rw[<-l] at J;have l:n=o:=by lia
            subst l;exact 145
          . rintro⟨r,n⟩ B ⟨rfl,k,t,C,G,e5⟩
            dsimp only at k t C G ⊢;subst k;exact ab7 (h _ _ M t C G)
        . rw[if_neg c];refine ab5 (H.rev 102 102 fun U M X=>?_);have v:=F.up 102;rw[<-X] at v;refine ab5 109
          . rintro x ⟨r,n⟩ B P Z ⟨rfl,k,t,C⟩
            dsimp only at k t C ⊢;subst k;subst t;refine ab5 (M.lt L Y 102 102 ?_);cases O:decide 165 with
            | true=>exact ab7 117
            | false=>exact ab7 ⟨rfl,rfl,rfl,C.more 102 (at5.mp (ag0 O))⟩
          . rintro⟨r,n⟩ B ⟨N,g,l,J⟩
            dsimp only at g l J;rw[<-l] at J;have l:n=o:=by lia
            subst l;exact 145
          . rintro⟨r,n⟩ B ⟨rfl,k,t,C,G,e5⟩
            dsimp only at k t C G ⊢;subst k;exact ab7 (h _ _ M t C G)
   . rw[if_neg c2];refine ab5 183;have n1:n=1:=by lia
     subst n1;have Yu:Dx R 166 lo (1+1) 0:=Dx.more (q:=0) ⟨fun i j x y z=>by rw[show i=j by lia];exact ak7 _,by lia,fun i x y=>by rw[show i=lo+1 - 1 by lia]⟩ a;refine ab5 (aj5 (ah0 (I:=fun i c B=>Wx κ a₀ ar lo p B/\c.1=none/\c.2.1=i/\Dx R 166 lo c.2.1 c.2.2) (Q:=fun c B=>Wx κ a₀ ar lo p B/\c.1=none/\c.2.1<=o/\Dx R 166 lo c.2.1 c.2.2) ?_ ?_ ⟨V,rfl,rfl,(by dsimp only;exact Yu)⟩) ?_)
     . rintro x ⟨r,m,q⟩ B P Z ⟨u,k,t,F⟩
       dsimp only at k t F ⊢;subst k;subst t;have q1:=F.q1;have f:=u.size;refine ab5 (u.lt L Y 102 102 ?_);cases O:decide (rk R 166 (lo+m) < rk R 166 (lo+m - 1)) with
       | true=>
        have O:=ae1 O;dsimp only;rw[if_pos rfl];by_cases c:q > 0
        . rw[if_pos c];exact ab5 (u.rev 102 102 fun iq H W=>ab7 ⟨H,rfl,rfl,by dsimp only;rw[W];exact(F.turned 102).more (by rw[F.turn 102,F.turn 102];exact O)⟩)
        . rw[if_neg c];exact ab7 ⟨u,rfl,rfl,by dsimp only;exact F.more O⟩
       | false=>
        have O:=ag0 O;dsimp only;rw[if_neg ab9];refine ab5 (u.lt L Y 102 102 ?_);cases Y9:decide (rk R 166 (lo+m - 1) < rk R 166 (lo+m)) with
        | true=>exact ab7 ⟨u,rfl,by dsimp only;lia,by dsimp only;exact F⟩
        | false=>exact ab7 ⟨u,rfl,rfl,by dsimp only;exact F.alike (by have:=ag0 Y9;lia)⟩
     . rintro⟨r,m,q⟩ B ⟨u,k,t,F⟩
       dsimp only at t;exact⟨u,k,by dsimp only;lia,F⟩
     . rintro⟨r,m,q⟩ B ⟨H,k,C,F⟩
       dsimp only at k C F ⊢;subst k;have q1:=F.q1;have f:=H.size;by_cases c:q > 0
       . rw[if_pos c];refine ab5 (H.rev 102 102 fun iq T W=>?_);have S:=F.turned 102;rw[<-W] at S;have sz2:=T.size;refine ab5 (T.rev 102 102 fun U M X=>?_);have v:=S.up 102;rw[<-X] at v;refine ab5 109
         . rintro x ⟨r,n⟩ B P Z ⟨rfl,k,t,C⟩
           dsimp only at k t C ⊢;subst k;subst t;refine ab5 (M.lt L Y 102 102 ?_);cases O:decide 165 with
           | true=>exact ab7 117
           | false=>exact ab7 ⟨rfl,rfl,rfl,C.more 102 (at5.mp (ag0 O))⟩
         . rintro⟨r,n⟩ B ⟨N,g,l,J⟩
           dsimp only at g l J;rw[<-l] at J;have l:n=o:=by lia
           subst l;exact 145
         . rintro⟨r,n⟩ B ⟨rfl,k,t,C,G,e5⟩
           dsimp only at k t C G ⊢;subst k;exact ab7 (h _ _ M t C G)
       . rw[if_neg c];refine ab5 (H.rev 102 102 fun U M X=>?_);have v:=F.up 102;rw[<-X] at v;refine ab5 109
         . rintro x ⟨r,n⟩ B P Z ⟨rfl,k,t,C⟩
           dsimp only at k t C ⊢;subst k;subst t;refine ab5 (M.lt L Y 102 102 ?_);cases O:decide 165 with
           | true=>exact ab7 117
           | false=>exact ab7 ⟨rfl,rfl,rfl,C.more 102 (at5.mp (ag0 O))⟩
         . rintro⟨r,n⟩ B ⟨N,g,l,J⟩
           dsimp only at g l J;rw[<-l] at J;have l:n=o:=by lia
           subst l;exact 145
         . rintro⟨r,n⟩ B ⟨rfl,k,t,C,G,e5⟩
           dsimp only at k t C G ⊢;subst k;exact ab7 (h _ _ M t C G)
def CT(L:qm prog w A E s κ R D)(hD: ∀x∈a₀.toList,D x){st:SortSt}{n o:Nat}{Q:Bool->SortSt->Prop}(hn:lo+n<=a₀.size)(o1:1<=o)(o2:o<=n)(hW:Wx κ a₀ ar lo p st)(sg:bA R 138 lo (lo+o))
  (h: ∀B,Wx κ a₀ ar lo p B->bA R 166 lo (lo+n)->Q true B):wpS 105 A E s (binarySort' lo n o) Q st:=by
 rw[binarySort'_eq];refine ab5 (aj5 (ah0 (I:=fun k c B=>c=(none,())/\Wx κ a₀ ar lo p B/\bA R 166 lo (lo+k)) (Q:=fun c B=>c=(none,())/\Wx κ a₀ ar lo p B/\bA R 166 lo (lo+n)) ?step ?fin ⟨rfl,hW,by rw[Nat.max_eq_left o1];exact sg⟩) ?post)
 case fin=>
  rintro c B ⟨e,m,S⟩
  exact⟨e,m,by rw[show max (max o 1) n=n by lia] at S;exact S⟩
 case post=>
  rintro c B ⟨rfl,m,S⟩
  exact ab7 (h B m S)
 case step=>
  rintro k c B hak Vj ⟨rfl,m,S⟩
  have sz:=m.size;have k1:1<=k:=by lia
  refine ab5 (aj5 (ah0 (I:=fun x c T=>T=B/\c.1=none/\c.2.1<=c.2.2/\c.2.2<=k/\(c.2.2 - c.2.1)+x<=k/\(∀i,i < c.2.1->rk R 166 (lo+i)<=rk R 166 (lo+k))/\(∀i,c.2.2<=i->i < k->rk R 166 (lo+k)<=rk R 166 (lo+i)))
   (Q:=fun c T=>T=B/\c.1=none/\c.2.1<=k/\(∀i,i < c.2.1->rk R 166 (lo+i)<=rk R 166 (lo+k))/\(∀i,c.2.1<=i->i < k->rk R 166 (lo+k)<=rk R 166 (lo+i))) ?istep ?ifin ⟨rfl,rfl,by dsimp only;lia,by dsimp only;lia,by dsimp only;lia,fun i hi=>by dsimp only at hi;lia,fun i f g=>by dsimp only at f;lia⟩) ?ipost)
  case ifin=>
   rintro⟨r,l,u⟩ T ⟨e,H,W,J,X,M,N⟩
   dsimp only at H W J X M N;have:l=u:=by lia
   subst this;exact⟨e,H,J,M,N⟩
  case istep=>
   rintro x ⟨r,l,u⟩ T _ hxk ⟨rfl,f,g,P,h4,v,C⟩
   dsimp only at f g P h4 v C ⊢;subst f;by_cases Y:l>=u
   . rw[if_pos Y];have:l=u:=by lia
     subst this;exact ab7 ⟨rfl,rfl,P,v,C⟩
   . rw[if_neg Y];refine ab5 (m.lt L hD 102 102 ?_);cases O:decide (rk R (arrOf T) (lo+k) < rk R (arrOf T) (lo+(l+u) / 2)) with
     | true=>
      have O:=ae1 O;exact ab7 ⟨rfl,rfl,by dsimp only;lia,by dsimp only;lia,by dsimp only;lia,v,fun i F i2=>by
       dsimp only at F;have:=S (lo+(l+u) / 2) (lo+i) 102 102 102;lia⟩
     | false=>
      have O:=ag0 O;exact ab7 ⟨rfl,rfl,by dsimp only;lia,by dsimp only;lia,by dsimp only;lia,fun i F=>by
       dsimp only at F;have:=S (lo+i) (lo+(l+u) / 2) 102 102 102;lia,C⟩
  case ipost=>
   rintro⟨r,l,u⟩ T ⟨rfl,f,g,v,C⟩
   dsimp only at f g v C ⊢;subst f;refine ab5 (m.mov (i:=lo+k) (j:=lo+l) 102 102 102 fun iq w2 b=>ab7 ⟨rfl,w2,?_⟩);intro x y x1 x2 x3;have Z:=fun z=>NF (R:=R) (a:=arrOf T) (i:=lo+k) (d:=lo+k - (lo+l)) 102 102 z;rw[b,Z x,Z y];have V:lo+k - (lo+k - (lo+l))=lo+l:=by lia
   rw[V];by_cases G:x=lo+l
   . rw[if_pos G];by_cases U:y=lo+l
     . rw[if_pos U];exact ak7 _
     . rw[if_neg U,if_pos 176];have:=C (y - 1 - lo) 102 102;rw[show lo+(y - 1 - lo)=y - 1 by lia] at this;exact this
   . rw[if_neg G];by_cases q:lo+l < x/\x<=lo+k
     . rw[if_pos q,if_neg 102,if_pos 176];exact S _ _ 102 102 102
     . rw[if_neg q];by_cases U:y=lo+l
       . rw[if_pos U];have:=v (x - lo) 102;rw[show lo+(x - lo)=x by lia] at this;exact this
       . rw[if_neg U];by_cases t:lo+l < y/\y<=lo+k
         . rw[if_pos t];exact S _ _ 102 102 102
         . rw[if_neg t];exact S _ _ 102 102 102
end
section
variable{R:238->Int}
def D0: ∀{L:List 238} {n:Nat} {xs:Array 238} (k:Nat),sa+n+L.length<=xs.size->((L.zipIdx n).foldl (fun a (p,j)=>a.setIfInBounds (sa+j) p) xs)[k]?=if sa+n<=k/\k < sa+n+L.length then L[k - sa - n]? else xs[k]?
 | [],n,xs,k,_=>by
  rw[if_neg (by rw[ak9];lia)];rfl
 | x::L,n,xs,k,h=>by
  rw[ad6] at h ⊢;rw[List.zipIdx_cons,List.foldl_cons];rw[D0 (sa:=sa) (L:=L) (n:=n+1) k (by simp;lia)];by_cases c:sa+n<=k/\k < sa+n+(L.length+1)
  . rw[if_pos c];by_cases d:k=sa+n
    . rw[if_neg 102,Array.getElem?_setIfInBounds,if_pos d.symm,if_pos 102,show k - sa - n=0 by lia];rfl
    . rw[if_pos 102,show k - sa - n=(k - sa - (n+1))+1 by lia,List.getElem?_cons_succ]
  . rw[if_neg c,if_neg 102,Array.getElem?_setIfInBounds,if_neg 102]
def uF: ∀{l:List (238 × Nat)} {xs:Array 238},(l.foldl (fun a (p,j)=>a.setIfInBounds (sa+j) p) xs).size=xs.size
 | [],xs=>rfl
 | (x,j)::l,xs=>by
  rw[List.foldl_cons,uF];simp
structure Vx(a m a':Array 238)(sa e:Nat):Prop where
 at_: ∀k,a'[k]?=if sa<=k/\k < e then m[k - sa]? else a[k]?
 sz:a'.size=230
def NN{a m:Array 238}(h:sa+m.size<=230):Vx a m (m.toList.zipIdx.foldl (fun a (p,j)=>a.setIfInBounds (sa+j) p) a) sa (sa+m.size):=by
 refine⟨fun k=>?_,uF⟩;have:=D0 (sa:=sa) (L:=m.toList) (n:=0) (xs:=a) k (by rw[ac7];exact h);rw[ac7,au7,au6,ah2] at this;exact this
def Vx.list(h:Vx a m a' sa e)(y:e=sa+m.size)(n:e<=230):a'.toList=a.toList.take sa++(m.toList++a.toList.drop e):=by
 apply al4;intro k;rw[ah2,h.at_ k];have Z:(a.toList.take sa).length=sa:=by rw[am0,ac7];lia
 by_cases c:k < sa
 . rw[if_neg 102,ae9 102,List.getElem?_take_of_lt c,ah2]
 . rw[af4 102,Z];by_cases d:k < e
   . rw[if_pos 102,ae9 (by rw[ac7];lia),ah2]
   . rw[if_neg 102,af4 (by rw[ac7];lia),ac7,List.getElem?_drop,ah2];congr 1
     lia
def hZ(R:238->Int)(a:Array 238):Nat->List 142->Nat->Prop
 | s,[],e=>s=e
 | s,x::r,e=>x.1=s/\1<=x.2.1/\bA R a x.1 (x.1+x.2.1)/\hZ R a (x.1+x.2.1) r e
def hZ.ch: ∀{s e:Nat} {l:List 142},hZ R a s l e->Ch s l e
 | s,e,[],h=>h
 | s,e,x::r,h=>⟨h.1,h.2.1,hZ.ch h.2.2.2⟩
def hZ.same: ∀{s e:Nat} {l:List 142},hZ R a s l e->(∀j,s<=j->j < e->rk R a' j=rk R a j)->hZ R a' s l e
 | s,e,[],h,_=>h
 | s,e,x::r,h,hr=>by
  have J:=h.2.2.2.ch.le;have n:=h.1;refine⟨h.1,h.2.1,fun y z d u S=>?_,hZ.same h.2.2.2 fun j i t=>hr j 102 t⟩;rw[hr y 102 102,hr z 102 102];exact h.2.2.1 y z d u S
def hZ.lb: ∀{s e i:Nat} {l:List 142} {x:Nat × Nat × Nat},hZ R a s l e->l[i]?=some x->s<=x.1/\bA R a x.1 (x.1+x.2.1)
 | s,e,i,[],x,_,h=>by simp at h
 | s,e,0,z::r,x,h,h1=>by
  cases (show z=x by simpa using h1);exact⟨Nat.le_of_eq h.1.symm,h.2.2.1⟩
 | s,e,i+1,z::r,x,h,h1=>by
  have:=hZ.lb h.2.2.2 (show r[i]?=some x by simpa using h1);exact⟨by have:=this.1;have:=h.1;lia,this.2⟩
def hZ.merge: ∀{s e i:Nat} {l:List 142} {x y:Nat × Nat × Nat},hZ R a s l e->l[i]?=some x->l[i+1]?=some y->bA R a' x.1 (x.1+(x.2.1+y.2.1))->(∀j,(j < x.1\/x.1+(x.2.1+y.2.1)<=j)->rk R a' j=rk R a j)->hZ R a' s ((l.set i (x.1,x.2.1+y.2.1,v)).eraseIdx (i+1)) e
 | s,e,i,[],x,y,h,h1,_,_,_=>by simp at h1
 | s,e,0,[z],x,y,h,h1,h2,_,_=>by simp at h2
 | s,e,0,z::z2::r,x,y,h,h1,h2,sg,hr=>by
  cases (show z=x by simpa using h1);cases (show z2=y by simpa using h2);show z.1=s/\1<=z.2.1+z2.2.1/\bA R a' z.1 (z.1+(z.2.1+z2.2.1))/\hZ R a' (z.1+(z.2.1+z2.2.1)) r e;refine⟨h.1,by have:=h.2.1;lia,sg,?_⟩;have:=h.2.2.2.2.2.2;rw[h.2.2.2.1] at this;rw[<-Nat.add_assoc];exact this.same fun j k _=>hr j (.inr 102)
 | s,e,i+1,z::r,x,y,h,h1,h2,sg,hr=>by
  have X:=hZ.lb h.2.2.2 (show r[i]?=some x by simpa using h1);refine⟨h.1,h.2.1,fun p q d t b=>?_,hZ.merge h.2.2.2 (by simpa using h1) (by simpa using h2) sg hr⟩;rw[hr p (.inl 102),hr q (.inl 102)];exact h.2.2.1 p q d t b
def hZ.push(V:1<=n): ∀{s e:Nat} {l:List 142},hZ R a s l e->bA R a e (e+n)->hZ R a s (l++ [(e,n,q)]) (e+n)
 | s,e,[],h,sg=>⟨h.symm,V,sg,rfl⟩
 | s,e,x::r,h,sg=>⟨h.1,h.2.1,h.2.2.1,hZ.push V h.2.2.2 sg⟩
def hZ.mod(j: ∀x,(f x).1=x.1/\(f x).2.1=x.2.1): ∀{s e k:Nat} {l:List 142},hZ R a s l e->hZ R a s (l.modify k f) e
 | s,e,k,[],h=>by simpa using h
 | s,e,0,x::r,h=>by
  show(f x).1=s/\1<=(f x).2.1/\bA R a (f x).1 ((f x).1+(f x).2.1)/\hZ R a ((f x).1+(f x).2.1) r e;rw[(j x).1,(j x).2];exact h
 | s,e,k+1,x::r,h=>⟨h.1,h.2.1,h.2.2.1,hZ.mod j h.2.2.2⟩
def hZ.len: ∀{s e:Nat} {l:List 142},hZ R a s l e->s+l.length<=e
 | s,e,[],h=>by rw[ak9];exact Nat.le_of_eq h
 | s,e,x::r,h=>by
  have:=hZ.len h.2.2.2;have:=h.1;have:=h.2.1;rw[ad6];lia
def bA.Qy(h:bA R a i j)(g:j<=230):eZ R (a.extract i j):=by
 unfold eZ;rw[al6];intro x y k l M;have N:(a.extract i j).size=j - i:=by rw[an0];lia
 have m:x < j - i:=by rw[<-N,<-ac7];exact k
 have Y:y < j - i:=by rw[<-N,<-ac7];exact l
 have:=h (i+x) (i+y) 102 102 102;rw[cj 102,cj 102] at this;simpa using this
def yV{a:Array 238}(g:j<=230)(h:x < j - i):rk R (a.extract i j) x=rk R a (i+x):=by
 have N:(a.extract i j).size=j - i:=by rw[an0];lia
 rw[cj 102,cj 102,Array.getElem_extract]
def xx{a m a':Array 238}(A:sa<=lD)(C:lD < sb)(F:sb < e')(G:e'<=e)(I:e<=230)(T:bA R a sa sb)(t:bA R a sb e)(o:Out R (a.extract lD sb) (a.extract sb e') m)(P:Vx a m a' lD e')(k1:sa < lD->rk R a (lD - 1)<=rk R a sb)(k2:e' < e->rk R a (sb - 1)<=rk R a e'):bA R a' sa e/\a'.toList.Perm a.toList/\ ∀j,(j < lD\/e'<=j)->rk R a' j=rk R a j:=by
 have N:m.size=e' - lD:=by
  have:=o.1.length_eq;rw[ac6,ac7,ac7,ac7,an0,an0] at this;lia
 have f: ∀j,(j < lD\/e'<=j)->rk R a' j=rk R a j:=fun j J=>mF (by rw[P.at_ j,if_neg 102]);have Y: ∀j,lD<=j->j < e'->rk R a' j=rk R m (j - lD):=fun j h s=>mF (by rw[P.at_ j,if_pos ⟨h,s⟩]);have S: ∀j,lD<=j->j < e'-> ∃k,lD<=k/\k < e'/\rk R a' j=rk R a k:=fun j h s=>by
  rw[Y j h s,cj 102];have O:=o.1.mem_iff.mp (xy (a:=m) (i:=j - lD) 102);rcases ad2.mp O with z | z
  . obtain⟨k,d,r,q,e⟩:=dm (R:=R) z;exact⟨k,d,by lia,e⟩
  . obtain⟨k,d,r,q,e⟩:=dm (R:=R) z;exact⟨k,by lia,r,e⟩
 have L: ∀x k,sa<=x->x < lD->lD<=k->k < e'->rk R a x<=rk R a k:=fun x k Q E d r=>by
  have D:=T x (lD - 1) Q 102 102;by_cases c:k < sb
  . exact T x k Q 102 c
  . have:=k1 102;have:=t sb k (ab6 _) 102 102;lia
 have H: ∀y k,e'<=y->y < e->lD<=k->k < e'->rk R a k<=rk R a y:=fun y k v u d r=>by
  by_cases c:k < sb
  . have V:=T k (sb - 1) 102 102 102;have w:=k2 102;have M:=t e' y 102 v u;lia
  . exact t k y 102 102 u
 refine⟨fun x y Q E g=>?_,?_,f⟩
 . by_cases U:x < lD
   . rw[f x (.inl U)];by_cases l:y < lD
     . rw[f y (.inl l)];exact T x y Q E 102
     . by_cases b:y < e'
       . obtain⟨k,d,r,e⟩:=S y 102 b;rw[e];exact L x k Q U d r
       . rw[f y (.inr 102)];have W:=L x (sb - 1) Q U 102 102;have X:=H y (sb - 1) 102 g 102 102;lia
   . by_cases Z:x < e'
     . by_cases b:y < e'
       . rw[Y x 102 Z,Y y 102 b];exact o.2.rk 102 102
       . obtain⟨k,d,r,e⟩:=S x 102 Z;rw[e,f y (.inr 102)];exact H y k 102 g d r
     . rw[f x (.inr 102),f y (.inr 102)];exact t x y 102 E g
 . rw[P.list 102 102];have p:a.toList.take lD++((a.extract lD sb).toList++(a.extract sb e').toList++a.toList.drop e')=a.toList:=by
    rw[gT,gT];have n:a.toList.drop sb=(a.toList.drop sb).take (e' - sb)++a.toList.drop e':=by
     conv=>lhs;rw[<-al8 (e' - sb) (a.toList.drop sb)]
     rw[List.drop_drop,show sb+(e' - sb)=e' by lia]
    have B:a.toList.drop lD=(a.toList.drop lD).take (sb - lD)++a.toList.drop sb:=by
     conv=>lhs;rw[<-al8 (sb - lD) (a.toList.drop lD)]
     rw[List.drop_drop,show lD+(sb - lD)=sb by lia]
    rw[af9,<-n,<-B,al8]
   conv=>rhs;rw[<-p]
   exact List.Perm.append_left _ (List.Perm.append_right _ o.1)
def bA.join(P:bA R a sa sb)(t:bA R a sb e)(d:sa < sb)(z:rk R a (sb - 1)<=rk R a sb):bA R a sa e:=fun x y Q E c=>by
 by_cases T:x < sb
 . by_cases Y:y < sb
   . exact P x y Q E Y
   . have s:=P x (sb - 1) Q 102 102;have f:=t sb y (ab6 _) 102 c;lia
 . exact t x y 102 E c
end
structure Px(κ:SortKind)(R:238->Int)(a₀:Array 238)(lo:Nat)(p:Array 142)(st:SortSt):Prop where
 pm:(138).Perm a₀
 kind:kindOf st=κ
 failed:failedOf st=none
 pend:pendingOf st=p
 ch:hZ R 138 0 p.toList lo
section
variable{prog:214}{w:237}{A:244}{E:212->211->Prop}{s:211}{κ:SortKind}{R:238->Int}{D:238->Prop}{a₀:Array 238}{p:Array 142}{lo:Nat}
def jA(L:qm prog w A E s κ R D)(hD: ∀x∈a₀.toList,D x){st:SortSt}{i:Nat}{Q:Bool->SortSt->Prop}(U:Px κ R a₀ lo p st)(XH:lo<=a₀.size)(hi:i+1 < p.size)
  (h: ∀p' P,Px κ R a₀ lo p' P->p'.size+1=p.size->(∀j,lo<=j->rk R (arrOf P) j=rk R 138 j)->Q true P):wpS 105 A E s (mergeAt' i) Q st:=by
 rw[uY];refine ab5 (as7 ?_);obtain⟨⟨H,F,S⟩,hx⟩: ∃x,p[i]?=some x:=⟨p[i],af8 102⟩
 obtain⟨⟨c,C,pw2⟩,hy⟩: ∃x,p[i+1]?=some x:=⟨p[i+1],af8 102⟩
 have xM:p.toList[i]?=some (H,F,S):=by rw[ah2];exact hx
 have Y:p.toList[i+1]?=some (c,C,pw2):=by rw[ah2];exact hy
 have t2:=U.ch.ch.two xM Y;have Z:=(U.ch.lb xM).2;have b:=(U.ch.lb Y).2;have X:=fun(a':Array 238)=>U.ch.merge (a':=a') (v:=S) xM Y;dsimp only at t2 Z b X;obtain⟨n1,e1,n2,e2⟩:=t2;rw[U.pend,hx,hy];dsimp only;have M:((p.setIfInBounds i (H,F+C,S)).eraseIdxIfInBounds (i+1)).toList=(p.toList.set i (H,F+C,S)).eraseIdx (i+1):=by
  rw[Array.toList_eraseIdxIfInBounds,Array.toList_setIfInBounds]
 have n:((p.setIfInBounds i (H,F+C,S)).eraseIdxIfInBounds (i+1)).size+1=p.size:=by
  rw[<-ac7,M,List.length_eraseIdx_of_lt (by rw[ae5,ac7];exact hi),ae5,ac7];lia
 rw[<-M] at X;generalize (p.setIfInBounds i (H,F+C,S)).eraseIdxIfInBounds (i+1)=p1 at X n ⊢;clear M;have sz:(138).size=a₀.size:=U.pm.size_eq;have I:Dk D 138:=fun i hi=>hD _ ((al2.mp U.pm).mem_iff.mp (xy hi));have f:c < (138).size:=by lia
 refine ab5 (Hz ?_);refine ab5 (aI f ?_);refine ab5 (fM L U.kind I (I _ f) 102 102 (fun x y T J=>Z _ _ 102 102 102) fun k hk q W=>?_);rw[<-cj (R:=R) f] at q W;dsimp only;have LC:0 < k->rk R 138 (H+k - 1)<=rk R 138 c:=fun z=>by have:=yj (q (k - 1) 102);rw[show H+(k - 1)=H+k - 1 by lia] at this;exact this
 have Ow:k < F->rk R 138 c<=rk R 138 (H+k):=fun z=>am6 (yk (W k (ab6 _) z));clear q W;have N:rk R 138 (c - 1)<=rk R 138 c->Q true (setPending st p1):=fun z=>by
  refine h p1 _ ⟨U.pm,U.kind,U.failed,rfl,?_⟩ n fun _ _=>rfl;refine X 138 ?_ fun j _=>rfl;rw[show H+(F+C)=c+C by lia];rw[e1] at Z;exact Z.join b 102 z
 by_cases G:(F - k==0)=true
 . rw[if_pos G];have Y8:=ac4.mp G;refine ab7 (N ?_);have:=LC 102;rw[show H+k - 1=c - 1 by lia] at this;exact this
 rw[if_neg G];have Y8:F - k≠0:=fun z=>G 162;clear G;have O:H+k+(F - k) - 1 < (138).size:=by lia
 refine ab5 (aI O ?_);refine ab5 (fM L U.kind I (I _ O) 102 102 (fun x y T J=>b _ _ 102 102 102) fun B Cy r t=>?_);rw[<-cj (R:=R) O,show H+k+(F - k) - 1=c - 1 by lia] at r t;dsimp only;have u:0 < B->rk R 138 (c+B - 1)<=rk R 138 (c - 1):=fun z=>by have:=am6 (pJ (r (B - 1) 102));rw[show c+(B - 1)=c+B - 1 by lia] at this;exact this
 have Cu:B < C->rk R 138 (c - 1)<=rk R 138 (c+B):=fun z=>pK (t B (ab6 _) z);clear r t;by_cases d:(B==0)=true
 . rw[if_pos d];have MD:=ac4.mp d;refine ab7 (N ?_);have:=Cu 102;rw[MD,au7] at this;exact this
 rw[if_neg d];have MD:B≠0:=fun z=>d 162;clear d;have sx:((138).extract (H+k) c).size=F - k:=by rw[an0];lia
 have sy:((138).extract c (c+B)).size=B:=by rw[an0];lia
 have ZC:bA R 138 (H+k) c:=fun x y T J x3=>Z x y 102 J 102;have ZA:bA R 138 c (c+B):=fun x y T J x3=>b x y T J 102;have V: ∀i j,Dk D ((138).extract i j):=fun i j l hl=>by
  rw[Array.getElem_extract];exact I _ _
 have fin: ∀(m:Array Keyed) (g:Nat),Out R ((138).extract (H+k) c) ((138).extract c (c+B)) m->wpS 105 A E s (do
   modify fun s=>setArr s (m.toList.zipIdx.foldl (fun a (p,j)=>a.setIfInBounds (H+k+j) p) (arrOf s))
   return(failedOf (<-get)).isNone) Q (setG (setPending st p1) g):=fun m g o=>by
  have ms:m.size=F - k+B:=by
   have:=o.1.length_eq;rw[ac6,ac7,ac7,ac7,sx,sy] at this;exact this
  have pt:=NN (a:=arrOf st) (m:=m) (sa:=H+k) 102;rw[show H+k+m.size=c+B by lia] at pt;rw[e1] at Z;obtain⟨q1,q2,q3⟩:=xx (sa:=H) (e:=c+C) 102 102 102 102 102 Z b o pt (fun z=>LC 102) (fun z=>Cu 102);refine ab5 (am7 (ab5 (as7 ?_)));have hf:(failedOf st).isNone=true:=by rw[U.failed];rfl
  show wpS _ _ _ _ (pure (failedOf st).isNone) Q _;rw[hf];refine ab7 (h p1 _ ⟨(al2.mpr q2).trans U.pm,U.kind,U.failed,rfl,?_⟩ n fun j hj=>q3 j 102);refine X _ ?_ fun j hj=>q3 j 102;rw[show H+(F+C)=c+C by lia];exact q1
 have c0:rk R ((138).extract c (c+B)) 0<=rk R ((138).extract (H+k) c) 0:=by
  rw[yV 102 102,yV 102 102,au7,au7];exact Ow 102
 have cl:rk R ((138).extract c (c+B)) (((138).extract c (c+B)).size - 1)<=rk R ((138).extract (H+k) c) (((138).extract (H+k) c).size - 1):=by
  rw[sx,sy,yV 102 102,yV 102 102,show c+(B - 1)=c+B - 1 by lia,show H+k+(F - k - 1)=c - 1 by lia];exact u 102
 by_cases c3:F - k<=B
 . rw[if_pos c3];exact ab5 (t5 L U.kind (V _ _) (V _ _) (ZC.Qy 102) (ZA.Qy 102) 102 102 c0 cl fun m g o=>fin m g o)
 . rw[if_neg c3];exact ab5 (t6 L U.kind (V _ _) (V _ _) (ZC.Qy 102) (ZA.Qy 102) 102 102 c0 cl fun m g o=>fin m g o)
end
def Px.wx{p:Array 142}{L:Nat}{st:SortSt}(h:Px κ R a₀ L p st):Wx κ a₀ 138 L p st:=⟨h.pm,h.kind,h.failed,h.pend,fun _ _=>rfl⟩
def Px.back{p:Array 142}{L:Nat}{st A:SortSt}(h:Px κ R a₀ L p st)(k:Wx κ a₀ 138 L p A):Px κ R a₀ L p A:=⟨k.pm,k.kind,k.failed,k.pend,h.ch.same fun j _ r=>mF (k.keep j r)⟩
def Au(L:qm prog w A E s κ R D)(Y: ∀x∈a₀.toList,D x){st:SortSt}(hW:Px κ R a₀ 0 #[] st)(h1:1<=a₀.size)(h: ∀B,(166).Perm a₀->failedOf B=none->bA R 166 0 a₀.size->Q () B):wpS 105 A E s sortRuns' Q st:=by
 rw[sortRuns'_eq];refine ab5 (as7 ?_);dsimp only;rw[hW.pm.size_eq];have mr:1<=minRun' a₀.size a₀.size 0:=oF h1;generalize minRun' a₀.size a₀.size 0=U8 at mr ⊢;refine ab5 (aj5 (ah0 (I:=fun x (c:Option Unit × Nat) B=>c.1=none/\c.2<=a₀.size/\min x a₀.size<=c.2/\ ∃p,Px κ R a₀ c.2 p B)
  (Q:=fun(c:210 Unit × Nat) B=>c.1=none/\c.2=a₀.size/\ ∃p,Px κ R a₀ c.2 p B) ?step ?fin0 ⟨rfl,af2 _,by dsimp only;lia,#[],hW⟩) ?post)
 case fin0=>
  rintro⟨r,M⟩ B ⟨j,q,S,p,C⟩
  dsimp only at j q S C;exact⟨j,by dsimp only;lia,p,C⟩
 case post=>
  rintro⟨r,M⟩ B ⟨j,q,p,o⟩
  dsimp only at j q o ⊢;subst j;subst q;dsimp only;have pl:=o.ch.len;rw[ac7] at pl;refine ab5 (aj5 (ah0 (I:=fun x c B=>c.1=none/\ ∃p,Px κ R a₀ a₀.size p B/\p.size+x<=a₀.size)
   (Q:=fun c B=>c.1=none/\ ∃p,Px κ R a₀ a₀.size p B/\p.size<=1) ?fstep ?ffin ⟨rfl,p,o,by lia⟩) ?fpost)
  case ffin=>
   rintro⟨r,u⟩ B ⟨j,p,C,J⟩
   exact⟨j,p,C,by rw[show max 0 a₀.size=a₀.size by lia] at J;lia⟩
  case fpost=>
   rintro⟨r,u⟩ B ⟨j,p,C,J⟩
   dsimp only at j ⊢;subst j;refine ab7 (h _ C.pm C.failed ?_);have f:=C.ch;have V:p.toList.length<=1:=by rw[ac7];exact J
   match hq:p.toList,V,f with
   | [],_,f=>have:0=a₀.size:=f;lia
   | [x],_,f=>
    obtain⟨G,k,d,P⟩:=f;have P:x.1+x.2.1=a₀.size:=P;rw[P,G] at d;exact d
   | _::_::_,V,_=>simp at V
  case fstep=>
   clear o pl;rintro x ⟨r,u⟩ B _ hx ⟨j,p,o,J⟩
   dsimp only at j ⊢;subst j;refine ab5 (as7 ?_);rw[o.pend];by_cases c:p.size<=1
   . rw[if_pos c];exact ab7 ⟨rfl,p,o,c⟩
   rw[if_neg c];have mg: ∀i,i+1 < p.size->wpS 105 A E s (mergeAt' i) (fun b B=>b=true/\ ∃N,Px κ R a₀ a₀.size N B/\N.size+1=p.size) B:=fun i T=>jA L Y o (ab6 _) T fun N W a b _=>⟨rfl,N,a,b⟩
   have T: ∀(b:Bool),(if b=true then p.size - 2 - 1 else p.size - 2)+1 < p.size:=fun b=>by cases b <;> simp <;> omega
   refine ab5 (aj5 (mg _ (T _)) ?_);rintro b W ⟨rfl,v,l,k2⟩
   exact ab7 ⟨rfl,v,l,by lia⟩
 case step=>
  rintro x ⟨r,M⟩ B _ hx ⟨j,q,S,p,o⟩
  dsimp only at j q S o ⊢;subst j;by_cases c:M>=a₀.size
  . rw[if_pos c];exact ab7 ⟨rfl,by dsimp only;lia,p,o⟩
  rw[if_neg c];refine ab5 (CS L Y 102 102 o.wx fun m uo w1 m1 m2 sg=>?_);have O:=o.back w1;clear w1;dsimp only;by_cases c2:m < U8
  . rw[if_pos c2];refine ab5 183;refine ab5 (CT L Y 102 m1 102 O.wx sg fun W l H=>?_);have F:=O.back l;have z:1<=min (a₀.size - M) U8:=by lia
    have n2:M+min (a₀.size - M) U8<=a₀.size:=by lia
    simp only [am3,ag1,ak0];generalize min (a₀.size - M) U8=n at z n2 H ⊢;refine ab5 (as7 ?_);rw[F.pend];cases hb:p.back? with
    | none=>
     dsimp only;refine ab5 (am7 (ab7 ⟨rfl,by dsimp only;lia,by dsimp only;lia,_,F.pm,F.kind,F.failed,rfl,?_⟩));show hZ R (arrOf W) 0 ((pendingOf _).push _).toList _;rw[F.pend,ap8];exact F.ch.push z H
    | some t=>
     obtain⟨s1,X,q1⟩:=t;dsimp only;refine ab5 (aj5 (ah0 (I:=fun x c B=>c.1=none/\ ∃p,Px κ R a₀ M p B/\bA R 166 M (M+n)) (Q:=fun c B=>c.1=none/\ ∃p,Px κ R a₀ M p B/\bA R 166 M (M+n)) ?_ (fun _ _ h=>h) ⟨rfl,p,F,H⟩) ?_)
     . rintro x ⟨r,u⟩ U _ _ ⟨j,v,l,y⟩
       dsimp only at j ⊢;subst j;refine ab5 (as7 ?_);rw[l.pend];by_cases c:v.size > 1
       . rw[if_pos c,af8 (show v.size - 2 < v.size by lia)];generalize v[v.size - 2]=t;obtain⟨t1,t2,R1⟩:=t;dsimp only;split
         . exact ab7 ⟨rfl,v,l,y⟩
         . refine ab5 (jA L Y l q 102 fun Z st4 w3 k3 g=>?_);exact ab7 ⟨rfl,Z,w3,fun a b G k d=>by rw[g a G,g b 102];exact y a b G k d⟩
       . rw[if_neg c];exact ab7 ⟨rfl,v,l,y⟩
     . rintro⟨r,u⟩ U ⟨j,v,l,y⟩
       dsimp only at j ⊢;subst j;refine ab5 (am7 (ab5 (am7 (ab7 ⟨rfl,by dsimp only;lia,by dsimp only;lia,_,l.pm,l.kind,l.failed,rfl,?_⟩))));show hZ R (arrOf U) 0 (((pendingOf U).modify ((pendingOf U).size - 1) _).push _).toList _;rw[l.pend,ap8,Array.toList_modify];refine hZ.push (e:=M) z (hZ.mod ?_ l.ch) y;exact fun _=>⟨rfl,rfl⟩
  . rw[if_neg c2];have F:=O;have H:=sg;have z:=m1;refine ab5 (as7 ?_);rw[F.pend];cases hb:p.back? with
    | none=>
     dsimp only;refine ab5 (am7 (ab7 ⟨rfl,by dsimp only;lia,by dsimp only;lia,_,F.pm,F.kind,F.failed,rfl,?_⟩));show hZ R (arrOf uo) 0 ((pendingOf _).push _).toList _;rw[F.pend,ap8];exact F.ch.push z H
    | some t=>
     obtain⟨s1,X,q1⟩:=t;dsimp only;refine ab5 (aj5 (ah0 (I:=fun x c B=>c.1=none/\ ∃p,Px κ R a₀ M p B/\bA R 166 M (M+m)) (Q:=fun c B=>c.1=none/\ ∃p,Px κ R a₀ M p B/\bA R 166 M (M+m)) ?_ (fun _ _ h=>h) ⟨rfl,p,F,H⟩) ?_)
     . rintro x ⟨r,u⟩ U _ _ ⟨j,v,l,y⟩
       dsimp only at j ⊢;subst j;refine ab5 (as7 ?_);rw[l.pend];by_cases c:v.size > 1
       . rw[if_pos c,af8 (show v.size - 2 < v.size by lia)];generalize v[v.size - 2]=t;obtain⟨t1,t2,R1⟩:=t;dsimp only;split
         . exact ab7 ⟨rfl,v,l,y⟩
         . refine ab5 (jA L Y l q 102 fun Z st4 w3 k3 g=>?_);exact ab7 ⟨rfl,Z,w3,fun a b G k d=>by rw[g a G,g b 102];exact y a b G k d⟩
       . rw[if_neg c];exact ab7 ⟨rfl,v,l,y⟩
     . rintro⟨r,u⟩ U ⟨j,v,l,y⟩
       dsimp only at j ⊢;subst j;refine ab5 (am7 (ab5 (am7 (ab7 ⟨rfl,by dsimp only;lia,by dsimp only;lia,_,l.pm,l.kind,l.failed,rfl,?_⟩))));show hZ R (arrOf U) 0 (((pendingOf U).modify ((pendingOf U).size - 1) _).push _).toList _;rw[l.pend,ap8,Array.toList_modify];refine hZ.push (e:=M) z (hZ.mod ?_ l.ch) y;exact fun _=>⟨rfl,rfl⟩
end gA
namespace gZ
open PySem PySem.W PyProof.Rows gA
def Ei{α O:Type}{f:α->O}{l k:List O}(h:l.Perm k): ∀{m:List α},k=m.map f-> ∃N:List α,N.Perm m/\l=N.map f:=by
 induction h with
 | nil=>
  intro m e;cases m with
  | nil=>exact⟨[],List.Perm.refl _,rfl⟩
  | cons a b=>cases e
 | cons x _ ih=>
  intro m e;cases m with
  | nil=>cases e
  | cons a m=>
   obtain⟨j,q⟩:=List.cons.inj e;obtain⟨N,p,z⟩:=ih q;exact⟨a::N,p.cons a,by rw[ad4,<-z,j]⟩
 | swap x y l=>
  intro m e;match m,e with
  | a::b::m,e=>
   obtain⟨j,q⟩:=List.cons.inj e;obtain⟨z,r⟩:=List.cons.inj q;exact⟨b::a::m,List.Perm.swap _ _ _,by rw[ad4,ad4,j,z,r]⟩
 | trans _ _ ih1 ih2=>
  intro m e;obtain⟨N,p,j⟩:=ih2 e;obtain⟨V,s,q⟩:=ih1 j;exact⟨V,s.trans p,q⟩
open Classical in
def Hf(a:Array 238)(x:238):Nat:=if h: ∃i:Nat,a[i]?=some x then choose h else 0
def xH(h: ∃i:Nat,a[i]?=some x):a[Hf a x]?=some x:=by
 unfold Hf;rw[dif_pos h];exact Classical.choose_spec h
section
variable{prog:214}{w:237}{A:244}{E:212->211->Prop}{z:211}{K:Nat->Int}{vs:List 212}
def Xb{a₀:Array 238}(m:Cok vs.length K (kas_ask prog w A κ vs) z)(n:a₀.size=234)(g: ∀(i:Nat) x,a₀[i]?=some x->x.1=vs.getD i 221):qm prog w A E z κ (fun x=>K (Hf a₀ x)) (fun x=> ∃i:Nat,a₀[i]?=some x):=by
 intro r x y Q F h k q;have s:=xH h;have W:=xH k;have j:=g _ _ s;have p:=g _ _ W;have Z:Hf a₀ x < vs.length:=by rw[<-n];exact(aj9.mp s).1
 have v:Hf a₀ y < vs.length:=by rw[<-n];exact(aj9.mp W).1
 obtain⟨R,G⟩:=x;obtain⟨d,t⟩:=y;rw[lt'_eq];refine ab5 (as7 ?_);rw[F];dsimp only at j p;have:=m _ _ Z v (fun b V=>b=decide (K (Hf a₀ (R,G)) < K (Hf a₀ (d,t)))/\V=z) ⟨rfl,rfl⟩;unfold kas_ask at this;rw[<-j,<-p] at this;refine ab5 (wpS_lift (aw4 (ae3 this (fun b V c=>?_) (fun _ _ f=>f.elim))));obtain⟨rfl,rfl⟩:=c;exact⟨rfl,ab7 q⟩
def wL(D:z.heap.get? a=some (seqObj "list" vs.toArray m))(hl:234<=100000)(hK: ∀i j,i < 234->j < 234->vs.getD i 221=vs.getD j 221->K i=K j)(hk:2<=234-> ∀W:Heap,(∀b o,b≠a->z.heap.get? b=some o->W.get? b=some o)-> ∃M,Ask prog w A vs K {z with heap:=W} M)(h: ∀p,Pm vs.length p->Zu K p 234->P (.done (.ret .none)) {z with heap:=sortedHeap z.heap a vs (outs vs p)}):218 105 A (Builtin.«list.sort» ⟨[.ref a],[]⟩) P E z:=by
 have Y:a < z.heap.objs.size:=ac5 D;let l:Heap:=z.heap.update a (Obj.mapSeq fun _=> #[])
 let C:Heap:=(l.push (seqObj "tuple" vs.toArray 0)).push (seqObj "list" #[] 0)
 obtain⟨S,o1⟩: ∃S,l.get? a=some (seqObj "list" #[] S):=⟨_,get?_update_seq D (fun _=> #[])⟩
 have R:l.objs.size=z.heap.objs.size:=Heap.size_update _ _ _;have s:C.get? a=some (seqObj "list" #[] S):=by
  show((l.push _).push _).get? a=_;rw[aw1 _ _ _ (by rw[size_push',R];exact af1 (an9 Y)),aw1 _ _ _ (by rw[R];exact af1 Y)];exact o1
 have k3: ∀b o,b≠a->z.heap.get? b=some o->C.get? b=some o:=fun b o hb q=>by
  have Z:=ac5 q;show((l.push _).push _).get? b=_;rw[aw1 _ _ _ (by rw[size_push',R];exact af1 (an9 Z)),aw1 _ _ _ (by rw[R];exact af1 Z)];show(z.heap.update a _).get? b=_;rw[Heap.get?_update_ne _ _ _ _ hb];exact q
 have k: ∀p,Pm vs.length p->(outs vs p).size<=208+1:=fun p I=>by rw[Eu I,ao4];lia
 rw[list_sort_plain];refine aa8 (listItems_at D rfl (aa8 (listUpdate_at D rfl (aa8 (seqEpoch_at o1 rfl ?_)) (by rw[ad0,ao4];lia) (af2 _))));refine aa8 (wpAny_newTuple (aa8 (wpAny_newList (af6 ?_) (af2 _))) (by show 234<=_;rw[ao4];lia));show 218 _ _ _ _ _ {z with heap:=C};dsimp only;by_cases d:vs.toArray.size < 2
 . rw[if_pos d,if_pos d];refine aa8 204;rw[StateT.run_pure];refine aa8 204;dsimp only;have pm:Pm vs.length (List.range vs.length).toArray:=⟨Array.Perm.refl _⟩
   have f:=IH (vs:=vs);refine aa8 (seqEpoch_at s rfl (aa8 (listUpdate_at s rfl ?_ (af2 _) (by show(Array.map _ 154).size<=_;rw[f];exact k _ pm))));simp only [bne_self_eq_false,ag1,ak0];refine ab0 ?_;have:=h _ pm fun i j x y=>by
    have:i=j:=by rw[ad0] at d;lia
    subst this;exact ak7 _
   rw[<-f] at this;exact this
 . rw[if_neg d,if_neg d];have l2:2<=vs.length:=by rw[ad0] at d;lia
   obtain⟨M,O⟩:=hk l2 C k3;refine aa8 (ae3 (O.kind (fun c V=>c=M/\V={z with heap:=C}) ⟨rfl,rfl⟩) (fun c V q=>?_) fun _ _ x=>x.elim);obtain⟨v,F⟩:=q;subst v;subst F;have B:(154).size=vs.length:=by simp
   have zg: ∀(i:Nat) x,(154)[i]?=some x->i < 234/\x=(vs.getD i 221,vs.getD i 221):=fun i x e=>by
    obtain⟨H,e⟩:=aj9.mp e;have qN:i < vs.length:=by rw[B] at H;exact H
    refine⟨qN,?_⟩;rw[<-e,Array.getElem_zip];simp [List.getD,qN]
   refine aa8 (ae3 (Au (st:=SortSt.mk' c 154 #[] 7 none) (a₀:=vs.toArray.zip vs.toArray)
    (Q:=fun _ r=>failedOf r=none/\(arrOf r).Perm 154/\bA (fun x=>K (Hf 154 x)) (arrOf r) 0 (154).size)
    (Xb O.ask B fun i x e=>by rw[(zg i x e).2]) (fun x hx=>?_) ⟨Array.Perm.refl _,rfl,rfl,rfl,rfl⟩ (by rw[B];lia) fun r x y u=>⟨y,x,u⟩) ?_ fun _ _ x=>x)
   . obtain⟨i,H,e⟩:=ah7 hx;exact⟨i,by rw[<-ah2,ab2 H,e]⟩
   rintro⟨⟨⟩,r⟩ V ⟨e,hf,I,hg⟩
   subst e;have dB:(arrOf r).toList.Perm ((219 234).map fun i=>((vs.getD i 221,vs.getD i 221):238)):=by
    have:=al2.mp I;refine this.trans ?_;have:(154).toList=(219 234).map fun i=>((vs.getD i 221,vs.getD i 221):238):=by
     apply List.ext_getElem
     . simp
     . intro i G U;have H:i < vs.length:=by simpa using G
       simp [H]
    rw[this]
   obtain⟨N,n,T⟩:=Ei dB rfl;have pp:Pm vs.length N.toArray:=⟨al2.mpr (by simpa using n)⟩
   have lm:N.length=vs.length:=by have:=n.length_eq;rw[af0] at this;exact this
   have f:(arrOf r).map (·.2)=outs vs N.toArray:=by
    apply au1.mp;unfold outs;rw[Array.toList_map,T,ae6];rfl
   have t:Zu K N.toArray vs.length:=fun i j ij X=>by
    have g: ∀i,i < 234->kp K N.toArray i=rk (fun x=>K (Hf 154 x)) (arrOf r) i:=fun i H=>by
     have J:i < N.length:=by rw[lm];exact H
     have v:(arrOf r)[i]?=some ((vs.getD N[i] 221,vs.getD N[i] 221):238):=by
      rw[<-ah2,T,ab8,ab2 J];rfl
     have L:N[i] < vs.length:=by have:=n.mem_iff.mp (aq9 J);simpa using this
     unfold kp rk;rw[v];show K (N.toArray.getD i 0)=K (Hf _ _);have F:N.toArray.getD i 0=N[i]:=by simp [Array.getD,J]
     rw[F];have e3:=xH (a:=vs.toArray.zip vs.toArray) (x:=(vs.getD N[i] 221,vs.getD N[i] 221)) ⟨N[i],by
      rw[af8 (by rw[B];exact L),Array.getElem_zip];simp [List.getD,L]⟩
     obtain⟨G,U⟩:=zg _ _ e3;exact hK _ _ L G (ah4 Prod.fst U)
    rw[g i 102,g j X];exact hg i j (af2 _) ij (by rw[B];exact X)
   dsimp only;refine aa8 (seqEpoch_at s rfl (aa8 (listUpdate_at s rfl ?_ (af2 _) (by rw[f];exact k _ pp))));rw[hf,f];simp only [bne_self_eq_false,ag1,ak0];exact ab0 (h _ pp t)
end
end gZ
namespace gZ
open PySem PySem.Spec L2 LB PyProof.Rows PySem.W VA
section
variable{prog:214}{w:237}{A:244}{E:212->211->Prop}{s:211}{d:Addr}{od:Obj}{es:Array DictEntry}{ep:Nat}{K:Nat->Int}
def rT(X:A.handled=none)(C:od.ExactDict)(M:(d==sysModules)=false)(L:Ha s.heap d od es ep)(k:es.size<=100000)(v: ∀i j,i < es.size->j < es.size->(160).getD i Value.none=(160).getD j Value.none->K i=K j)(F:2<=es.size-> ∀r G,(∀b o,s.heap.get? b=some o->r.get? b=some o)-> ∃D,Ask prog w A.in1.in1 160 K {s with heap:=r,toks:=G} D)(h: ∀r G p n q,(∀b o,s.heap.get? b=some o->r.get? b=some o)->s.heap.objs.size<=p->Pm es.size q->Zu K q es.size->r.get? p=some (seqObj "list" (outs 160 q) n)->Q (.ref p) {s with heap:=r,toks:=G}):
  218 105 A (call (.builtin "sorted") [.ref d]) Q E s:=by
 have V:(160).length=es.size:=by rw[aa9,ac7]
 refine Calls.call_function_entry kind_sorted plain_sorted entry_sorted (args_sorted1 _) ?_;unfold Builtin.«sorted»;refine aa8 (m:=checkCount "sorted" 1 1 _) (ab0 (aa8 (tD (by simpa using X) C M L (by rw[ao4];lia) fun r G R t=>?_)));refine aa8 (wpAny_newList ?_ (by rw[ao4];lia));have a:(r.push (seqObj "list" (160).toArray 0)).get? r.objs.size=some (seqObj "list" (160).toArray 0):=ac3 _ rfl;have H: ∀b o,s.heap.get? b=some o->(r.push (seqObj "list" (160).toArray 0)).get? b=some o:=fun b o e=>ab1 _ (t b o e);refine aa8 (af6 (ai4 slot_list_sort ⟨_,a,rfl⟩ entry_list_sort (wL (z:={s with heap:=r.push (seqObj "list" (160).toArray 0),toks:=G}) (K:=K) a (by rw[V];exact k) (fun i j x y=>v i j (by rw[V] at x;exact x) (by rw[V] at y;exact y)) (fun c u P=>F (by rw[V] at c;exact c) u G fun b o e=>P b o (af1 (ac5 (t b o e))) (H b o e)) fun q B g=>⟨_,rfl,ab0 ⟨_,rfl,?_⟩⟩) (args_list_sort _)));obtain⟨n,W⟩:=sortedHeap_at (vs:=es.toList.map (·.key)) (out:=outs 160 q) a;rw[V] at B g;refine h _ G _ n q (fun c S e=>?_) (Nat.le_of_lt R) B g W;have l:=t c S e;have f:=ac5 l;rw[sortedHeap_old (af1 f) (Nat.lt_of_lt_of_eq (an9 f) (ah8 _ _).symm)];exact ab1 _ l
end
end gZ
namespace MK
open PySem PyProof.Rows PySem.W gZ
def EW(fin:Bool):List Int->List Int->Bool
 | x::xs,y::ys=>if x==y then EW fin xs ys else decide (x < y)
 | _,_=>fin
inductive Nu:List 212->List Int->Prop
 | nil:Nu [] []
 | cons {us:List 212} {xs:List Int} (x:Int) (t:Tok):Nu us xs->Nu (.int x t::us) (x::xs)
def Nu.len(h:Nu us xs):us.length=xs.length:=by
 induction h with
 | nil=>rfl
 | cons _ _ _ ih=>rw[ad6,ad6,ih]
structure GP(h:Heap)(v:212)(xs:List Int):Prop where
 ex: ∃(t:Addr) (o:Obj) (us:List 212) (n:Nat),v= .ref t/\h.get? t=some o/\o.cls= .type "tuple"/\o.data= .seq us.toArray n/\Nu us xs/\xs≠ []
def u9: ∀{us vs:List 212} {xs ys:List Int} {i:Nat},Nu us xs->Nu vs ys->Q (EW fin xs ys) s->KatLex prog w A true fin Q (us.zip vs) i s
 | _,_,_,_,_,.nil,_,q=>kat_nil q
 | _,_,_,_,_,.cons _ _ _,.nil,q=>kat_nil q
 | _,_,_,_,i,.cons (us:=us) (xs:=xs) x t h,.cons (us:=vs) (xs:=ys) y u h',q=>by
  rw[List.zip_cons_cons];refine kat_cons (wpAny_eqBool_int ?_);unfold EW at q;by_cases c:(x==y)=true
  . rw[c];rw[if_pos c] at q;exact kat_yes (u9 h h' q)
  . rw[if_neg c] at q;rw[Bool.eq_false_iff.mpr c];refine kat_no ?_;cases i with
    | zero=>exact oneLt_int q
    | succ j=>exact kat_one _ _ (lt_int q)
def zK: ∀{vs:List 212} {ts:List (List Int)},234=ts.length->(∀(i:Nat) v xs,vs[i]?=some v->ts[i]?=some xs->GP h v xs)-> ∃j,KatTups h vs j/\j.length=234/\ ∀v∈j,∃x t,v=Value.int x t
 | [],[],_,_=>⟨[],.nil,rfl,fun v u=>213 u ab3⟩
 | [],_::_,l,_=>by simp at l
 | _::_,[],l,_=>by simp at l
 | v::vs,q::ps,l,hp=>by
  obtain⟨j,t,s,H⟩:=zK (vs:=vs) (ts:=ps) (by simpa using l) fun i v q f k=>hp (i+1) v q (by simpa using f) (by simpa using k);obtain⟨m,o,Y,n,rfl,g,c,d,W,Q⟩:=(hp 0 v q rfl rfl).ex;cases W with
  | nil=>exact 213 rfl Q
  | @cons Y xs x tk _=>
   refine⟨.int x tk::j,.cons g c d rfl t,by rw[ad6,ad6,s],fun v u=>?_⟩;rcases ad8.mp u with e | u
   . exact⟨_,_,e⟩
   . exact H v u
end MK
namespace gZ
open PySem PySem.Spec L2 LB PyProof.Rows PySem.W VA MK
def bR(B:Int):List Int->Int
 | []=>0
 | x::xs=>x*B^220+bR B xs
def Cj(B:Int)(xs:List Int):Prop:= ∀x∈xs,0<=x/\x < B
def gU(E:0 < B): ∀{xs:List Int},Cj B xs->0<=bR B xs/\bR B xs < B^220
 | [],_=>by show(0:Int)<=0/\(0:Int) < B^0;rw[Int.pow_zero];decide
 | x::xs,h=>by
  obtain⟨z,W⟩:=gU E (xs:=xs) fun y k=>h y (ac0 _ k);obtain⟨d,e⟩:=h x ac9;have U:(0:Int)<=B^xs.length:=by lia
  have S:0<=x*B^xs.length:=Int.mul_nonneg d U;have V:(x+1)*B^220<=B*B^xs.length:=ag9 102 U;rw[an2,au5] at V;show 0<=x*B^220+bR B xs/\x*B^220+bR B xs < B^(220+1);rw[Int.pow_succ,Int.mul_comm (B^xs.length) B];lia
def zR(E:0 < B): ∀{xs ys:List Int},220=ys.length->Cj B xs->Cj B ys->decide (bR B xs < bR B ys)=EW false xs ys
 | [],[],_,_,_=>rfl
 | [],_::_,l,_,_=>by cases l
 | _::_,[],l,_,_=>by cases l
 | x::xs,y::ys,l,hx,hy=>by
  have u:220=ys.length:=by simpa using l
  have i:Cj B xs:=fun z f=>hx z (ac0 _ f);have Y:Cj B ys:=fun z f=>hy z (ac0 _ f);have e:=x5 (B:=B^220) (p:=(x,bR B xs)) (q:=(y,bR B ys)) (gU E i) (by rw[u];exact gU E Y);show decide (x*B^220+bR B xs < y*B^ys.length+bR B ys)=if x==y then EW false xs ys else decide (x < y)
  rw[<-u];unfold enc at e;rw[e];by_cases c:(x==y)=true
  . rw[if_pos c,if_pos c,<-zR E u i Y];by_cases d:(bR B xs==bR B ys)=true
    . rw[if_pos d,ae8 (by have:=eq_of_beq d;lia)]
    . rw[if_neg d]
  . rw[if_neg c,if_neg c]
def vF(E:0 < B): ∀{xs ys:List Int},220=ys.length->Cj B xs->Cj B ys->bR B xs=bR B ys->xs=ys
 | [],[],_,_,_,_=>rfl
 | [],_::_,l,_,_,_=>by cases l
 | _::_,[],l,_,_,_=>by cases l
 | x::xs,y::ys,l,hx,hy,e=>by
  have u:220=ys.length:=by simpa using l
  have i:Cj B xs:=fun z f=>hx z (ac0 _ f);have Y:Cj B ys:=fun z f=>hy z (ac0 _ f);have j:=x5 (B:=B^220) (p:=(x,bR B xs)) (q:=(y,bR B ys)) (gU E i) (by rw[u];exact gU E Y);have r:=x5 (B:=B^220) (p:=(y,bR B ys)) (q:=(x,bR B xs)) (by rw[u];exact gU E Y) (gU E i);have e:x*B^220+bR B xs=y*B^ys.length+bR B ys:=e;rw[<-u] at e;unfold enc at j r;rw[e,ae8 (Int.lt_irrefl _)] at j r;have c:(x==y)=true:=by
   by_cases c:(x==y)=true
   . exact c
   . exfalso;rw[if_neg c] at j;rw[if_neg (fun z=>c (ac4.mpr (show y=x from eq_of_beq z).symm))] at r;have a: ¬x < y:=ag0 j.symm;have b: ¬y < x:=ag0 r.symm;exact c (ac4.mpr 102)
  have c:=eq_of_beq c;subst c;rw[vF E u i Y 102]
def Oa(a:Nu us xs):Nu us ys->xs=ys:=by
 intro b;induction a generalizing ys with
 | nil=>cases b;rfl
 | cons x t h ih=>cases b with
  | cons y u h'=>rw[ih h']
def M9(a:GP h v xs)(b:GP h v ys):xs=ys:=by
 obtain⟨t,o,Y,n,e,g,c,d,X,_⟩:=a.ex;obtain⟨p,f,T,V,H,W,U,l,m,_⟩:=b.ex;subst e;cases H;rw[g] at W;cases W;rw[d] at l;simp only [Data.seq.injEq,List.toArray_inj,Array.mk.injEq] at l;have i:=l.1;subst i;exact Oa X m
section
variable{prog:214}{w:237}{A:244}{z:211}{vs:List 212}{ts:List (List Int)}{B:Int}{n:Nat}
def GL(G:0 < B)(J:234=ts.length)(f:2<=234)(D: ∀(i:Nat) v q,vs[i]?=some v->ts[i]?=some q->GP z.heap v q)(c: ∀t∈ts,t.length=n/\Cj B t): ∃N,Ask prog w A vs (fun i=>bR B (ts.getD i [])) z N:=by
 obtain⟨P,t,S,I⟩:=zK J D;refine⟨tuples' true,fun Q q=>kat_kind (T:= .type "int") t 102 (fun v y=>?_) 158 q,fun i j L E C q=>?_⟩
 . obtain⟨x,tk,rfl⟩:=I v y;exact Looks.of_pure rfl
 . have m:i < ts.length:=by lia
   have o:j < ts.length:=by lia
   have s:ts.getD i []=ts[i]:=by simp [List.getD,m]
   have M:ts.getD j []=ts[j]:=by simp [List.getD,o]
   have e:vs.getD i 221=vs[i]:=by simp [List.getD,L]
   have U:vs.getD j 221=vs[j]:=by simp [List.getD,E]
   obtain⟨F,d⟩:=c _ (aq9 m);obtain⟨R,k⟩:=c _ (aq9 o);rw[s,M,zR G (F.trans R.symm) d k] at q;obtain⟨t1,Z,V,X,p,a,O,l,g,_⟩:=(D i _ _ (ab2 L) (ab2 m)).ex;obtain⟨t2,o2,W,Y,r,u,b,H,h,_⟩:=(D j _ _ (ab2 E) (ab2 o)).ex;unfold kas_ask;rw[e,U,p,r];refine kat_lt a l u H ?_;rw[ad0,ad0,g.len,h.len,F,R,ae8 (af7 n)];exact u9 g h q
end
def kT(xs:List Int):List Key:=xs.map fun x=> .inl x
def Ss:(kT xs).map kV=xs.map V.int:=by
 unfold kT;rw[ae6];rfl
def zm: ∀{xs:List Int} {us:List 212},Vals (xs.map V.int) us->Nu us xs
 | [],_,.nil=> .nil
 | x::xs,_,.cons r t=>by
  obtain⟨G,rfl⟩:=r;exact .cons x G (zm t)
def tG{X:Cx}(hA:X.A.handled=none):fK X (.builtin "sorted") (fun g H Q=> ∃(a:Addr) (aJ:List (List Key × V)) (qs:List (List Int)) (B:Int) (n:Nat),g= [.ref a]/\H a=some (.dT aJ)/\aJ.map (·.1)=qs.map kT/\qs.length<=100000/\0 < B/\1<=n/\(∀t∈qs,t.length=n/\Cj B t)/\
  ∀(p:Addr) (ms:List (V × List Int)),H p=none->(ms.map (·.2)).Perm qs->ms.Pairwise (fun q r=>bR B q.2<=bR B r.2)->(∀m∈ms,∃t,m.1= .ref t/\H t=some (.tup (m.2.map V.int)))->Q (.ref p) (upd H p (.lst (ms.map (·.1))))):=by
 intro pins s σ H g us Q I r h;obtain⟨a,aJ,qs,B,n,rfl,ha,ek,hl,b0,n1,hb,q⟩:=h;obtain⟨u,rfl,ru⟩:=vals1 r;cases ru;obtain⟨zz,lo,g,F,od,P,ep,OR,T,LZ,c,his,Vf⟩:=vI I.aQ ha;have xl:g.length=aJ.length:=(Paired.length F).symm;have ql:qs.length=aJ.length:=by have:=ah4 List.length ek;rw[aa9,aa9] at this;exact this.symm
 have D:P.size=qs.length:=by have:=ah4 List.length c;rw[aa9,ac7,xl,<-ql] at this;exact this
 have d:P.toList.map (·.key)=g.map fun x=>226 x.2.1:=by rw[c,ae6];rfl
 have G: ∀(i:Nat) p,qs[i]?=some p-> ∃x,g[i]?=some x/\H x.2.1=some (.tup (p.map V.int)):=fun i p hp=>by
  have E:i < qs.length:=(ac1.mp hp).1;have kv:aJ[i]?=some (aJ[i]' 102):=ab2 _;have xv:g[i]?=some (g[i]' 102):=ab2 _;have e1:(aJ[i]' 102).1=kT p:=by
   have:=ah4 (·[i]?) ek;simp only [ab8,kv,hp,Option.map_some,Option.some.injEq] at this;exact this
  obtain⟨p1,p2,_⟩:=xj F kv xv;rw[e1,Ss] at p2;exact⟨_,xv,p2⟩
 have L: ∀(w:Heap),(∀b o,s.heap.get? b=some o->w.get? b=some o)-> ∀(i:Nat) v p,(202)[i]?=some v->qs[i]?=some p->GP w v p:=fun w S i v p h1 l=>by
  obtain⟨x,k,Y⟩:=G i p l;rw[d,ab8,k] at h1;cases h1;obtain⟨js,rj,Z,_⟩:=I.tuple (dH.of Y);obtain⟨o,ho,hc,m,hd⟩:=(show s.heap.IsTuple x.2.1 js.toArray from Z)
  exact⟨x.2.1,o,js,m,rfl,S _ _ ho,hc,hd,zm rj,fun z=>by have:=(hb p (ae4 l)).1;rw[z] at this;simp at this;lia⟩
 have W:(202).length=qs.length:=by rw[aa9,ac7,D]
 refine rT (K:=fun i=>bR B (qs.getD i [])) hA T lo ⟨OR,LZ⟩ (by rw[D];exact hl) (fun i j x y e=>by
  have O:i < qs.length:=by rw[<-D];exact x
  have U:j < qs.length:=by rw[<-D];exact y
  have M:(202)[i]?=some ((202).getD i 221):=by
   rw[List.getD,ab2 (by rw[W];exact O)];rfl
  have N:(202)[j]?=some ((202).getD j 221):=by
   rw[List.getD,ab2 (by rw[W];exact U)];rfl
  have pi:=L s.heap (fun _ _ e=>e) i _ _ M (ab2 O);have Z:=L s.heap (fun _ _ e=>e) j _ _ N (ab2 U);rw[e] at pi;have:=M9 pi Z;show bR B (qs.getD i [])=bR B (qs.getD j []);rw[show qs.getD i []=qs[i] by simp [List.getD,O],show qs.getD j []=qs[j] by simp [List.getD,U],this]) (fun l w tk S=>GL b0 W (by rw[W,<-D];exact l) (L w S) hb) fun w tk p m R S lp C ac hg=>?_
 have hf:H p=none:=I.aQ.fresh lp;rw[D] at C ac;have dB:R.toList.Perm (219 qs.length):=by have:=al2.mp C.pm;simpa using this
 have lt: ∀i∈R.toList,i < qs.length:=fun i J=>by have:=dB.mem_iff.mp J;simpa using this
 let f:Nat->V × List Int:=fun i=>(.ref (((g[i]?).map fun x=>x.2.1).getD 0),qs.getD i [])
 have U3:((R.toList.map f).map (·.2)).Perm qs:=by
  rw[ae6];have:=dB.map fun i=>qs.getD i [];rw[map_getD] at this;exact this
 have so:(R.toList.map f).Pairwise (fun q r=>bR B q.2<=bR B r.2):=by
  rw[al6];intro i j J hj cq;rw[aa9,ac7,C.sz] at J hj;have:=ac i j 102 102;have M:R.getD i 0=R[i]'(by rw[C.sz];lia):=by simp [Array.getD,C.sz,J]
  have N:R.getD j 0=R[j]'(by rw[C.sz];lia):=by simp [Array.getD,C.sz,hj]
  unfold kp at this;rw[M,N] at this;simpa [f] using this
 have jB: ∀m∈R.toList.map f,∃t,m.1= .ref t/\H t=some (.tup (m.2.map V.int)):=fun m hm=>by
  obtain⟨i,J,rfl⟩:=ad3.mp hm;have E:=lt i J;obtain⟨x,k,Y⟩:=G i qs[i] (ab2 E);refine⟨x.2.1,?_,?_⟩
  . show V.ref (((g[i]?).map fun x=>x.2.1).getD 0)=_;rw[k];rfl
  . show H x.2.1=some (.tup ((qs.getD i []).map V.int));rw[show qs.getD i []=qs[i] by simp [List.getD,E]];exact Y
 refine⟨.ref p,_,I.laid (t':=tk) (o:= .lst ((R.toList.map f).map (·.1))) (fun b o e=>S b o e) lp ?_,rfl,q p _ hf U3 so jB⟩;refine⟨?_,R.toList.map (fun i=>(P.toList.map fun x:DictEntry=>x.key).getD i 221),m,?_,hg⟩
 . rw[aa9,aa9,ac7,C.sz,ao4];lia
 . rw[ae6];refine t9 fun i J=>?_;have E:=lt i J;obtain⟨x,k,Y⟩:=G i qs[i] (ab2 E);show RelV (V.ref (((g[i]?).map fun x=>x.2.1).getD 0)) ((202).getD i 221);rw[d,List.getD,ab8,k];rfl
end gZ
namespace LD
open PySem PySem.Spec L2 LB PyProof.Rows gZ
def Va(t:List Int):Dt:= .tup (t.map .int)
def yW: ∀{ws:List (V × List Int)},(∀w∈ws,Rep M H w.1 (Va w.2))->aB M H (ws.map (·.1)) ((ws.map (·.2)).map Va)
 | [],_=> .nil
 | w::ws,h=> .cons (h w ac9) (yW fun x i=>h x (ac0 _ i))
section
variable{X:Cx}{e:Expr}{tA:gH}{pos p:Pos}
inductive Cm(ds:List Dt)(Q:Dt->Prop):Prop
 | mk (qs:List (List Int)) (es:List Dt) (B:Int) (n:Nat) (h1:ds= [.m8 (qs.map kT) es]) (h2:qs.length<=100000) (b0:0 < B) (n1:1<=n) (h3: ∀t∈qs,t.length=n/\Cj B t) (h4: ∀ms:List (List Int),ms.Perm qs->ms.Pairwise (fun q r=>bR B q<=bR B r)->Q (.lst (ms.map Va)))
def BU(Y:X.A.handled=none)(O:X.mg "sorted"=none)(f:Av X [e] tA)(b:Gl X "sorted":=by rfl)(z:starEach [e] X.env=(false,eval e X.env)::starEach [] X.env:=by rfl)(V:(backTo pos 137).any (·.1)=false:=by rfl):
  Ev X (.Call (.Name "sorted" p) [e] [] pos) (z0 Cm tA):=kX (tG Y) (fun M H i L J Q C r w k=>(by
 obtain⟨h,P,B,n,e,l,E,F,c,q⟩:=w;subst e;obtain⟨x,rfl,G⟩:=fP r;obtain⟨a,I,rfl,f,N,y,S⟩:=G.Lu;refine⟨a,I,h,B,n,rfl,f,y,l,E,F,c,fun p d D u v Z=>?_⟩;have s:aF H (upd H p (.lst (d.map (·.1)))):=aF.new D;have R:(d.map (·.2)).Pairwise (fun q r=>bR B q<=bR B r):=av9.mpr v;refine k _ _ _ (q (d.map (·.2)) u R) s (Rep.ui ag (C.fresh D) (yW fun m O=>?_));obtain⟨t,j,g⟩:=Z m O;rw[j];exact Rep.g9 (s _ _ g) (C.tup g) uB)) b O tI f 104 104 z V
end
end LD
namespace bb
open PySem PySem.Spec L2 LB LD PyProof.Rows qp gZ
def fH:List Nat->Nat
 | []=>0
 | x::xs=>x*6^220+fH xs
def Ie:List Nat->Bool
 | a::b::L=>decide (a < b) && Ie (b::L)
 | _=>true
def DU: ∀{L:List Nat},Ie L=true->L.Pairwise (· < ·)
 | [],_=> .nil
 | [a],_=>av6 _ _
 | a::b::L,h=>by
  have h:(decide (a < b) && Ie (b::L))=true:=h;rw[ah9] at h;have u:=DU h.2;have G:=ae1 h.1;refine ap0.mpr ⟨fun c m=>?_,u⟩;rcases ad8.mp m with z | z
  . rw[z];exact G
  . exact Nat.lt_trans G ((ap0.mp u).1 c z)
def c'0:(U1 5 0).all (chk 5 0)=true:=by decide+kernel
def c'1:(U1 5 1).all (chk 5 1)=true:=by decide+kernel
def c'2:(U1 5 2).all (chk 5 2)=true:=by decide+kernel
def c'3:(U1 5 3).all (chk 5 3)=true:=by decide+kernel
def c'4:(U1 5 4).all (chk 5 4)=true:=by decide+kernel
def c'5:(U1 5 5).all (chk 5 5)=true:=by decide+kernel
def c'6:(U1 5 6).all (chk 5 6)=true:=by decide+kernel
def c'7:(U1 5 7).all (chk 5 7)=true:=by decide+kernel
def c'8:(U1 5 8).all (chk 5 8)=true:=by decide+kernel
def c'9:(U1 5 9).all (chk 5 9)=true:=by decide+kernel
def Y2:B4 5=true:=List.all_eq_true.mpr fun m h=>by
 have h:=List.mem_range.mp h;match m,h with | 0,_=>exact c'0 | 1,_=>exact c'1 | 2,_=>exact c'2 | 3,_=>exact c'3 | 4,_=>exact c'4 | 5,_=>exact c'5 | 6,_=>exact c'6 | 7,_=>exact c'7 | 8,_=>exact c'8 | 9,_=>exact c'9
def WQ:Ie ((fG 1).map fH)=true:=by decide+kernel
def WO:Ie ((fG 2).map fH)=true:=by decide+kernel
def WN:Ie ((fG 3).map fH)=true:=by decide+kernel
def WM:Ie ((fG 4).map fH)=true:=by decide+kernel
def WL:Ie ((fG 5).map fH)=true:=by decide+kernel
def C5:(Co 1).length<=1000/\(Co 2).length<=1000/\(Co 3).length<=1000/\(Co 4).length<=1000/\(Co 5).length<=1000:=by decide+kernel
def tF(r:1<=n)(J:n<=5):B4 n=true/\Ie ((fG n).map fH)=true/\(Co n).length<=1000:=by
 match n,r,J with
 | 1,_,_=>exact⟨Y6,WQ,C5.1⟩
 | 2,_,_=>exact⟨Y5,WO,C5.2.1⟩
 | 3,_,_=>exact⟨Y4,WN,C5.2.2.1⟩
 | 4,_,_=>exact⟨Y3,WM,C5.2.2.2.1⟩
 | 5,_,_=>exact⟨Y2,WL,C5.2.2.2.2⟩
def cU(n:Nat)(s:St):List 188:=(fG n).filter fun h=>fits h (rows s)
def P6(t:1<=n)(J:n<=5)(r:Rc n m s):(∀h,h∈vD (2*n - 1 - m) s↔h∈cU n s)/\ ∀i,i < n->Fh (cU n s) i ((rows s).getD i [])=true:=by
 have c:=(tF t J).1;have c:=ag4.mp c m (ak5.mpr (by have:=r.le t;lia));have c:=ag4.mp c s (DW r);have c:((vD (2*n - 1 - m) s).all (fun h=>decide (h∈cU n s)) && ((cU n s).all (fun h=>decide (h∈vD (2*n - 1 - m) s)) && (219 n).all fun i=>Fh (cU n s) i ((rows s).getD i [])))=true:=c;rw[ah9,ah9] at c;obtain⟨F,a,o⟩:=c;exact⟨fun h=>⟨fun z=>ae1 (ag4.mp F h z),fun z=>ae1 (ag4.mp a h z)⟩,fun i H=>ag4.mp o i (ak5.mpr H)⟩
def pD(u:1<=n)(J:n<=5)(r:Rc n m s):h∈cU n s↔ ∃t,Fr s t/\cN t=true/\kS t=h:=by
 rw[<-(P6 u J r).1 h];exact o8 u _ m s h r (by have:=r.le u;lia)
def gX(L:h∈cU n s):h.length=n/\ ∀x∈h,x<=n:=D6 n h (an5.mp (an5.mp (an5.mp L).1).1).1
def zQ{h:List Nat}:bR 6 (h.map Int.ofNat)=((fH h:Nat):Int):=by
 induction h with
 | nil=>rfl
 | cons x h ih=>
  show Int.ofNat x*6^(h.map Int.ofNat).length+bR 6 (h.map Int.ofNat)=((x*6^h.length+fH h:Nat):Int)
  rw[ih,aa9,Int.natCast_add,Int.natCast_mul,Int.natCast_pow];rfl
def Ac(r:1<=n)(J:n<=5):(cU n s).Pairwise fun a b=>fH a < fH b:=by
 have c:=DU (tF r J).2.1;exact(av9.mp c).sublist List.filter_sublist
def Kq(u:1<=n)(J:n<=5)(r:Rc n m s){R:List 188}(E:R.Nodup)(S: ∀h,h∈R↔ ∃t,Fr s t/\cN t=true/\kS t=h){d:List (List Int)}(B:d.Perm (R.map fun h=>h.map Int.ofNat))(T:d.Pairwise fun a b=>bR 6 a<=bR 6 b):d=(cU n s).map fun h=>h.map Int.ofNat:=by
 have o:=Ac (s:=s) u J;have c:(cU n s).Nodup:=o.imp fun{a b} h z=>by rw[z] at h;exact af7 _ h
 have q:R.Perm (cU n s):=(List.perm_ext_iff_of_nodup E c).mpr fun h=>by rw[S h,pD u J r]
 have X:=B.trans (q.map fun h=>h.map Int.ofNat);have e: ∀a∈(cU n s).map (fun h=>h.map Int.ofNat),a.length=n/\Cj 6 a:=fun a f=>by
  obtain⟨h,L,rfl⟩:=ad3.mp f;obtain⟨l,b⟩:=gX L;refine⟨by rw[aa9];exact l,fun x k=>?_⟩;obtain⟨y,p,rfl⟩:=ad3.mp k;have:=b y p;show(0:Int)<=(y:Int)/\(y:Int) < 6;lia
 refine List.Perm.eq_of_pairwise (le:=fun a b=>bR 6 a<=bR 6 b) (fun a b f i v w=>?_) T ?_ X
 . obtain⟨D,g⟩:=e a (X.mem_iff.mp f);obtain⟨Q,j⟩:=e b i;exact vF 104 (D.trans Q.symm) g j 102
 . refine av9.mpr (o.imp fun{a b} h=>?_);rw[zQ,zQ];lia
def kN(n:List Nat):List Key:=n.map fun(x:Nat)=>(.inl (x:Int):Key)
def zu: ∀(hs:List Nat),oN (hs.map nI)=some (kN hs)
 | []=>rfl
 | x::hs=>by
  have u:=zu hs;show oN (.int (x:Int)::hs.map nI)=_;unfold oN;rw[u];rfl
def Fb(n:List Nat):Bq (AE n)=some (kN n):=zu n
def Su:kN hs=kT (hs.map Int.ofNat):=by
 unfold kN kT;rw[ae6];rfl
def Fc: ∀{a b:List Nat},kN a=kN b->a=b
 | [],[],_=>rfl
 | [],_::_,h=>by cases h
 | _::_,[],h=>by cases h
 | x::a,y::b,h=>by
  obtain⟨d,e⟩:=List.cons.inj h;have d:(x:Int)=(y:Int):=Sum.inl.inj d;rw[Fc e,show x=y by lia]
def vk{α N:Type} [DecidableEq α] [DecidableEq N]{f:α->N}(j: ∀a b,f a=f b->a=b){O:List α}{k:α}:kH (O.map f) (f k)=kH O k:=by
 unfold kH;rw[List.any_map];congr 1
 funext z
 show decide (f z=f k)=decide (z=k);exact am8.mpr ⟨j _ _,fun e=>by rw[e]⟩
def vf{α N:Type} [DecidableEq α] [DecidableEq N]{f:α->N}(j: ∀a b,f a=f b->a=b){O:List α}{k:α}:ig (O.map f) (f k)=(ig O k).map f:=by
 unfold ig;rw[vk j];split
 . rfl
 . rw[ad1];rfl
def Lw{α:Type} [DecidableEq α]{U:List α}: ∀{l:List α},l.Nodup->(∀k∈l,k∈U)->l.length<=U.length:=fun{l} h m=>by
 induction l generalizing U with
 | nil=>exact af2 _
 | cons x l ih=>
  obtain⟨d,e⟩:=am5.mp h;have i:=m x ac9;have:=ih (U:=U.erase x) e fun k E=>(List.mem_erase_of_ne (show k≠x from fun z=>d (by rw[<-z];exact E))).mpr (m k (ac0 _ E));rw[List.length_erase_of_mem i] at this;have:=List.length_pos_of_mem i;rw[ad6];lia
structure Go(s:St)(Ks Ws:List St)(Fs:List 188)(Pr:St->Prop):Prop where
 nd:Ks.Nodup
 fr: ∀t∈Ks,Fr s t
 s0:s∈Ks
 wk: ∀t∈Ws,t∈Ks
 dn: ∀t∈Ks,t∈Ws\/Pr t\/((∀w,jf t w=true->fN t w∈Ks)/\(cN t=true->kS t∈Fs))
 fs: ∀h∈Fs,∃t,Fr s t/\cN t=true/\kS t=h
 fd:Fs.Nodup
def Go.fin(g:Go s Ks [] Fs fun _=>False)(h:List Nat):h∈Fs↔ ∃t,Fr s t/\cN t=true/\kS t=h:=by
 refine⟨g.fs h,fun⟨t,f,Z,e⟩=>?_⟩;have i: ∀t,Fr s t->t∈Ks:=fun t f=>by
  induction f with
  | rf=>exact g.s0
  | step f o ih=>
   rcases g.dn _ ih with z | z | z
   . exact 213 z ab3
   . exact z.elim
   . exact z.1 _ o
 rcases g.dn t (i t f) with z | z | z
 . exact 213 z ab3
 . exact z.elim
 . rw[<-e];exact z.2 Z
def Mf:DN:=fun t Q=> ∃(n m:Nat) (s:St),t= [s.dt]/\Rc n m s/\1<=n/\n<=5/\Q (.lst ((cU n s).map AE))
def Vb(o:bN k A):A.units+1 < cLine:=ao9 (Nat.add_le_add_left (by decide:1<=64) _) o.units
inductive EnI(P:214)(w:237)(n:Nat)(s:St)(k:Nat)(δ:List Sl):Prop
 | mk (Ks Ws:List St) (Fs:List 188) (s4 s5 s6:Sl) (e:δ= [.im s.dt,HS P w (Ks.map sk),.ow (Ws.map St.dt),Nc (Fs.map kN),s4,s5,s6]) (g:Go s Ks Ws Fs fun _=>False) (h:2*((Co n).length - Ks.length)+Ws.length=k) (kb:k<=2001) (b4:s4.cc=false) (b5:s5.cc=false) (b6:s6.cc=false)
inductive EnJ(P:214)(w:237)(n:Nat)(s t:St)(Fs:List 188)(k i:Nat)(δ:List Sl):Prop
 | mk (Ks Ws:List St) (s5 s6:Sl) (e:δ= [.im s.dt,HS P w (Ks.map sk),.ow (Ws.map St.dt),Nc (Fs.map kN),.im t.dt,s5,s6]) (g:Go s Ks Ws Fs fun u=>u=t) (tk:t∈Ks) (hd: ∀w∈(jK t).take i,fN t w∈Ks) (h:2*((Co n).length - Ks.length)+Ws.length < k) (b5:s5.cc=false) (b6:s6.cc=false)
section
variable{P:214}{w:237}{K:207}{mg:Str->210 212}{base:Heap}
def IZ(F:eW K "_law_ends" "_law_ends" wZ f fd)(T:Txt mg)(vZ:eP P w K mg base "_law_may" 1 ["_law_stand"] (bT sR))(du:eP P w K mg base "_law_behind" 1 ["_law_stand","_law_word"] (bT cK))(MJ:eP P w K mg base "_law_end" 1 ["_law_stand"] (bT TB)):aU P w K mg base dy 2 f fd ["_law_stand"] (bT Mf):=by
 refine mq F j7 (fun ds Qd h=>?_) (fun bC A outer s H E v=>⟨_,(@ao _ _ _ _ _ (@Nv _ _ _ _ _ _ 1 2 3 _ _ _ _ _ _ _ _ _ _ rfl j7.nd (@JJ _ _ _ _ _ _ _ _ (OK v) (dv 0) BY (@Th _ _ _ _ _ (ky (@aa _ _ _ _ _ (dv 0) af rfl)) (X9 Fz rfl) rfl) rfl) rfl rfl rfl rfl rfl rfl rfl rfl) (@ao _ _ _ _ _ (HW (Df v.rN 2 (pv 2)) (@ao _ _ _ _ _ (@cG _ _ _ _ 4 _ _ j7.nd (TK 2 (pv 2)) rfl 103 rfl (by first | exact .inl rfl | exact .inr rfl | assumption)) (@ao _ _ _ _ _ (cZ (rQ (aZ MJ (v.mono 104) (@aa _ _ _ _ _ (dv 4) af rfl))) (aG (HX 3 (sD (Vb v) (pv 3) (aZ MJ (v.mono 104) (@aa _ _ _ _ _ (dv 4) af rfl)) Et rfl))) bE) (aG (jm rfl (mi (aZ vZ (v.mono 104) (@aa _ _ _ _ _ (dv 4) af rfl))) (gR 5 j7.nd) (@ao _ _ _ _ _ (@cG _ _ _ _ 6 _ _ j7.nd (aZ du (v.mono 104) (@aa _ _ _ _ _ (dv 4) (@aa _ _ _ _ _ (dv 5) af rfl) rfl)) rfl 103 rfl (by first | exact .inl rfl | exact .inr rfl | assumption)) (aG (cZ (De 1 6 (OK v) (pv 1) (pv 6)) (@ao _ _ _ _ _ (HY 1 6 (Ip (OK v) (pv 1) (pv 6) Et rfl)) (aG (eA (cH 2 (pv 2) (@aa _ _ _ _ _ (dv 6) af rfl))))) bE))) ak8)))) ak8) (aG (n8 3 (aL (BU v.hd T.Qy (@aa _ _ _ _ _ (dv 3) af rfl))))))),fun ds Qd h=>?_⟩)
 . obtain⟨n,m,s,rfl,_⟩:=h;rfl
 . obtain⟨n,m,s,rfl,Z,C,M,q⟩:=h;have ul:=(tF C M).2.2;refine⟨_,rfl,sk s,by rw[Dy],rfl,_,rfl,by show 1<=sizeLine;decide,_,_,_,rfl,⟨_,rfl,rfl⟩,⟨_,rfl,rfl⟩,⟨_,rfl,rfl⟩,?_⟩;refine Ax (EnI P w n s) ⟨_,[s],[s],[], .no, .no, .no,rfl,⟨av6 _ _,fun t X=>by rw[ab4.mp X];exact .rf,ab4.mpr rfl,fun t X=>X,fun t X=> .inl X,fun h Y=>absurd Y ab3,aj8⟩,rfl,by show 2*((Co n).length - 1)+1<=2001;lia,rfl,rfl,rfl⟩ fun k δ hI Δ' wc LP=>?_;obtain⟨V,B,Fs,s4,c,s6,rfl,g,hk,kb,b4,D,O⟩:=hI;refine 203;have inu: ∀t,Fr s t->t∈Co n:=fun t f=>by
    obtain⟨m',r⟩:=f.rc Z;exact NK C r
   have kl: ∀{L:List St},L.Nodup->(∀t∈L,Fr s t)->L.length<=(Co n).length:=fun nd h=>Lw nd fun t X=>inu t (h t X);have fl: ∀{L:List 188},L.Nodup->(∀h∈L,∃t,Fr s t/\cN t=true/\kS t=h)->L.length<=7776:=fun{L} nd h=>by
    have l1:=Lw (U:=cU n s) nd fun x hx=>(pD C M Z).mpr (h x hx);have l2:(cU n s).length<=(QD n n).length:=ad9 (al9 _ _) (ad9 (al9 _ _) (al9 _ _));exact ad9 l1 (ad9 l2 (ad9 (ze n) (Yq M M)))
   rcases List.eq_nil_or_concat B with z | ⟨I,t,z⟩
   . subst z;refine bo ⟨_,_,rfl,_,rfl,Fs.map (fun h=>h.map Int.ofNat),Cp (Fs.map kN),6,n,?_,?_,by decide,C,fun a ha=>?_,fun ms pm pw=>?_⟩
     . rw[ae6];congr 2
       exact ae0 fun h _=>Su
     . rw[aa9];have:=fl g.fd g.fs;lia
     . obtain⟨h,Y,rfl⟩:=ad3.mp ha;obtain⟨l,b⟩:=gX ((pD C M Z).mpr (g.fs h Y));refine⟨by rw[aa9];exact l,fun x hx=>?_⟩;obtain⟨y,hy,rfl⟩:=ad3.mp hx;have:=b y hy;show(0:Int)<=(y:Int)/\(y:Int) < 6;lia
     . have e:=Kq C M Z g.fd g.fin pm pw;rw[e,ae6];have:(cU n s).map (Va ∘ fun h=>h.map Int.ofNat)=(cU n s).map AE:=ae0 fun h _=>by
        show Dt.tup ((h.map Int.ofNat).map .int)=AE h;rw[ae6];rfl
       rw[this];exact q
   . rw[List.concat_eq_append] at z;subst z;have ne:(!((I++ [t]).map St.dt).isEmpty)=true:=by rw[ad1];cases I.map St.dt <;> rfl
     have J:t∈V:=g.wk t 111;have ft:Fr s t:=g.fr t J;obtain⟨m',rt⟩:=ft.rc Z;have lv:=rt.lv;have R:pW t:=lv.k.g.BM 102 (by have:=rt.le C;lia);have dl:((I++ [t]).map St.dt).dropLast=I.map St.dt:=by rw[ad1];simp
     have la:((I++ [t]).map St.dt)[((I++ [t]).map St.dt).length - 1]?=some t.dt:=by rw[ad1];simp
     refine ic ne ⟨_,t.dt,rfl,la,⟨_,rfl,b4⟩,?_⟩;rw[dl];have wl:(I++ [t]).length=I.length+1:=by simp
     have g1: ∀{G:List 188},(∀h,h∈Fs->h∈G)->G.Nodup->(∀h∈G,∃t,Fr s t/\cN t=true/\kS t=h)->Go s V I G fun u=>u=t:=fun h1 h2 h3=>⟨g.nd,g.fr,g.s0,fun u p=>g.wk u (af5 _ p),fun u p=>by
      rcases g.dn u p with z | z | z
      . rcases ad2.mp z with y | y
        . exact .inl y
        . exact .inr (.inl (ab4.mp y))
      . exact z.elim
      . exact .inr (.inr ⟨z.1,fun Q=>h1 _ (z.2 Q)⟩),h3,h2⟩
     have tl: ∀(G:List 188),Go s V I G (fun u=>u=t)->(cN t=true->kS t∈G)->Ub (T7 (z0 sR (pf (BZ 4) vP))) (x8 5) (Kb (TU 6 (z0 cK (pf (BZ 4) (pf (BZ 5) vP)))) (T9 (vO P w 1 6) (Kb (Gq P w 1 6) (Mx (Ud 2 (pf (BZ 6) vP)))) Mv)) Δ' [.im s.dt,HS P w (V.map sk),.ow (I.map St.dt),Nc (G.map kN),.im t.dt,c,s6]:=fun G g2 he=>by
      have eml:(di t).length=(jK t).length:=by rw[qI,aa9]
      refine⟨_,rfl,t,rfl,R,_,rfl,dR (EnJ P w n s t G k) ⟨V,I,c,s6,rfl,g2,J,fun w hw=>213 hw ab3,by lia,D,O⟩ (fun i d δ3 hi hJ Δ2 LR _=>?_) (fun δ3 hJ=>?_)⟩
      . obtain⟨V,B,c,s6,rfl,g,J,hd,hm,D,O⟩:=hJ;rw[qI,ab8] at hi;obtain⟨j,hw,rfl⟩:=ak1.mp hi;have ZJ:=zq (ae4 hw);have Cz: ∀{K2:List St},(∀u∈V,u∈K2)->fN t j∈K2-> ∀w∈(jK t).take (i+1),fN t w∈K2:=fun h1 h2 w Z6=>by
         rw[List.take_succ,hw] at Z6;rcases ad2.mp Z6 with y | y
         . exact h1 _ (hd w y)
         . have:w=j:=by simpa using y
           rw[this];exact h2
        have k1:=kl g.nd g.fr;refine⟨⟨_,rfl,D⟩,_,rfl,_,rfl,?_⟩;dsimp only [vP];refine dU R ZJ ⟨⟨_,rfl,O⟩,?_⟩;refine⟨_,sk (fN t j),rfl,by rw[Dy];rfl,?_⟩;rw[vk fun a b=>Dw];cases N:kH V (fN t j) with
        | true=>exact bo (LR _ ⟨V,B,.im (.str j),.im (fN t j).dt,rfl,g,J,Cz (fun _ z=>z) (iX.mp N),hm,rfl,rfl⟩)
        | false=>
         have nu:fN t j∉V:=fun z=>by rw[iX.mpr z] at N;cases N
         have fu:Fr s (fN t j):=(g.fr t J).step ZJ;have ZV:(V++ [fN t j]).Nodup:=by rw[<-vd N];exact zA g.nd
         have S: ∀u∈V++ [fN t j],Fr s u:=fun u p=>by
          rcases ad2.mp p with y | y
          . exact g.fr u y
          . rw[ab4.mp y];exact fu
         have k2:=kl ZV S;rw[ac6,List.length_singleton] at k2;have w2:(B++ [fN t j]).length=B.length+1:=by simp
         have k3:(V++ [fN t j]).length=V.length+1:=by simp
         have s1:100000 < sizeLine:=by decide
         refine bJ ⟨_,sk (fN t j),rfl,by rw[Dy];rfl,by rw[aa9];lia,?_⟩;rw[vf fun a b=>Dw,vd N];refine⟨⟨_,rfl⟩,_,rfl,_,_,rfl,rfl,by rw[aa9];lia,?_⟩;refine LR _ ⟨V++ [fN t j],B++ [fN t j],.im (.str j),.im (fN t j).dt,by rw[ad1 (f:=St.dt)];rfl,⟨ZV,S,af5 _ g.s0,fun u p=>?_,fun u p=>?_,g.fs,g.fd⟩,af5 _ J,Cz (fun u z=>af5 _ z) (ac8 _ (ab4.mpr rfl)),by lia,rfl,rfl⟩
         . rcases ad2.mp p with y | y
           . exact af5 _ (g.wk u y)
           . exact ac8 _ y
         . rcases ad2.mp p with y | y
           . rcases g.dn u y with z | z | z
             . exact .inl (af5 _ z)
             . exact .inr (.inl z)
             . exact .inr (.inr ⟨fun w o=>af5 _ (z.1 w o),z.2⟩)
           . exact .inl (ac8 _ y)
      . obtain⟨V,B,c,s6,rfl,g,J,hd,hm,D,O⟩:=hJ;rw[eml,al1] at hd;refine wc _ _ hm ⟨V,B,G, .im t.dt,c,s6,rfl,⟨g.nd,g.fr,g.s0,g.wk,fun u p=>?_,g.fs,g.fd⟩,rfl,by lia,rfl,D,O⟩;rcases g.dn u p with z | z | z
        . exact .inl z
        . rw[z];exact .inr (.inr ⟨fun w o=>hd w (i7.mpr o),he⟩)
        . exact .inr (.inr z)
     cases Q:cN t with
     | false=>
      refine⟨_,rfl,t,rfl,R,false,?_,?_⟩
      . rw[Pw Q];rfl
      . exact bo (tl Fs (g1 (fun _ z=>z) g.fd g.fs) fun z=>by rw[Q] at z;cases z)
     | true=>
      refine⟨_,rfl,t,rfl,R,true,?_,?_⟩
      . rw[zO lv Q];rfl
      . have f1:=fl g.fd g.fs;have s1:100000 < sizeLine:=by decide
        refine bJ ⟨⟨_,rfl⟩,_,rfl,t,rfl,R,kN (kS t),_,?_,rfl,by rw[aa9];lia,?_⟩
        . rw[zO lv Q];exact Fb _
        . rw[vf fun a b=>Fc];refine tl _ (g1 (fun h z=>oP.mpr (.inl z)) (zA g.fd) fun h Y=>?_) fun _=>oP.mpr (.inr rfl);rcases oP.mp Y with y | y
          . exact g.fs h y
          . exact⟨t,ft,Q,y.symm⟩
end
end bb
namespace bb
open PySem PySem.Spec L2 LB LD PyProof.Rows rH
def iS(R:List 188)(w:Nat->Nat->Wo):Nat->Nat->Wo:=fun i o=>if o∈R.getD (i - 1) [] then w i o else none
def LF:DN:=fun t Q=> ∃(n:Nat) (w:Nat->Nat->Wo) (R:List 188),t= [ez n w,.lst (R.map lsN)]/\R.length=n/\n<=12/\Q (ez n (iS R w))
def kE(es:List Dt):Dt->Dt
 | .tup [.int i,d]=>if inD (.int i) es then d else .aO
 | d=>d
def kF:Dt->Dt
 | .tup [.tup ds,.lst es]=> .tup ((bQ 0 ds).map (kE es))
 | d=>d
def OC{R:List 188}(h:R.getD (i - 1) []=r):kF (.tup [eU n w i,lsN r])=eU n (iS R w) i:=by
 show Dt.tup ((bQ 0 164).map (kE (r.map nI)))=Dt.tup ((219 (n+1)).map fun o=>cV (iS R w i o));congr 1
 apply al4;intro j;unfold bQ;rw[ab8,aq1,ab8,ab8];by_cases B:j < n+1
 . rw[ak2 B];show some (if inD (.int ((j+0:Nat):Int)) (r.map nI)=true then cV (w i j) else .aO)=some (cV (if j∈R.getD (i - 1) [] then w i j else none));rw[h,show inD (.int ((j+0:Nat):Int)) (r.map nI)=decide (j∈r) from Hg];by_cases c:j∈r
   . rw[if_pos c,if_pos (af3 c)]
   . rw[if_neg c,if_neg (by rw[ae8 c];decide)];rfl
 . rw[aj1 (by rw[af0];lia)];rfl
def OB{R:List 188}(l:R.length=n):(cX ((116).map (eU n w)) (R.map lsN)).map kF=(116).map (eU n (iS R w)):=by
 subst l;unfold cX;apply al4;intro j;rw[ab8,List.getElem?_zipWith,ab8,ab8,ab8];by_cases B:j < R.length
 . rw[am4 B,ab2 B];show some (kF (.tup [eU R.length w (1+1*j),lsN R[j]]))=some (eU R.length (iS R w) (1+1*j));rw[OC (R:=R)];rw[List.getD_eq_getElem?_getD,show 1+1*j - 1=j by lia,ab2 B];rfl
 . rw[aj1 (l:=List.range' 1 R.length) (by rw[ae7];lia)];rfl
def Hu{R:List 188}(h:d∈cX ((116).map (eU n w)) (R.map lsN)): ∃i r,d= .tup [eU n w i,lsN r]:=by
 unfold cX at h;rw[List.zipWith_map] at h;obtain⟨j,g⟩:=List.getElem?_of_mem h;rw[List.getElem?_zipWith] at g;split at g
 . cases g;exact⟨_,_,rfl⟩
 . cases g
section
variable{P:214}{w:237}{K:207}{mg:Str->210 212}{base:Heap}
def A7(F:eW K "kept_to" "kept_to" ki f fd)(T:Txt mg):aU P w K mg base dy 1 f fd ["w","lists"] (bT LF):=by
 refine mq F DF 192 (fun p A X s H E u=>⟨_,(aG (aL (kU T.tup (aa (Ov.ev (cm (N:= ["row","ons"]) (nt:=2) (js:= []) ⟨rfl,by decide+kernel,by decide,rfl,by decide+kernel,(by show∀x∈(_:List 131),x.2=224->(ae ki).names.lookup x.1=some .cell\/(ae ki).names.lookup x.1=some .free;decide+kernel)⟩ rfl 147 (fun _ _ _ _ _=>cM rfl (aH (az (i:=0) (show(["row","ons"]:List Str).Nodup by decide+kernel) rfl 103) (aH (az (i:=1) (show(["row","ons"]:List Str).Nodup by decide+kernel) rfl 103) bO))) bX bq 141 (fun _ _ _ _ _=>(kU T.tup (aa (Ov.ev (cm (N:= ["on","worth","ons"]) (nt:=2) (js:= [1]) ⟨rfl,by decide+kernel,by decide,rfl,by decide+kernel,(by repeat (first | exact Dv | refine yP 103 ?_ | refine yQ 157 ?_))⟩ rfl (zE T.Vq 149) (fun _ _ _ _ _=>cM rfl (aH (az (i:=0) (show(["on","worth","ons"]:List Str).Nodup by decide+kernel) rfl 103) (aH (az (i:=1) (show(["on","worth","ons"]:List Str).Nodup by decide+kernel) rfl 103) bO))) bX bq 141 (fun _ _ _ _ _=>(fV (HJ (dv 0) (dv 2)) (dv 1) fT)))) af))))) af)))),fun t G h=>?_⟩)
 . obtain⟨n,w,R,rfl,_⟩:=h;rfl
 . obtain⟨n,w,R,rfl,l,v,q⟩:=h;refine⟨_,rfl,_,rfl,true,false,_,_,rfl,?_⟩;have M:(cX ((116).map (eU n w)) (R.map lsN)).length<=60:=by
    unfold cX;rw[ao2,aa9,aa9,ae7];lia
   refine⟨ad9 M 104,fun _=>true,kF,fun d D=>?_,?_⟩
   . obtain⟨i,r,rfl⟩:=Hu D;have Q:(bQ 0 164).length=n+1:=by unfold bQ;rw[as0,aa9,af0]
     refine 126;refine⟨_,rfl,_,rfl,by rw[Q];exact ad9 (show n+1<=61 by lia) 104,fun _=>true,kE (r.map nI),fun d D=>?_,?_⟩
     . obtain⟨j,e,B,rfl⟩:=nG D;refine 126;have Y:kE (r.map nI) (.tup [.int ((j+0:Nat):Int),e])=if inD (.int ((j+0:Nat):Int)) (r.map nI)=true then e else .aO:=rfl
       refine⟨_,rfl,_,rfl,_,.inl rfl,rfl,?_,_,rfl,?_⟩
       . exact ag4.mpr fun x k=>by obtain⟨y,_,rfl⟩:=ad3.mp k;rfl
       . rw[Y];by_cases c:inD (.int ((j+0:Nat):Int)) (r.map nI)=true
         . rw[if_pos c];exact ic c ⟨_,rfl,rfl⟩
         . rw[if_neg c];exact gQ c rfl
     . rw[ag6.mpr fun _ _=>rfl];exact⟨_,.inl rfl,rfl⟩
   . rw[ag6.mpr fun _ _=>rfl,OB l];exact⟨_,.inl rfl,q⟩
end
end bb
namespace bb
open rH
def MY(n:Nat):Bool:=(mC n).all (fun g=>decide (g∈fG n)) && (fG n).all fun g=>decide (g∈mC n)
def wy1:MY 1=true:=by decide+kernel
def wy2:MY 2=true:=by decide+kernel
def wy3:MY 3=true:=by decide+kernel
def wy4:MY 4=true:=by decide+kernel
def wy5:MY 5=true:=by decide+kernel
def wz(r:1<=n)(J:n<=5):g∈mC n↔g∈fG n:=by
 have c:MY n=true:=by
  match n,r,J with
  | 1,_,_=>exact wy1
  | 2,_,_=>exact wy2
  | 3,_,_=>exact wy3
  | 4,_,_=>exact wy4
  | 5,_,_=>exact wy5
 unfold MY at c;rw[ah9] at c;exact⟨fun z=>ae1 (ag4.mp c.1 g z),fun z=>ae1 (ag4.mp c.2 g z)⟩
def u7{R:List 188}: ∀(h:List Nat) (k:Nat),k+h.length<=R.length->iw (iS R w) (k+1) h=if fits h (R.drop k)=true then iw w (k+1) h else none
 | [],k,_=>by rw[if_pos (by unfold fits;rfl)];rfl
 | x::h,k,l=>by
  have v:k+1+h.length<=R.length:=by rw[ad6] at l;lia
  have z:k < R.length:=by lia
  have e:R.drop k=R[k]::R.drop (k+1):=(aq5 z)
  have u:=u7 (w:=w) h (k+1) v;rw[iw,iw,u,e];show ad (if x∈R.getD (k+1 - 1) [] then w (k+1) x else none) _=if (decide (x∈R[k]) && fits h (R.drop (k+1)))=true then _ else _
  rw[show R.getD (k+1 - 1) []=R[k] by rw[List.getD_eq_getElem?_getD,show k+1 - 1=k by lia,ab2 z];rfl];by_cases c:x∈R[k]
  . rw[if_pos c,af3 c,Bool.true_and];by_cases d:fits h (R.drop (k+1))=true
    . rw[if_pos d,if_pos d]
    . rw[if_neg d,if_neg d];cases w (k+1) x <;> rfl
  . rw[if_neg c,ae8 c,Bool.false_and,if_neg (show¬(false=true) by decide)];rfl
def cT(w:Nat->Nat->Wo)(a:210 Rs)(h:List Nat):210 Rs:=match lM w h with
 | none=>a
 | some v=>match a with
  | none=>some (v,h)
  | some (u,g)=>if v > u then some (v,h) else a
def dG(w:Nat->Nat->Wo)(L:List 188):210 Rs:=L.foldl (cT w) none
inductive FB(w:Nat->Nat->Wo)(L:List 188):210 Rs->Prop
 | no (h: ∀g∈L,lM w g=none):FB w L none
 | yes (v:Int) (h:List Nat) (m:h∈L) (e:lM w h=some v) (b: ∀g∈L,∀u,lM w g=some u->u < v\/(u=v/\fH h<=fH g)):FB w L (some (v,h))
def JP(i:FB w L a)(r: ∀g∈L,fH g < fH x):FB w (L++ [x]) (cT w a x):=by
 cases e:lM w x with
 | none=>
  rw[show cT w a x=a by unfold cT;rw[e]];cases i with
  | no h=>exact .no fun g m=>(ad2.mp m).elim (h g) fun z=>by rw[ab4.mp z];exact e
  | yes v h m eh b=>exact .yes v h (af5 _ m) eh fun g m u F=>(ad2.mp m).elim (fun z=>b g z u F) fun z=>by rw[ab4.mp z,e] at F;cases F
 | some v=>
  cases i with
  | no h=>
   rw[show cT w none x=some (v,x) by unfold cT;rw[e]];exact .yes v x (ac8 _ ac9) e fun g m u F=>(ad2.mp m).elim (fun z=>by rw[h g z] at F;cases F) fun z=>by
    rw[ab4.mp z] at F ⊢;rw[e] at F;cases F;exact .inr ⟨rfl,ab6 _⟩
  | yes u h m eh b=>
   by_cases c:v > u
   . rw[show cT w (some (u,h)) x=some (v,x) by unfold cT;rw[e];exact if_pos c];exact .yes v x (ac8 _ ac9) e fun g m y W=>(ad2.mp m).elim (fun z=>by rcases b g z y W with q | q <;> exact .inl 102) fun z=>by
      rw[ab4.mp z] at W ⊢;rw[e] at W;cases W;exact .inr ⟨rfl,ab6 _⟩
   . rw[show cT w (some (u,h)) x=some (u,h) by unfold cT;rw[e];exact if_neg c];exact .yes u h (af5 _ m) eh fun g G y W=>(ad2.mp G).elim (fun z=>b g z y W) fun z=>by
      rw[ab4.mp z] at W ⊢;rw[e] at W;cases W;have:=r h m;by_cases d:v < u
      . exact .inl d
      . exact .inr 176
def zL: ∀(L P:List 188) (a:210 Rs),FB w P a->(P++L).Pairwise (fun g h=>fH g < fH h)->FB w (P++L) (L.foldl (cT w) a)
 | [],P,a,i,_=>by rw[ai1];exact i
 | x::L,P,a,i,pw=>by
  have e:P++x::L=(P++ [x])++L:=by rw[af9];rfl
  rw[e] at pw ⊢;exact zL L (P++ [x]) _ (JP i fun g m=>(au2.mp (au2.mp pw).1).2.2 g m x ac9) pw
def Ky{L:List 188}(R:L.Pairwise fun g h=>fH g < fH h):FB w L (dG w L):=zL L [] none (.no fun g m=>213 m ab3) R
def pF: ∀(h:List Nat),code 6 h=((fH h:Nat):Int)
 | []=>rfl
 | x::h=>by
  rw[code,fH,pF h,Int.natCast_add,Int.natCast_mul,Int.natCast_pow]
def Kr(J:n<=5){g h:List Nat}(Z:g.length=n)(a:h.length=n)(r: ∀x∈g,x<=n)(b: ∀x∈h,x<=n)(e:fH g<=fH h):code (n+1) g<=code (n+1) h:=by
 refine at5.mp fun z=>?_;have U:=(pE (a.trans Z.symm) (fun x i=>by have:=b x i;lia) fun x i=>by have:=r x i;lia).mp z;have v:=(pE (B:=6) (a.trans Z.symm) (fun x i=>by have:=b x i;lia) fun x i=>by have:=r x i;lia).mpr U;rw[pF,pF] at v;lia
def Cf(y:1<=n)(J:n<=5)(r:Rc n m s)(w:Nat->Nat->Wo):tT n (iS (rows s) w) (dG w (cU n s)):=by
 have P:(rows s).length=n:=by unfold rows;rw[aa9,ae7];exact r.lv.k.g.l
 have B:=Ky (w:=w) (Ac (s:=s) y J);have S: ∀g,g∈cU n s↔g∈mC n/\fits g (rows s)=true:=fun g=>by unfold cU;rw[an5,wz y J]
 have T: ∀g,g.length=n->lM (iS (rows s) w) g=if fits g (rows s)=true then lM w g else none:=fun g Z=>by
  have:=u7 (w:=w) (R:=rows s) g 0 (by rw[P,Z];lia);rw[at1] at this;exact this
 generalize dG w (cU n s)=b at B ⊢;cases B with
 | no h=>
  refine .no fun g G=>?_;rw[T g (cE G)];by_cases c:fits g (rows s)=true
  . rw[if_pos c];exact h g ((S g).mpr ⟨G,c⟩)
  . rw[if_neg c]
 | yes v h mh e b=>
  obtain⟨t,d⟩:=(S h).mp mh;refine .yes v h t (by rw[T h (cE t),if_pos d];exact e) fun g G u F=>?_;rw[T g (cE G)] at F;by_cases c:fits g (rows s)=true
  . rw[if_pos c] at F;have x:=(S g).mpr ⟨G,c⟩;rcases b g x u F with z | ⟨o,U⟩
    . exact .inl z
    . exact .inr ⟨o,Kr J (gX mh).1 (gX x).1 (gX mh).2 (gX x).2 U⟩
  . rw[if_neg c] at F;cases F
end bb
namespace bb
open PySem PySem.Spec L2 LB LD PyProof.Rows rH
def bsS:DN:=fun t Q=> ∃(n m:Nat) (w:Nat->Nat->Wo) (s:St),t= [ez n w,s.dt]/\Rc n m s/\1<=n/\n<=5/\Sm w/\Q (NZ (dG w (cU n s)))
def Rx:DN:=fun t Q=> ∃(n m:Nat) (w:Nat->Nat->Wo) (s:St),t= [ez n w,s.dt]/\Rc n m s/\1<=n/\n<=5/\Sm w/\Q (cV ((dG w (cU n s)).map (·.1)))
def ZW:DN:=fun t Q=> ∃(n:Nat) (w:Nat->Nat->Wo) (h:List Nat),t= [ez n w,oX h]/\h.length=n/\(∀x∈h,x<=n)/\n<=60/\Q (cV (lM w h))
def ZX:DN:=fun t Q=> ∃(n:Nat) (w:Nat->Nat->Wo) (L:List 188),t= [ez n w,.lst (L.map oX)]/\(∀h∈L,h.length=n/\ ∀x∈h,x<=n)/\n<=12/\Q (NZ (dG w L))
def HP(s:Sm w):Sm (iS R w):=fun i o v e=>by
 unfold iS at e;split at e
 . exact s i o v e
 . cases e
section
variable{P:214}{w:237}{K:207}{mg:Str->210 212}{base:Heap}
def sL(F:eW K "best_still" "best_still" jF f fd)(T:Txt mg)(e:eP P w K mg base "best_plain" 4 ["w"] (bT ME))(i:eP P w K mg base "kept_to" 1 ["w","lists"] (bT LF))(y:eP P w K mg base "allowed" 2 ["stand"] (bT Ld)):aU P w K mg base dy 5 f fd ["w","stand"] (bT bsS):=by
 refine mq F ux (fun u G h=>?_) (fun p A X s H E o=>⟨_,(aG (aL (aZ e (o.mono 104) (aa (aZ i (o.mono 104) (aa (dv 0) (aa (aZ y (o.mono 104) 155) af))) af)))),fun u G h=>?_⟩)
 . obtain⟨n,m,w,s,rfl,_⟩:=h;rfl
 . obtain⟨n,m,w,s,rfl,r,t,J,I,q⟩:=h;have Q:(rows s).length=n:=by unfold rows;rw[aa9,ae7];exact r.lv.k.g.l
   refine⟨_,rfl,_,rfl,n,m,s,rfl,r,by lia,n,w,rows s,rfl,Q,by lia,n,iS (rows s) w,rfl,t,by lia,HP I,fun z B=>?_⟩;rw[Cc B (Cf t J r w)];exact q
def EF(F:eW K "still" "still" wX f fd)(T:Txt mg)(g:eP P w K mg base "best_still" 5 ["w","stand"] (bT bsS)):aU P w K mg base dy 6 f fd ["w","stand"] (bT Rx):=by
 refine mq F yR 192 (fun p A X s H E o=>⟨_,(ao (cG 2 yR.nd (aZ g (o.mono 104) (aa (dv 0) 155)))
 (aG (aL (fV (jk (dv 2)) fT (dD (dv 2) ay))))),fun t G h=>?_⟩)
 . obtain⟨n,m,w,s,rfl,_⟩:=h;rfl
 . obtain⟨n,m,w,s,rfl,r,u,J,I,q⟩:=h;refine⟨_,rfl,_,rfl,n,m,w,s,rfl,r,u,J,I,⟨_,rfl,rfl⟩,?_⟩;generalize dG w (cU n s)=b at q ⊢;cases b with
   | none=>exact⟨_,rfl,true,rfl,bJ q⟩
   | some b=>exact⟨_,rfl,false,rfl,bo ⟨_,rfl,_,_,_,.inr rfl,rfl,aS (j:=0) rfl,q⟩⟩
def A6(F:eW K "_law_worth" "_law_worth" kh f fd)(T:Txt mg):aU P w K mg base dy 1 f fd ["_law_w","_law_h"] (bT ZW):=by
 refine mq F uw 192 (fun r A X s H E u=>⟨_,(ao (wV 2 uw.nd (N:= ["_law_row","_law_on"]) (nt:=2) (js:= []) ⟨rfl,by decide+kernel,by decide,rfl,by decide+kernel,(by show∀x∈(_:List 131),x.2=224->(ae kh).names.lookup x.1=some .cell\/(ae kh).names.lookup x.1=some .free;decide+kernel)⟩ rfl 147 (fun _ _ _ _ _=>cM rfl (aH (az (i:=0) (show(["_law_row","_law_on"]:List Str).Nodup by decide+kernel) rfl 103) (aH (az (i:=1) (show(["_law_row","_law_on"]:List Str).Nodup by decide+kernel) rfl 103) bO))) bX bq 141 (fun _ _ _ _ _=>(dD (dv 0) (dv 1))))
 (aG (kc 2 (aL (fV (HJ fT (dv 2)) fT (Mk rfl T.sum (aa (dv 2) af))))))),fun t G h=>?_⟩)
 . obtain⟨n,w,h,rfl,_⟩:=h;rfl
 . obtain⟨n,w,h,rfl,l,k,v,q⟩:=h;subst l;refine⟨_,rfl,_,rfl,true,true,_,_,rfl,?_⟩;have M:(cX ((List.range' 1 h.length).map (eU h.length w)) (h.map xI)).length<=60:=by
    unfold cX;rw[ao2,aa9,aa9,ae7];lia
   refine⟨ad9 M 104,fun _=>true,Pu,fun d D=>?_,?_⟩
   . obtain⟨j,x,O,rfl⟩:=wq D;refine 126;exact⟨_,rfl,_,rfl,_,_,_,.inr rfl,rfl,oh (k x O),by show cV (w j x)=(jS _ _).getD _;rw[oh (k x O)];rfl⟩
   . rw[ag6.mpr fun _ _=>rfl,rM k];have o:=rO (w:=w) (h:=h) (i:=1);rw[show lM w h=iw w 1 h from rfl,<-o] at q;generalize List.zipWith w (List.range' 1 h.length) h=L at q ⊢;refine⟨⟨_,rfl,rfl⟩,_,rfl,_,rfl,_, .inl rfl,rfl,yJ L,_,rfl,?_⟩;show if inD .aO (L.map cV)=true then _ else _
     rw[KW];by_cases c:none∈L
     . rw[nW c] at q;exact ic (af3 c) q
     . obtain⟨S,m,p⟩:=nX L c;rw[p] at q;refine gQ (by rw[ae8 c];decide) ⟨_,rfl,S,?_,q⟩;rw[m,yI]
def EH(F:eW K "_law_best" "_law_best" w6 f fd)(T:Txt mg)(m:eP P w K mg base "_law_worth" 1 ["_law_w","_law_h"] (bT ZW)):aU P w K mg base dy 2 f fd ["_law_w","_law_some"] (bT ZX):=by
 refine mq F j8 (fun t R h=>?_) (fun B A X s H E p=>⟨_,(ao (cG 2 j8.nd fT)
 (ao (jm rfl (mi (dv 1)) (gR 3 j8.nd)
 (ao (cG 4 j8.nd (aZ m (p.mono 104) (aa (dv 0) (aa (dv 3) af))))
 (aG (cZ (PW.pt (w_and (rQ (dv 4)) (M5 (PW.pt (w_or (jk (dv 2)) (nQ (Ra (dv 4) (dD (dv 2) ay))))))))
 (aG (cG 2 j8.nd (ba (aa (dv 4) (aa (dv 3) af)))))
 bE))) ak8)
 (aG (aL (dv 2))))),fun t R h=>?_⟩)
 . obtain⟨n,w,L,rfl,_⟩:=h;rfl
 . obtain⟨n,w,L,rfl,x,C,q⟩:=h;refine⟨⟨_,rfl,rfl⟩,?_⟩;refine⟨_,rfl,_,rfl,dR (fun i l=> ∃k M:Sl,l= [.im (ez n w), .im (.lst (L.map oX)), .im (NZ (dG w (L.take i))),k,M]/\k.cc=false/\M.cc=false) ⟨.no, .no,rfl,rfl,rfl⟩ (fun i d l Q I J y _=>?_) (fun l I=>?_)⟩
   . obtain⟨k,M,rfl,N,G⟩:=I;rw[ab8] at Q;obtain⟨h,O,rfl⟩:=ak1.mp Q;obtain⟨r,o⟩:=x h (ae4 O);have S:dG w (L.take (i+1))=cT w (dG w (L.take i)) h:=by
      unfold dG;rw[ap7,O,List.foldl_append];rfl
     refine⟨⟨_,rfl,N⟩,_,rfl,_,rfl,n,w,h,rfl,r,o,by lia,⟨_,rfl,G⟩,?_⟩;generalize dG w (L.take i)=a at S ⊢;have fin: ∀b,dG w (L.take (i+1))=b-> ∀M:Sl,M.cc=false->J.nx [.im (ez n w),.im (.lst (L.map oX)),.im (NZ b),.im (oX h),M]:=fun b e M z=>y _ ⟨_,M,by rw[e],rfl,z⟩;cases e:lM w h with
     | none=>
      rw[show cT w a h=a by unfold cT;rw[e]] at S;exact⟨_,rfl,false,rfl,bo (bo (fin a S _ rfl))⟩
     | some v=>
      cases a with
      | none=>
       rw[show cT w none h=some (v,h) by unfold cT;rw[e]] at S;exact⟨_,rfl,true,rfl,bJ ⟨_,rfl,true,rfl,bJ (bJ ⟨_,rfl,_,rfl,by show 2<=208;decide,⟨_,rfl,rfl⟩,fin _ S _ rfl⟩)⟩⟩
      | some a=>
       obtain⟨u,g⟩:=a;refine⟨_,rfl,true,rfl,bJ ⟨_,rfl,false,rfl,bo ⟨_,rfl,_,rfl,_,_,_,.inr rfl,rfl,aS (j:=0) rfl,_,_,rfl,rfl,_,rfl,?_⟩⟩⟩;by_cases c:v > u
       . rw[show cT w (some (u,g)) h=some (v,h) by unfold cT;rw[e];exact if_pos c] at S;exact ic (af3 c) ⟨_,rfl,_,rfl,by show 2<=208;decide,⟨_,rfl,rfl⟩,fin _ S _ rfl⟩
       . rw[show cT w (some (u,g)) h=some (u,g) by unfold cT;rw[e];exact if_neg c] at S;exact gQ (by rw[ae8 c];decide) (fin _ S _ rfl)
   . obtain⟨k,M,rfl,N,G⟩:=I;rw[aa9,al1];exact⟨_,rfl,q⟩
end
def C3(w:Nat->Nat->Wo)(n:Nat)(s:St):Wo:=(dG w (cU n s)).map (·.1)
def Lz:Wo->Wo->Wo
 | some a,some b=>some (a - b)
 | _,_=>none
def k6(w:Nat->Nat->Wo)(n:Nat)(s:St)(st:Str):Wo:=Lz (C3 w n s) (C3 w n (fN s st))
def u4:DN:=fun t Q=> ∃a b:Wo,t= [cV a,cV b]/\Q (cV (Lz a b))
def GC(ds:List Dt)(Q:Dt->Prop)(E:Int->Prop):Prop:= ∃(n m:Nat) (w:Nat->Nat->Wo) (s:St) (st:Str),ds= [ez n w,s.dt,.str st]/\Rc n m s/\1<=n/\n<=5/\Sm w/\(jf s st=true->Q (cV (k6 w n s st)))/\(jf s st=false->E 0)
def Ab:DN:=fun t Q=> ∃(n m:Nat) (w:Nat->Nat->Wo) (s:St) (st:Str),t= [ez n w,s.dt,.str st]/\Rc n m s/\1<=n/\n<=5/\Sm w/\jf s st=true/\Q (cV (k6 w n s st))
def eS:Stmt:=match top 8 with
 | .ClassDef _ _ _ b _ _ _ _ _ _ _=>b.getD 0 (.Pass ⟨0,0,0,0⟩)
 | _=> .Pass ⟨0,0,0,0⟩
section
variable{P:214}{w:237}{K:207}{mg:Str->210 212}{base:Heap}
def IW(F:eW K "__init__" qual eS f fd)(j:aD ["self","place"] ["self","place"] (ae eS)):aU P w K mg base dy 1 f fd ["self","place"] (nZ K "place"):=by
 refine F.ok j (fun u H Q E h=>?_) (fun p A X s H u Q E o h=>⟨_,dQ (Io (pv 0) (pv 1) rfl),?_⟩)
 . obtain⟨Y,C,t,v,rfl,_⟩:=h;rfl
 . obtain⟨Y,C,t,v,rfl,d,S,q⟩:=h;exact⟨_,rfl,_,rfl,Y,C,t,rfl,d,S,fun D B=>q D B⟩
def IU(F:eW K "lost" "lost" DK f fd)(T:Txt mg):aU P w K mg base dy 1 f fd ["before","after"] (bT u4):=by
 refine mq F Nt 192 (fun p A X s H E o=>⟨_,(ao (cZ (PW.pt (w_or (jk (dv 0)) (nQ (jk (dv 1)))))
 (aG (aL fT))
 bE)
 (aG (aL (gy (dv 0) (dv 1))))),fun t G h=>?_⟩)
 . obtain⟨a,b,rfl,_⟩:=h;rfl
 . obtain⟨a,b,rfl,q⟩:=h;cases a with
   | none=>exact⟨_,rfl,true,rfl,bJ (bJ q)⟩
   | some a=>
    cases b with
    | none=>exact⟨_,rfl,false,rfl,bo ⟨_,rfl,true,rfl,bJ q⟩⟩
    | some b=>exact⟨_,rfl,false,rfl,bo ⟨_,rfl,false,rfl,bo ⟨_,rfl,_,rfl,_,_,rfl,rfl,q⟩⟩⟩
def A8(F:eW K "cost" "cost" yU f fd)(T:Txt mg)(j:eP P w K mg base "steps_from" 1 ["stand"] (bT sR))(i:eP P w K mg base "still" 6 ["w","stand"] (bT Rx))(L:eP P w K mg base "behind" 1 ["stand","word"] (bT cK))(M:eP P w K mg base "lost" 1 ["before","after"] (bT u4)):aU P w K mg base dy 7 f fd ["w","stand","step"] (bT Ab):=by
 refine mq F DG (fun u G h=>?_) (fun v A X s H E o=>⟨_,(ao (cZ (rP (dv 2) (aZ j (o.mono 104) 155))
 (aG HZ)
 bE)
 (aG (aL (aZ M (o.mono 104) (aa (aZ i (o.mono 104) (aa (dv 0) 155)) (aa (aZ i (o.mono 104) (aa (dv 0) (aa (aZ L (o.mono 104) (aa (dv 1) (aa (dv 2) af))) af))) af)))))),fun u G h=>?_⟩)
 . obtain⟨n,m,w,s,p,rfl,_⟩:=h;rfl
 . obtain⟨n,m,w,s,p,rfl,r,t,J,I,c,q⟩:=h;have e:pW s:=r.lv.k.g.BM 102 (by have:=r.le t;lia);refine⟨_,rfl,_,rfl,s,rfl,e,_, .inl rfl,rfl,oK,_,rfl,?_⟩;show if (!inD (.str p) (di s))=true then _ else _
   rw[oQ,c];refine bo ⟨_,rfl,_,rfl,n,m,w,s,rfl,r,t,J,I,_,rfl,_,rfl,_,rfl,?_⟩;show cK [s.dt,.str p] fun d=>Rx [ez n w,d] fun x=>u4 [cV (C3 w n s),x] fun y=>G y;refine dU e c ?_;exact⟨n,m+1,w,fN s p,rfl,.step r c,t,J,I,_,_,rfl,q⟩
def Ja{f C D:Addr}{a z:FuncData}{u U:List Value}{newId v l B N jM:String}(F:eW K "cost" "cost" yU f a)(T:Txt mg)(Z:eP P w K mg base "steps_from" 1 ["stand"] (bT sR))(i:eP P w K mg base "still" 6 ["w","stand"] (bT Rx))(jc:eP P w K mg base "behind" 1 ["stand","word"] (bT cK))(rG:eP P w K mg base "lost" 1 ["before","after"] (bT u4))
  (O:LX.nL "NoStep" C D u newId mg base) (j:ExcBaseFacts v newId l U) (L:u.contains (.type v)=true) (M:ExcBaseFacts B N jM u) (R:aU P w K mg base dy 1 D z ["self","place"] (nZ K "place")) (b:Binds K z ["self","place"] []) (S:Ck K C "place"):
  aU P w K mg base (Ht P w) 7 f a ["w","stand","step"] (HN "place" C GC):=by
 refine Ym (k:=6) F DG (fun Y G Q h=>?_) (fun bC A X s H E o V=>⟨_,(MV (V9 (rP (dv 2) (aZ Z (o.mono 104) 155))
 (KU (y_raise O j L M R b S (o.mono 104) rfl (aa ay af) V))
 Q2)
 (KU (V8 (aL (aZ rG (o.mono 104) (aa (aZ i (o.mono 104) (aa (dv 0) 155)) (aa (aZ i (o.mono 104) (aa (dv 0) (aa (aZ jc (o.mono 104) (aa (dv 1) (aa (dv 2) af))) af))) af))))))),fun Y G Q h=>?_⟩)
 . obtain⟨n,m,w,s,p,rfl,_⟩:=h;rfl
 . obtain⟨n,m,w,s,p,rfl,r,t,J,I,q,qe⟩:=h;have e:pW s:=r.lv.k.g.BM 102 (by have:=r.le t;lia);refine⟨_,rfl,_,rfl,s,rfl,e,_, .inl rfl,rfl,oK,_,rfl,?_⟩;show if (!inD (.str p) (di s))=true then _ else _
   rw[oQ];cases c:jf s p with
   | false=>exact bJ ⟨_,rfl,qe c⟩
   | true=>
    refine bo ⟨_,rfl,_,rfl,n,m,w,s,rfl,r,t,J,I,_,rfl,_,rfl,_,rfl,?_⟩;show cK [s.dt,.str p] fun d=>Rx [ez n w,d] fun x=>u4 [cV (C3 w n s),x] fun y=>G y;refine dU e c ?_;exact⟨n,m+1,w,fN s p,rfl,.step r c,t,J,I,_,_,rfl,q c⟩
end
end bb
namespace L2
open PySem PySem.Spec PyProof.Rows
section
variable{X:Cx}
def Lh:R2:=fun x y H Q=> ∃p g i,x= .ref p/\y= .int i/\H p=some (.tup g)/\Q (.bl false) H
def IK(m:241 < cLine):jU X (compareOp .Eq) Lh:=by
 intro a s c H x y v u Q I e o h;obtain⟨p,g,z,rfl,rfl,d,U⟩:=h;cases e;obtain⟨t,rfl⟩:=o;obtain⟨w,F,b,_⟩:=I.tuple (dH.of d);exact SeqAt.RcAt.tuple_int z t b m _ _ _ _ ⟨.bl false,H,I,rfl,U⟩
end
end L2
namespace LD
open PySem PySem.Spec L2 LB Hq PyProof.Rows
section
variable{X:Cx}{a b e:Expr}{ta tb:bD}{pos p:Pos}
inductive G4(d1:Dt)(d2:Dt)(Q:Dt->Prop):Prop
 | mk (ds z:_) (h1:d1= .tup ds) (h2:d2= .int z) (h3:Q (.bl false))
def J3:yD Lh G4:=fun M H x y i B G Q C w h Y k=>(by obtain⟨t,z,j,r,q⟩:=Y;exact(by
 subst j;subst r;obtain⟨a,g,rfl,f,n,I⟩:=w.bU;exact⟨a,g,z,rfl,h.ofInt,f,k _ _ _ q 187 (.bl _)⟩))
def Ni(m:241 < cLine)(f:Ev X a ta)(c:Ev X b tb):Tv X (.Compare a [.Eq] [b] pos) (dT (pd G4 ta tb)):=jP (IK m) J3 f c (dI _)
def YT(t t':lF):lF:=fun i Q=>t i Q\/t' i Q
def Rb(h:Tv X e t)(h':Tv X e t'):Tv X e (YT t t'):=fun c s d H Q I w=>(by obtain⟨W,M,N,i,G,E,q,k⟩:=w;exact(q.elim (fun q=>h c s d H Q I ⟨W,M,N,i,G,E,q,k⟩) fun q=>h' c s d H Q I ⟨W,M,N,i,G,E,q,k⟩))
end
end LD
namespace L2
open PySem PySem.Spec PyProof.Rows
def F4{xs:Array Value}(R:l≠it)(n:Nat): ∀(i:Nat) (s:Shared) (Q:List Value->Shared->Prop),i+n<=xs.size->s.heap.IsList l xs->s.heap.IsListIter it l i->
  (∀r,r.IsListIter it l (i+n)->Heap.SameBut it s.heap r->Q ((xs.toList.drop i).take n) {s with heap:=r})->218 105 A (draw (.ref it) n) Q E s:=by
 induction n with
 | zero=>
  intro i s Q _ _ e k;have z:=k s.heap (by simpa using e) (.refl ..);rw[at0] at z;exact ab0 z
 | succ n ih=>
  intro i s Q b B e k;have S:i < xs.size:=by lia
  have f:xs[i]?=some xs[i]:=af8 S;show 218 _ _ (_ >>=_) _ _ _;apply aa8;apply wpAny_pyNext_list_item e B f;intro d C j;apply aa8;apply af6;apply ih (i+1) _ _ 102 (B.extBut j.extBut R) C;intro g o p;apply ab0;have z:=k g ((show i+1+n=i+(n+1) by lia)▸o) (j.trans p);rwa [show(xs.toList.drop i).take (n+1)=xs[i]::(xs.toList.drop (i+1)).take n by rw[aq5 (by simpa using S),List.take_succ_cons];simp] at z
def wB(C:A.handled=none)(z:s.heap.IsList l xs)(k: ∀r,Heap.ExtBut s.heap.objs.size s.heap r->Q xs.toList {s with heap:=r}):218 105 A (unpackItems (.ref l) xs.size none) Q E s:=by
 have R:l≠s.heap.objs.size:=by
  obtain⟨o,e,_⟩:=z;exact af1 (ac5 e)
 unfold unpackItems notIterableAtAll;apply aa8;apply aa8;apply an3 z.typeIs slot_list_iter.lookup;apply ab0;simp only [ag1,ak0];apply aa8;apply af6;apply an8 z;apply aa8;apply af6;apply F4 R xs.size 0 _ _ 102 (z.push _) ⟨_,ac3 _ rfl,rfl,rfl⟩;intro d B j;rw[show(xs.toList.drop 0).take xs.size=xs.toList by rw[at1,as4 111],if_neg 111];apply aa8;apply af6;apply wpAny_pyNext_list_end C B ((z.push _).extBut j.extBut R) 111;intro f m;simp only [Option.isSome_none,ag1,ak0];exact ab0 (k f fun b o v e=>m b o v (j.extBut b o v (ab1 _ e)))
def ym{x1}(B:A.handled=none)(z:s.heap.IsList l xs)(m:(222 elts env).length=xs.size)(V:(222 elts env).findIdx? (·.1)=none)(k: ∀r,Heap.ExtBut s.heap.objs.size s.heap r->218 105 A (assignInOrder ((222 elts env).map (·.2)) xs.toList) Q E {s with heap:=r}):218 105 A (assign (.Tuple elts x1 pos) env (.ref l)) Q E s:=by
 rw[arm_assign_Tuple];apply aa8;apply ah1;unfold unpack;rw[m,V];apply aa8;apply af6;exact wB B z k
section
variable{X:Cx}{pos:Pos}
def Tq(K:207)(n:Nat)(t:MI):TG:=fun v b H Q=> ∃a g,v= .ref a/\dr K H a g/\g.length=n/\t g b H Q
def IA(m:X.calm=true)(h:Uw X es t)(V:(222 es 216).length=n:=by rfl)(R:(222 es 216).findIdx? (·.1)=none:=by rfl):PG X (.Tuple es k pos) (Tq X.K n t):=by
 intro c s d H v u Q I r z;obtain⟨a,g,j,U,A,z⟩:=z;subst j;cases r;obtain⟨x,F,Z,f⟩:=I.list U;refine ym (I.ok.hd m) Z.isList (by simp [V,<-A,F.length]) R fun w i=>?_;have Y:Inv X c d H {s with heap:=w}:=I.kept (t':=235) fun b o e=>i b o (af1 (ac5 e)) e;exact h c _ d H g _ Q Y (by simpa using F) z
end
end L2
namespace LD
open PySem PySem.Spec L2 LB Hq PyProof.Rows
section
variable{X:Cx}{pos:Pos}
inductive tm(i:Nat)(j:Nat)(d:Dt)(δ:List Sl)(Q:List Sl->Prop):Prop
 | mk (d1 d2:_) (h1:d= .lst [d1,d2]) (h2:bP δ i) (h3:bP (δ.set i (.im d1)) j) (h4:Q ((δ.set i (.im d1)).set j (.im d2)))
def vn{i j:Nat}{K:207}: ∀v b H Q,lG (tm i j) v b H Q->Tq K 2 (eJ (bY i) (eJ (bY j) vp)) v b H Q:=fun v b H Q s=>(by obtain⟨W,M,N,C,d,G,E,r,⟨u,B,e,m,o,q⟩,k⟩:=s;exact(by
 subst e;obtain⟨a,w,rfl,f,n,I⟩:=r.eE;obtain⟨x,z,rfl,l,t⟩:=I.aK;obtain⟨y,A,rfl,g,p⟩:=t.aK;cases p.cD;exact⟨a,_,rfl,dr.of f,rfl,x,_,rfl,y,_,rfl,rfl,k _ _ _ q ((E.gn l m).gn g o) fun x h=>bV x (bV x h)⟩))
def JO(i j:Nat)(m:X.calm=true)(c:X.N.Nodup)(hi:X.N[i]?=some x:=by rfl)(g:X.N[j]?=some y:=by rfl)(h:Loc X.env.scope x:=by first | exact Or.inl rfl | exact Or.inr rfl)(l:Loc X.env.scope y:=by first | exact Or.inl rfl | exact Or.inr rfl)(k:X.fn x=true\/X.env.scope.names.lookup x=some .local:=by first | exact .inl rfl | exact .inr rfl | assumption)(f:X.fn y=true\/X.env.scope.names.lookup y=some .local:=by first | exact .inl rfl | exact .inr rfl | assumption)(V:(161).length=2:=by rfl)(R:(161).findIdx? (·.1)=none:=by rfl)(d:(161).map (·.2)=assign (.Name x px) X.env::(assignEach [.Name y py] X.env).map (·.2):=by rfl)(e:(assignEach [.Name y py] X.env).map (·.2)=assign (.Name y py) X.env::(assignEach [] X.env).map (·.2):=by rfl):
  Gv X (.Tuple [.Name x px,.Name y py] kk pos) (tm i j):=PG.imp (IA m (aH (az c hi h k) (aH (az c g l f) bO e) d) V R) vn
end
end LD
namespace bb
open PySem PySem.Spec L2 LB LD PyProof.Rows rH
def N9(h:oD a=oD b):a=b:=by
 cases a with
 | none=>cases b with
  | none=>rfl
  | some y=>cases h
 | some x=>cases b with
  | none=>cases h
  | some y=>
   injection h with h
   rw[Int.ofNat.inj h]
def Pz{s t:St}(h:s.dt=t.dt):s=t:=by
 obtain⟨p,b,o⟩:=s;obtain⟨u,j,a⟩:=t;injection h with h
 injection h with h1 h
 injection h with h2 h
 injection h with h3 _
 injection h1 with h1
 injection h2 with h2
 injection h3 with h3
 have k:p=u:=(au9 fun x y e=>by injection e with e;exact Int.ofNat.inj e).mp h1;have q:b=j:=Int.ofNat.inj h2;have z:o=a:=(au9 fun x y e=>N9 e).mp h3;rw[k,q,z]
def Tw(x:Wo):eq2 (cV x) (.int 0)=some (decide (x=some 0)):=by
 cases x with
 | none=>rfl
 | some v=>
  show some (decide (v=0))=_;congr 1
  exact am8.mpr ⟨fun h=>by rw[h],fun h=>215 h⟩
def qA(w:Nat->Nat->Wo)(n:Nat)(s:St):List Str:=(jK s).filter fun p=>decide (k6 w n s p=some 0)
def K8:DN:=fun t Q=> ∃(n m:Nat) (w:Nat->Nat->Wo) (s:St),t= [ez n w,s.dt]/\Rc n m s/\1<=n/\n<=5/\Sm w/\Q (.lst ((qA w n s).map .str))
def ip(w:Nat->Nat->Wo)(n:Nat)(s:St)(st:Str):Dt:=if jf s st=true then cV (k6 w n s st) else .tup [.str "step",.int 0]
def JY:DN:=fun t Q=> ∃(n m:Nat) (w:Nat->Nat->Wo) (s:St) (st:Str),t= [ez n w,s.dt,.str st]/\Rc n m s/\1<=n/\n<=5/\Sm w/\Q (ip w n s st)
def sP(w:Nat->Nat->Wo)(n:Nat)(s:St):Dt->Bool
 | .str st=>decide (k6 w n s st=some 0)
 | _=>false
open Classical in
def bF(w:Nat->Nat->Wo)(n:Nat)(d:Dt):Dt:=if h: ∃s:St,d=s.dt then NZ (dG w (cU n h.choose)) else .aO
def GK(s:St):bF w n s.dt=NZ (dG w (cU n s)):=by
 have h: ∃t:St,s.dt=t.dt:=⟨s,rfl⟩
 unfold bF;rw[dif_pos h,<-Pz h.choose_spec]
section
variable{P:214}{w:237}{K:207}{mg:Str->210 212}{base:Heap}
def IQ(F:eW K "sure_steps" "sure_steps" fq f fd)(T:Txt mg)(j:eP P w K mg base "steps_from" 1 ["stand"] (bT sR))(B:eP P w K mg base "cost" 7 ["w","stand","step"] (bT Ab)):aU P w K mg base dy 8 f fd ["w","stand"] (bT K8):=by
 refine mq F uu (fun u G h=>?_) (fun z A X s H E o=>⟨_,(aG (aL (Ov.ev (cm (N:= ["step","w","stand"]) (nt:=1) (js:= [0,1]) ⟨rfl,by decide+kernel,by decide,rfl,by decide+kernel,(by show∀x∈(_:List 131),x.2=224->(ae fq).names.lookup x.1=some .cell\/(ae fq).names.lookup x.1=some .free;decide+kernel)⟩ rfl (mi (aZ j (o.mono 104) 155)) (fun _ _ _ _ _=>az (i:=0) (show(["step","w","stand"]:List Str).Nodup by decide+kernel) rfl 103) bB aY (fun _ _ _ _ _=>zM (uk (aZ B (o.mono 104) (aa (dv 1) (aa (dv 2) 149))) ay)) (fun _ _ _ _ _=>(dv 0)))))),fun u G h=>?_⟩)
 . obtain⟨n,m,w,s,rfl,_⟩:=h;rfl
 . obtain⟨n,m,w,s,rfl,r,t,J,I,q⟩:=h;have e:pW s:=r.lv.k.g.BM 102 (by have:=r.le t;lia);refine⟨_,rfl,s,rfl,e,_,rfl,?_⟩;have v:((di s).filter (sP w n s)).map id=(qA w n s).map .str:=by
    rw[List.map_id,qI,List.filter_map];rfl
   refine⟨ad9 sQ 104,sP w n s,id,fun d D=>?_,?_⟩
   . rw[qI] at D;obtain⟨y,p,rfl⟩:=ad3.mp D;have c:=i7.mp p;exact⟨⟨_,rfl,rfl⟩,_,rfl,_,rfl,_,rfl,n,m,w,s,y,rfl,r,t,J,I,c,_,Tw _,_,rfl,rfl,fun _=>⟨_,rfl,rfl⟩⟩
   . rw[v];exact q
def N7(F:eW K "_law_due" "_law_due" uz f fd)(T:Txt mg)(C:eP P w K mg base "_law_may" 1 ["_law_stand"] (bT sR))(U:eP P w K mg base "_law_behind" 1 ["_law_stand","_law_word"] (bT cK))(v:eP P w K mg base "_law_best" 2 ["_law_w","_law_some"] (bT ZX))(u:eP P w K mg base "_law_ends" 2 ["_law_stand"] (bT Mf)):aU P w K mg base dy 3 f fd ["_law_w","_law_stand","_law_word"] (bT JY):=by
 refine mq F DE (fun y G h=>?_) (fun I A X s H E o=>⟨_,(ao (cZ (rP (dv 2) (aZ C (o.mono 104) 155))
 (aG (aL (ba (aa bM (aa ay af)))))
 bE)
 (ao (kd (Ov.ev (cm (N:= ["_law_one","_law_w"]) (nt:=1) (js:= [0]) ⟨rfl,by decide+kernel,by decide,rfl,by decide+kernel,(by show∀x∈(_:List 131),x.2=224->(ae uz).names.lookup x.1=some .cell\/(ae uz).names.lookup x.1=some .free;decide+kernel)⟩ rfl (Fj (ba (aa (dv 1) (aa (aZ U (o.mono 104) (aa (dv 1) (aa (dv 2) af))) af)))) (fun _ _ _ _ _=>az (i:=0) (show(["_law_one","_law_w"]:List Str).Nodup by decide+kernel) rfl 103) bB aY 141 (fun _ _ _ _ _=>(aZ v (o.mono 104) (aa (dv 1) (aa (aZ u (o.mono 104) 149) af)))))) (JO 3 4 rfl DE.nd))
 (aG (aL (fV (PW.pt (w_or (jk (dv 3)) (nQ (jk (dv 4))))) fT (gy (dD (dv 3) ay) (dD (dv 4) ay))))))),fun y G h=>?_⟩)
 . obtain⟨n,m,w,s,p,rfl,_⟩:=h;rfl
 . obtain⟨n,m,w,s,p,rfl,r,t,J,M,q⟩:=h;have l:pW s:=r.lv.k.g.BM 102 (by have:=r.le t;lia);refine⟨_,rfl,_,rfl,s,rfl,l,_, .inl rfl,rfl,oK,_,rfl,?_⟩;show if (!inD (.str p) (di s))=true then _ else _
   rw[oQ];unfold ip at q;cases c:jf s p with
   | false=>
    rw[c,if_neg 104] at q;exact bJ ⟨by show 2<=208;decide,q⟩
   | true=>
    rw[c,if_pos rfl] at q;refine bo ⟨_,rfl,_,rfl,_,rfl,?_⟩;dsimp only [vP];refine dU l c ?_;have B:Rc n (m+1) (fN s p):= .step r c;refine⟨by show 2<=208;decide,_,rfl,by show 2<=208;decide,fun _=>true,bF w n,fun d D=>?_,?_⟩
    . have z: ∀(S:St) (O:Nat),Rc n O S->d=S.dt-> ∃S:St,∃O,Rc n O S/\d=S.dt:=fun S O r e=>⟨S,O,r,e⟩
      obtain⟨S,O,Y,rfl⟩: ∃S:St,∃O,Rc n O S/\d=S.dt:=by
       rcases ad8.mp D with e | D
       . exact⟨s,m,r,e⟩
       . exact⟨fN s p,m+1,B,ab4.mp D⟩
      exact⟨⟨_,rfl,rfl⟩,rfl,fun _=>⟨_,rfl,_,rfl,n,O,S,rfl,Y,t,J,n,w,cU n S,rfl,fun h L=>gX L,by lia,(GK S).symm⟩⟩
    . rw[ag6.mpr fun _ _=>rfl];show tm 3 4 (.lst [bF w n s.dt,bF w n (fN s p).dt]) _ _;rw[GK,GK];unfold k6 C3 at q;generalize dG w (cU n s)=a at q ⊢;generalize dG w (cU n (fN s p))=b at q ⊢;refine⟨_,_,rfl,⟨_,rfl,rfl⟩,⟨_,rfl,rfl⟩,?_⟩;cases a with
      | none=>exact⟨_,rfl,true,rfl,bJ (bJ q)⟩
      | some a=>
       cases b with
       | none=>exact⟨_,rfl,false,rfl,bo ⟨_,rfl,true,rfl,bJ q⟩⟩
       | some b=>exact⟨_,rfl,false,rfl,bo ⟨_,rfl,false,rfl,bo ⟨_,rfl,_,_,_,.inr rfl,rfl,aS (j:=0) rfl,_,rfl,_,_,_,.inr rfl,rfl,aS (j:=0) rfl,_,_,rfl,rfl,q⟩⟩⟩
end
section
variable{P:214}{w:237}{K:207}{mg:Str->210 212}{base:Heap}
def IM(F:eW K "_law_told" "_law_told" wY f fd)(T:Txt mg)(UD:GZ P w K mg base "cost" 7 ["w","stand","step"] (HN "place" C GC))(g0:mg "HangError"=some (.ref C0))(gC:mg "NoStep"=some 186)(g1:mg "Apart"=some (.ref c1))(g2:mg "BadSheet"=some (.ref c2))(g3:mg "BadText"=some (.ref c3))(g4:mg "NoEntry"=some (.ref c4))(g5:mg "NoHanging"=some (.ref c5))(g6:mg "NoPlain"=some (.ref c6))(g7:mg "NoSum"=some (.ref c7))(J:LX.Fam K C C0 [c1,c2,c3,c4,c5,c6,c7])(XF:Qp K C "place"):aU P w K mg base dy 8 f fd ["_law_w","_law_stand","_law_word"] (bT JY):=by
 refine F.ok i4 (fun vs H Q E h=>?_) (fun bC A Z s H vs Q E hr h=>⟨_,bf (xf (om (aj sF (aj sF aM))) (cM rfl (aH (az (i:=3) i4.nd rfl (Or.inl rfl)) (aH (az (i:=4) i4.nd rfl (Or.inl rfl)) bO))))
  (bf (xc (iy:=3) (ie:=5) UD (hr.mono 104) (aj (pv 0) (aj (pv 1) (aj (pv 2) aM))) i4.nd g0 (fun X=>dQ (df (i:=4) i4.nd rfl (Or.inl rfl) (pv 5))))
  (bf (uI (xa (xi (pv 4))) (dQ (lV (pv 3))) ko)
  (bf (df (i:=6) i4.nd rfl (Or.inl rfl) (gr rA 158 T.nD boot_isinstance (aj (pv 4) (aj (@om _ _ _ _ _ (@aj _ _ _ _ _ (eV (v:= .ref c1) 158 g1 rfl) (@aj _ _ _ _ _ (eV (v:= .ref c2) 158 g2 rfl) (@aj _ _ _ _ _ (eV (v:= .ref c3) 158 g3 rfl) (@aj _ _ _ _ _ (eV (v:= .ref c4) 158 g4 rfl) (@aj _ _ _ _ _ (eV (v:= .ref c5) 158 g5 rfl) (@aj _ _ _ _ _ (eV (v:= .ref c6) 158 g6 rfl) (@aj _ _ _ _ _ (eV (v:= .ref c7) 158 g7 rfl) aM rfl) rfl) rfl) rfl) rfl) rfl) rfl)) aM))))
  (dQ (lV (uN (PW.pt (pw_and (w9 (gr rA 158 T.nD boot_isinstance (aj (pv 4) (aj (eV (v:= .ref C) 158 gC rfl) aM)))) (pw_and1 (D4 (w9 (pv 6)))))) (om (aj fZ (aj (El (pv 4) rfl) aM))) fZ)))))),?_⟩)
 . obtain⟨M,ds,Qd,N,r,⟨n,m,w,s,st,rfl,_⟩,_⟩:=h;rw[r.1];rfl
 . obtain⟨M,ds,Qd,N,r,⟨n,m,w,B,l,rfl,rc,n1,n5,S,q⟩,kk⟩:=h;obtain⟨x,xs,rfl,rx,r2⟩:=r.aK;obtain⟨y,ys,rfl,ry,r3⟩:=r2.aK;obtain⟨z,zs,rfl,rz,r4⟩:=r3.aK;cases r4.cD;refine⟨by show 2<=sizeLine;decide,fun U SR=>?_⟩;have j:aF H (upd H U (.tup [.aO, .aO])):=aF.new SR;refine⟨U,_,rfl,dH.of ag,rfl,_,_,rfl,_,_,rfl,rfl,?_⟩;have tr: ∀{t:Hp},aF (upd H U (.tup [.aO, .aO])) t->aF H t:=fun z b o e=>z _ _ (j _ _ e);refine⟨_,rfl,_,rfl,_,rfl,M,[ez n w,B.dt, .str l],fun d=>d=ip w n B l,fun p=>Dt.tup [.str "step", .int p]=ip w n B l,(fun a h=>let ⟨o,e,n⟩:=N a h;⟨o,j _ _ e,n⟩), .cons (rx.same j) (.cons (ry.same j) (.one (rz.same j))),⟨n,m,w,B,l,rfl,rc,n1,n5,S,fun c=>by unfold ip;rw[if_pos c],fun c=>by unfold ip;rw[c];rfl⟩,fun d t v' hd L rv=>?_,fun p D t hp L I=>?_⟩
   . subst hd;exact⟨_,rfl,_,rfl,bJ ⟨_,rfl,kk _ _ _ q (tr L) rv⟩⟩
   . have sm:=tr L;refine⟨D,C,rfl,rfl,J.up,fun X hn=>?_⟩;have V:D≠X:=fun z=>by rw[z,hn] at I;cases I
     have s1:aF H (upd t X (.ext (LX.o6 X C D))):=fun b o e=>by
      have:=sm b o e;rw[ah (fun z=>by rw[z,hn] at this;cases this)];exact this
     refine⟨_,rfl,?_⟩;refine⟨_,rfl,_,rfl,bo ?_⟩;refine⟨_,rfl,by show 7<=208;decide,fun g G=>?_⟩;have O:X≠g:=fun z=>by rw[<-z,ag] at G;cases G
     have R:D≠g:=fun z=>by rw[<-z,ah V,I] at G;cases G
     have u:upd (upd t X (.ext (LX.o6 X C D))) g 159 X=some (.ext (LX.o6 X C D)):=by rw[ah O,ag]
     have e2:upd (upd t X (.ext (LX.o6 X C D))) g 159 D=some (.xd [("place",.int p)]):=by rw[ah R,ah V];exact I
     have s2:aF H (upd (upd t X (.ext (LX.o6 X C D))) g 159):=fun b o e=>by
      have:=s1 b o e;rw[ah (fun z=>by rw[z,G] at this;cases this)];exact this
     refine⟨X,C,D,_,false,rfl,u,J.k,.inr (.inr ⟨g,_,rfl,ag,J.no⟩),?_⟩;refine⟨_,rfl,X,C,D,_,true,rfl,u,J.k,.inl ⟨C,rfl,E8⟩,_,rfl,bJ ?_⟩;refine⟨_,rfl,_,rfl,bJ ⟨_,rfl,X,C,D,_,.int p,rfl,u,e2,rfl,XF,?_⟩⟩;refine⟨by show 2<=208;decide,fun p2 Y=>?_⟩;have s3:aF H (upd (upd (upd t X (.ext (LX.o6 X C D))) g 159) p2 (.tup [.str "step",.int p])):=fun b o e=>aF.new Y b o (s2 b o e);rw[<-hp] at q;exact kk _ _ _ q s3 (Rep.g9 ag (fun mm=>let ⟨o,e,_⟩:=N p2 mm;by rw[s2 _ _ e] at Y;cases Y) (.cons (.str _) (.one (.int _))))
end
end bb
namespace bb
open PySem PySem.Spec L2 LB LD PyProof.Rows
def Jj{j:Nat}(h:(di s)[j]?=some d): ∃w,d= .str w/\jf s w=true:=by
 have m:=ae4 h;have: ∃w,d= .str w:=by
  unfold di at m;rcases ad2.mp m with m | m
  . rcases ad2.mp m with m | m
    . cases c:aT s <;> rw[c] at m <;> simp at m;exact⟨_,m⟩
    . cases c:aP s <;> rw[c] at m <;> simp at m;exact⟨_,m⟩
  . cases c:aN s <;> rw[c] at m <;> simp at m;exact⟨_,m⟩
 obtain⟨w,rfl⟩:=this;refine⟨w,rfl,?_⟩;rw[<-oQ];exact au0.mpr ⟨_,m,beq_self_eq_true _⟩
def EY{l:List Dt}(h:0 < l.length):jS l (-1)=some (l[l.length - 1]' 102):=by
 unfold jS zw;rw[if_neg 104,if_pos 102];show l[_]?=_;rw[show(-1+(l.length:Int)).toNat=l.length - 1 by lia];exact ab2 _
def xG{l:List Dt}:jS (l++ [x]) (-1)=some x:=by
 rw[EY (by rw[ac6];show 0 < l.length+1;lia)];congr 1
 have:(l++ [x]).length - 1=l.length:=by rw[ac6];rfl
 simp [this]
def TkI(n m:Nat)(t:Int)(i:Nat)(j:List Sl):Prop:= ∃(s:St) (ws:List Str) (t':Int) (s5 s6:Sl),j= [.bx t',.im (nI n),.im (nI m),.im s.dt,.ow (ws.map .str),s5,s6]/\s5.cc=false/\s6.cc=false/\(∃k,Rc n k s)/\ws.length<=i/\t'<=t+1+(i:Int)
def Dc:DB:=fun t u Q=> ∃n m:Nat,u= [nI n,nI m]/\1<=n/\n<=12/\m<=40/\t < 900000/\ ∀(s:St) (k:Nat) (ws:List Str) (t':Int),Rc n k s->t'<=t+45->Q (.tup [s.dt,.lst (ws.map .str)]) t'
section
variable{P:214}{w:237}{K:207}{mg:Str->210 212}{base:Heap}
def EC(F:eW K "_law_taken" "_law_taken" sh f fd)(T:Txt mg)(M:eP P w K mg base "_law_take" 1 ["_law_state","_law_many"] (Cq uj))(vZ:eP P w K mg base "_law_may" 1 ["_law_stand"] (bT sR))(S:eP P w K mg base "_law_behind" 1 ["_law_stand","_law_word"] (bT cK)):aU P w K mg base dy 2 f fd ["_law_state","_law_many","_law_most"] (Cq Dc):=by
 refine fnB F iE (fun t D N h=>?_) (fun bC A X s H E p=>⟨_,(ao (DJ 3 4 rfl iE.nd (O6 (ba (aa (ba af) (aa ay (aa (PH (ba (aa fT af)) (dv 1)) af)))) (Th (ky af) Fz)))
 (ao (jm rfl (mf T.je (aa (hV 0 M (p.mono 104) (pv 0) (aa (dY (dv 2) ay) af)) af)) (gR 5 iE.nd)
 (ao (cG 6 iE.nd (aZ vZ (p.mono 104) (aa (dv 3) af)))
 (aG (cZ (Dg p.rN (dv 6))
 (ao (eA (cH 4 (pv 4) (aa (dD (dv 6) (hV 0 M (p.mono 104) (pv 0) (aa (cQ T.len (aa (dv 6) af)) af))) af)))
 (aG (cG 3 iE.nd (aZ S (p.mono 104) (aa (dv 3) (aa (Gi 4 (pv 4) (ju ay)) af))))))
 bE))) ak8)
 (aG (kc 4 (aL (ba (aa (dv 3) (aa (dv 4) af)))))))),fun t D N h=>?_⟩)
 . obtain⟨n,m,rfl,_⟩:=h;rfl
 . obtain⟨n,m,rfl,R,U,Q,ht,q⟩:=h;refine⟨by show 0<=sizeLine;decide,by show 1<=sizeLine;decide,_,rfl,[.aO],_,rfl,rfl,(by intro z;cases z),by lia,by lia,?_,by show 3<=sizeLine;decide,by show 0<=sizeLine;decide,_,_,rfl,⟨_,rfl,rfl⟩,⟨_,rfl,rfl⟩,?_⟩
   . show 1*((n:Int)).toNat<=208;exact ad9 (show 1*((n:Int)).toNat<=100 by lia) 104
   rw[BL];dsimp only;refine⟨⟨_,rfl⟩,_,rfl,_,_,rfl,rfl,_,rfl,_,rfl,by lia,by lia,by lia,fun v v0 v1=>⟨_,rfl,by lia,by lia,?_⟩⟩;refine dR (TkI n m t) ⟨first n,[],t+1,.no,.no,rfl,rfl,rfl,⟨0,.zero⟩,ab6 _,by lia⟩ (fun i d δ O J L B LP=>?_) (fun δ J=>?_)
   . obtain⟨s,I,o,Z,s6,rfl,u,l,⟨k,G⟩,Y,r⟩:=J;have il:i < 41:=by
      have:=(ac1.mp O).1;rw[aa9,af0] at this;lia
     have x:pW s:=G.lv.k.g.BM U (by have:=G.le R;lia);refine⟨⟨_,rfl,u⟩,_,rfl,s,rfl,x,⟨_,rfl,l⟩,_,rfl,_,rfl,_,rfl,?_⟩;by_cases c:di s= []
     . rw[c];exact bo (B _ ⟨s,I,o,.im d,.im (.lst []),rfl,rfl,rfl,⟨k,G⟩,Nat.le_succ_of_le Y,by lia⟩)
     . have l0:0 < (di s).length:=List.length_pos_iff.mpr c;have l3:=sQ (s:=s);refine ic (by show(!(di s).isEmpty)=true;cases e:di s with | nil=>exact absurd e c | cons a b=>rfl) ?_;refine⟨⟨_,rfl⟩,_,rfl,⟨_,rfl⟩,_,rfl,_, .inl rfl,_,rfl,_,rfl,by lia,by lia,by lia,fun v v0 v1=>?_⟩;obtain⟨v,rfl⟩: ∃z:Nat,v=(z:Int):=⟨v.toNat,by lia⟩
       have V:v < (di s).length:=by lia
       obtain⟨j,e,y⟩:=Jj (ab2 V);refine⟨_,_,_,.inl rfl,rfl,aS ((ab2 V).trans (ah4 some e)),_,_,rfl,rfl,?_,?_⟩
       . rw[aa9];exact ae2 (show I.length < 100 by lia) 104
       refine⟨_,rfl,⟨_,rfl⟩,_,rfl,_,_,_,rfl,rfl,xG,?_⟩;show cK [s.dt,.str j] fun C=>bP [.bx (o+1),.im (nI n),.im (nI m),.im s.dt,.ow (I.map .str++ [.str j]),.im d,.im (.lst (di s))] 3/\L.nx [.bx (o+1),.im (nI n),.im (nI m),.im C,.ow (I.map .str++ [.str j]),.im d,.im (.lst (di s))];refine dU x y ⟨⟨_,rfl,rfl⟩,B _ ⟨fN s j,I++ [j],o+1,.im d,.im (.lst (di s)),?_,rfl,rfl,⟨_,G.step y⟩,by rw[ac6];show I.length+1<=_;lia,by lia⟩⟩;rw[ad1];rfl
   . obtain⟨s,I,o,Z,s6,rfl,u,l,⟨k,G⟩,Y,r⟩:=J;rw[aa9,af0] at Y r;exact⟨_,rfl,_,rfl,_,rfl,by show 2<=208;decide,_,rfl,q s k I o G 102⟩
end
end bb
namespace bb
open PySem PySem.Spec L2 LB LD PyProof.Rows rH
def Lc(r:List Wo):Dt:= .tup (r.map cV)
def ROk(n:Nat)(r:List Wo):Prop:=r.length=n+1/\ ∀v,some v∈r->v.natAbs<=2000000000
def QT(n:Nat)(T:List (List Wo)):Prop:= ∀j r,T[j]?=some r->ROk n r/\r[j+1]?=some none
def GQ(n:Nat)(w:Nat->Nat->Wo):Prop:=(∀i o v,w i o=some v->v.natAbs<=2000000000)/\ ∀i,w i i=none
def Dd:DB:=fun t u Q=> ∃n:Nat,u= [xI n]/\1<=n/\n<=12/\t+700<=1000000/\ ∀(w:Nat->Nat->Wo) (t':Int),t'<=t+700->GQ n w->Q (ez n w) t'
def AI(T:List (List Wo))(i o:Nat):Wo:=match i with
 | 0=>none
 | k+1=>(((T[k]?).getD [])[o]?).join
def Nh{T:List (List Wo)}(l:T.length=n)(h:QT n T): .tup (T.map Lc)=ez n (AI T):=by
 unfold ez;congr 1
 refine al4 fun j=>?_;rw[ab8,ab8];by_cases c:j < n
 . have U:j < T.length:=by lia
   rw[am4 c,ab2 U];show some (Lc T[j])=some (eU n (AI T) (1+1*j));congr 1
   unfold Lc eU;congr 1
   have p:=(h j _ (ab2 U)).1;refine al4 fun o=>?_;rw[ab8,ab8];by_cases d:o < n+1
   . have m:o < T[j].length:=by rw[p.1];exact d
     rw[ak2 d,ab2 m];show some (cV (T[j])[o])=some (cV (AI T (1+1*j) o));rw[show 1+1*j=j+1 by lia];show _=some (cV (((T[j]?).getD [])[o]?).join);rw[ab2 U];show _=some (cV ((T[j])[o]?).join);rw[ab2 m];rfl
   . rw[aj1 (by rw[p.1];lia),aj1 (by rw[af0];lia)];rfl
 . rw[aj1 102,aj1 (by rw[ae7];lia)];rfl
def yN(h:AI T i o=some v): ∃k r,i=k+1/\T[k]?=some r/\r[o]?=some (some v):=by
 cases i with
 | zero=>cases h
 | succ k=>
  have h:(((T[k]?).getD [])[o]?).join=some v:=h;cases e:T[k]? with
  | none=>rw[e] at h;cases h
  | some r=>
   rw[e] at h;exact⟨k,r,rfl,e,by
    cases p:r[o]? with
    | none=>rw[show(some r).getD []=r from rfl,p] at h;cases h
    | some x=>rw[show(some r).getD []=r from rfl,p] at h;exact ah4 some h⟩
def HI(h:QT n T):GQ n (AI T):=by
 refine⟨fun i o v e=>?_,fun i=>?_⟩
 . obtain⟨k,r,rfl,j,p⟩:=yN e;exact(h k r j).1.2 v (ae4 p)
 . cases e:AI T i i with
   | none=>rfl
   | some v=>
    obtain⟨k,r,rfl,j,p⟩:=yN e;rw[(h k r j).2] at p;cases p
def QT.snoc(h:QT n T)(o:ROk n r)(y:r[T.length+1]?=some none):QT n (T++ [r]):=fun j X e=>by
 by_cases c:j < T.length
 . rw[ae9 c] at e;exact h j X e
 . rw[af4 102] at e;have:j - T.length=0:=by
    cases z:j - T.length with
    | zero=>rfl
    | succ m=>rw[z] at e;simp at e
   rw[this] at e;cases e;have:j=T.length:=by lia
   subst this;exact⟨o,y⟩
def getNat{r:Int}{m:Nat}(h:0<=r)(e:r < (m:Int)): ∃k:Nat,r=(k:Int)/\k < m:=⟨r.toNat,by lia,by lia⟩
def WK:((219 m).map fun k=>Dt.int (0+(k:Nat)))=(219 m).map xI:=by
 refine ae0 fun k _=>?_;show Dt.int _=Dt.int _;congr 1
 lia
def TbO(n y b:Nat)(t:Int)(i:Nat)(j:List Sl):Prop:= ∃(T:List (List Wo)) (t':Int) (s5 s6 s7 s8:Sl),j= [.bx t',.im (xI n),.im (xI y),.im (xI b),.ow (T.map Lc),s5,s6,s7,s8]/\s5.cc=false/\s6.cc=false/\s7.cc=false/\s8.cc=false/\T.length=i/\QT n T/\t'<=t+2+52*i
def TbI(n y b:Nat)(T:List (List Wo))(f:Nat)(t:Int)(k:Nat)(i:List Sl):Prop:= ∃(r:List Wo) (t':Int) (s7 s8:Sl),i= [.bx t',.im (xI n),.im (xI y),.im (xI b),.ow (T.map Lc),.im (xI f),.ow (r.map cV),s7,s8]/\s7.cc=false/\s8.cc=false/\r.length=k/\(∀v,some v∈r->v.natAbs<=2000000000)/\(f < k->r[f]?=some none)/\t'<=t+4*k
section
variable{P:214}{w:237}{K:207}{mg:Str->210 212}{base:Heap}
def EE(F:eW K "_law_table" "_law_table" sj f fd)(T:Txt mg)(J:eP P w K mg base "_law_take" 1 ["_law_state","_law_many"] (Cq uj)):aU P w K mg base dy 2 f fd ["_law_state","_law_many"] (Cq Dd):=by
 refine fnB F fm (fun t ds Qd h=>?_) (fun bC A outer s H E o=>⟨_,(ao (DJ 2 3 rfl fm.nd (O6 (hV 0 J (o.mono 104) (pv 0) (aa ay af)) (O6 (dD (fU (aa ay (aa ay (aa ay (aa ay af))))) (hV 0 J (o.mono 104) (pv 0) (aa ay af))) Fz)))
 (ao (iG 4 fm.nd (ky af))
 (ao (jm rfl (iT T.je (aa ay (aa (dY (dv 1) ay) af))) (gR 5 fm.nd)
 (ao (iG 6 fm.nd (ky af))
 (ao (jm rfl (mf T.je (aa (dY (dv 1) ay) af)) (gR 7 fm.nd)
 (ao (iG 8 fm.nd (ky (aa (hV 0 J (o.mono 104) (pv 0) (aa ay af)) (aa (gy (hV 0 J (o.mono 104) (pv 0) (aa ay af)) ay) (aa (gy (hV 0 J (o.mono 104) (pv 0) (aa (dY (zY ay (Ml ay ay)) ay) af)) (Ml ay ay)) (aa ay af))))))
 (aG (eA (cH 6 (pv 6) (aa (fV (PW.pt (w_or (uk (dv 7) (dv 5)) (nQ (uk (hV 0 J (o.mono 104) (pv 0) (aa (dv 3) af)) ay)))) fT (Gi 8 (pv 8) (dv 2))) af))))) ak8)
 (aG (eA (cH 4 (pv 4) (aa (Gg 6 T.tup (pv 6)) af)))))) ak8)
 (aG (aL (Gg 4 T.tup (pv 4))))))),fun t ds Qd h=>?_⟩)
 . obtain⟨n,rfl,_⟩:=h;rfl
 . obtain⟨n,rfl,n1,pX,ht,q⟩:=h;refine⟨⟨_,rfl⟩,_,rfl,_,rfl,by lia,by decide,by decide,fun y y0 y1=>?_⟩;obtain⟨y,rfl,hy⟩:=getNat (m:=4) y0 y1;refine⟨by show 4<=sizeLine;decide,⟨_,rfl⟩,_,rfl,_,rfl,by lia,by decide,by decide,fun r h0 h1=>?_⟩;obtain⟨z,rfl,hz⟩:=getNat (m:=4) h0 h1;obtain⟨b,em,b1,b9⟩: ∃m:Nat,[Dt.int 9,Dt.int 9,Dt.int 4,Dt.int 2][z]?=some (xI m)/\1<=m/\m<=9:=by
    match z,hz with
    | 0,_=>exact⟨9,rfl,by decide,by decide⟩
    | 1,_=>exact⟨9,rfl,by decide,by decide⟩
    | 2,_=>exact⟨4,rfl,by decide,by decide⟩
    | 3,_=>exact⟨2,rfl,by decide,by decide⟩
   refine⟨_,_,xI b,.inl rfl,rfl,aS em,_,_,rfl,⟨_,rfl,rfl⟩,⟨_,rfl,rfl⟩,?_⟩;dsimp only;refine⟨by show 0<=208;decide,⟨_,rfl,rfl⟩,?_⟩;refine⟨_,rfl,_,_,rfl,rfl,1,(n:Int)+1,rfl,⟨by decide,by decide,by lia,by lia⟩,?_⟩;rw[show((n:Int)+1 - 1).toNat=n by lia,RG];refine dR (TbO n y b t) ⟨[],_,.no,.no,.no,.no,rfl,rfl,rfl,rfl,rfl,rfl,fun j r o=>by simp at o,by lia⟩ (fun i d G hi I Δ' wc LP=>?_) (fun G I=>?_)
   . obtain⟨l,X,s5,s6,M,N,rfl,b5,b6,B,C,u,Z,SN⟩:=I;rw[ab8] at hi;obtain⟨wd,a,rfl⟩:=ak1.mp hi;have il:i < n:=by have:=(ac1.mp a).1;simpa using this
     have ew:wd=i+1:=by
      rw[am4 il] at a;have:=215 a;lia
     subst ew;refine⟨⟨_,rfl,b5⟩,?_⟩;refine⟨by show 0<=208;decide,⟨_,rfl,b6⟩,?_⟩;refine⟨_,rfl,_,_,rfl,rfl,_,rfl,by lia,by lia,?_⟩;rw[show(175).toNat=n+1 by lia,WK];refine dR (TbI n y b l (i+1) X) ⟨[],_,M,N,rfl,B,C,rfl,fun v hv=>213 hv ab3,fun z=>213 z (Nat.not_lt_zero _),by lia⟩ (fun j d G hj I Δ2 LR Bw=>?_) (fun G I=>?_)
     . obtain⟨r,L,M,N,rfl,B,C,R,rb,V,SM⟩:=I;rw[ab8] at hj;obtain⟨Q,Xx,rfl⟩:=ak1.mp hj;have jl:j < n+1:=by have:=(ac1.mp Xx).1;rw[af0] at this;exact this
       have eo:Q=j:=by
        rw[ak2 jl] at Xx;exact(215 Xx).symm
       subst eo;refine⟨⟨_,rfl,B⟩,?_⟩;dsimp only;refine rY (fun G=> ∃(O U S k:Int),O.natAbs<=2000000000/\U.natAbs<=2000000000/\S.natAbs<=2000000000/\k<=L+3/\G= [.bx k,.im (xI n),.im (xI y),.im (xI b),.ow (l.map Lc),.im (xI (i+1)),.ow (r.map cV),.im (xI Q),.ow [.int O,.int U,.int S,.int 0]]) (fun Δ3 hn3 _=>?_) ?_
       . refine⟨⟨_,rfl⟩,_,rfl,_,rfl,by lia,by decide,by decide,fun r1 a1 a2=>⟨⟨_,rfl⟩,_,rfl,_,rfl,by lia,by decide,by decide,fun r2 c1 c2=>⟨_,_,rfl,rfl,?_⟩⟩⟩;have c9:Cn 10 9:=by unfold Cn;decide
         refine⟨⟨_,rfl⟩,_,_,rfl,rfl,c9,_,_,rfl,rfl,(by unfold yE;decide),_,_,rfl,rfl,_,rfl,_,rfl,by lia,by decide,by decide,fun r3 d1 d2=>⟨_,_,rfl,rfl,c9,_,_,rfl,rfl,by show 4<=208;decide,⟨_,rfl,C⟩,hn3 _ ⟨r1,r2 - 9,r3 - 10^9,L+3,by lia,by lia,?_,ak7 _,?_⟩⟩⟩
         . have e:(2*10^Int.toNat 9+1:Int)=2000000001:=by decide
           rw[e] at d2;have e2:(10^9:Int)=1000000000:=by decide
           rw[e2];lia
         . rw[show L+1+1+1=L+3 by lia];rfl
       rintro G ⟨O,U,S,k,l1,l2,l3,l4,rfl⟩
       have p: ∀(x:Wo) (Y:Int),Y<=k+1->(∀v,x=some v->v.natAbs<=2000000000)->(Q=i+1->x=none)->Δ2.nx [.bx Y, .im (xI n), .im (xI y), .im (xI b), .ow (l.map Lc), .im (xI (i+1)), .ow (r.map cV++ [cV x]), .im (xI Q), .ow [.int O, .int U, .int S, .int 0]]:=fun x Y h4 hx hn=>LR _ ⟨r++ [x],Y,_,_,by rw[ad1];rfl,rfl,rfl,by rw[ac6,R];rfl,fun v hv=>(ad2.mp hv).elim (rb v) fun z=>hx v (ab4.mp z).symm,fun z=>by
         by_cases c:i+1 < Q
         . rw[ae9 (by rw[R];exact c)];exact V c
         . have e:Q=i+1:=by lia
           rw[af4 102,R,e,Nat.sub_self,hn e];rfl,by lia⟩
       have D:(r.map cV).length < sizeLine:=by rw[aa9];exact ae2 (show r.length < 100 by lia) 104
       refine⟨⟨_,rfl⟩,_,rfl,_,rfl,_,Pq,_,rfl,?_⟩;by_cases c:Q=i+1
       . exact ic (af3 c) (bJ ⟨_,_,rfl,rfl,D,p none k 102 (fun _ z=>nomatch z) fun _=>rfl⟩)
       . refine gQ (fun z=>c (ae1 z)) ⟨⟨_,rfl⟩,_,rfl,_,rfl,_,rfl,by lia,by lia,by lia,fun v v0 v1=>203⟩;by_cases g:v=0
         . exact ic (af3 g) ⟨_,_,rfl,rfl,D,p none (k+1) 102 (fun _ z=>nomatch z) fun _=>rfl⟩
         . refine gQ (fun z=>g (ae1 z)) ⟨⟨_,rfl⟩,_,rfl,?_⟩;match y,hy with
           | 0,_=>exact⟨_,_,_,rfl,rfl,aS (j:=0) rfl,_,_,rfl,rfl,D,p (some O) (k+1) 102 (fun _ z=>by cases z;exact l1) fun z=>213 z c⟩
           | 1,_=>exact⟨_,_,_,rfl,rfl,aS (j:=1) rfl,_,_,rfl,rfl,D,p (some U) (k+1) 102 (fun _ z=>by cases z;exact l2) fun z=>213 z c⟩
           | 2,_=>exact⟨_,_,_,rfl,rfl,aS (j:=2) rfl,_,_,rfl,rfl,D,p (some S) (k+1) 102 (fun _ z=>by cases z;exact l3) fun z=>213 z c⟩
           | 3,_=>exact⟨_,_,_,rfl,rfl,aS (j:=3) rfl,_,_,rfl,rfl,D,p (some 0) (k+1) 102 (fun _ z=>by cases z;decide) fun z=>213 z c⟩
     . obtain⟨r,L,M,N,rfl,B,C,R,rb,V,SM⟩:=I;rw[aa9,af0] at V SM R;refine⟨⟨_,rfl⟩,_,rfl,_,_,rfl,rfl,?_,wc _ ⟨l++ [r],L, .im (xI (i+1)), .ow (r.map cV),M,N,?_,rfl,rfl,B,C,by rw[ac6,u];rfl,Z.snoc ⟨R,rb⟩ (by rw[u];exact V 102),by lia⟩⟩
       . rw[aa9,u];exact ae2 (show i < 100 by lia) 104
       . rw[ad1];rfl
   . obtain⟨l,X,s5,s6,M,N,rfl,b5,b6,B,C,u,Z,SN⟩:=I;rw[aa9,ae7] at u SN;refine 203;show Qd (.tup (l.map Lc)) X;rw[Nh u Z];exact q _ X 102 (HI Z)
end
end bb
namespace bb
open PySem PySem.Spec L2 LB LD PyProof.Rows
def yT(p:Dt->Prop):DN:=fun t Q=> ∃d,t= [d,d]/\p d/\Q (.bl true)
end bb
namespace bb
open PySem PySem.Spec L2 LB LD PyProof.Rows rH
def P1(d:Dt):Prop:=d= .aO\/(∃i:Int,d= .int i)\/ ∃x:Str,d= .str x
def Ho(p:Dt->Prop)(d:Dt):Prop:=P1 d\/ ∃P:List Dt,(d= .lst P\/d= .tup P)/\P.length<=60/\ ∀e∈P,p e
def Tz:eq2 (.str x) (.str x)=some true:=by
 show some (decide (x=x))=some true;rw[af3 rfl]
def wM(h:GQ n w):Sm w:=fun i o v e=>by have:=h.1 i o v e;lia
def RW(x:Wo):P1 (cV x):=by
 cases x with
 | none=>exact .inl rfl
 | some v=>exact .inr (.inl ⟨v,rfl⟩)
def Ts(x:Wo):yA (cV x):=by
 cases x with
 | none=>exact .aO
 | some v=>exact .int v
def Pf(n:Nat)(w:Nat->Nat->Wo):yA (ez n w):= .tup fun d D=>by
 obtain⟨i,_,rfl⟩:=ad3.mp D;refine .tup fun e y=>?_;obtain⟨o,_,rfl⟩:=ad3.mp y;exact Ts _
def Tt(s:St):yA s.dt:= .tup (aq2.mpr ⟨.tup fun d D=>by obtain⟨x,_,rfl⟩:=ad3.mp D;exact .int _,aq2.mpr ⟨.int _,aq2.mpr ⟨.tup fun d D=>by
 obtain⟨x,_,rfl⟩:=ad3.mp D;cases x with
 | none=>exact .aO
 | some x=>exact .int _,fun e y=>213 y ab3⟩⟩⟩)
def M7(w:Nat->Nat->Wo)(n:Nat)(s:St)(st:Str):Ho P1 (ip w n s st):=by
 unfold ip;split
 . exact .inl (RW _)
 . exact .inr ⟨_,.inr rfl,by show 2<=60;decide,aq2.mpr ⟨.inr (.inr ⟨_,rfl⟩),aq2.mpr ⟨.inr 196,fun e y=>213 y ab3⟩⟩⟩
def IS(s:St):jf s "read"=aT s:=by unfold jf;cases aT s <;> cases aP s <;> cases aN s <;> decide
def IT(s:St):jf s "next"=aP s:=by unfold jf;cases aT s <;> cases aP s <;> cases aN s <;> decide
def EB(s:St):jf s "under"=aN s:=by unfold jf;cases aT s <;> cases aP s <;> cases aN s <;> decide
def three(s:St)(p:Str->Bool):(["read","next","under"]:List Str).filter (fun q=>jf s q && p q)=(jK s).filter p:=by
 unfold jK;rw[List.filter_cons,List.filter_cons,List.filter_cons,IS,IT,EB];cases aT s <;> cases aP s <;> cases aN s <;> simp [List.filter_cons]
def dF(w:Nat->Nat->Wo)(n:Nat)(s:St):Dt->Dt
 | .str st=>ip w n s st
 | d=>d
def zP:Dt->Bool
 | .tup [_,.int i]=>decide (i=0)
 | _=>false
def zF:Dt->Dt
 | .tup [a,_]=>a
 | d=>d
def CP(w:Nat->Nat->Wo)(n:Nat)(s:St)(st:Str):zP (.tup [.str st,ip w n s st])=(jf s st && decide (k6 w n s st=some 0)):=by
 unfold ip;cases c:jf s st with
 | false=>rfl
 | true=>
  rw[if_pos rfl,Bool.true_and];cases k6 w n s st with
  | none=>rfl
  | some v=>
   show decide (v=0)=_;exact am8.mpr ⟨fun h=>by rw[h],fun h=>215 h⟩
def Dn(w:Nat->Nat->Wo)(n:Nat)(s:St)(od:Str):((cX [.str "read",.str "next",.str "under"] (([Dt.str "read",.str "next",.str "under",.str od]:List Dt).map (dF w n s))).filter zP).map zF=(qA w n s).map .str:=by
 have e:cX [.str "read",.str "next",.str "under"] (([Dt.str "read",.str "next",.str "under",.str od]:List Dt).map (dF w n s))=(["read","next","under"]:List Str).map fun p=> .tup [.str p,ip w n s p]:=rfl;rw[e,List.filter_map,ae6,show zF ∘ (fun p=>Dt.tup [.str p,ip w n s p])=Dt.str from rfl];unfold qA;rw[<-three s];congr 1
 exact List.filter_congr fun p _=>CP w n s p
inductive Al:Sl->Prop
 | no:Al .no
 | im (d:Dt):Al (.im d)
def Al.nb(h:Al s):s.cc=false:=by cases h <;> rfl
inductive Pl:Sl->Prop
 | no:Pl .no
 | im (d:Dt):Pl (.im d)
 | ow (ds:List Dt):Pl (.ow ds)
def Pl.nb(h:Pl s):s.cc=false:=by cases h <;> rfl
inductive Zo(i:Nat)(δ:List Sl):Prop
 | mk (t:Int) (s2 s3 s4 s5 s6 s7 s8 s9 ir:Sl) (e:δ= [.no,.bx t,s2,s3,s4,s5,s6,s7,s8,s9,ir]) (ht:t<=1500*(i:Int)) (b2:Al s2) (b3:Al s3) (b4:Al s4) (b5:Al s5) (b6:Al s6) (b7:Al s7) (b8:Al s8) (b9:Al s9) (CF:Pl ir)
def Ou: ∀j s,j≠10-> [Sl.no,.bx t,.im d2,.im d3,.im d4,.im d5,.im d6,.im d7,.im d8,.im d9,x][j]?=some s->s= .no\/(∃d,s= .im d)\/ ∃t,s= .bx t:=fun j s h e=>by
 match j with
 | 0=>cases e;exact .inl rfl
 | 1=>cases e;exact .inr (.inr ⟨_,rfl⟩)
 | 2=>cases e;exact .inr 196
 | 3=>cases e;exact .inr 196
 | 4=>cases e;exact .inr 196
 | 5=>cases e;exact .inr 196
 | 6=>cases e;exact .inr 196
 | 7=>cases e;exact .inr 196
 | 8=>cases e;exact .inr 196
 | 9=>cases e;exact .inr 196
 | 10=>exact 213 rfl h
 | j+11=>simp at e
section
variable{P:214}{w:237}{K:207}{mg:Str->210 212}{base:Heap}
def EG(F:eW K "_law_same" "_law_same" iJ f fd)(T:Txt mg):aU P w K mg base dy 1 f fd ["_law_found","_law_due_here"] (bT (yT P1)):=by
 refine mq F yS 192 (fun p A X s H E o=>⟨_,(ao (cZ (jk (dv 1))
 (aG (aL (Mn (dv 0))))
 bE)
 (ao (cZ (mS (cS (T:="bool") 104 T.nD (aj (dv 1) 143)))
 (aG (aL (i3 (cS (T:="bool") 104 T.nD (aj (dv 0) 143)) (kW (vM (dv 0) (dv 1))))))
 bE)
 (ao (cZ (mS (Gj (dv 1) T.nD T.lst T.tup))
 (ao (cZ (PW.pt (w_or (AJ (cS (T:="list") 104 T.nD (aj (dv 0) (aj (bj (v:= .ty "list") 158 T.lst cz rfl) aM))) (cS (T:="list") 104 T.nD (aj (dv 1) (aj (bj (v:= .ty "list") 158 T.lst cz rfl) aM)))) (nQ (AJ (cS (T:="tuple") 104 T.nD (aj (dv 0) (aj (bj (v:= .ty "tuple") 158 T.tup cw rfl) aM))) (cS (T:="tuple") 104 T.nD (aj (dv 1) (aj (bj (v:= .ty "tuple") 158 T.tup cw rfl) aM)))))))
 (aG (aL BY))
 bE)
 (aG (aL (i3 (vM (cQ T.len 149) (cQ T.len 155)) (kW (Mp rfl T.all (aa (Ov.ev (cm (N:= ["_law_one","_law_other"]) (nt:=2) (js:= []) ⟨rfl,by decide+kernel,by decide,rfl,by decide+kernel,(by show∀x∈(_:List 131),x.2=224->(ae iJ).names.lookup x.1=some .cell\/(ae iJ).names.lookup x.1=some .free;decide+kernel)⟩ rfl 147 (fun _ _ _ _ _=>cM rfl (aH (az (i:=0) 168 rfl 103) (aH (az (i:=1) 168 rfl 103) bO))) bX bq 141 (fun _ _ _ _ _=>J7))) af)))))))
 bE)
 (ao (cZ (mS (cS (T:="str") 104 T.nD (aj (dv 1) (aj (bj (v:= .ty "str") 158 T.str i9 rfl) aM))))
 (aG (aL (i3 (cS (T:="str") 104 T.nD (aj (dv 0) (aj (bj (v:= .ty "str") 158 T.str i9 rfl) aM))) (kW (vM (dv 0) (dv 1))))))
 bE)
 (aG (aL (i3 (cS (T:="int") 104 T.nD (aj (dv 0) (aj (bj (v:= .ty "int") 158 T.int mz rfl) aM))) (i3 (Mm (cS (T:="bool") 104 T.nD (aj (dv 0) 143))) (kW (vM (dv 0) (dv 1))))))))))),fun t G h=>?_⟩)
 . obtain⟨d,rfl,_⟩:=h;rfl
 . obtain⟨d,rfl,a,q⟩:=h;rcases a with rfl | ⟨i,rfl⟩ | ⟨x,rfl⟩
   . exact⟨_,rfl,_,rfl,bJ ⟨_,rfl,q⟩⟩
   . refine⟨_,rfl,_,rfl,bo ⟨_,rfl,_,rfl,_,rfl,bo ⟨_,rfl,_,rfl,_,rfl,bo ⟨_,rfl,_,rfl,_,rfl,bo ?_⟩⟩⟩⟩;exact⟨_,rfl,_,rfl,_,rfl,bJ ⟨_,rfl,_,rfl,_,rfl,_,rfl,bJ ⟨_,rfl,_,rfl,true,(show some (decide _)=some true from ah4 some (af3 rfl)),q⟩⟩⟩
   . exact⟨_,rfl,_,rfl,bo ⟨_,rfl,_,rfl,_,rfl,bo ⟨_,rfl,_,rfl,_,rfl,bo ⟨_,rfl,_,rfl,_,rfl,bJ ⟨_,rfl,_,rfl,_,rfl,bJ ⟨_,rfl,_,rfl,true,Tz,q⟩⟩⟩⟩⟩⟩
def uP(F:eW K "_law_same" "_law_same" iJ f fd)(T:Txt mg)(g:eP P w K mg base "_law_same" (k+1) ["_law_found","_law_due_here"] (bT (yT p))):aU P w K mg base dy (k+2) f fd ["_law_found","_law_due_here"] (bT (yT (Ho p))):=by
 refine mq F yS (fun t J h=>?_) (fun r A X s H E o=>⟨_,(ao (cZ (jk (dv 1))
 (aG (aL (Mn (dv 0))))
 bE)
 (ao (cZ (mS (cS (T:="bool") 104 T.nD (aj (dv 1) 143)))
 (aG (aL (i3 (cS (T:="bool") 104 T.nD (aj (dv 0) 143)) (kW (vM (dv 0) (dv 1))))))
 bE)
 (ao (cZ (mS (Gj (dv 1) T.nD T.lst T.tup))
 (ao (cZ (PW.pt (w_or (AJ (cS (T:="list") 104 T.nD (aj (dv 0) (aj (bj (v:= .ty "list") 158 T.lst cz rfl) aM))) (cS (T:="list") 104 T.nD (aj (dv 1) (aj (bj (v:= .ty "list") 158 T.lst cz rfl) aM)))) (nQ (AJ (cS (T:="tuple") 104 T.nD (aj (dv 0) (aj (bj (v:= .ty "tuple") 158 T.tup cw rfl) aM))) (cS (T:="tuple") 104 T.nD (aj (dv 1) (aj (bj (v:= .ty "tuple") 158 T.tup cw rfl) aM)))))))
 (aG (aL BY))
 bE)
 (aG (aL (i3 (vM (cQ T.len 149) (cQ T.len 155)) (kW (Mp rfl T.all (aa (Ov.ev (cm (N:= ["_law_one","_law_other"]) (nt:=2) (js:= []) ⟨rfl,by decide+kernel,by decide,rfl,by decide+kernel,(by show∀x∈(_:List 131),x.2=224->(ae iJ).names.lookup x.1=some .cell\/(ae iJ).names.lookup x.1=some .free;decide+kernel)⟩ rfl 147 (fun _ _ _ _ _=>cM rfl (aH (az (i:=0) 168 rfl 103) (aH (az (i:=1) 168 rfl 103) bO))) bX bq 141 (fun _ _ _ _ _=>(aZ g (o.mono (ab6 _)) (aa (dv 0) 155))))) af)))))))
 bE)
 (ao (cZ (mS (cS (T:="str") 104 T.nD (aj (dv 1) (aj (bj (v:= .ty "str") 158 T.str i9 rfl) aM))))
 (aG (aL (i3 (cS (T:="str") 104 T.nD (aj (dv 0) (aj (bj (v:= .ty "str") 158 T.str i9 rfl) aM))) (kW (vM (dv 0) (dv 1))))))
 bE)
 (aG (aL (i3 (cS (T:="int") 104 T.nD (aj (dv 0) (aj (bj (v:= .ty "int") 158 T.int mz rfl) aM))) (i3 (Mm (cS (T:="bool") 104 T.nD (aj (dv 0) 143))) (kW (vM (dv 0) (dv 1))))))))))),fun t J h=>?_⟩)
 . obtain⟨d,rfl,_⟩:=h;rfl
 . obtain⟨d,rfl,a,q⟩:=h;rcases a with a | ⟨Q,D,G,B⟩
   . rcases a with rfl | ⟨i,rfl⟩ | ⟨x,rfl⟩
     . exact⟨_,rfl,_,rfl,bJ ⟨_,rfl,q⟩⟩
     . refine⟨_,rfl,_,rfl,bo ⟨_,rfl,_,rfl,_,rfl,bo ⟨_,rfl,_,rfl,_,rfl,bo ⟨_,rfl,_,rfl,_,rfl,bo ?_⟩⟩⟩⟩;exact⟨_,rfl,_,rfl,_,rfl,bJ ⟨_,rfl,_,rfl,_,rfl,_,rfl,bJ ⟨_,rfl,_,rfl,true,(show some (decide _)=some true from ah4 some (af3 rfl)),q⟩⟩⟩
     . exact⟨_,rfl,_,rfl,bo ⟨_,rfl,_,rfl,_,rfl,bo ⟨_,rfl,_,rfl,_,rfl,bo ⟨_,rfl,_,rfl,_,rfl,bJ ⟨_,rfl,_,rfl,_,rfl,bJ ⟨_,rfl,_,rfl,true,Tz,q⟩⟩⟩⟩⟩⟩
   rcases D with rfl | rfl
   . refine⟨_,rfl,_,rfl,bo ⟨_,rfl,_,rfl,_,rfl,bo ⟨_,rfl,_,rfl,_,rfl,bJ ?_⟩⟩⟩;refine⟨_,rfl,_,rfl,_,rfl,_,rfl,true,rfl,_,rfl,bo ⟨_,rfl,_,rfl,_,rfl,_,rfl,true,rfl,_,rfl,bo ?_⟩⟩;refine⟨_,rfl,_, .inl rfl,_,rfl,_, .inl rfl,true,Pq.trans 111,_,rfl,bJ ?_⟩;refine⟨_,rfl,_,rfl,false,false,_,_,rfl,?_,fun _=>true,fun _=> .bl true,fun e y=>?_,?_⟩
     . unfold cX;rw[ao2,Nat.min_self];exact ad9 G 104
     . obtain⟨i,I,l⟩:=ah7 y;unfold cX at I l;rw[List.getElem_zipWith] at l;subst l;exact⟨_,_,rfl,⟨_,rfl,rfl⟩,⟨_,rfl,rfl⟩,rfl,fun _=>⟨_,rfl,_,rfl,_,rfl,B _ (aq9 _),rfl⟩⟩
     . refine⟨List.replicate (cX Q Q).length true,?_,?_⟩
       . rw[ag6.mpr (fun _ _=>rfl),List.map_replicate];congr 2
         exact List.eq_replicate_iff.mpr ⟨by rw[aa9],fun b c=>by obtain⟨_,_,rfl⟩:=ad3.mp c;rfl⟩
       rw[show(List.replicate (cX Q Q).length true).all id=true from ag4.mpr fun b c=>(List.eq_of_mem_replicate c)];exact q
   . refine⟨_,rfl,_,rfl,bo ⟨_,rfl,_,rfl,_,rfl,bo ⟨_,rfl,_,rfl,_,rfl,bJ ?_⟩⟩⟩;refine⟨_,rfl,_,rfl,_,rfl,_,rfl,true,rfl,_,rfl,bo ⟨_,rfl,_,rfl,_,rfl,_,rfl,true,rfl,_,rfl,bo ?_⟩⟩;refine⟨_,rfl,_, .inr rfl,_,rfl,_, .inr rfl,true,Pq.trans 111,_,rfl,bJ ?_⟩;refine⟨_,rfl,_,rfl,true,true,_,_,rfl,?_,fun _=>true,fun _=> .bl true,fun e y=>?_,?_⟩
     . unfold cX;rw[ao2,Nat.min_self];exact ad9 G 104
     . obtain⟨i,I,l⟩:=ah7 y;unfold cX at I l;rw[List.getElem_zipWith] at l;subst l;exact⟨_,_,rfl,⟨_,rfl,rfl⟩,⟨_,rfl,rfl⟩,rfl,fun _=>⟨_,rfl,_,rfl,_,rfl,B _ (aq9 _),rfl⟩⟩
     . refine⟨List.replicate (cX Q Q).length true,?_,?_⟩
       . rw[ag6.mpr (fun _ _=>rfl),List.map_replicate];congr 2
         exact List.eq_replicate_iff.mpr ⟨by rw[aa9],fun b c=>by obtain⟨_,_,rfl⟩:=ad3.mp c;rfl⟩
       rw[show(List.replicate (cX Q Q).length true).all id=true from ag4.mpr fun b c=>(List.eq_of_mem_replicate c)];exact q
def N6(F:eW K "law" "law" sf f fd)(T:Txt mg)(NB:eP P w K mg base "_law_begin" 1 ["_law_script"] (rS K))(eC:eP P w K mg base "_law_take" 1 ["_law_state","_law_many"] (Cq uj))(KJ:eP P w K mg base "_law_taken" 2 ["_law_state","_law_many","_law_most"] (Cq Dc))(KL:eP P w K mg base "_law_table" 2 ["_law_state","_law_many"] (Cq Dd))(UA:eP P w K mg base "_law_due" 3 ["_law_w","_law_stand","_law_word"] (bT JY))(Qk:eP P w K mg base "_law_told" 8 ["_law_w","_law_stand","_law_word"] (bT JY))(yv:eP P w K mg base "sure_steps" 8 ["w","stand"] (bT K8))(tQ:eP P w K mg base "_law_same" 3 ["_law_found","_law_due_here"] (bT (yT (Ho (Ho P1))))):
  aU P w K mg base dy 9 f fd ["_law_script"] (uq K):=by
 refine Sn F iD 104 (fun bC A X s H E o=>⟨_,_,_,rfl,df (i:=1) iD.nd rfl (Or.inl rfl) (ou NB (o.mono 104) rfl (aj (pv 0) aM)),(ao (jm rfl (mf T.je (aa ay af)) (gR 2 iD.nd)
 (ao (cG 3 iD.nd (dY ay (hV 1 eC (o.mono 104) (pv 1) (aa ay af))))
 (ao (cG 4 iD.nd (dD (hV 1 KJ (o.mono 104) (pv 1) (aa (dv 3) (aa ay af))) ay))
 (ao (cG 5 iD.nd (hV 1 KL (o.mono 104) (pv 1) (aa (dv 3) af)))
 (ao (cG 6 iD.nd (dD (fU (aa bM (aa bM (aa bM (aa bM (aa bM (aa bM (aa bM af)))))))) (hV 1 eC (o.mono 104) (pv 1) (aa ay af))))
 (ao (wV 7 iD.nd (N:= ["_law_word","_law_w","_law_stand"]) (nt:=1) (js:= [5,4]) ⟨rfl,by decide+kernel,by decide,rfl,by decide+kernel,(by show∀x∈(_:List (Str × NameKind)),x.2=224->(ae sf).names.lookup x.1=some .cell\/(ae sf).names.lookup x.1=some .free;decide+kernel)⟩ rfl (Fj (ba (aa bM (aa bM (aa bM (aa (dv 6) af)))))) (fun _ _ _ _ _=>az (i:=0) (show(["_law_word","_law_w","_law_stand"]:List Str).Nodup by decide+kernel) rfl 103) bB aY 141 (fun _ _ _ _ _=>(aZ UA (o.mono 104) (aa (dv 1) (aa (dv 2) 149)))))
 (aG (kc 7 (jm rfl (mf T.je (aa ay af)) (gR 8 iD.nd)
 (ao (cZ (K3 (mS (aZ tQ (o.mono 104) (aa (Ov.ev (cm (N:= ["_law_word","_law_w","_law_stand"]) (nt:=1) (js:= [5,4]) ⟨rfl,by decide+kernel,by decide,rfl,by decide+kernel,(by show∀x∈(_:List (Str × NameKind)),x.2=224->(ae sf).names.lookup x.1=some .cell\/(ae sf).names.lookup x.1=some .free;decide+kernel)⟩ rfl (Fj (ba (aa bM (aa bM (aa bM (aa (dv 6) af)))))) (fun _ _ _ _ _=>az (i:=0) (show(["_law_word","_law_w","_law_stand"]:List Str).Nodup by decide+kernel) rfl 103) bB aY 141 (fun _ _ _ _ _=>(aZ Qk (o.mono 104) (aa (dv 1) (aa (dv 2) 149)))))) (aa (dv 7) af)))))
 (aG (aL BY))
 bE)
 (ao (wV 9 iD.nd (N:= ["_law_word","_law_one"]) (nt:=2) (js:= []) ⟨rfl,by decide+kernel,by decide,rfl,by decide+kernel,(by show∀x∈(_:List (Str × NameKind)),x.2=224->(ae sf).names.lookup x.1=some .cell\/(ae sf).names.lookup x.1=some .free;decide+kernel)⟩ rfl (qL (aa (ba (aa bM (aa bM (aa bM af)))) (aa (dv 7) af)) fun z=>lX 158 T.zip z) (fun _ _ _ _ _=>cM rfl (aH (az (i:=0) (show(["_law_word","_law_one"]:List Str).Nodup by decide+kernel) rfl 103) (aH (az (i:=1) (show(["_law_word","_law_one"]:List Str).Nodup by decide+kernel) rfl 103) bO))) bX bq (fun _ _ _ _ _=>zM (Rb (uk (dv 1) ay) (Ni (Nat.lt_of_succ_lt (eG o)) (dv 1) ay))) (fun _ _ _ _ _=>(dv 0)))
 (ao (iG 10 iD.nd (R7 yv (o.mono 104) (aa (dv 5) (aa (dv 4) af))))
 (ao (kc 9 (cZ (K3 (mS (J8 10 (aZ tQ (o.mono 104) (aa (dv 10) (aa (dv 9) af))))))
 (aG (aL BY))
 bE))
 (aG (eA (cH 10 (pv 10) (aa bM af)))))))) ak8)))))))) ak8)
 (aG (aL BY))),?_⟩)
 refine⟨_,rfl,by decide,by decide,dR Zo ⟨0,.no,.no,.no,.no,.no,.no,.no,.no,.no,rfl,by decide,.no,.no,.no,.no,.no,.no,.no,.no,.no⟩ (fun i d q hi J Δ' wc _=>?_) (fun q J=>?_)⟩
 . obtain⟨tt,s2,s3,s4,s5,s6,g,I,O,G,rfl,ht,b2,b3,b4,b5,p,b7,C,Q,a⟩:=J;have il:i < 6:=by have:=(ac1.mp hi).1;simpa using this
   refine⟨⟨_,rfl,b2.nb⟩,?_⟩;dsimp only;refine rY (fun t=> ∃n:Nat,1<=n/\n<=5/\t= [.no,.bx (tt+1),.im d,.im (xI n),s4,s5,s6,g,I,O,G]) (fun Δ0 D _=>?_) ?_
   . refine⟨⟨_,rfl⟩,_,rfl,_,rfl,by lia,by decide,by decide,fun r b R=>⟨_,_,rfl,rfl,⟨_,rfl,b3.nb⟩,?_⟩⟩;obtain⟨r,rfl,Bw⟩:=getNat (m:=5) b R;refine D _ ⟨1+r,by lia,by lia,?_⟩;rw[show(xI (1+r):Dt)= .int (1+(r:Int)) by show Dt.int _=Dt.int _;congr 1];rfl
   rintro q ⟨n,u,M,rfl⟩
   refine⟨⟨_,rfl⟩,_,rfl,_,rfl,n,9,rfl,u,by lia,by decide,by lia,fun s k ws t1 S SJ=>⟨_,_,_,.inr rfl,rfl,aS (j:=0) rfl,⟨_,rfl,b4.nb⟩,?_⟩⟩;refine⟨⟨_,rfl⟩,_,rfl,_,rfl,n,rfl,u,by lia,by lia,fun w U ht2 v=>⟨⟨_,rfl,b5.nb⟩,?_⟩⟩;dsimp only;refine rY (fun t=> ∃L:Str,t= [.no,.bx (U+1),.im d,.im (xI n),.im s.dt,.im (ez n w),.im (.str L),g,I,O,G]) (fun Δ0 D _=>?_) ?_
   . refine⟨by show 7<=sizeLine;decide,⟨_,rfl⟩,_,rfl,_,rfl,by lia,by decide,by decide,fun r b R=>?_⟩;obtain⟨z,rfl,hz⟩:=getNat (m:=7) b R;match z,hz with
     | 0,_=>exact⟨_,_,_,.inl rfl,rfl,aS (j:=0) rfl,⟨_,rfl,p.nb⟩,D _ ⟨_,rfl⟩⟩
     | 1,_=>exact⟨_,_,_,.inl rfl,rfl,aS (j:=1) rfl,⟨_,rfl,p.nb⟩,D _ ⟨_,rfl⟩⟩
     | 2,_=>exact⟨_,_,_,.inl rfl,rfl,aS (j:=2) rfl,⟨_,rfl,p.nb⟩,D _ ⟨_,rfl⟩⟩
     | 3,_=>exact⟨_,_,_,.inl rfl,rfl,aS (j:=3) rfl,⟨_,rfl,p.nb⟩,D _ ⟨_,rfl⟩⟩
     | 4,_=>exact⟨_,_,_,.inl rfl,rfl,aS (j:=4) rfl,⟨_,rfl,p.nb⟩,D _ ⟨_,rfl⟩⟩
     | 5,_=>exact⟨_,_,_,.inl rfl,rfl,aS (j:=5) rfl,⟨_,rfl,p.nb⟩,D _ ⟨_,rfl⟩⟩
     | 6,_=>exact⟨_,_,_,.inl rfl,rfl,aS (j:=6) rfl,⟨_,rfl,p.nb⟩,D _ ⟨_,rfl⟩⟩
   rintro q ⟨L,rfl⟩
   have Z: ∀e∈(([Dt.str "read",.str "next",.str "under",.str L]:List Dt)),∃x:Str,e= .str x:=fun e B=>by
    rcases ad8.mp B with z | B
    . exact⟨_,z⟩
    rcases ad8.mp B with z | B
    . exact⟨_,z⟩
    rcases ad8.mp B with z | B
    . exact⟨_,z⟩
    exact⟨_,ab4.mp B⟩
   have dl: ∀(l:List Dt),(∀e∈l,∃x:Str,e= .str x)->Ho (Ho P1) (.lst (l.map (dF w n s)))\/60 < l.length:=fun l hl=>by
    by_cases c:l.length<=60
    . refine .inl (.inr ⟨_,.inl rfl,by rw[aa9];exact c,fun e B=>?_⟩);obtain⟨y,hy,rfl⟩:=ad3.mp B;obtain⟨x,rfl⟩:=hl y hy;exact M7 w n s x
    . exact .inr 102
   have Y:Ho (Ho P1) (.lst ((([Dt.str "read",.str "next",.str "under",.str L]:List Dt)).map (dF w n s))):=(dl _ Z).resolve_right (by show¬60 < 4;decide);refine⟨_,rfl,by show 4<=208;decide,_,rfl,by show 4<=208;decide,fun _=>true,dF w n s,fun e B=>?_,?_⟩
   . obtain⟨x,rfl⟩:=Z e B;exact⟨⟨_,rfl,rfl⟩,rfl,fun _=>⟨_,rfl,_,rfl,_,rfl,n,k,w,s,x,rfl,S,u,M,wM v,rfl⟩⟩
   rw[ag6.mpr fun _ _=>rfl];refine⟨⟨_,rfl,b7.nb⟩,?_⟩;refine⟨_,rfl,_,rfl,by decide,by decide,dR (fun _ q=> ∃I O G:Sl,q= [.no,.bx (U+1),.im d,.im (xI n),.im s.dt,.im (ez n w),.im (.str L),.im (.lst ((([Dt.str "read",.str "next",.str "under",.str L]:List Dt)).map (dF w n s))),I,O,G]/\Al I/\Al O/\Pl G) ⟨I,O,G,rfl,C,Q,a⟩ (fun j e q hj J Δ2 LR _=>?_) (fun q J=>?_)⟩
   . obtain⟨I,O,G,rfl,C,Q,a⟩:=J;refine⟨⟨_,rfl,C.nb⟩,?_⟩;refine⟨_,rfl,by show 4<=sizeLine;decide,_,rfl,by show 4<=sizeLine;decide,fun _=>true,dF w n s,fun e B=>?_,?_⟩
     . obtain⟨x,rfl⟩:=Z e B;exact⟨⟨_,rfl,rfl⟩,rfl,fun _=>⟨_,rfl,_,rfl,_,rfl,n,k,w,s,x,rfl,S,u,M,wM v,rfl⟩⟩
     rw[ag6.mpr fun _ _=>rfl];refine⟨_,rfl,_,rfl,Y,_,rfl,bo ?_⟩;refine⟨by show 3<=208;decide,_,rfl,true,false,_,_,rfl,by show 3<=208;decide,zP,zF,fun e B=>?_,?_⟩
     . have B:e∈(["read","next","under"]:List Str).map fun st=> .tup [.str st,ip w n s st]:=B;obtain⟨x,_,rfl⟩:=ad3.mp B;have z:=CP w n s x;refine⟨_,_,rfl,⟨_,rfl,rfl⟩,⟨_,rfl,rfl⟩,?_⟩;cases c:jf s x with
       | true=>
        have e:ip w n s x=cV (k6 w n s x):=by unfold ip;rw[if_pos c]
        rw[c,Bool.true_and] at z;rw[e] at z ⊢;exact .inl ⟨_,rfl,_,Tw _,_,rfl,z.symm,fun _=>⟨_,rfl,rfl⟩⟩
       | false=>
        have e:ip w n s x= .tup [.str "step",.int 0]:=by unfold ip;rw[c];rfl
        rw[e];exact .inr ⟨_,rfl,_,_,rfl,rfl,_,rfl,rfl,fun z=>nomatch z⟩
     rw[Dn];refine⟨⟨_,rfl,Q.nb⟩,?_⟩;have sl:((qA w n s).map Dt.str).length<=3:=by
      rw[aa9];refine ad9 (al9 _ _) ?_;have:=sQ (s:=s);rw[qI,aa9] at this;exact this
     have V:Ho (Ho P1) (.lst ((qA w n s).map .str)):= .inr ⟨_,.inl rfl,ad9 sl 104,fun e B=>by
      obtain⟨x,_,rfl⟩:=ad3.mp B;exact .inl (.inr (.inr ⟨_,rfl⟩))⟩
     refine⟨_,rfl,_,rfl,fun x h=>?_,n,k,w,s,rfl,S,u,M,wM v,_,rfl,fun x h=>?_,⟨_,rfl,a.nb⟩,?_⟩
     . rcases ad8.mp h with rfl | h
       . exact Pf n w
       . cases ab4.mp h;exact Tt s
     . obtain⟨x,_,rfl⟩:=ad3.mp h;exact .str x
     refine⟨_,rfl,_,rfl,Ou,_,rfl,_,rfl,_,rfl,V,rfl,.bl _,_,rfl,bo ?_⟩;refine⟨⟨_,rfl⟩,_,_,rfl,rfl,ao9 sl 104,LR _ ⟨.im e,.im _,.ow _,rfl,.im _,.im _,.ow _⟩⟩
   . obtain⟨I,O,G,rfl,C,Q,a⟩:=J;exact wc _ ⟨U+1,_,_,_,_,_,_,I,O,G,rfl,by lia,.im _,.im _,.im _,.im _,.im _,.im _,C,Q,a⟩
 . obtain⟨tt,s2,s3,s4,s5,s6,g,I,O,G,rfl,ht,bs⟩:=J;exact rfl
end
end bb
section
namespace bb
open PySem L2 LB LD PyProof.Rows
structure a9(K:207)(x:Str)(st:Stmt)(ps:List Str)(f:Addr)(fd:FuncData):Prop where
 a:223 K 217 x=some (some (.ref f))
 F:eW K x x st f fd
 b:Binds K fd ps []
def aR{K:PySem.W.Frag}{x:Str}{st:Stmt}{z:List Str}{f:Addr}{g:Value}{od M:Option Addr}{N:Array (Option Value)}{n m B X ct:Value}(a:PySem.W.nsIn K mainGlobals x=some (some (.ref f)))(l:K.lookup f=some ⟨g,od, .func (PySem.W.fnOf x x (fR st) (bS st) (ae st) .none n m B M X ct),N⟩)(c:PySem.W.codeIn K X x=true)(k:PySem.W.keepIn K (.ref f)=true)
  (h: ∀Y:List 212,Y.length=z.length->bindArgs (PySem.W.fnOf x x (fR st) (bS st) (ae st) .none n m B M X ct) ⟨Y,[]⟩=pure (z.zip Y)):a9 K x st z f (PySem.W.fnOf x x (fR st) (bS st) (ae st) .none n m B M X ct):=⟨a,FL l c k,.all h⟩
section
variable{P:214}{w:237}{K:207}{mg:Str->210 212}{base h:Heap}{x:Str}{st:Stmt}{ps:List Str}{f:Addr}{fd:FuncData}
def a9.has(D:a9 K x st ps f fd)(X:K.In h)(G:h.Ns 217 mg)(o:aU P w K mg base dy k f fd ps sp):eP P w K mg base x k ps sp:=⟨f,fd,aj7 X G D.a,D.F.kp,D.b,o⟩
end
def all_mk{l:PySem.W.OpenLaw}{w:World}{K:PySem.W.Frag}{h:Heap}{H:Str->Option Value}{fa f1 f2 f3 f4 f5 f6 f7 f8 f9 f10 f11 f12 f13 f14 f15 f16 f17 f18 f19 f20 f21 f22 f23 f24 f25 f26 f27 f28 f29 f30 f31 f32 f33 f34:Addr}{n o e3 e4 e5 e6 e7 e8 e9 e10 Yt e12 e13 e14 e15 e16 e17 e18 e19 e20 e21 e22 e23 e24 e25 e26 e27 e28 e29 e30 e31 e32 e33 e34:FuncData}(X:K.In h)(G:h.Ns mainGlobals H)(hfa:H "law"=some (.ref fa))
  (d1:a9 K "steps_from" jE ["stand"] f1 n)
  (d2:a9 K "behind" sA ["stand","word"] f2 o)
  (x:a9 K "together" lU ["worths"] f3 e3)
  (d4:a9 K "greatest" gp ["worths"] f4 e4)
  (d5:a9 K "worth_of" iH ["w","h"] f5 e5)
  (d6:a9 K "ranked" kg ["w"] f6 e6)
  (d7:a9 K "units" wW ["base","many"] f7 e7)
  (d8:a9 K "figures" og ["number","base","many"] f8 e8)
  (d9:a9 K "best_plain" jG ["w"] f9 e9)
  (p:a9 K "fill" iK ["w","joined","chosen"] f10 e10)
  (q:a9 K "by_width" iL ["n"] f11 Yt)
  (r:a9 K "over_all" iI ["w","joined","chosen"] f12 e12)
  (t:a9 K "allowed" iM ["stand"] f13 e13)
  (u:a9 K "allowed_of" fw ["stand","word"] f14 e14)
  (y:a9 K "kept_to" ki ["w","lists"] f15 e15)
  (z:a9 K "best_still" jF ["w","stand"] f16 e16)
  (A:a9 K "still" wX ["w","stand"] f17 e17)
  (M:a9 K "cost" yU ["w","stand","step"] f18 e18)
  (B:a9 K "lost" DK ["before","after"] f19 e19)
  (D:a9 K "sure_steps" fq ["w","stand"] f20 e20)
  (E:a9 K "_law_begin" sr ["_law_script"] f21 e21)
  (I:a9 K "_law_take" si ["_law_state","_law_many"] f22 e22)
  (N:a9 K "_law_same" iJ ["_law_found","_law_due_here"] f23 e23)
  (J:a9 K "_law_may" DL ["_law_stand"] f24 e24)
  (L:a9 K "_law_behind" n9 ["_law_stand","_law_word"] f25 e25)
  (Y:a9 K "_law_end" DM ["_law_stand"] f26 e26)
  (c:a9 K "_law_ends" wZ ["_law_stand"] f27 e27)
  (d:a9 K "_law_taken" sh ["_law_state","_law_many","_law_most"] f28 e28)
  (f:a9 K "_law_table" sj ["_law_state","_law_many"] f29 e29)
  (g:a9 K "_law_worth" kh ["_law_w","_law_h"] f30 e30)
  (i:a9 K "_law_best" w6 ["_law_w","_law_some"] f31 e31)
  (j:a9 K "_law_told" wY ["_law_w","_law_stand","_law_word"] f32 e32)
  (m:a9 K "_law_due" uz ["_law_w","_law_stand","_law_word"] f33 e33)
  (YY:a9 K "law" sf ["_law_script"] f34 e34)
  {C C0 n o e3 e4 e5 e6 e7:Addr} (uC:223 K 217 "NoStep"=some (some 186)) (uC0:223 K 217 "HangError"=some (some (.ref C0))) (ue1:223 K 217 "Apart"=some (some (.ref n))) (ue2:223 K 217 "BadSheet"=some (some (.ref o))) (ue3:223 K 217 "BadText"=some (some (.ref e3))) (ue4:223 K 217 "NoEntry"=some (some (.ref e4))) (ue5:223 K 217 "NoHanging"=some (some (.ref e5))) (ue6:223 K 217 "NoPlain"=some (some (.ref e6))) (ue7:223 K 217 "NoSum"=some (some (.ref e7))) {nmC qC:Str} {NC fI C1 C2:Addr} {bsC U WC:List 212} {hdC abC:Bool} {snC:List Str} {Y1:210 Bool} {ddC odI S:210 Addr} {k0C k1C k2C k3C k5C:210 212} {slI:Array (210 212)} {Z0 Vs ZI Y7 V:212} {R:ClassData} (y1:K.lookup C=some (excClassObj nmC qC C NC bsC U hdC snC WC abC Y1 ddC k0C k1C k2C k3C k5C "ValueError.__new__")) (yo:PySem.W.nsOkIn K NC=true) (yi:223 K NC "__init__"=some (some (.ref fI))) (yt:PySem.W.tailIn K [.type "ValueError",.type "Exception",.type "BaseException",.type "object"] U=true) (y2:243 K 186 "__class__"=some (some 134)) (y3:PySem.W.mroIn K C 189=some true) (y4:PySem.W.mroIn K C 144=some true) (y5:243 K 186 "__getattribute__"=some (some 120)) (y6:243 K 186 "__getattr__"=some none) (y7:(PySem.W.clsIn K C).isSome=true) (y8:PySem.W.exmOne K 186 (.ref C0)=some true) (y9:PySem.W.kitOne K 186 (.type "ValueError")=some true) (y10:PySem.W.kitAny K 186 [.ref n,.ref o,.ref e3,.ref e4,.ref e5,.ref e6,.ref e7]=some false) (lf:K.lookup fI=some ⟨.type "function",odI,.func (PySem.W.fnOf "__init__" "NoStep.__init__" (fR eS) (bS eS) (ae eS) .none Z0 Vs ZI S Y7 V),slI⟩) (cI:PySem.W.codeIn K Y7 "NoStep.__init__"=true) (kI:PySem.W.keepIn K (.ref fI)=true) (s1:243 K 186 "__setattr__"=some (some (.builtin "object.__setattr__"))) (s2:PySem.W.clsIn K C=some R) (s3:R.hasDict=true) (s4:R.mro= [.ref C1,.ref C2,.type "ValueError",.type "Exception",.type "BaseException",.type "object"]) (s5:PySem.W.takerIn K C "place"=some none) (s6:243 K 186 "place"=some none)
  (z1:223 K 217 "isinstance"=some none) (z2:223 K 217 "len"=some none) (z3:223 K 217 "enumerate"=some none) (z4:223 K 217 "tuple"=some none) (z5:223 K 217 "int"=some none) (z6:223 K 217 "bool"=some none) (z7:223 K 217 "range"=some none) (z8:223 K 217 "list"=some none) (z9:223 K 217 "divmod"=some none) (z10:223 K 217 "all"=some none) (z11:223 K 217 "str"=some none) (z12:223 K 217 "sum"=some none) (z13:223 K 217 "zip"=some none) (z14:223 K 217 "sorted"=some none) (z15:223 K 217 "max"=some none) (z16:223 K 217 "dict"=some none):
  ∃fd:FuncData,(∀(s:211) (v:212),BindsTo s fd ⟨[v],[]⟩ [("_law_script",v)])/\ ∀Z:Heap,K.In Z->Z.Ns 217 H->aU l.prog w K H Z dy 9 fa fd ["_law_script"] (uq K):=by
 have e:=hfa.symm.trans (aj7 X G YY.a);cases e;have T:Txt H:=⟨ag5 X G z1,ag5 X G z2,ag5 X G z3,ag5 X G z4,ag5 X G z5,ag5 X G z6,ag5 X G z7,ag5 X G z8,ag5 X G z9,ag5 X G z10,ag5 X G z11,ag5 X G z12,ag5 X G z13,ag5 X G z14,ag5 X G z15,ag5 X G z16⟩
 refine⟨e34,?_,fun Z XB GB=>?_⟩
 . obtain⟨oc,od,kV,doc,pm,an,bC,ct,Cs,rfl,lk,jZ⟩:=YY.F.ex;exact fun s v=> .of_eq rfl
 have gC:=aj7 X G uC;have gC0:=aj7 X G uC0;have ge1:=aj7 X G ue1;have ge2:=aj7 X G ue2;have ge3:=aj7 X G ue3;have ge4:=aj7 X G ue4;have ge5:=aj7 X G ue5;have ge6:=aj7 X G ue6;have ge7:=aj7 X G ue7;have O:=LX.RX XB GB uC y1 yo yi yt lf;have Fm:LX.Fam K C C0 [n,o,e3,e4,e5,e6,e7]:=⟨⟨y2,y3,y4,y5,y6,y7⟩,y8,y9,y10⟩
 have FJ:=FL (st:=eS) lf cI kI;have bI:Binds K (PySem.W.fnOf "__init__" "NoStep.__init__" (fR eS) (bS eS) (ae eS) .none Z0 Vs ZI S Y7 V) ["self","place"] []:= .all fun us hl=>match us,hl with | [_,_],_=>rfl
 have XS:Ck K C "place":=⟨s1,⟨R,C1,C2,s2,s3,s4⟩,y3,s5⟩
 have XF:Qp K C "place":=⟨s6,⟨R,s2,s3⟩,y4,y5,y6⟩
 have FI:aU l.prog w K H Z dy 1 fI _ ["self","place"] (nZ K "place"):=IW FJ 101;have Zi:=x.has X G (P:=l.prog) (w:=w) (base:=Z) (mI x.F T);have hJ:v8 l.prog w K H Z f3 1 ["worths"] (bT Z1):=⟨_,x.F.kp,x.b,(mI x.F T).imp (yO Sv)⟩
 have hC:v8 l.prog w K H Z f4 1 ["worths"] (bT chS):=⟨_,d4.F.kp,d4.b,(uQ d4.F T).imp (yO Uh)⟩
 have NBW:=q.has X G (P:=l.prog) (w:=w) (base:=Z) (xq q.F T);have GW:=p.has X G (P:=l.prog) (w:=w) (base:=Z) (IY CV hJ hC p.F T NBW);have Uz:=r.has X G (P:=l.prog) (w:=w) (base:=Z) (xm CV hJ hC r.F T GW);have yu:=d7.has X G (P:=l.prog) (w:=w) (base:=Z) (EA d7.F T);have tP:=d6.has X G (P:=l.prog) (w:=w) (base:=Z) (A5 d6.F T yu);have Zj:=d8.has X G (P:=l.prog) (w:=w) (base:=Z) (xo d8.F T);have pR:=d5.has X G (P:=l.prog) (w:=w) (base:=Z) (xk d5.F T Zi);have UE:=d9.has X G (P:=l.prog) (w:=w) (base:=Z) (Jb (aj7 X G x.a) (aj7 X G d4.a) d9.F T Uz tP Zj pR);have NOf:=u.has X G (P:=l.prog) (w:=w) (base:=Z) (R3 u.F T);have pU:=t.has X G (P:=l.prog) (w:=w) (base:=Z) (xr t.F T NOf);have UB:=y.has X G (P:=l.prog) (w:=w) (base:=Z) (A7 y.F T);have NBS:=z.has X G (P:=l.prog) (w:=w) (base:=Z) (sL z.F T UE UB pU);have Q:=A.has X G (P:=l.prog) (w:=w) (base:=Z) (EF A.F T NBS);have GV:=d1.has X G (P:=l.prog) (w:=w) (base:=Z) (IX d1.F T);have jc:=d2.has X G (P:=l.prog) (w:=w) (base:=Z) (A9 d2.F T);have rG:=B.has X G (P:=l.prog) (w:=w) (base:=Z) (IU B.F T);have tR:=M.has X G (P:=l.prog) (w:=w) (base:=Z) (A8 M.F T GV Q jc rG);have Ur:GZ l.prog w K H Z "cost" 7 ["w","stand","step"] (HN "place" C GC):=⟨f18,_,aj7 X G M.a,M.F.kp,M.b,Ja M.F T GV Q jc rG O PySem.F.excBase_ValueError 104 PySem.F.excBase_ValueError FI bI XS⟩
 have Uy:=D.has X G (P:=l.prog) (w:=w) (base:=Z) (IQ D.F T GV tR);have NB:=E.has X G (P:=l.prog) (w:=w) (base:=Z) (EI E.F T);have GS:=I.has X G (P:=l.prog) (w:=w) (base:=Z) (ED I.F T);have NS0:=N.has X G (P:=l.prog) (w:=w) (base:=Z) (EG N.F T);have NS1:=N.has X G (P:=l.prog) (w:=w) (base:=Z) (uP (k:=0) N.F T NS0);have NS2:=N.has X G (P:=l.prog) (w:=w) (base:=Z) (uP (k:=1) N.F T NS1);have Qj:=J.has X G (P:=l.prog) (w:=w) (base:=Z) (N5 J.F T);have du:=L.has X G (P:=l.prog) (w:=w) (base:=Z) (xn L.F T);have Zk:=Y.has X G (P:=l.prog) (w:=w) (base:=Z) (IV Y.F T);have UC:=c.has X G (P:=l.prog) (w:=w) (base:=Z) (IZ c.F T Qj du Zk);have Qh:=d.has X G (P:=l.prog) (w:=w) (base:=Z) (EC d.F T GS Qj du);have Qi:=f.has X G (P:=l.prog) (w:=w) (base:=Z) (EE f.F T GS);have Qg:=g.has X G (P:=l.prog) (w:=w) (base:=Z) (A6 g.F T);have NLB:=i.has X G (P:=l.prog) (w:=w) (base:=Z) (EH i.F T Qg);have Zl:=m.has X G (P:=l.prog) (w:=w) (base:=Z) (N7 m.F T Qj du NLB UC);have Ux:=j.has X G (P:=l.prog) (w:=w) (base:=Z) (IM j.F T Ur gC0 gC ge1 ge2 ge3 ge4 ge5 ge6 ge7 Fm XF);exact N6 YY.F T NB GS Qh Qi Zl Ux Uy NS2
def walk{l:PySem.W.OpenLaw}{q:Program}{r:List Str}{B:(Str->Option Value)->Heap->Prop}{m:World->Heap->Prop}{d:DefRec}{K:Params->PySem.W.Frag}(V:l.most=some 63)(i:d.params.defaults= [])
  (C: ∀(w:237) (h:Heap),m w h->(K w.params).In h)
  (F: ∀(w:237) (mg:Str->210 212) (fa:Addr) (h:Heap),(K w.params).In h->h.Ns 217 mg->mg d.name=some (.ref fa)->
   ∃b:FuncData,(∀(s:211) (u:212),BindsTo s b ⟨[u],[]⟩ [("_law_script",u)])/\ ∀Z:Heap,(K w.params).In Z->Z.Ns 217 mg->aU l.prog w (K w.params) mg Z dy 9 fa b ["_law_script"] (uq (K w.params))):
  PySem.W.WalkO q r B m l.row.toRowW d [] (fun f v=>PySem.call f v):=
 L2.HC (n:=63) (k:=9) (x:="_law_script") (CX:=fun _=>dy) (sp:=fun w=>uq (K w.params)) V 104 i ⟨rfl,by decide,by decide,rfl⟩ C F (fun _ _ a S A _ M=>⟨a,S,rfl,M,A,fun _=>rfl⟩) fun _ _ _ _ _ z=>z
end bb
open PySem PySem.W PyProof.Rows
local macro_rules
|`(tactic|o_law)=>`(tactic|refine holds_law bb.q'w fun said=>?_)
local macro_rules
|`(tactic|o_head $H)=>`(tactic|refine holds_open (q:=bb.q'v) (loose:=[]) (Xt:=fun s=>xlAt bb.q'v [] s && recOk (RowW.records (OpenRow.toRowW (OpenLaw.row PySem.Challenge.rw_hungwords_k36_what_a_step_costs))) s) (XP:=XL bb.q'v []) (Yf:=Hook.obs $H) (Ya:=Hook.val $H) (YP:=Hook.says $H) (N:=6180) (bb.q'l (Yf:=Hook.obs $H) (Ya:=Hook.val $H) bb.q's bb.q't) (Hook.of $H) (Hook.keeps $H) (fun s e=>xl_of s (Bool.and_eq_true_iff.mp e).1) XL.keeps (by rfl) (by rfl) (by rfl) (fun s e=>recFacts_of (Bool.and_eq_true_iff.mp e).2) (by rfl) (by first | assumption | decide+kernel) (by decide+kernel) ⟨rfl,rfl,rfl,rfl,rfl,by decide+kernel⟩ ?hw ?hc)
set_option maxRecDepth 100000 in
set_option maxHeartbeats 0 in
theorem PySem.Challenge.cw_hungwords_k36_what_a_step_costs_holds : PySem.Challenge.rw_hungwords_k36_what_a_step_costs.Holds := by
 w_on;o_law;o_head (bb.q'H);(case hw=>w_witness2)
 k_fill
 delta bb.q'H
 refine bb.walk (l:=PySem.Challenge.rw_hungwords_k36_what_a_step_costs) rfl rfl (fun w h Y=>PySem.W.kIn_of Y) ?F
 case F=>
  intro w H Q h L G k;refine' bb.all_mk L G k (bb.aR ?_ ?_ ?_ ?_ ?_) (bb.aR ?_ ?_ ?_ ?_ ?_) (bb.aR ?_ ?_ ?_ ?_ ?_) (bb.aR ?_ ?_ ?_ ?_ ?_) (bb.aR ?_ ?_ ?_ ?_ ?_) (bb.aR ?_ ?_ ?_ ?_ ?_) (bb.aR ?_ ?_ ?_ ?_ ?_) (bb.aR ?_ ?_ ?_ ?_ ?_) (bb.aR ?_ ?_ ?_ ?_ ?_) (bb.aR ?_ ?_ ?_ ?_ ?_) (bb.aR ?_ ?_ ?_ ?_ ?_) (bb.aR ?_ ?_ ?_ ?_ ?_) (bb.aR ?_ ?_ ?_ ?_ ?_) (bb.aR ?_ ?_ ?_ ?_ ?_) (bb.aR ?_ ?_ ?_ ?_ ?_) (bb.aR ?_ ?_ ?_ ?_ ?_) (bb.aR ?_ ?_ ?_ ?_ ?_) (bb.aR ?_ ?_ ?_ ?_ ?_) (bb.aR ?_ ?_ ?_ ?_ ?_) (bb.aR ?_ ?_ ?_ ?_ ?_) (bb.aR ?_ ?_ ?_ ?_ ?_) (bb.aR ?_ ?_ ?_ ?_ ?_) (bb.aR ?_ ?_ ?_ ?_ ?_) (bb.aR ?_ ?_ ?_ ?_ ?_) (bb.aR ?_ ?_ ?_ ?_ ?_) (bb.aR ?_ ?_ ?_ ?_ ?_) (bb.aR ?_ ?_ ?_ ?_ ?_) (bb.aR ?_ ?_ ?_ ?_ ?_) (bb.aR ?_ ?_ ?_ ?_ ?_) (bb.aR ?_ ?_ ?_ ?_ ?_) (bb.aR ?_ ?_ ?_ ?_ ?_) (bb.aR ?_ ?_ ?_ ?_ ?_) (bb.aR ?_ ?_ ?_ ?_ ?_) (bb.aR ?_ ?_ ?_ ?_ ?_) ?_ ?_ ?_ ?_ ?_ ?_ ?_ ?_ ?_ ?_ ?_ ?_ ?_ ?_ ?_ ?_ ?_ ?_ ?_ ?_ ?_ ?_ ?_ ?_ ?_ ?_ ?_ ?_ ?_ ?_ ?_ ?_ ?_ ?_ ?_ ?_ ?_ ?_ ?_ ?_ ?_ ?_ ?_ ?_ ?_ ?_ ?_;all_goals try (first | k_is | exact rfl | kernel_rfl | (intro Z z;first | (obtain⟨a,rfl⟩:=List.length_eq_one_iff.mp z;rfl) | (match Z,z with | [_,_],_=>rfl) | (match Z,z with | [_,_,_],_=>rfl) | (match Z,z with | [_,_,_,_],_=>rfl)))
end
