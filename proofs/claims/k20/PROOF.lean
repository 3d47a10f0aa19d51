import PyProof.Rows.All
import PyProof.Rows.SortShell
import KE.KSortTup
import Wide.All
import OpenK.AllK
import Wide.FinOn
import Lean
import PyProof.EqAt
import PyProof.EqKinds
import PyProof.TupleCall
import KE.KLam
import PyProof.ListRange
import PyProof.NeKinds
import PyProof.ZipIter
import PyProof.FactsAll.tuple_2
import PyProof.FactsAll.tuple_3
import PyProof.Rows.SortWalk
import PyProof.Rows.MinMaxN
import PyProof.Rows.TopTwo
import KE.KIsAll
import KE.KTryMore
import PyProof.ExcArgsOwn
import PyProof.NsDelKeeps
import KE.KRevIter
import PyProof.AttrMissHeap
import PyProof.ListNew
import PyProof.FactsAll.dict_1
import KE.KRevSl
import PyProof.Rows.IntBool
import PyProof.TupleOfSeq
import KE.KIntText
import PyProof.StrWalks
import PyProof.StrCalls2
import PyProof.StrBlock2
import PyProof.FString5
import PyProof.StrLawsTight
import PyProof.StrLawsChain
import PyProof.ListMulRoad
import PyProof.StationsW
import PyProof.Rows.Catch
import PyProof.ExcClass3
import PyProof.ExcInit
import PyProof.Ns1
import PyProof.DictCompW
import KE.KMinKey
import PyProof.SetKind
import PyProof.Rows.SetFrom
import PyProof.CollectIter
import PyProof.Rows.SortStr
import PyProof.PureStr
import PySem.Challenge.RW_hungwords_k20_the_best_of_all
set_option Elab.async false
set_option linter.all false
set_option maxRecDepth 100000
set_option maxHeartbeats 8000000
abbrev aa0:=@PySem.wpAny_bind
abbrev aa1:=@List.getElem?_eq_getElem
abbrev aa2:=@List.length_map
abbrev aa3:=@PySem.Heap.get?_push_of_some
abbrev aa4:=@Nat.le_refl
abbrev aa5:=@List.getElem?_eq_some_iff
abbrev aa6:=@List.getElem?_map
abbrev aa7:=@PySem.wpAny_pure
abbrev aa8:=@List.not_mem_nil
abbrev aa9:=@List.mem_singleton
abbrev ab0:=@PyProof.Rows.wpS_bind
abbrev ab1:=@PyProof.Rows.wpS_pure
abbrev ab2:=@List.getElem?_set_ne
abbrev ab3:=@Bool.false_ne_true
abbrev ab4:=@PySem.Heap.get?_push_size
abbrev ab5:=@List.size_toArray
abbrev ab6:=@List.mem_cons_of_mem
abbrev ab7:=@List.getD_eq_getElem?_getD
abbrev ab8:=@List.length_append
abbrev ab9:=@beq_iff_eq
abbrev ac0:=@List.length_range
abbrev ac1:=@List.length_cons
abbrev ac2:=@List.map_cons
abbrev ac3:=@List.getElem?_set_self
abbrev ac4:=@List.mem_cons_self
abbrev ac5:=@Array.length_toList
abbrev ac6:=@Nat.le_trans
abbrev ac7:=@List.mem_of_getElem?
abbrev ac8:=@Nat.lt_of_lt_of_le
abbrev ac9:=@List.mem_map
abbrev ad0:=@PySem.Heap.lt_size
abbrev ad1:=@List.mem_cons
abbrev ad2:=@List.getElem?_replicate
abbrev ad3:=@decide_eq_true
abbrev ad4:=@decide_eq_false
abbrev ad5:=@List.length_set
abbrev ad6:=@of_decide_eq_true
abbrev ad7:=@List.getElem?_append_left
abbrev ad8:=@List.mem_append_right
abbrev ad9:=@List.getElem?_eq_none
abbrev ae0:=@PySem.wpAny_mono
abbrev ae1:=@List.map_map
abbrev ae2:=@List.length_range'
abbrev ae3:=@Nat.zero_le
abbrev ae4:=@List.map_append
abbrev ae5:=@Int.toNat_natCast
abbrev ae6:=@Option.map_eq_some_iff
abbrev ae7:=@List.getElem?_append_right
abbrev ae8:=@Int.le_refl
abbrev ae9:=@List.map_congr_left
abbrev af0:=@Nat.ne_of_lt
abbrev af1:=@PySem.wpAny_loadPart'
abbrev af2:=@Nat.lt_irrefl
abbrev af3:=@PySem.W.mg_none_of
abbrev af4:=@List.getElem?_range
abbrev af5:=@Array.toList_append
abbrev af6:=@List.mem_append
abbrev af7:=@PySem.mem_of_lookup
abbrev af8:=@List.mem_range
abbrev af9:=@List.filter_eq_self
abbrev ag0:=@PyProof.Rows.wpS_forRange
abbrev ag1:=@PySem.Heap.get?_update_other
abbrev ag2:=@PySem.wpAny_holding
abbrev ag3:=@List.lookup_cons
abbrev ag4:=@PySem.PassesOwn.never
abbrev ag5:=@List.flatten_cons
abbrev ag6:=@List.append_assoc
abbrev ag7:=@PyProof.Rows.callWith_type1
abbrev ag8:=@List.mem_filter
abbrev ag9:=@List.getElem_mem
abbrev ah0:=@Int.mul_le_mul_of_nonneg_right
abbrev ah1:=@of_decide_eq_false
abbrev ah2:=@List.getElem_of_mem
abbrev ah3:=@Classical.byContradiction
abbrev ah4:=@PySem.plainId_quiet
abbrev ah5:=@Nat.lt_succ_of_le
abbrev ah6:=@PySem.Around.under_plainId
abbrev ah7:=@PySem.wpAny_seqItems
abbrev ah8:=@List.append_nil
abbrev ah9:=@List.all_eq_true
abbrev ai0:=@PySem.wpAny_newObj_type
abbrev ai1:=@List.ext_getElem?
abbrev ai2:=@PySem.wpAny_pyIter_tuple
abbrev ai3:=@PySem.wpAny_tryCatch
abbrev ai4:=@PySem.Heap.size_push
abbrev ai5:=@congrArg
abbrev ai6:=@Array.getElem?_toList
abbrev ai7:=@PySem.wpAny_truthy_bool
abbrev ai8:=@PySem.wpAny_pyIter_list
abbrev ai9:=@decide_eq_true_eq
abbrev aj0:=@PyProof.Rows.wpS_mono
abbrev aj1:=@Option.ne_none_iff_exists'
abbrev aj2:=@PySem.codeAny_builtin
abbrev aj3:=@List.getElem?_range'
abbrev aj4:=@Array.getElem?_eq_getElem
abbrev aj5:=@PySem.wpAny_rule
abbrev aj6:=@List.mem_range'_1
abbrev aj7:=@List.length_filter_le
abbrev aj8:=@PySem.wpAny_letGo
abbrev aj9:=@PySem.wpAny_field
abbrev ak0:=@PySem.W.kia_one
abbrev ak1:=@decide_eq_decide
abbrev ak2:=@List.take_length
abbrev ak3:=@Bool.and_eq_true
abbrev ak4:=@PySem.wpAny_standAt
abbrev ak5:=@List.sum_cons
abbrev ak6:=@Array.perm_iff_toList_perm
abbrev ak7:=@PySem.F.plain_max_loop
abbrev ak8:=@List.nodup_cons
abbrev ak9:=@Bool.eq_iff_iff
abbrev al0:=@List.pairwise_iff_getElem
abbrev al1:=@List.drop_eq_getElem_cons
abbrev al3:=@Nat.le_of_lt
abbrev al4:=@Nat.add_zero
abbrev al5:=@beq_self_eq_true
abbrev al6:=@List.length_take
abbrev al7:=@PySem.wpAny_Call_Name_kw
abbrev al8:=@Nat.add_sub_cancel
abbrev al9:=@Nat.mul_le_mul_right
abbrev am0:=@List.getElem?_mapIdx
abbrev am1:=@PySem.wpAny_callSpecial?_slot
abbrev am2:=@decide_eq_false_iff_not
abbrev am3:=@PySem.wpAny_updateSeq
abbrev am4:=@List.replicate_succ
abbrev am5:=@List.length_zipWith
abbrev am6:=@PySem.wpAny_of_eq
abbrev am7:=@Int.le_of_lt
abbrev am8:=@List.zipWith_cons_cons
abbrev am9:=@PyProof.Rows.wpS_modify
abbrev an0:=@List.range'_succ
abbrev an1:=@Nat.lt_of_le_of_lt
abbrev an2:=@Array.size_extract
abbrev an3:=@List.take_append_drop
abbrev an4:=@List.length_replicate
abbrev an5:=@PySem.Heap.get?_update_self
abbrev an6:=@PyProof.Rows.slot_tuple_getitem
abbrev an7:=@Nat.ne_of_gt
abbrev an8:=@List.length_nil
abbrev an9:=@List.Pairwise.filter
abbrev ao0:=@List.eq_nil_iff_forall_not_mem
abbrev ao1:=@List.nodup_range'
abbrev ao2:=@List.nodup_append
abbrev ao3:=@List.any_cons
abbrev ao4:=@List.length_eq_zero_iff
abbrev ao5:=@List.getElem?_cons_succ
abbrev ao6:=@List.take_zero
abbrev ao7:=@List.nodup_nil
abbrev ao8:=@PySem.wpAny_call_entry
abbrev ao9:=@List.ext_getElem
abbrev ap0:=@PySem.sizeLine_eq
abbrev ap1:=@Nat.le_succ
abbrev ap2:=@PySem.wpAny_setField_rec
abbrev ap3:=@Nat.lt_or_gt_of_ne
abbrev ap4:=@List.pairwise_cons
abbrev ap5:=@List.mem_filterMap
abbrev ap6:=@List.length_mapIdx
abbrev ap7:=@PySem.Calls.spliced_cons
abbrev ap8:=@PySem.wpAny_passesOwn
abbrev ap9:=@PySem.F.slot_tuple_iterator_next
abbrev aq0:=@Array.getElem?_eq_some_iff
abbrev aq1:=@Nat.lt_succ_of_lt
abbrev aq2:=@List.take_add_one
abbrev aq3:=@PySem.Heap.get?_push_ne
abbrev aq4:=@Array.toList_push
abbrev aq5:=@Int.add_mul
abbrev aq6:=@Nat.zero_add
abbrev aq7:=@List.mem_flatten
abbrev aq8:=@List.getElem_map
abbrev aq9:=@PySem.F.plain_min_loop
abbrev ar0:=@Nat.lt_succ_iff_lt_or_eq
abbrev ar1:=@beq_eq_false_iff_ne
abbrev ar3:=@PySem.Heap.SameBut.update
abbrev ar4:=@PySem.F.plainAttrs_list
abbrev ar5:=@PySem.pushCells_keeps
abbrev ar6:=@List.find?_cons
abbrev ar7:=@List.filter_map
abbrev ar8:=@PySem.IsiPair.tupleOf
abbrev ar9:=@Nat.pos_of_ne_zero
abbrev as0:=@List.filter_append
abbrev as2:=@Int.emod_lt_of_pos
abbrev as3:=@List.eq_nil_of_length_eq_zero
abbrev as4:=@Nat.le_of_succ_le
abbrev as5:=@List.pairwise_map
abbrev as6:=@PyProof.Rows.wpS_get
abbrev as7:=@Nat.succ_mul
abbrev as8:=@Nat.sub_self
abbrev as9:=@List.eq_replicate_iff
abbrev at0:=@PySem.F.entry_enumerate_new
abbrev at1:=@PySem.call_meets
abbrev at3:=@Nat.lt_succ_self
abbrev at4:=@List.length_drop
abbrev at5:=@Array.toList_inj
abbrev at6:=@Nat.pow_le_pow_right
abbrev at7:=@List.map_id
abbrev at8:=@List.flatMap_append
abbrev at9:=@List.filterMap_cons
abbrev au0:=@List.nil_append
abbrev au1:=@Int.emod_nonneg
abbrev au2:=@PySem.codeAny_mono
abbrev au3:=@Nat.sub_zero
abbrev au4:=@Nat.add_comm
abbrev au5:=@List.map_nil
abbrev au6:=@PySem.tupleKind_room_in1
abbrev au7:=@PySem.F.called_enumerate
abbrev au8:=@Bool.false_eq_true
abbrev au9:=@PySem.wpAny_comprehension_free
abbrev av0:=@PySem.F.args_tuple_add_2
abbrev av1:=@Option.isSome_iff_exists
abbrev av2:=@List.range'_eq_map_range
abbrev av3:=@Int.not_lt
abbrev av4:=@PySem.boot_len
abbrev av5:=@Bool.false_and
abbrev av6:=@PySem.F.entry_tuple_add
abbrev av7:=@List.pairwise_lt_range'
abbrev av8:=@PySem.wpAny_pyIter_enum
abbrev av9:=@List.reverse_cons
abbrev aw0:=@List.getElem?_set
abbrev aw1:=@PySem.Calls.spliced_nil
abbrev aw2:=@Int.one_mul
abbrev aw3:=@List.all_cons
set_option hygiene false
local macro_rules|`(101)=>`(by lia)
local macro_rules|`(102)=>`(by first | exact Or.inl rfl | exact Or.inr rfl)
local macro_rules|`(103)=>`(⟨rfl,rfl,rfl,by decide+kernel,rfl,by decide+kernel,by decide+kernel⟩)
local macro_rules|`(104)=>`(.ListComp elt [⟨tg,iter,ifs,0⟩,⟨gE,iter2,cV,0⟩] scope pos)
local macro_rules|`(105)=>`(by decide)
local macro_rules|`(106)=>`(model X.prog X.w)
local macro_rules|`(107)=>`(s.heap.push {cls:= .type "list",data:= .seq ([]:List Value).toArray})
local macro_rules|`(108)=>`((backTo bp (starEach [e] X.env)).all (fun x=>!x.1) && (backToKw bp (keywordEach [] X.env)).all (fun x=>x.1.isSome) && decide ([e].length+([]:List Keyword).length+(if ([]:List Keyword).isEmpty then 0 else 1) < 30))
local macro_rules|`(109)=>`(fE X N scope s H cl C ex)
local macro_rules|`(110)=>`(model prog w)
local macro_rules|`(111)=>`(aj0 (ag0 (I:=fun i c ax=>ax=gb/\c.1=none/\c.2=i/\bt R (arrOf gb) lo (lo+i)) (Q:=fun c ax=>ax=gb/\c.1=none/\1<=c.2/\c.2<=eJ/\bt R (arrOf gb) lo (lo+c.2)/\(c.2 < eJ->rk R (arrOf gb) (lo+c.2) < rk R (arrOf gb) (lo+c.2 - 1))) ?_ ?_ ⟨rfl,rfl,rfl,sg⟩) ?_)
local macro_rules|`(112)=>`(by simp)
local macro_rules|`(113)=>`(G++R.map (df n G))
local macro_rules|`(114)=>`(⟨⟨_,rfl⟩,.inr ⟨rfl,by dsimp only;exact iY,by dsimp only;lia,by dsimp only;lia,by dsimp only;lia,by dsimp only;lia,by dsimp only;lia⟩⟩)
local macro_rules|`(115)=>`(.ListComp elt [⟨tg,iter,ifs,0⟩] scope pos)
local macro_rules|`(116)=>`(backToKw pos (keywordEach iV X.env))
local macro_rules|`(117)=>`(⟨rfl,rfl,by dsimp only;lia,by dsimp only;lia,by dsimp only;exact e3,fun _=>by dsimp only;exact ad6 bw⟩)
local macro_rules|`(118)=>`(⟨rfl,by decide+kernel,by decide,rfl,by decide+kernel,(by show∀x∈(_:List (Str × NameKind)),x.2=NameKind.free->(ab jB).names.lookup x.1=some .cell\/(ab jB).names.lookup x.1=some .free;decide+kernel)⟩)
local macro_rules|`(119)=>`(⟨rfl,by decide+kernel,by decide,rfl,by decide+kernel,(by show∀x∈(_:List (Str × NameKind)),x.2=NameKind.free->(ab dg).names.lookup x.1=some .cell\/(ab dg).names.lookup x.1=some .free;decide+kernel)⟩)
local macro_rules|`(120)=>`(List.range' 1 n)
local macro_rules|`(121)=>`(⟨⟨_,rfl⟩,rfl,by dsimp only;exact iY,by dsimp only;lia,by dsimp only;lia,by dsimp only;lia,by dsimp only;lia,by dsimp only;lia⟩)
local macro_rules|`(122)=>`(starEach [] X.env)
local macro_rules|`(123)=>`(Addr × Obj)
local macro_rules|`(124)=>`(.Name x xp)
local macro_rules|`(125)=>`(backToKw pos (keywordEach [⟨nm,.Constant (.int n0) j cp,kQ⟩] X.env))
local macro_rules|`(126)=>`(.ref s.heap.objs.size)
local macro_rules|`(129)=>`(fun _ _=>False)
local macro_rules|`(130)=>`(⟨⟨_,rfl⟩,.inr ⟨rfl,by dsimp only;exact iY,by dsimp only;lia,by dsimp only;lia,by dsimp only;lia⟩⟩)
local macro_rules|`(131)=>`(ns.map V.int)
local macro_rules|`(132)=>`(Str × NameKind)
local macro_rules|`(133)=>`(⟨k.bs,k.ex,fun b hb=>(bJ hb).elim (k.fr b) fun z=>absurd z aa8,fun b z=>⟨k.m0 b z,fun y=>?_⟩,fun b z=>k.m1 b z.1,fun d c e=>?_,fun j s as g1 g2 nb=>?_⟩)
local macro_rules|`(134)=>`(fun b=>M b\/b=D)
local macro_rules|`(135)=>`(N.length - ps.length)
local macro_rules|`(136)=>`(arrOf st)
local macro_rules|`(137)=>`(List Nat)
local macro_rules|`(138)=>`(⟨⟨_,rfl⟩,rfl,by dsimp only;exact iY,by dsimp only;lia,by dsimp only;lia,by dsimp only;lia⟩)
local macro_rules|`(139)=>`(⟨m',PD,i+1,cf,mi,xK.fI.weak l8.symm fun k v e=>?_,T.keep _ _ _ Cb fun b hb o e=>(xK.pin (b,o) (ad8 _ (ad8 _ (cu hb e)))).1,fun b hb=>?_,NS⟩)
local macro_rules|`(141)=>`(⟨by rw[ad5,E.ls],by rw[ad5,ad5,E.la],fun j s hj=>?_,cB E.nd ao7 (fun x hx=>absurd hx aa8),fun b hb=>?_,fun b hb=>E.al b hb.1,fun W hW=>?_⟩)
local macro_rules|`(142)=>`(starEach [e] X.env)
local macro_rules|`(143)=>`(s.heap.objs.size+1)
local macro_rules|`(144)=>`(⟨⟨_,rfl,rfl⟩,?_⟩)
local macro_rules|`(145)=>`(⟨t,by rw[ab2 this];exact e1,by rw[ab2 this];exact e2⟩)
local macro_rules|`(146)=>`(x==("__debug__":Str))
local macro_rules|`(147)=>`((fH s.heap b1 b2 a1 a2).push {cls:= .type "tuple",data:= .seq #[.ref s.heap.objs.size,.ref (s.heap.push (Ao b1 a1)).objs.size]})
local macro_rules|`(148)=>`(List.range (n+1))
local macro_rules|`(149)=>`(by omega)
local macro_rules|`(151)=>`(backTo pos (starEach es X.env))
local macro_rules|`(152)=>`(Nat × Nat × Nat)
local macro_rules|`(153)=>`(arrOf ax)
local macro_rules|`(154)=>`(aj (a8 (v:= .ty "bool") (by rfl) T.bool dA rfl) aK)
local macro_rules|`(155)=>`(⟨W,M,α,δ1,_,E1,q1,fun d2 δ2 H2 y q2 E2 c2 r2=>k _ _ _ _ q2 E2 (c1.tr c2) r2⟩)
local macro_rules|`(156)=>`(ha pos pins s σ H _ I h)
local macro_rules|`(157)=>`(⟨f0,f1,by dsimp only;lia,aa4 _,f3,fun z=>absurd z (af2 _)⟩)
local macro_rules|`(158)=>`(fun ds Qd h=>?_)
local macro_rules|`(159)=>`(.lst xs)
local macro_rules|`(160)=>`(fun _ _ _ _ _=>dI)
local macro_rules|`(161)=>`(⟨fun M' α' H' σ' δ' E' q=>kk _ _ _ q (same E').1 .aC,fun M' α' H' σ' δ' v d E' r' q=>kk _ _ _ q (same E').1 (r'.mono fun a o e n=>⟨e,fun z=>n ((same E').2 a z)⟩),fun _ _ _ _ _ _ z=>z.elim,fun _ _ _ _ _ _ z=>z.elim⟩)
local macro_rules|`(162)=>`(show false=true from hs)
local macro_rules|`(163)=>`(⟨_,_,rfl,⟨_,rfl,rfl⟩,⟨_,rfl,rfl⟩,rfl,fun _=>?_⟩)
local macro_rules|`(164)=>`(k==NameKind.free && env.scope.kind== .function && env.kindOf n==some .cell)
local macro_rules|`(165)=>`(⟨_,ae,fun xs z=>by cases z⟩)
local macro_rules|`(166)=>`(⟨rfl,I.turned (t':=s.toks) (fun b o hb e=>eb b o hb e) f0 f1 f3 f4 f5⟩)
local macro_rules|`(167)=>`(aa (dv 0) af)
local macro_rules|`(168)=>`(({s with heap:=s.heap.push {cls:= .type "dict",data:= .dict #[]}}:Shared))
local macro_rules|`(169)=>`(ha pins s σ H _ I h)
local macro_rules|`(170)=>`(ae0 h₀ (fun _ s₂ h₂=>aa0 (ae0 h₂ (fun ok s₃ h₃=>?_) fun _ _ h'=>h'.elim)) fun _ _ h'=>h'.elim)
local macro_rules|`(171)=>`(.Tuple es x1 tp)
local macro_rules|`(172)=>`(upd H s.heap.objs.size (.lst []))
local macro_rules|`(173)=>`(k9 dY P w K mg base N qual (ab st) f bK A outer s H E)
local macro_rules|`(174)=>`(fun j=>yX k (ds.getD j .aC) (es.getD j .aC))
local macro_rules|`(175)=>`(vs.toArray.zip vs.toArray)
local macro_rules|`(176)=>`(([]:List Addr))
local macro_rules|`(177)=>`(h'.push (PySem.W.kla_obj "<lambda>" (hZ x) params body scope cc ((X.mg "__name__").getD .none) c' qr))
local macro_rules|`(178)=>`(Nat × Nat)
local macro_rules|`(179)=>`(A.deeper (envOfC qual (ab st) s.heap.objs.size f bK))
local macro_rules|`(180)=>`(aM n G W)
local macro_rules|`(181)=>`(([]:List Value))
local macro_rules|`(182)=>`(fun bK A outer s H vs Q E hr h=>?_)
local macro_rules|`(183)=>`(ab9.mpr z)
local macro_rules|`(184)=>`((items.toList.drop (cT items.size 0 lo)).take (cT items.size items.size hi - cT items.size 0 lo))
local macro_rules|`(185)=>`(s.heap.push {cls:= .type "dict",data:= .dict #[]})
local macro_rules|`(186)=>`(fun z=>nomatch z)
local macro_rules|`(187)=>`(show(["_law_one","_law_other"]:List Str).Nodup by decide+kernel)
local macro_rules|`(188)=>`(fun r s'=>r= .ok (.ret (.bool true))/\OldK s₁.heap s'.heap/\s'.os=s₁.os/\AllBare s'.gens)
local macro_rules|`(189)=>`(.Call (.Name x p) (e::es) [] pos)
local macro_rules|`(190)=>`(⟨E1.ls,E1.la,fun i s h=>let ⟨o,as,h1,h2,h3⟩:=E1.sl i s h;⟨o,as,h1,h2,(h3.grow (u:= .lst acc) hD).same su⟩,E1.nd,fun a h=> .inl (E1.mu a h),O3,fun W hW=>absurd hW aa8⟩)
local macro_rules|`(191)=>`((∃r,c.1=some r/\Out R a b r)\/(c.1=none/\Hi R a b c.2.2.2.1 c.2.1 c.2.2.1/\1<=c.2.1/\c.2.1<=a.size/\2<=c.2.2.1/\c.2.2.1<=b.size/\1+(i+1)<=(a.size - c.2.1)+(b.size - c.2.2.1)))
local macro_rules|`(192)=>`(s.heap.push uk)
local macro_rules|`(193)=>`(fun i d δ hi hP Δ' qc FL=>?_)
local macro_rules|`(194)=>`(Option Nat)
local macro_rules|`(195)=>`(⟨by rw[ah (fun z=>n (.inr z))];exact e,n⟩)
local macro_rules|`(196)=>`(∀b∈fp,H' b=none)
local macro_rules|`(197)=>`(⟨fun b o e _=>e,fun b n=>n,fun b hb=> .inl (by rw[ef] at hb;exact aa9.mp hb),fun b h=>h.1,fun b h=> .inl h,fun d c z=>(by cases z),fun j s as h1 h2 nb b hb=>?_⟩)
local macro_rules|`(198)=>`(yK (aa (dv 0) (aa (dv 1) af)) fun z=>rM (by rfl) T.zip z)
local macro_rules|`(199)=>`(by rfl)
local macro_rules|`(201)=>`(s.heap.push {cls:= .type "range",data:= .fields #[.int lo t,.int hi u,.int 1 v]})
local macro_rules|`(202)=>`(by first | exact .inl rfl | exact .inr rfl | assumption)
local macro_rules|`(203)=>`(.tup xs)
local macro_rules|`(204)=>`(⟨I3.E8 (ch:=fp) os hb aQ J.bare fun b hb=>⟨(ff b hb).2.2.2.1,(ff b hb).2.1,(ff b hb).2.2.2.2.1,(ff b hb).2.2.2.2.2⟩,?_,let ⟨m,q,_⟩:=J.loc;⟨m,q⟩⟩)
local macro_rules|`(205)=>`(⟨by lia,by lia⟩)
local macro_rules|`(206)=>`(aa (dv 1) af)
local macro_rules|`(207)=>`(⟨hn b hb,(I4.ok.NH b (by rw[Fl];exact hb)).1,I4.ok.AF b (by rw[Fl];exact hb),.inl (by rw[Fl];exact hb),(I4.ok.NH b (by rw[Fl];exact hb)).2,fun p hp=>?_⟩)
local macro_rules|`(208)=>`(⟨fun b o e _=>e,fun b n=>n,fun a ha=>by rw[bG] at ha;exact absurd ha aa8,fun a h=>h,fun a h=> .inl h,fun d c e=>(by cases e),fun j s as h1 h2 _ a ha=>?_⟩)
local macro_rules|`(209)=>`(∀x c,X.env.cells.lookup x=some c->c≠b)
local macro_rules|`(210)=>`(tryCatch (pyNext (.ref I)) _ >>=_)
local macro_rules|`(211)=>`(backToKw pos (keywordEach iV env))
local macro_rules|`(212)=>`(s.heap.push {cls:= .type "tuple_iterator",data:= .fields #[.ref p,.int 0 0]})
local macro_rules|`(213)=>`(∀j,j < xs.length->kf j<=kf i/\(j < i->kf j < kf i))
local macro_rules|`(214)=>`(aR I q rfl)
local macro_rules|`(215)=>`(s.heap.push {cls:= .type "list_iterator",data:= .fields #[.ref p,.int 0 0]})
local macro_rules|`(216)=>`(List.replicate k.toNat [V.int 5])
local macro_rules|`(217)=>`(wpS_lift (aj5 ⟨rfl,?_⟩))
local macro_rules|`(218)=>`(k0==NameKind.free && env.scope.kind== .function && env.kindOf n==some .cell)
local macro_rules|`(219)=>`(envOfC qual scope s.heap.objs.size f cd)
local macro_rules|`(220)=>`(dG s.heap b1 b2 a1 a2)
local macro_rules|`(221)=>`(Draws.list (prog:=prog) (w:=w) (A:=A) hh it t qe ai)
local macro_rules|`(222)=>`(show(["word","on","worth","left","group"]:List Str).Nodup by decide+kernel)
local macro_rules|`(223)=>`((∃r,c.1=some r/\Out R a b r)\/(c.1=none/\Lo R a b c.2.1 c.2.2.1 c.2.2.2.1/\c.2.2.1+1 < a.size/\c.2.2.2.1 < b.size/\1+(i+1)<=c.2.2.1+c.2.2.2.1))
local macro_rules|`(224)=>`(∃g,ax=setG st g)
local macro_rules|`(225)=>`(List Addr)
local macro_rules|`(226)=>`(.ref a)
local macro_rules|`(227)=>`(⟨_,rfl,_,rfl,_,rfl,cw ⟨_,rfl,_,rfl,_,rfl,_,rfl,cw ⟨_,rfl,_,rfl,true,(show some (decide _)=some true from ai5 some (ad3 rfl)),q⟩⟩⟩)
local macro_rules|`(228)=>`(by rw[E.la];exact dQ)
local macro_rules|`(229)=>`(ak4 (aa0 (ae0 (turn n s hI) (fun r s₁ h₁=>?_) fun _ _ h'=>h'.elim)))
local macro_rules|`(230)=>`(L.map fun x=>((.inl x:Key),V.bl true))
local macro_rules|`(231)=>`(fun _ _ z=>z)
local macro_rules|`(232)=>`(decide (na - k < 7) && decide (nb - 1 - k2 < 7))
local macro_rules|`(233)=>`((n:Int)+1)
local macro_rules|`(234)=>`(if j < a/\_ then T a else T j)
local macro_rules|`(235)=>`(fun δ hP=>?_)
local macro_rules|`(236)=>`(by simpa using h)
local macro_rules|`(237)=>`(am1 (name:=Str.ofString "__next__") a1.typeIs ap9 (ao8 ap9 a1.typeIs F.entry_tuple_iterator_next ?_ (F.args_tuple_iterator_next_1 _)))
local macro_rules|`(238)=>`(PySem.W.fnOf x qual (fq st) (bT st) (ab st) .none kV doc pm an bK ct)
local macro_rules|`(239)=>`(aa0 (ae0 h₃ (fun x s₄ h₄=>aa0 (ae0 h₄ (fun _ s₅ h₅=>aa7 (aa7 ⟨rfl,h₅⟩)) fun _ _ h'=>h'.elim)) fun _ _ h'=>h'.elim))
local macro_rules|`(240)=>`(forIn ifs true fun c r=>if r=true then do let ok<-isTrue c env (eval c env);pure (ForInStep.yield ok) else pure (ForInStep.yield r))
local macro_rules|`(241)=>`(.Name "enumerate" p)
local macro_rules|`(242)=>`(fun w hw=>hU rx fx r fs w (by simpa using hw))
local macro_rules|`(243)=>`(fun b=>M b/\b≠a)
local macro_rules|`(244)=>`(by simpa using h2)
local macro_rules|`(245)=>`(by simpa using h1)
local macro_rules|`(246)=>`(apos.endLine==bp.line)
local macro_rules|`(247)=>`(.Call (.Name "max" np) [e] [⟨some "key",.Lambda params body scope lp,kp⟩,⟨some "default",.Constant .none j cp,dp⟩] pos)
local macro_rules|`(248)=>`(⟨v,e,R.st r (fun _ _ _ q=>q) fun b u q n=>⟨q,fun z=>n z.1⟩⟩)
local macro_rules|`(249)=>`(b∈X.ex\/X.s₀.heap.objs.size<=b)
local macro_rules|`(251)=>`(some w)
local macro_rules|`(252)=>`(PySem.W.fnOf x x (fq st) (bT st) (ab st) .none kV dc pm an cd ct)
local macro_rules|`(253)=>`(EP X pins σ Q)
local macro_rules|`(254)=>`(fun b=>M b\/b=p)
local macro_rules|`(257)=>`(ag1 _ _ (fun z:S=x=>hS (by rw[z];exact hx)))
local macro_rules|`(258)=>`(((i+k:Nat):Int))
local macro_rules|`(259)=>`(⟨s,_,by unfold aX;rw[am0,aa1 hi];rfl,Rep.lz ae (mo.fresh e2) (.cons (.int _) (.one ((rr.2 i y _ hy (aa1 hi)).same s)))⟩)
local macro_rules|`(260)=>`((ag1 _ _ (Ne.symm n2)).trans (hk x o n1 e))
local macro_rules|`(261)=>`(∀(j:Nat) x y,xs[j]?=some x->ys[j]?=some y->xO H k x y (e j))
local macro_rules|`(262)=>`(upd H d (.dK (bx c (t+1))))
local macro_rules|`(263)=>`(show u=Value.ref a from rx)
local macro_rules|`(264)=>`(Key × V)
local macro_rules|`(265)=>`(Str × Addr)
local macro_rules|`(266)=>`(K w.params)
local macro_rules|`(267)=>`(assign (.Name y py) X.env)
local macro_rules|`(268)=>`((fH h b1 b2 a1 a2).push {cls:= .type "tuple",data:= .seq #[.ref h.objs.size,.ref (h.push (Ao b1 a1)).objs.size]})
local macro_rules|`(269)=>`((toString "max"++toString ".loop":String))
local macro_rules|`(270)=>`(fun b u e n=>by rw[ah (fun z=>n (by rw[z];simp))];exact e)
local macro_rules|`(271)=>`(by rw[eT,Yw,YA] at*;exact T.self _ 0 _ _ _ (T.keep _ _ _ st fun b _ o e=>ar5 _ _ b o (aa3 _ (kD b o e))) loop)
local macro_rules|`(272)=>`(h.map xI)
local macro_rules|`(273)=>`(fun vs H Q E h=>?_)
local macro_rules|`(274)=>`(⟨fun b o e n hb hx=>?_,fun b o e n hb hx=>?_,I.base.free,fun b o e hx=>?_,I.base.tK,I.base.o5,I.base.oR⟩)
local macro_rules|`(275)=>`(fun a (p,j)=>a.setIfInBounds (sa+j) p)
local macro_rules|`(276)=>`(∀(j:Nat) d e,ds[j]?=some d->es[j]?=some e->Jz k d e)
local macro_rules|`(277)=>`((vs.map (·.2)))
local macro_rules|`(278)=>`(seqItems? (.ref S) >>=_)
local macro_rules|`(279)=>`(min ds.length es.length)
local macro_rules|`(280)=>`((false,eval (.Call (.Name "range" p2) [a] [] t8) X.env))
local macro_rules|`(281)=>`(assignEach [.Name x px,.Name y py,.Name z pz] X.env)
local macro_rules|`(282)=>`(a.extract i j)
local macro_rules|`(283)=>`(.Compare a [op] [b] pos)
local macro_rules|`(284)=>`(⟨_,rfl,_,rfl,a9 ⟨_,rfl,_,rfl,_,rfl,a9 ⟨_,rfl,_,rfl,_,rfl,a9 ⟨_,rfl,_,rfl,_,rfl,a9 ?_⟩⟩⟩⟩)
local macro_rules|`(285)=>`(uI X A (p::caps) x scope f c' cc s H)
local macro_rules|`(286)=>`(gi G i)
local macro_rules|`(287)=>`(do let v<-whole;standAt e.pos;holding [v] (truthy v))
local macro_rules|`(288)=>`(I.ok.hd hc)
local macro_rules|`(289)=>`(.Name y py)
local macro_rules|`(290)=>`(am9 (ab0 (am9 (ab1 ⟨rfl,by dsimp only;lia,by dsimp only;lia,_,w2.pm,w2.kind,w2.failed,rfl,?_⟩))))
local macro_rules|`(291)=>`(∃o,h'.get? e=some o/\o.cls= .type "StopIteration")
local macro_rules|`(292)=>`(kF nt js σ)
local macro_rules|`(293)=>`(k9 CX P w K mg base N qual scope f bK A outer s H E)
local macro_rules|`(294)=>`(backTo pos (starEach (e::rest) env))
local macro_rules|`(295)=>`(W++ [(a,b)])
local macro_rules|`(296)=>`(HT.cT xs.length xs.length hi - HT.cT xs.length 0 lo)
local macro_rules|`(297)=>`(Builtin.SmallTypes.nextOf (.ref it))
local macro_rules|`(298)=>`(by dsimp only;exact ho)
local macro_rules|`(299)=>`(List.range' i h.length)
local macro_rules|`(301)=>`(.inl rfl)
local macro_rules|`(302)=>`(ae0 h₁ (fun _ s₀ h₀=>?_) fun _ _ h'=>h'.elim)
local macro_rules|`(303)=>`(⟨_,rfl,_,rfl,_,rfl,_,rfl,true,rfl,_,rfl,a9 ⟨_,rfl,_,rfl,_,rfl,_,rfl,true,rfl,_,rfl,a9 ?_⟩⟩)
local macro_rules|`(304)=>`(⟨by show 0<=sizeLine;decide,⟨_,rfl,rfl⟩,?_⟩)
local macro_rules|`(305)=>`(⟨_,_,rfl,⟨_,rfl,rfl⟩,⟨_,rfl,rfl⟩,rfl,fun _=>⟨_,rfl,_,rfl,_,rfl,pe _ (ag9 _),rfl⟩⟩)
local macro_rules|`(306)=>`(δ.set i (.im (.jn ks ds)))
local macro_rules|`(307)=>`(by simp only [ab5] <;> lia)
local macro_rules|`(308)=>`((((l6 n T).count 0:Nat):Int))
local macro_rules|`(309)=>`(⟨e,fun z=>n z.1⟩)
local macro_rules|`(310)=>`(i0 (l7 (dv 0) (dv 1)))
local macro_rules|`(311)=>`(h2.ext (fun o e=>k3 _ o D.i2z D.i12.symm D.TOi2.symm e) fun o e=>k3 _ o D.l2z D.l2i1 D.l2TO e)
local macro_rules|`(312)=>`(fun b=>if b=D then none else H2 b)
local macro_rules|`(313)=>`(fun b o hb e=>(sb.2 b hb).trans e)
local macro_rules|`(314)=>`(c1.tr c2)
local macro_rules|`(315)=>`(backToKw pos (keywordEach [⟨nm,f,kQ⟩] X.env))
local macro_rules|`(316)=>`(W.frame _ _ _ ax fun x hx o e=>?_)
local macro_rules|`(317)=>`(show numsOf ai.toArray.toList=ns from hi.numsOf)
local macro_rules|`(318)=>`(Array Keyed)
local macro_rules|`(319)=>`(⟨_,rfl,_,rfl,by lia,by lia,?_⟩)
local macro_rules|`(320)=>`(hs.2 b (af0 (ac8 (ad0 e) (I.ok.QS x c Ax hc))))
local macro_rules|`(321)=>`(Value.builtin "range.__reversed__"==Value.none)
local macro_rules|`(322)=>`(lo+n - 1)
local macro_rules|`(323)=>`(hi pins s σ H _ I h)
local macro_rules|`(324)=>`(he pins s σ H _ I h)
local macro_rules|`(325)=>`(fun xs z=>by cases z)
local macro_rules|`(326)=>`(by rw[E.la];exact hi)
local macro_rules|`(327)=>`(.Call (.Name "isinstance" p) [e,.Tuple [.Name "list" p1,.Name "tuple" p2] k pt] [] pos)
local macro_rules|`(328)=>`(∀H' v d,Qd d->aq H H'->Rep M H' v d->Q v H')
local macro_rules|`(329)=>`(σ.set i (some v))
local macro_rules|`(330)=>`(upd H s.heap.objs.size (.dK []))
local macro_rules|`(331)=>`(hd G v G.length)
local macro_rules|`(332)=>`(by show A.units+1+k < cLine;lia)
local macro_rules|`(333)=>`((Str.ofString "default",d))
local macro_rules|`(334)=>`(List (Option Int))
local macro_rules|`(335)=>`((List.range n).map fun k=>Dt.int (1+(k:Nat)))
local macro_rules|`(336)=>`(r1.chg E1 c2)
local macro_rules|`(337)=>`(jG hu (pv 0) ji (fun _ _=>rfl))
local macro_rules|`(338)=>`(aG.any fun kv=>decide (kv.1=k))
local macro_rules|`(339)=>`(Shared.heap ⟨hp,g,d,tk,os⟩)
local macro_rules|`(340)=>`(List.range n)
local macro_rules|`(341)=>`(⟨by decide,by decide⟩)
local macro_rules|`(342)=>`(α.set i [])
local macro_rules|`(343)=>`(seqObj "list" #[] 0)
local macro_rules|`(344)=>`(fun x=>do noteFrame x env;theTreesLotGoes x)
local macro_rules|`(345)=>`(I1.aQ.fresh (aa4 _))
local macro_rules|`(346)=>`(.ref it)
local macro_rules|`(347)=>`(.lst (ms.map V.int))
local macro_rules|`(348)=>`(aa5.mp hi)
local macro_rules|`(349)=>`(.BoolOp .And (a::b::rest) pos)
local macro_rules|`(351)=>`(kf _ _ h n)
local macro_rules|`(352)=>`(assignEach [.Name x px,.Name y py] X.env)
local macro_rules|`(353)=>`(.lst [])
local macro_rules|`(354)=>`(.Tuple [a,b] k2 Ks)
local macro_rules|`(355)=>`(.BoolOp .Or (a::b::rest) pos)
local macro_rules|`(356)=>`(some v)
local macro_rules|`(357)=>`(aa7 ?_)
local macro_rules|`(358)=>`(N.length - 2)
local macro_rules|`(359)=>`(@aa _ _ _ _ _ (dv 5) af rfl)
local macro_rules|`(360)=>`(.type "dict")
local macro_rules|`(361)=>`(.builtin id)
local macro_rules|`(362)=>`(.Name x pos)
local macro_rules|`(363)=>`(show u=Value.ref b from ry)
local macro_rules|`(364)=>`(items.toList.zip aP.toList)
local macro_rules|`(365)=>`(.BoolOp .And (b::rest) pos)
local macro_rules|`(366)=>`(List.range vs.length)
local macro_rules|`(367)=>`(c==Value.type "enumerate")
local macro_rules|`(368)=>`(.BoolOp .Or (b::rest) pos)
local macro_rules|`(369)=>`((cz (cX hs L)).map Dt.int)
local macro_rules|`(370)=>`(xs.map (dat H m))
local macro_rules|`(371)=>`(bX n f p)
local macro_rules|`(372)=>`(.inl (ab9.mp c7))
local macro_rules|`(373)=>`(some (.Name x pos'))
local macro_rules|`(374)=>`(intItems xs)
local macro_rules|`(375)=>`(((0:Nat):Int))
local macro_rules|`(376)=>`(⟨_,rfl,?_⟩)
local macro_rules|`(377)=>`(xs.map fun x=>wt H m x+2)
local macro_rules|`(378)=>`(aa (dv 2) af)
local macro_rules|`(379)=>`(.ref p)
local macro_rules|`(380)=>`(∀d δ',Δ.rt d δ'->Δ'.rt d δ')
local macro_rules|`(381)=>`(vs.map some++List.replicate n none)
local macro_rules|`(382)=>`(⟨[.type "dict",a],[]⟩)
local macro_rules|`(383)=>`(tupleKind (bD P w))
local macro_rules|`(384)=>`(show false=true from fx)
local macro_rules|`(385)=>`(putK aG ps[i].1 ps[i].2)
local macro_rules|`(386)=>`(gi G W.length)
local macro_rules|`(387)=>`(fun a ha=>absurd ha aa8)
local macro_rules|`(388)=>`(ab4 _ rfl)
local macro_rules|`(389)=>`(a==sysModules)
local macro_rules|`(390)=>`(⟨[],[("default",d)]⟩)
local macro_rules|`(391)=>`(List.range' 1 h.length)
local macro_rules|`(392)=>`(.int i)
local macro_rules|`(393)=>`((·.1.isSome))
local macro_rules|`(394)=>`((·.1.isNone))
local macro_rules|`(395)=>`(aa ao af)
local macro_rules|`(396)=>`(aE hK ?_)
local macro_rules|`(397)=>`(.type T)
local macro_rules|`(398)=>`(.ref q)
local macro_rules|`(399)=>`(.ref f)
local macro_rules|`(401)=>`(Or.inl rfl)
local macro_rules|`(403)=>`(ns.map .int)
local macro_rules|`(404)=>`(ds.length+n)
local macro_rules|`(405)=>`(.ow ds)
local macro_rules|`(406)=>`(.dk ks ds)
local macro_rules|`(407)=>`(.dK aG)
local macro_rules|`(408)=>`(g.map xI)
local macro_rules|`(409)=>`(ab6 _ hz)
local macro_rules|`(410)=>`(Option Value)
local macro_rules|`(411)=>`(hf b hb)
local macro_rules|`(412)=>`(.tup ys)
namespace fY
open PySem PyProof.Rows
def fm:Bool->Keyed->Array Keyed->Nat->Nat->Nat->StateT SortSt Sem 194:=sortPriv% PySem.Builtin.gallop
def nN:Array Keyed->Array Keyed->StateT SortSt Sem 318:=sortPriv% PySem.Builtin.mergeLo
def nO:Array Keyed->Array Keyed->StateT SortSt Sem 318:=sortPriv% PySem.Builtin.mergeHi
abbrev setG(st:SortSt)(g:Nat):SortSt:=SortSt.mk' (kindOf st) 136 (pendingOf st) g (failedOf st)
section
variable{prog:Program}{w:World}{A:Around}{E:Value->Shared->Prop}{s:Shared}
theorem au{M:Model}{α:Type}{c:Prop} [Decidable c]{a b:StateT SortSt Sem α}{Q:α->SortSt->Prop}{st:SortSt}(h:c)(q:wpS M A E s a Q st):wpS M A E s (if c then a else b) Q st:=by rw[if_pos h];exact q
theorem av{M:Model}{α:Type}{c:Prop} [Decidable c]{a b:StateT SortSt Sem α}{Q:α->SortSt->Prop}{st:SortSt}(h: ¬c)(q:wpS M A E s b Q st):wpS M A E s (if c then a else b) Q st:=by rw[if_neg h];exact q
theorem aE{st:SortSt}{xs:Array Keyed}{i:Nat}(hi:i < xs.size)(h:Q xs[i] st):wpS 110 A E s (elem' xs i) Q st:=by
 rw[elem'_eq,aj4 hi];exact ab1 h
theorem wY(left:Bool)(key:Keyed)(arr:Array Keyed)(base n hint:Nat):fm left key arr base n hint=(do
 let beyond (i:Nat):StateT SortSt Sem (Option Bool):=do
  let x<-elem' arr (base+i)
  if left then lt' x key else return(<-lt' key x).map (!·)
 let mut mF:=0
 let mut Bp:=1
 let mut lo:=0
 let mut hi:=0
 let some right<-beyond hint | return none
 if right then
  let nP:=n - hint
  for _ in [0:n] do
   if Bp>=nP then break
   let some more<-beyond (hint+Bp) | return none
   if !more then break
   mF:=Bp
   Bp:=2*Bp+1
  lo:=hint+mF+1
  hi:=hint+min Bp nP
 else
  let nP:=hint+1
  for _ in [0:n] do
   if Bp>=nP then break
   let some found<-beyond (hint - Bp) | return none
   if found then break
   mF:=Bp
   Bp:=2*Bp+1
  lo:=hint+1 - min Bp nP
  hi:=hint - mF
 for _ in [0:n] do
  if lo>=hi then break
  let m:=lo+(hi - lo) / 2
  let some more<-beyond m | return none
  if more then lo:=m+1 else hi:=m
 return some hi):=rfl
def cO:Nat->StateT SortSt Sem Unit:=sortPriv% PySem.Builtin.setMinGallop
theorem cH(g:Nat):cO g=modify fun s=>setG s g:=rfl
theorem uB(a b:Array Keyed):nN a b=(do
 rule "list.sort.merge-lo"
 let total:=a.size+b.size
 let done (out:Array Keyed) (ia ib:Nat):=out++a.extract ia a.size++b.extract ib b.size
 let mG (out:Array Keyed) (ia ib:Nat):=out++b.extract ib b.size++a.extract ia a.size
 let mut out:Array Keyed:= #[<-elem' b 0]
 let mut ia:=0
 let mut ib:=1
 if ib==b.size then return done out ia ib
 if ia+1==a.size then return mG out ia ib
 let mut minGallop:=gallopOf (<-get)
 for _ in [0:total] do
  let mut dE:=0
  let mut dB:=0
  for _ in [0:total] do
   let some QU<-lt' (<-elem' b ib) (<-elem' a ia) | return done out ia ib
   if QU then
    out:=out.push (<-elem' b ib);ib:=ib+1;dB:=dB+1;dE:=0
    if ib==b.size then return done out ia ib
    if dB>=minGallop then break
   else
    out:=out.push (<-elem' a ia);ia:=ia+1;dE:=dE+1;dB:=0
    if ia+1==a.size then return mG out ia ib
    if dE>=minGallop then break
  rule "list.sort.gallop"
  minGallop:=minGallop+1
  for _ in [0:total] do
   if minGallop > 1 then minGallop:=minGallop - 1
   cO minGallop
   let some k<-fm false (<-elem' b ib) a ia (a.size - ia) 0 | return done out ia ib
   dE:=k
   if k > 0 then
    out:=out++a.extract ia (ia+k);ia:=ia+k
    if ia+1==a.size then return mG out ia ib
    if ia==a.size then return done out ia ib
   out:=out.push (<-elem' b ib);ib:=ib+1
   if ib==b.size then return done out ia ib
   let some k<-fm true (<-elem' a ia) b ib (b.size - ib) 0 | return done out ia ib
   dB:=k
   if k > 0 then
    out:=out++b.extract ib (ib+k);ib:=ib+k
    if ib==b.size then return done out ia ib
   out:=out.push (<-elem' a ia);ia:=ia+1
   if ia+1==a.size then return mG out ia ib
   if dE < 7 && dB < 7 then break
  minGallop:=minGallop+1
  cO minGallop
 unsupported "internal:list.sort.merge-bound"):=rfl
theorem wC{a:Array Keyed}(h:i < a.size):a[i]∈a.toList:=by simp
end
theorem Ju{β γ δ ε:Type}{A1 A2:Nat->Prop}{st:SortSt}{J:Nat->Option 318 × β × γ × δ × ε->Prop}{G:Nat->Option 318 × β × γ × δ × ε->SortSt->Prop}(h: ∀i a b c d g,A1 i->A2 i->J i (none,a,b,c,d)->G i (none,a,b,c,d) (setG st g)):
  ∀i c ax,A1 i->A2 i->(224/\c.1=none/\J i c)->G i c ax:=by
 rintro i ⟨r,a,b,c,d⟩ ax h1 h2 ⟨⟨g,rfl⟩,hr,hJ⟩
 have hr:r=none:=hr;subst hr;exact h i a b c d g h1 h2 hJ
theorem Jt{β γ δ ε ζ:Type}{A1 A2:Nat->Prop}{J:Nat->Option 318 × β × γ × δ × ε × ζ->Prop}{G:Nat->Option 318 × β × γ × δ × ε × ζ->SortSt->Prop}(h: ∀i a b c d e,A1 i->A2 i->J i (none,a,b,c,d,e)->G i (none,a,b,c,d,e) kF):
  ∀i c ax,A1 i->A2 i->(ax=kF/\c.1=none/\J i c)->G i c ax:=by
 rintro i ⟨r,a,b,c,d,e⟩ ax h1 h2 ⟨rfl,hr,hJ⟩
 have hr:r=none:=hr;subst hr;exact h i a b c d e h1 h2 hJ
theorem Js{β γ δ ε ζ η:Type}{A1 A2:Nat->Prop}{st:SortSt}{J:Nat->Option 318 × β × γ × δ × ε × ζ × η->Prop}{G:Nat->Option 318 × β × γ × δ × ε × ζ × η->SortSt->Prop}(h: ∀i a b c d e f g,A1 i->A2 i->J i (none,a,b,c,d,e,f)->G i (none,a,b,c,d,e,f) (setG st g)):
  ∀i c ax,A1 i->A2 i->(224/\c.1=none/\J i c)->G i c ax:=by
 rintro i ⟨r,a,b,c,d,e,f⟩ ax h1 h2 ⟨⟨g,rfl⟩,hr,hJ⟩
 have hr:r=none:=hr;subst hr;exact h i a b c d e f g h1 h2 hJ
theorem OF{β γ δ ε ζ:Type}{kF:SortSt}{K:Array Keyed->Prop}{J:Option 318 × β × γ × δ × ε × ζ->Prop}{G:Option 318 × β × γ × δ × ε × ζ->SortSt->Prop}(h1: ∀r a b c d e,K r->G (some r,a,b,c,d,e) kF)(h2: ∀a b c d e,J (none,a,b,c,d,e)->G (none,a,b,c,d,e) kF):
  ∀c ax,(ax=kF/\((∃r,c.1=some r/\K r)\/(c.1=none/\J c)))->G c ax:=by
 rintro⟨r,a,b,c,d,e⟩ ax ⟨rfl,⟨r',hr,k⟩ | ⟨hr,hJ⟩⟩
 . have hr:r=some r':=hr;subst hr;exact h1 _ _ _ _ _ _ k
 . have hr:r=none:=hr;subst hr;exact h2 _ _ _ _ _ hJ
theorem OE{β γ δ ε ζ η:Type}{st:SortSt}{K:Array Keyed->Prop}{J:Option 318 × β × γ × δ × ε × ζ × η->Prop}{G:Option 318 × β × γ × δ × ε × ζ × η->SortSt->Prop}(h1: ∀r a b c d e f g,K r->G (some r,a,b,c,d,e,f) (setG st g))(h2: ∀a b c d e f g,J (none,a,b,c,d,e,f)->G (none,a,b,c,d,e,f) (setG st g)):
  ∀c ax,(224/\((∃r,c.1=some r/\K r)\/(c.1=none/\J c)))->G c ax:=by
 rintro⟨r,a,b,c,d,e,f⟩ ax ⟨⟨g,rfl⟩,⟨r',hr,k⟩ | ⟨hr,hJ⟩⟩
 . have hr:r=some r':=hr;subst hr;exact h1 _ _ _ _ _ _ _ _ k
 . have hr:r=none:=hr;subst hr;exact h2 _ _ _ _ _ _ _ hJ
theorem uC(a b:Array Keyed):nO a b=(do
 rule "list.sort.merge-hi"
 let total:=a.size+b.size
 let done (out:Array Keyed) (na nb:Nat):=a.extract 0 na++b.extract 0 nb++out.reverse
 let jX (out:Array Keyed) (na nb:Nat):=b.extract 0 nb++a.extract 0 na++out.reverse
 let mut na:=a.size - 1
 let mut nb:=b.size
 let mut out:Array Keyed:= #[<-elem' a na]
 if na==0 then return done out na nb
 if nb==1 then return jX out na nb
 let mut minGallop:=gallopOf (<-get)
 for _ in [0:total] do
  let mut dE:=0
  let mut dB:=0
  for _ in [0:total] do
   let some QY<-lt' (<-elem' b (nb - 1)) (<-elem' a (na - 1)) | return done out na nb
   if QY then
    na:=na - 1;out:=out.push (<-elem' a na);dE:=dE+1;dB:=0
    if na==0 then return done out na nb
    if dE>=minGallop then break
   else
    nb:=nb - 1;out:=out.push (<-elem' b nb);dB:=dB+1;dE:=0
    if nb==1 then return jX out na nb
    if dB>=minGallop then break
  rule "list.sort.gallop"
  minGallop:=minGallop+1
  for _ in [0:total] do
   if minGallop > 1 then minGallop:=minGallop - 1
   cO minGallop
   let some at_<-fm false (<-elem' b (nb - 1)) a 0 na (na - 1) | return done out na nb
   let k:=na - at_
   dE:=k
   if k > 0 then
    out:=out++(a.extract at_ na).reverse;na:=at_
    if na==0 then return done out na nb
   nb:=nb - 1;out:=out.push (<-elem' b nb)
   if nb==1 then return jX out na nb
   let some at_<-fm true (<-elem' a (na - 1)) b 0 nb (nb - 1) | return done out na nb
   let k:=nb - at_
   dB:=k
   if k > 0 then
    out:=out++(b.extract at_ nb).reverse;nb:=at_
    if nb==1 then return jX out na nb
    if nb==0 then return done out na nb
   na:=na - 1;out:=out.push (<-elem' a na)
   if na==0 then return done out na nb
   if dE < 7 && dB < 7 then break
  minGallop:=minGallop+1
  cO minGallop
 unsupported "internal:list.sort.merge-bound"):=rfl
section
variable{prog:Program}{w:World}{A:Around}{E:Value->Shared->Prop}{s:Shared}{a₀:Array Keyed}{p:Array 152}
def Ch:Nat->List 152->Nat->Prop
 | s,[],e=>s=e
 | s,x::r,e=>x.1=s/\1<=x.2.1/\Ch (x.1+x.2.1) r e
theorem Ch.le: ∀{s e:Nat} {l:List 152},Ch s l e->s<=e
 | s,e,[],h=>Nat.le_of_eq h
 | s,e,x::r,h=>by have:=Ch.le h.2.2;have:=h.1;lia
theorem Ch.two: ∀{s e i:Nat} {l:List 152} {x y:Nat × Nat × Nat},Ch s l e->l[i]?=some x->l[i+1]?=some y->1<=x.2.1/\x.1+x.2.1=y.1/\1<=y.2.1/\y.1+y.2.1<=e
 | s,e,i,[],x,y,h,h1,_=>by simp at h1
 | s,e,0,[z],x,y,h,h1,h2=>by simp at h2
 | s,e,0,z::z2::r,x,y,h,h1,h2=>by
  cases (show z=x by simpa using h1);cases (show z2=y by simpa using h2);exact⟨h.2.1,h.2.2.1.symm,h.2.2.2.1,Ch.le h.2.2.2.2⟩
 | s,e,i+1,z::r,x,y,h,h1,h2=>Ch.two h.2.2 245 244
theorem uD(i:Nat):mergeAt' i=(do
 let s<-get
 let (some (sa,na,power),some (sb,nb,_)):=((pendingOf s)[i]?,(pendingOf s)[i+1]?) | unsupported "internal:list.sort.pending"
 set (setPending s (((pendingOf s).setIfInBounds i (sa,na+nb,power)).eraseIdxIfInBounds (i+1)))
 let some k<-fm false (<-elem' (arrOf s) sb) (arrOf s) sa na 0 | return false
 let (sa,na):=(sa+k,na - k)
 if na==0 then return true
 let some nb<-fm true (<-elem' (arrOf s) (sa+na - 1)) (arrOf s) sb nb (nb - 1) | return false
 if nb==0 then return true
 let x:=(arrOf s).extract sa sb
 let y:=(arrOf s).extract sb (sb+nb)
 let merged<-if na<=nb then nN x y else nO x y
 modify fun s=>setArr s (merged.toList.zipIdx.foldl 275 (arrOf s))
 return(failedOf (<-get)).isNone):=rfl
theorem FW{σ:Type}{M:Model}{Q:PUnit->σ->Prop}{st ax:σ}(h:Q ⟨⟩ ax):wpS M A E s (set ax:StateT σ Sem PUnit) Q st:=by
 unfold wpS;rw[StateT.run_set];exact aa7 ⟨rfl,h⟩
end
theorem nK: ∀{f n r:Nat},1<=n->1<=minRun' f n r
 | 0,n,r,h=>by show 1<=n+r;omega
 | f+1,n,r,h=>by
  rw[minRun'_succ];by_cases c:n < 64
  . rw[if_pos c];omega
  . rw[if_neg c];exact nK 149
end fY
namespace fX
open PySem PyProof.Rows fY
def rk(R:Keyed->Int)(a:Array Keyed)(i:Nat):Int:=(a[i]?.map R).getD 0
def eo(R:Keyed->Int)(a:Array Keyed):Prop:=a.toList.Pairwise fun x y=>R x<=R y
def Out(R:Keyed->Int)(a b m:Array Keyed):Prop:=m.toList.Perm (a.toList++b.toList)/\eo R m
section
variable{R:Keyed->Int}
theorem cn{a:Array Keyed}(h:i < a.size):rk R a i=R a[i]:=by
 unfold rk;rw[aj4 h];rfl
theorem eo.rk{a:Array Keyed}(h:eo R a){i j:Nat}(bE:i<=j)(hj:j < a.size):rk R a i<=rk R a j:=by
 rw[cn (show i < a.size by lia),cn hj];by_cases c:i=j
 . subst c;exact ae8 _
 . exact al0.mp h i j (by simpa using (show i < a.size by lia)) (by simpa using hj) 101
theorem gx{a:Array Keyed}:(282).toList=(a.toList.drop i).take (j - i):=by
 rw[Array.toList_extract,List.extract_eq_drop_take]
theorem dq{a:Array Keyed}(h:x∈(282).toList): ∃k,i<=k/\k < j/\k < a.size/\R x=fX.rk R a k:=by
 obtain⟨k,hk,e⟩:=ah2 h;have r8:k < (282).size:=by rw[<-ac5];exact hk
 have hs:(282).size=min j a.size - i:=an2;refine⟨i+k,by lia,by lia,by lia,?_⟩;rw[cn (show i+k < a.size by lia),<-e];congr 1
 rw[Array.getElem_toList,Array.getElem_extract]
theorem eo.ex(h:eo R a)(i j:Nat):eo R 282:=by
 unfold eo;rw[gx];exact(List.Pairwise.sublist (List.drop_sublist _ _) h).sublist (List.take_sublist _ _)
theorem yo{a out:Array Keyed}(h:i < a.size):out.push a[i]=out++a.extract i (i+1):=by
 apply at5.mp;rw[aq4,af5,gx,show i+1 - i=1 by lia];congr 1
 have h':i < a.toList.length:=by simpa using h
 rw[al1 h',List.take_succ_cons,ao6,Array.getElem_toList]
structure Lo(R:Keyed->Int)(a b out:Array Keyed)(ia ib:Nat):Prop where
 pm:(out.toList++(a.toList.drop ia++b.toList.drop ib)).Perm (a.toList++b.toList)
 so:eo R out
 la: ∀x∈out.toList,∀j,ia<=j->j < a.size->R x<=rk R a j
 lb: ∀x∈out.toList,∀j,ib<=j->j < b.size->R x<=rk R b j
theorem eo.app(h1:eo R m)(h2:eo R n)(h: ∀x∈m.toList,∀y∈n.toList,R x<=R y):eo R (m++n):=by
 unfold eo;rw[af5];exact List.pairwise_append.mpr ⟨h1,h2,h⟩
theorem yZ{a:Array Keyed}(h:i<=j):a.toList.drop i=(282).toList++a.toList.drop j:=by
 rw[gx];conv=>lhs;rw[<-an3 (j - i) (a.toList.drop i)]
 rw[List.drop_drop,show i+(j - i)=j by lia]
theorem Lo.ju{a b out:Array Keyed}{ia ib:Nat}(h:Lo R a b out ia ib)(sa:eo R a)(sb:eo R b){ia':Nat}(h1:ia<=ia')(hc:ia < ia'->ia'<=a.size->ib < b.size->rk R a (ia' - 1)<=rk R b ib)(h2:ia'<=a.size:=by lia):Lo R a b (out++a.extract ia ia') ia' ib:=by
 refine⟨?_,h.so.app (sa.ex _ _) fun x hx y hy=>?_,fun x hx j j1 j2=>?_,fun x hx j j1 j2=>?_⟩
 . rw[af5];refine List.Perm.trans ?_ h.pm;rw[yZ (a:=a) h1,ag6,ag6]
 . obtain⟨k,k1,k2,k3,e⟩:=dq (R:=R) hy;rw[e];exact h.la x hx k k1 k3
 . rw[af5] at hx;rcases af6.mp hx with z | z
   . exact h.la x z j 101 j2
   . obtain⟨k,k1,k2,k3,e⟩:=dq (R:=R) z;rw[e];exact sa.rk 101 j2
 . rw[af5] at hx;rcases af6.mp hx with z | z
   . exact h.lb x z j j1 j2
   . obtain⟨k,k1,k2,k3,e⟩:=dq (R:=R) z;rw[e];have q1:=sa.rk (show k<=ia' - 1 by lia) 101;have q2:=hc 101 h2 101;have q3:=sb.rk j1 j2;lia
theorem Lo.gQ{a b out:Array Keyed}{ia ib:Nat}(h:Lo R a b out ia ib)(sa:eo R a)(sb:eo R b){ib':Nat}(h1:ib<=ib')(hc:ib < ib'->ib'<=b.size->ia < a.size->rk R b (ib' - 1)<=rk R a ia)(h2:ib'<=b.size:=by lia):Lo R a b (out++b.extract ib ib') ia ib':=by
 refine⟨?_,h.so.app (sb.ex _ _) fun x hx y hy=>?_,fun x hx j j1 j2=>?_,fun x hx j j1 j2=>?_⟩
 . rw[af5];refine List.Perm.trans ?_ h.pm;rw[yZ (a:=b) h1,ag6];refine List.Perm.append_left _ ?_;rw[<-ag6,<-ag6];exact List.Perm.append_right _ List.perm_append_comm
 . obtain⟨k,k1,k2,k3,e⟩:=dq (R:=R) hy;rw[e];exact h.lb x hx k k1 k3
 . rw[af5] at hx;rcases af6.mp hx with z | z
   . exact h.la x z j j1 j2
   . obtain⟨k,k1,k2,k3,e⟩:=dq (R:=R) z;rw[e];have q1:=sb.rk (show k<=ib' - 1 by lia) 101;have q2:=hc 101 h2 101;have q3:=sa.rk j1 j2;lia
 . rw[af5] at hx;rcases af6.mp hx with z | z
   . exact h.lb x z j 101 j2
   . obtain⟨k,k1,k2,k3,e⟩:=dq (R:=R) z;rw[e];exact sb.rk 101 j2
theorem Lo.out{a b out:Array Keyed}{ia ib:Nat}(h:Lo R a b out ia ib)(h1:ia=a.size)(h2:ib=b.size):Out R a b out:=by
 refine⟨?_,h.so⟩;have:=h.pm;rw[h1,h2,List.drop_eq_nil_of_le 112,List.drop_eq_nil_of_le 112,ah8,ah8] at this;exact this
theorem Lo.done{a b out:Array Keyed}{ia ib:Nat}(h:Lo R a b out ia ib)(sa:eo R a)(sb:eo R b)(ha:ia<=a.size)(hb:ib<=b.size)(hh:ib=b.size\/ia=a.size):Out R a b (out++a.extract ia a.size++b.extract ib b.size):=
 ((h.ju sa sb ha (fun z1 _ z=>by lia) (aa4 _)).gQ sa sb hb (fun z1 _ z=>by lia) (aa4 _)).out rfl rfl
theorem Lo.last{a b out:Array Keyed}{ia ib:Nat}(h:Lo R a b out ia ib)(sa:eo R a)(sb:eo R b)(ha:ia<=a.size)(hb:ib<=b.size)(hl:ib < b.size->rk R b (b.size - 1)<=rk R a ia):Out R a b (out++b.extract ib b.size++a.extract ia a.size):=
 ((h.gQ sa sb hb (fun z1 _ z=>hl z1) (aa4 _)).ju sa sb ha (fun z1 _ z=>by lia) (aa4 _)).out rfl rfl
end
section
variable{prog:Program}{w:World}{A:Around}{E:Value->Shared->Prop}{s:Shared}{κ:SortKind}{R:Keyed->Int}{D:Keyed->Prop}
def pC(prog:Program)(w:World)(A:Around)(E:Value->Shared->Prop)(s:Shared)(κ:SortKind)(R:Keyed->Int)(D:Keyed->Prop):Prop:= ∀(st:SortSt) (x y:Keyed) (Q:Option Bool->SortSt->Prop),kindOf st=κ->D x->D y->Q (some (decide (R x < R y))) st->wpS 110 A E s (lt' x y) Q st
def Dk(D:Keyed->Prop)(a:Array Keyed):Prop:= ∀i (h:i < a.size),D a[i]
def gf(R:Keyed->Int)(left:Bool)(r:Int)(a:Array Keyed)(i:Nat):Bool:=if left then decide (rk R a i < r) else !decide (r < rk R a i)
theorem vg(h:rk R a i<=rk R a j)(hb:gf R left r a j=true):gf R left r a i=true:=by
 unfold gf at hb ⊢;cases left
 . simp at hb ⊢;lia
 . simp at hb ⊢;lia
theorem Fe(h:rk R a i<=rk R a j)(hb:gf R left r a i=false):gf R left r a j=false:=by
 cases e:gf R left r a j with
 | false=>rfl
 | true=>rw[vg h e] at hb;cases hb
theorem ox(h:gf R true r a i=true):rk R a i < r:=by unfold gf at h;simpa using h
theorem oy(h:gf R true r a i=false):r<=rk R a i:=by unfold gf at h;simpa using h
theorem xB(h:gf R false r a i=true):rk R a i<=r:=by unfold gf at h;simpa using h
theorem xC(h:gf R false r a i=false):r < rk R a i:=by unfold gf at h;simpa using h
theorem mw(L:pC prog w A E s κ R D){st:SortSt}{left:Bool}{base i:Nat}(hk:kindOf st=κ)(hx:Dk D arr)(rZ:D key)(hi:base+i < arr.size)(h:Q (some (gf R left (R key) arr (base+i))) st):
  wpS 110 A E s (do
   let x<-elem' arr (base+i)
   if left then lt' x key else return(<-lt' key x).map (!·)) Q st:=by
 refine ab0 (aE hi ?_);unfold gf at h;rw[cn hi] at h;cases left with
 | true=>rw[if_pos rfl] at h ⊢;exact L _ _ _ _ hk (hx _ hi) rZ h
 | false=>
  rw[if_neg ab3] at h ⊢;exact ab0 (L _ _ _ _ hk rZ (hx _ hi) (ab1 h))
theorem fc(L:pC prog w A E s κ R D){st:SortSt}{left:Bool}{base n hint:Nat}(hk:kindOf st=κ)(hx:Dk D arr)(rZ:D key)(hb:base+n<=arr.size)(hh:hint < n)(hm: ∀i j,i<=j->j < n->rk R arr (base+i)<=rk R arr (base+j))(h: ∀k,k<=n->(∀i,i < k->gf R left (R key) arr (base+i)=true)->(∀i,k<=i->i < n->gf R left (R key) arr (base+i)=false)->Q (some k) st):wpS 110 A E s (fm left key arr base n hint) Q st:=by
 have up: ∀j,j < n->gf R left (R key) arr (base+j)=true-> ∀i,i<=j->gf R left (R key) arr (base+i)=true:=fun j hj hb i hi=>vg (hm i j hi hj) hb;have dn: ∀i,gf R left (R key) arr (base+i)=false-> ∀j,i<=j->j < n->gf R left (R key) arr (base+j)=false:=fun i hb j hi hj=>Fe (hm i j hi hj) hb;rw[wY];dsimp only;have tail: ∀lo hi:Nat,lo<=hi->hi<=n->(∀i,i < lo->gf R left (R key) arr (base+i)=true)->(∀i,hi<=i->i < n->gf R left (R key) arr (base+i)=false)->wpS 110 A E s (do
   let mut lo:=lo
   let mut hi:=hi
   for _ in [0:n] do
    if lo>=hi then break
    let m:=lo+(hi - lo) / 2
    let some more<-(do
      let x<-elem' arr (base+m)
      if left then lt' x key else return(<-lt' key x).map (!·):StateT SortSt Sem (Option Bool)) | return none
    if more then lo:=m+1 else hi:=m
   return some hi) Q st:=by
  intro lo hi Ug YZ hP hN;dsimp only;refine ab0 (aj0 (ag0 (I:=fun x c ax=>ax=st/\c.1=none/\c.2.1<=c.2.2/\c.2.2<=n/\c.2.2 - c.2.1<=n - x/\(∀i,i < c.2.1->gf R left (R key) arr (base+i)=true)/\ ∀i,c.2.2<=i->i < n->gf R left (R key) arr (base+i)=false)
   (Q:=fun c ax=>ax=st/\c.1=none/\c.2.1=c.2.2/\c.2.2<=n/\(∀i,i < c.2.1->gf R left (R key) arr (base+i)=true)/\ ∀i,c.2.2<=i->i < n->gf R left (R key) arr (base+i)=false) ?step ?fin ⟨rfl,rfl,Ug,YZ,by dsimp only;lia,hP,hN⟩) ?post)
  case post=>
   rintro⟨r,l,u⟩ ax ⟨rfl,h1,h2,h3,h4,h5⟩
   dsimp only at h1 h2 h3 h4 h5 ⊢;subst h1;subst h2;exact ab1 (h _ h3 h4 h5)
  case fin=>
   rintro⟨r,l,u⟩ ax ⟨h0,h1,h2,h3,h4,h5,h6⟩
   dsimp only at h2 h4;exact⟨h0,h1,by dsimp only;lia,h3,h5,h6⟩
  case step=>
   rintro x ⟨r,l,u⟩ ax _ hxn ⟨rfl,h1,h2,h3,h4,h5,h6⟩
   dsimp only at h1 h2 h3 h4 h5 h6 ⊢;subst h1;by_cases c:l>=u
   . rw[if_pos c];exact ab1 ⟨rfl,rfl,by dsimp only;lia,h3,h5,h6⟩
   . rw[if_neg c];refine ab0 (mw L hk hx rZ 101 ?_);cases e:gf R left (R key) arr (base+(l+(u - l) / 2))
     . exact ab1 ⟨rfl,rfl,by dsimp only;lia,by dsimp only;lia,by dsimp only;lia,h5,dn _ e⟩
     . exact ab1 ⟨rfl,rfl,by dsimp only;lia,h3,by dsimp only;lia,fun i hi=>up _ 101 e i (by dsimp only at hi;lia),h6⟩
 refine ab0 (mw L hk hx rZ 101 ?_);cases right:gf R left (R key) arr (base+hint) with
 | true=>
  dsimp only;rw[if_pos rfl];refine ab0 (aj0 (ag0 (I:=fun x c ax=>ax=st/\c.1=none/\hint+c.2.1 < n/\gf R left (R key) arr (base+(hint+c.2.1))=true/\c.2.1 < c.2.2/\x+1<=c.2.2)
   (Q:=fun c ax=>ax=st/\c.1=none/\hint+c.2.1 < n/\gf R left (R key) arr (base+(hint+c.2.1))=true/\c.2.1 < c.2.2/\(n - hint<=c.2.2\/hint+c.2.2 < n/\gf R left (R key) arr (base+(hint+c.2.2))=false)) ?step ?fin ⟨rfl,rfl,hh,by dsimp only;rw[al4];exact right,by decide,by decide⟩) ?post)
  case post=>
   rintro⟨r,l,u⟩ ax ⟨rfl,h1,h2,h3,h4,h5⟩
   dsimp only at h1 h2 h3 h4 h5 ⊢;subst h1;have q: ∀i,hint+min u (n - hint)<=i->i < n->gf R left (R key) arr (base+i)=false:=fun i hi hn=>by
    rcases h5 with z | z
    . lia
    . exact dn _ z.2 i 101 hn
   exact tail _ _ 101 101 (fun i hi=>up _ h2 h3 i 101) q
  case fin=>
   rintro⟨r,l,u⟩ ax ⟨h0,h1,h2,h3,h4,h5⟩
   dsimp only at h5;exact⟨h0,h1,h2,h3,h4,.inl (by dsimp only;lia)⟩
  case step=>
   rintro x ⟨r,l,u⟩ ax _ _ ⟨rfl,h1,h2,h3,h4,h5⟩
   dsimp only at h1 h2 h3 h4 h5 ⊢;subst h1;by_cases c:u>=n - hint
   . rw[if_pos c];exact ab1 ⟨rfl,rfl,h2,h3,h4,.inl c⟩
   . rw[if_neg c];refine ab0 (mw L hk hx rZ 101 ?_);cases e:gf R left (R key) arr (base+(hint+u))
     . exact ab1 ⟨rfl,rfl,h2,h3,h4,.inr ⟨by dsimp only;lia,e⟩⟩
     . exact ab1 ⟨rfl,rfl,by dsimp only;lia,e,by dsimp only;lia,by dsimp only;lia⟩
 | false=>
  dsimp only;rw[if_neg ab3];refine ab0 (aj0 (ag0 (I:=fun x c ax=>ax=st/\c.1=none/\c.2.1<=hint/\gf R left (R key) arr (base+(hint - c.2.1))=false/\c.2.1 < c.2.2/\x+1<=c.2.2)
   (Q:=fun c ax=>ax=st/\c.1=none/\c.2.1<=hint/\gf R left (R key) arr (base+(hint - c.2.1))=false/\c.2.1 < c.2.2/\(hint+1<=c.2.2\/c.2.2<=hint/\gf R left (R key) arr (base+(hint - c.2.2))=true)) ?step ?fin ⟨rfl,rfl,ae3 _,by dsimp only;rw[au3];exact right,by decide,by decide⟩) ?post)
  case post=>
   rintro⟨r,l,u⟩ ax ⟨rfl,h1,h2,h3,h4,h5⟩
   dsimp only at h1 h2 h3 h4 h5 ⊢;subst h1;have q: ∀i,i < hint+1 - min u (hint+1)->gf R left (R key) arr (base+i)=true:=fun i hi=>by
    rcases h5 with z | z
    . lia
    . exact up _ 101 z.2 i 101
   exact tail _ _ 101 101 q fun i hi hn=>dn _ h3 i hi hn
  case fin=>
   rintro⟨r,l,u⟩ ax ⟨h0,h1,h2,h3,h4,h5⟩
   dsimp only at h5;exact⟨h0,h1,h2,h3,h4,.inl (by dsimp only;lia)⟩
  case step=>
   rintro x ⟨r,l,u⟩ ax _ _ ⟨rfl,h1,h2,h3,h4,h5⟩
   dsimp only at h1 h2 h3 h4 h5 ⊢;subst h1;by_cases c:u>=hint+1
   . rw[if_pos c];exact ab1 ⟨rfl,rfl,h2,h3,h4,.inl c⟩
   . rw[if_neg c];refine ab0 (mw L hk hx rZ 101 ?_);cases e:gf R left (R key) arr (base+(hint - u))
     . exact ab1 ⟨rfl,rfl,by dsimp only;lia,e,by dsimp only;lia,by dsimp only;lia⟩
     . exact ab1 ⟨rfl,rfl,h2,h3,h4,.inr ⟨by dsimp only;lia,e⟩⟩
end
theorem Lo.lJ{a b out:Array Keyed}{ia ib:Nat}(h:Lo R a b out ia ib)(sa:eo R a)(sb:eo R b)(hi:ib < b.size)(hc:ia < a.size->rk R b ib<=rk R a ia):Lo R a b (out.push b[ib]) ia (ib+1):=by
 rw[yo hi];exact h.gQ sa sb 101 (fun _ _ z=>by rw[al8];exact hc z) 101
theorem Lo.gF{a b out:Array Keyed}{ia ib:Nat}(h:Lo R a b out ia ib)(sa:eo R a)(sb:eo R b)(hi:ia < a.size)(hc:ib < b.size->rk R a ia<=rk R b ib):Lo R a b (out.push a[ia]) (ia+1) ib:=by
 rw[yo hi];exact h.ju sa sb 101 (fun _ _ z=>by rw[al8];exact hc z) 101
theorem Lo.start(sa:eo R a)(sb:eo R b)(b1:0 < b.size)(hc:0 < a.size->rk R b 0<=rk R a 0):Lo R a b #[b[0]] 0 1:=
 Lo.lJ (out:= #[]) ⟨by simp,List.Pairwise.nil,fun x hx=>by simp at hx,fun x hx=>by simp at hx⟩ sa sb b1 hc
theorem tD{st:SortSt}(L:pC prog w A E s κ R D)(hk:kindOf st=κ)(ha:Dk D a)(hb:Dk D b)(sa:eo R a)(sb:eo R b)(a1:1<=a.size)(b1:1<=b.size)(c0:rk R b 0<=rk R a 0)(cl:rk R b (b.size - 1)<=rk R a (a.size - 1))(h: ∀m g,Out R a b m->Q m (setG st g)):wpS 110 A E s (nN a b) Q st:=by
 rw[uB];dsimp only;refine ab0 217;refine ab0 (aE 101 ?_);have ho:Lo R a b #[b[0]] 0 1:=Lo.start sa sb b1 fun _=>c0;by_cases c1:(1==b.size)=true
 . refine au c1 ?_;exact ab1 (h _ (gallopOf st) (ho.done sa sb 101 101 (.inl (ab9.mp c1))))
 refine av c1 ?_;by_cases c2:(0+1==a.size)=true
 . refine au c2 ?_;have Jw:=ab9.mp c2;exact ab1 (h _ (gallopOf st) (ho.last sa sb 101 101 fun _=>by rw[show a.size - 1=0 by lia] at cl;exact cl))
 refine av c2 ?_;have c1:1≠b.size:=fun z=>c1 183;have c2:0+1≠a.size:=fun z=>c2 183;refine ab0 (as6 ?_);refine ab0 (aj0 (ag0 (I:=fun i c ax=>224/\c.1=none/\Lo R a b c.2.1 c.2.2.1 c.2.2.2.1/\c.2.2.1+1 < a.size/\c.2.2.2.1 < b.size/\1+i<=c.2.2.1+c.2.2.2.1)
  (Q:=fun c ax=>224/\ ∃r,c.1=some r/\Out R a b r) ?step ?fin ⟨⟨gallopOf st,rfl⟩,rfl,298,by dsimp only;lia,by dsimp only;lia,by dsimp only;lia⟩) ?post)
 case post=>
  rintro⟨r,out,ia,ib,mg⟩ ax ⟨⟨g,rfl⟩,r',h1,h2⟩
  dsimp only at h1 ⊢;subst h1;exact ab1 (h _ _ h2)
 case fin=>
  rintro⟨r,out,ia,ib,mg⟩ ax ⟨_,_,_,h1,h2,h3⟩
  dsimp only at h1 h2 h3;lia
 case step=>
  refine Ju ?_;intro i out ia ib mg g _ hi hJ;have ho:Lo R a b out ia ib:=hJ.1;have h1:ia+1 < a.size:=hJ.2.1;have h2:ib < b.size:=hJ.2.2.1;have h3:1+i<=ia+ib:=hJ.2.2.2;clear hJ;dsimp only;refine ab0 (aj0 (ag0 (I:=fun j c ax=>ax=setG st g/\c.1=none/\Lo R a b c.2.1 c.2.2.1 c.2.2.2.1/\c.2.2.1+1 < a.size/\c.2.2.2.1 < b.size/\1+i+min j 1<=c.2.2.1+c.2.2.2.1)
   (Q:=fun c ax=>ax=setG st g/\223) ?istep ?ifin ⟨rfl,rfl,298,(by dsimp only;exact h1),(by dsimp only;exact h2),by dsimp only;lia⟩) ?ipost)
  case ifin=>
   rintro⟨r,out,ia,ib,ac,bc⟩ ax ⟨e,hr,ho,h1,h2,h3⟩
   dsimp only at hr ho h1 h2 h3;exact⟨e,.inr ⟨hr,ho,h1,h2,by dsimp only;lia⟩⟩
  case istep=>
   clear ho h1 h2 h3;refine Jt ?_;intro j out ia ib ac bc _ hj hJ;have ho:Lo R a b out ia ib:=hJ.1;have h1:ia+1 < a.size:=hJ.2.1;have h2:ib < b.size:=hJ.2.2.1;have h3:1+i+min j 1<=ia+ib:=hJ.2.2.2;clear hJ;have yU:ia < a.size:=by lia
   dsimp only;refine ab0 (aE h2 (ab0 (aE yU (ab0 (L _ _ _ _ hk (hb _ h2) (ha _ yU) ?_)))));rw[<-cn (R:=R) h2,<-cn (R:=R) yU];cases bw:decide (rk R b ib < rk R a ia) with
   | true=>
    have bw:=ad6 bw;have n6:=ho.lJ sa sb h2 fun _=>am7 bw;dsimp only;refine au rfl ?_;refine ab0 (aE h2 ?_);by_cases c3:(ib+1==b.size)=true
    . refine au c3 ?_;exact ab1 ⟨rfl,.inl ⟨_,rfl,n6.done sa sb 101 101 (.inl (ab9.mp c3))⟩⟩
    refine av c3 ?_;have c3:ib+1≠b.size:=fun z=>c3 183;by_cases c4:bc+1>=mg
    . refine au c4 ?_;exact ab1 ⟨rfl,.inr ⟨rfl,by dsimp only;exact n6,by dsimp only;lia,by dsimp only;lia,by dsimp only;lia⟩⟩
    . refine av c4 ?_;exact ab1 ⟨rfl,rfl,by dsimp only;exact n6,by dsimp only;lia,by dsimp only;lia,by dsimp only;lia⟩
   | false=>
    have bw:=ah1 bw;have vx:=ho.gF sa sb yU fun _=>av3.mp bw;dsimp only;refine av ab3 ?_;refine ab0 (aE yU ?_);by_cases c3:(ia+1+1==a.size)=true
    . refine au c3 ?_;have Xi:=ab9.mp c3;exact ab1 ⟨rfl,.inl ⟨_,rfl,vx.last sa sb 101 101 fun _=>by rw[show a.size - 1=ia+1 by lia] at cl;exact cl⟩⟩
    refine av c3 ?_;have c3:ia+1+1≠a.size:=fun z=>c3 183;by_cases c4:ac+1>=mg
    . refine au c4 ?_;exact ab1 ⟨rfl,.inr ⟨rfl,by dsimp only;exact vx,by dsimp only;lia,by dsimp only;lia,by dsimp only;lia⟩⟩
    . refine av c4 ?_;exact ab1 ⟨rfl,rfl,by dsimp only;exact vx,by dsimp only;lia,by dsimp only;lia,by dsimp only;lia⟩
  case ipost=>
   clear ho h1 h2 h3;refine OF (fun r' out ia ib ac bc ho=>?_) (fun out ia ib ac bc hJ=>?_)
   . exact ab1 ⟨⟨g,rfl⟩,_,rfl,ho⟩
   have ho:Lo R a b out ia ib:=hJ.1;have h1:ia+1 < a.size:=hJ.2.1;have h2:ib < b.size:=hJ.2.2.1;have h3:1+(i+1)<=ia+ib:=hJ.2.2.2;clear hJ;dsimp only;refine ab0 217;refine ab0 (aj0 (ag0 (I:=fun j c ax=>224/\c.1=none/\Lo R a b c.2.1 c.2.2.1 c.2.2.2.1/\c.2.2.1+1 < a.size/\c.2.2.2.1 < b.size/\1+(i+1)<=c.2.2.1+c.2.2.2.1)
    (Q:=fun c ax=>224/\223) ?gstep ?gfin ⟨⟨g,rfl⟩,rfl,298,(by dsimp only;exact h1),(by dsimp only;exact h2),(by dsimp only;exact h3)⟩) ?gpost)
   case gfin=>
    rintro⟨r,out,ia,ib,mg,ac,bc⟩ ax ⟨e,hr,ho,h1,h2,h3⟩
    exact⟨e,.inr ⟨hr,ho,h1,h2,h3⟩⟩
   case gpost=>
    refine OE (fun r' out ia ib mg ac bc g ho=>?_) (fun out ia ib mg ac bc g hJ=>?_)
    . exact ab1 ⟨⟨g,rfl⟩,_,rfl,ho⟩
    . dsimp only;rw[cH];exact ab0 (am9 (ab1 ⟨⟨_,rfl⟩,rfl,hJ⟩))
   case gstep=>
    clear ho h1 h2 h3 hi;refine Js ?_;intro j out ia ib mg ac bc g _ hj hJ;have ho:Lo R a b out ia ib:=hJ.1;have h1:ia+1 < a.size:=hJ.2.1;have h2:ib < b.size:=hJ.2.2.1;have h3:1+(i+1)<=ia+ib:=hJ.2.2.2;clear hJ;dsimp only;refine have key:?P:=?pk;?main
    case main=>
     by_cases c0:mg > 1
     . refine au c0 ?_;clear c0;generalize mg - 1=m;revert m
       exact key
     . refine av c0 ?_;clear c0;generalize mg=m;revert m
       exact key
    case pk=>
     intro m;rw[cH];refine ab0 (am9 ?_);refine ab0 (aE h2 ?_);refine ab0 (fc L hk ha (hb _ h2) 101 101 (fun p q pq q2=>sa.rk 101 101) fun k YY kt kf=>?_);rw[<-cn (R:=R) h2] at kt kf;dsimp only;have IF:0 < k->rk R a (ia+k - 1)<=rk R b ib:=fun z=>by have:=xB (kt (k - 1) 101);rw[show ia+(k - 1)=ia+k - 1 by lia] at this;exact this
     have Ld:ia+k < a.size->rk R b ib<=rk R a (ia+k):=fun z=>am7 (xC (kf k (aa4 _) 101));clear kt kf;by_cases c3:k > 0
     . refine au c3 ?_;have vx:=ho.ju sa sb (ia':=ia+k) 101 (fun _ _ _=>IF c3) 101;generalize out++a.extract ia (ia+k)=Ta at vx;by_cases c4:(ia+k+1==a.size)=true
       . refine au c4 ?_;have Xh:=ab9.mp c4;exact ab1 ⟨⟨_,rfl⟩,.inl ⟨_,rfl,vx.last sa sb 101 101 fun _=>by rw[show a.size - 1=ia+k by lia] at cl;exact cl⟩⟩
       refine av c4 ?_;have Xh:ia+k+1≠a.size:=fun z=>c4 183;clear c4;by_cases c9:(ia+k==a.size)=true
       . refine au c9 ?_;exact ab1 ⟨⟨_,rfl⟩,.inl ⟨_,rfl,vx.done sa sb 101 101 (.inr (ab9.mp c9))⟩⟩
       refine av c9 ?_;have c9':ia+k≠a.size:=fun z=>c9 183;clear c9;refine ab0 (aE h2 ?_);have n6:=vx.lJ sa sb h2 Ld;by_cases c5:(ib+1==b.size)=true
       . refine au c5 ?_;exact ab1 ⟨⟨_,rfl⟩,.inl ⟨_,rfl,n6.done sa sb 101 101 (.inl (ab9.mp c5))⟩⟩
       refine av c5 ?_;have c5:ib+1≠b.size:=fun z=>c5 183;have hK:ia+k < a.size:=by lia
       refine ab0 396;refine ab0 (fc L hk hb (ha _ hK) 101 101 (fun p q pq q2=>sb.rk 101 101) fun k2 RJ kt kf=>?_);rw[<-cn (R:=R) hK] at kt kf;dsimp only;have lt':0 < k2->rk R b (ib+1+k2 - 1)<=rk R a (ia+k):=fun z=>by have:=am7 (ox (kt (k2 - 1) 101));rw[show ib+1+(k2 - 1)=ib+1+k2 - 1 by lia] at this;exact this
       have Br:ib+1+k2 < b.size->rk R a (ia+k)<=rk R b (ib+1+k2):=fun z=>oy (kf k2 (aa4 _) 101);clear kt kf;by_cases c6:k2 > 0
       . refine au c6 ?_;have Ar:=n6.gQ sa sb (ib':=ib+1+k2) 101 (fun _ _ _=>lt' c6) 101;by_cases c7:(ib+1+k2==b.size)=true
         . refine au c7 ?_;exact ab1 ⟨⟨_,rfl⟩,.inl ⟨_,rfl,Ar.done sa sb 101 101 372⟩⟩
         refine av c7 ?_;have Fb:ib+1+k2≠b.size:=fun z=>c7 183;clear c7;refine ab0 396;have iY:=Ar.gF sa sb hK Br;by_cases c7:(ia+k+1+1==a.size)=true
         . refine au c7 ?_;have Fb:=ab9.mp c7;exact ab1 ⟨⟨_,rfl⟩,.inl ⟨_,rfl,iY.last sa sb 101 101 fun _=>by rw[show a.size - 1=ia+k+1 by lia] at cl;exact cl⟩⟩
         refine av c7 ?_;have c7:ia+k+1+1≠a.size:=fun z=>c7 183;by_cases c8:(decide (k < 7) && decide (k2 < 7))=true
         . refine au c8 ?_;exact ab1 130
         . refine av c8 ?_;exact ab1 138
       . refine av c6 ?_;have Li:k2=0:=by lia
         subst Li;refine ab0 396;have iY:=n6.gF sa sb hK Br;by_cases c7:(ia+k+1+1==a.size)=true
         . refine au c7 ?_;have Fb:=ab9.mp c7;exact ab1 ⟨⟨_,rfl⟩,.inl ⟨_,rfl,iY.last sa sb 101 101 fun _=>by rw[show a.size - 1=ia+k+1 by lia] at cl;exact cl⟩⟩
         refine av c7 ?_;have c7:ia+k+1+1≠a.size:=fun z=>c7 183;by_cases c8:(decide (k < 7) && decide (0 < 7))=true
         . refine au c8 ?_;exact ab1 130
         . refine av c8 ?_;exact ab1 138
     . refine av c3 ?_;have k0:k=0:=by lia
       subst k0;rw[al4] at Ld;refine ab0 (aE h2 ?_);have n6:=ho.lJ sa sb h2 Ld;by_cases c5:(ib+1==b.size)=true
       . refine au c5 ?_;exact ab1 ⟨⟨_,rfl⟩,.inl ⟨_,rfl,n6.done sa sb 101 101 (.inl (ab9.mp c5))⟩⟩
       refine av c5 ?_;have c5:ib+1≠b.size:=fun z=>c5 183;have hK:ia < a.size:=by lia
       refine ab0 396;refine ab0 (fc L hk hb (ha _ hK) 101 101 (fun p q pq q2=>sb.rk 101 101) fun k2 RJ kt kf=>?_);rw[<-cn (R:=R) hK] at kt kf;dsimp only;have lt':0 < k2->rk R b (ib+1+k2 - 1)<=rk R a (ia):=fun z=>by have:=am7 (ox (kt (k2 - 1) 101));rw[show ib+1+(k2 - 1)=ib+1+k2 - 1 by lia] at this;exact this
       have Br:ib+1+k2 < b.size->rk R a (ia)<=rk R b (ib+1+k2):=fun z=>oy (kf k2 (aa4 _) 101);clear kt kf;by_cases c6:k2 > 0
       . refine au c6 ?_;have Ar:=n6.gQ sa sb (ib':=ib+1+k2) 101 (fun _ _ _=>lt' c6) 101;by_cases c7:(ib+1+k2==b.size)=true
         . refine au c7 ?_;exact ab1 ⟨⟨_,rfl⟩,.inl ⟨_,rfl,Ar.done sa sb 101 101 372⟩⟩
         refine av c7 ?_;have Fb:ib+1+k2≠b.size:=fun z=>c7 183;clear c7;refine ab0 396;have iY:=Ar.gF sa sb hK Br;by_cases c7:(ia+1+1==a.size)=true
         . refine au c7 ?_;have Fb:=ab9.mp c7;exact ab1 ⟨⟨_,rfl⟩,.inl ⟨_,rfl,iY.last sa sb 101 101 fun _=>by rw[show a.size - 1=ia+1 by lia] at cl;exact cl⟩⟩
         refine av c7 ?_;have c7:ia+1+1≠a.size:=fun z=>c7 183;by_cases c8:(decide (0 < 7) && decide (k2 < 7))=true
         . refine au c8 ?_;exact ab1 130
         . refine av c8 ?_;exact ab1 138
       . refine av c6 ?_;have Li:k2=0:=by lia
         subst Li;refine ab0 396;have iY:=n6.gF sa sb hK Br;by_cases c7:(ia+1+1==a.size)=true
         . refine au c7 ?_;have Fb:=ab9.mp c7;exact ab1 ⟨⟨_,rfl⟩,.inl ⟨_,rfl,iY.last sa sb 101 101 fun _=>by rw[show a.size - 1=ia+1 by lia] at cl;exact cl⟩⟩
         refine av c7 ?_;have c7:ia+1+1≠a.size:=fun z=>c7 183;by_cases c8:(decide (0 < 7) && decide (0 < 7))=true
         . refine au c8 ?_;exact ab1 130
         . refine av c8 ?_;exact ab1 138
section
variable{R:Keyed->Int}
structure Hi(R:Keyed->Int)(a b out:Array Keyed)(na nb:Nat):Prop where
 pm:((a.toList.take na++b.toList.take nb)++out.reverse.toList).Perm (a.toList++b.toList)
 so:eo R out.reverse
 la: ∀x∈out.reverse.toList,∀j,j < na->j < a.size->rk R a j<=R x
 lb: ∀x∈out.reverse.toList,∀j,j < nb->j < b.size->rk R b j<=R x
theorem cS{out x:Array Keyed}:(out++x.reverse).reverse=x++out.reverse:=by
 apply at5.mp;simp
theorem xZ{a:Array Keyed}(h:i<=j):a.toList.take j=a.toList.take i++(282).toList:=by
 rw[gx];conv=>lhs;rw[show j=i+(j - i) by lia]
 rw[List.take_add]
theorem Hi.ju{a b out:Array Keyed}{na nb:Nat}(h:Hi R a b out na nb)(sa:eo R a)(sb:eo R b){na':Nat}(h1:na'<=na)(h2:na<=a.size)(h3:nb<=b.size)(hc:na' < na->0 < nb->rk R b (nb - 1)<=rk R a na'):Hi R a b (out++(a.extract na' na).reverse) na' nb:=by
 refine⟨?_,?_,fun x hx j j1 j2=>?_,fun x hx j j1 j2=>?_⟩
 . rw[cS,af5];refine List.Perm.trans ?_ h.pm;rw[xZ h1];refine List.Perm.trans (List.Perm.of_eq (ag6 _ _ _).symm) (List.Perm.append_right _ ?_);rw[ag6,ag6];exact List.Perm.append_left _ List.perm_append_comm
 . rw[cS];exact(sa.ex _ _).app h.so fun x hx y hy=>by
    obtain⟨k,k1,k2,k3,e⟩:=dq (R:=R) hx;rw[e];exact h.la y hy k k2 k3
 . rw[cS,af5] at hx;rcases af6.mp hx with z | z
   . obtain⟨k,k1,k2,k3,e⟩:=dq (R:=R) z;rw[e];exact sa.rk 101 k3
   . exact h.la x z j 101 j2
 . rw[cS,af5] at hx;rcases af6.mp hx with z | z
   . obtain⟨k,k1,k2,k3,e⟩:=dq (R:=R) z;rw[e];have q1:=sa.rk k1 k3;have q2:=hc 101 101;have q3:=sb.rk (show j<=nb - 1 by lia) 101;lia
   . exact h.lb x z j j1 j2
theorem Hi.gQ{a b out:Array Keyed}{na nb:Nat}(h:Hi R a b out na nb)(sa:eo R a)(sb:eo R b){nb':Nat}(h1:nb'<=nb)(h2:nb<=b.size)(h3:na<=a.size)(hc:nb' < nb->0 < na->rk R a (na - 1)<=rk R b nb'):Hi R a b (out++(b.extract nb' nb).reverse) na nb':=by
 refine⟨?_,?_,fun x hx j j1 j2=>?_,fun x hx j j1 j2=>?_⟩
 . rw[cS,af5];refine List.Perm.trans ?_ h.pm;rw[xZ (a:=b) h1];simp only [ag6];exact List.Perm.refl _
 . rw[cS];exact(sb.ex _ _).app h.so fun x hx y hy=>by
    obtain⟨k,k1,k2,k3,e⟩:=dq (R:=R) hx;rw[e];exact h.lb y hy k k2 k3
 . rw[cS,af5] at hx;rcases af6.mp hx with z | z
   . obtain⟨k,k1,k2,k3,e⟩:=dq (R:=R) z;rw[e];have q1:=sb.rk k1 k3;have q2:=hc 101 101;have q3:=sa.rk (show j<=na - 1 by lia) 101;lia
   . exact h.la x z j j1 j2
 . rw[cS,af5] at hx;rcases af6.mp hx with z | z
   . obtain⟨k,k1,k2,k3,e⟩:=dq (R:=R) z;rw[e];exact sb.rk 101 k3
   . exact h.lb x z j 101 j2
theorem Hi.out{a b out:Array Keyed}(h:Hi R a b out 0 0):Out R a b out.reverse:=by
 refine⟨?_,h.so⟩;have:=h.pm;rw[ao6,ao6,ah8,au0] at this;exact this
theorem Hi.done{a b out:Array Keyed}{na nb:Nat}(h:Hi R a b out na nb)(sa:eo R a)(sb:eo R b)(ha:na<=a.size)(hb:nb<=b.size)(hh:na=0\/nb=0):Out R a b (a.extract 0 na++b.extract 0 nb++out.reverse):=by
 have:=((h.gQ sa sb (nb':=0) (ae3 _) hb ha fun z1 z2=>by lia).ju sa sb (na':=0) (ae3 _) ha (ae3 _) fun z1 z2=>by lia).out;rw[cS,cS,<-Array.append_assoc] at this;exact this
theorem Hi.first{a b out:Array Keyed}{na nb:Nat}(h:Hi R a b out na nb)(sa:eo R a)(sb:eo R b)(ha:na<=a.size)(hb:nb<=b.size)(hh:nb=1)(hc:rk R b 0<=rk R a 0):Out R a b (b.extract 0 nb++a.extract 0 na++out.reverse):=by
 have:=((h.ju sa sb (na':=0) (ae3 _) ha hb fun z1 z2=>by rw[hh];exact hc).gQ sa sb (nb':=0) (ae3 _) hb (ae3 _) fun z1 z2=>by lia).out;rw[cS,cS,<-Array.append_assoc] at this;exact this
theorem yn{a out:Array Keyed}(h:i < a.size):out.push a[i]=out++(a.extract i (i+1)).reverse:=by
 apply at5.mp;rw[aq4,af5,Array.toList_reverse,gx,show i+1 - i=1 by lia];congr 1
 have h':i < a.toList.length:=by simpa using h
 rw[al1 h',List.take_succ_cons,ao6,Array.getElem_toList];rfl
theorem Hi.gF{a b out:Array Keyed}{na nb:Nat}(h:Hi R a b out na nb)(sa:eo R a)(sb:eo R b)(h1:1<=na)(h2:na<=a.size)(h3:nb<=b.size)(hc:0 < nb->rk R b (nb - 1)<=rk R a (na - 1)):Hi R a b (out.push (a[na - 1]' 101)) (na - 1) nb:=by
 rw[yn (show na - 1 < a.size by lia),show na - 1+1=na by lia];exact h.ju sa sb 101 h2 h3 fun _ z=>hc z
theorem Hi.lJ{a b out:Array Keyed}{na nb:Nat}(h:Hi R a b out na nb)(sa:eo R a)(sb:eo R b)(h1:1<=nb)(h2:nb<=b.size)(h3:na<=a.size)(hc:0 < na->rk R a (na - 1)<=rk R b (nb - 1)):Hi R a b (out.push (b[nb - 1]' 101)) na (nb - 1):=by
 rw[yn (show nb - 1 < b.size by lia),show nb - 1+1=nb by lia];exact h.gQ sa sb 101 h2 h3 fun _ z=>hc z
theorem Hi.start(sa:eo R a)(sb:eo R b)(a1:1<=a.size)(hc:0 < b.size->rk R b (b.size - 1)<=rk R a (a.size - 1)):Hi R a b #[a[a.size - 1]' 101] (a.size - 1) b.size:=
 Hi.gF (out:= #[]) (na:=a.size) ⟨by rw[<-ac5,<-ac5,ak2,ak2];simp,List.Pairwise.nil,fun x hx=>by simp at hx,fun x hx=>by simp at hx⟩ sa sb a1 (aa4 _) (aa4 _) hc
end
theorem tE{st:SortSt}(L:pC prog w A E s κ R D)(hk:kindOf st=κ)(ha:Dk D a)(hb:Dk D b)(sa:eo R a)(sb:eo R b)(a1:1<=a.size)(b1:1<=b.size)(c0:rk R b 0<=rk R a 0)(cl:rk R b (b.size - 1)<=rk R a (a.size - 1))(h: ∀m g,Out R a b m->Q m (setG st g)):wpS 110 A E s (nO a b) Q st:=by
 rw[uC];dsimp only;refine ab0 217;refine ab0 (aE 101 ?_);have ho:=Hi.start sa sb a1 fun _=>cl;by_cases c1:(a.size - 1==0)=true
 . refine au c1 ?_;exact ab1 (h _ (gallopOf st) (ho.done sa sb 101 101 (.inl (ab9.mp c1))))
 refine av c1 ?_;by_cases c2:(b.size==1)=true
 . refine au c2 ?_;exact ab1 (h _ (gallopOf st) (ho.first sa sb 101 101 (ab9.mp c2) c0))
 refine av c2 ?_;have Vw:a.size - 1≠0:=fun z=>c1 183;have Jw:b.size≠1:=fun z=>c2 183;clear c1 c2;refine ab0 (as6 ?_);refine ab0 (aj0 (ag0 (I:=fun i c ax=>224/\c.1=none/\Hi R a b c.2.2.2.1 c.2.1 c.2.2.1/\1<=c.2.1/\c.2.1<=a.size/\2<=c.2.2.1/\c.2.2.1<=b.size/\1+i<=(a.size - c.2.1)+(b.size - c.2.2.1))
  (Q:=fun c ax=>224/\ ∃r,c.1=some r/\Out R a b r) ?step ?fin ⟨⟨gallopOf st,rfl⟩,rfl,298,by dsimp only;lia,by dsimp only;lia,by dsimp only;lia,by dsimp only;lia,by dsimp only;lia⟩) ?post)
 case post=>
  rintro⟨r,na,nb,out,mg⟩ ax ⟨⟨g,rfl⟩,r',h1,h2⟩
  dsimp only at h1 ⊢;subst h1;exact ab1 (h _ _ h2)
 case fin=>
  rintro⟨r,na,nb,out,mg⟩ ax ⟨_,_,ho,h1,h2,h3,h4,h5⟩
  dsimp only at h1 h2 h3 h4 h5;lia
 case step=>
  refine Ju ?_;intro i na nb out mg g _ hi hJ;have ho:Hi R a b out na nb:=hJ.1;have h1:1<=na:=hJ.2.1;have h2:na<=a.size:=hJ.2.2.1;have h3:2<=nb:=hJ.2.2.2.1;have h4:nb<=b.size:=hJ.2.2.2.2.1;have h5:1+i<=(a.size - na)+(b.size - nb):=hJ.2.2.2.2.2;clear hJ;dsimp only;refine ab0 (aj0 (ag0 (I:=fun j c ax=>ax=setG st g/\c.1=none/\Hi R a b c.2.2.2.1 c.2.1 c.2.2.1/\1<=c.2.1/\c.2.1<=a.size/\2<=c.2.2.1/\c.2.2.1<=b.size/\1+i+min j 1<=(a.size - c.2.1)+(b.size - c.2.2.1))
   (Q:=fun c ax=>ax=setG st g/\191) ?istep ?ifin ⟨rfl,rfl,298,(by dsimp only;exact h1),(by dsimp only;exact h2),(by dsimp only;exact h3),(by dsimp only;exact h4),by dsimp only;lia⟩) ?ipost)
  case ifin=>
   rintro⟨r,na,nb,out,ac,bc⟩ ax ⟨e,hr,ho,h1,h2,h3,h4,h5⟩
   dsimp only at hr ho h1 h2 h3 h4 h5;exact⟨e,.inr ⟨hr,ho,h1,h2,h3,h4,by dsimp only;lia⟩⟩
  case istep=>
   clear ho h1 h2 h3 h4 h5;refine Jt ?_;intro j na nb out ac bc _ hj hJ;have ho:Hi R a b out na nb:=hJ.1;have h1:1<=na:=hJ.2.1;have h2:na<=a.size:=hJ.2.2.1;have h3:2<=nb:=hJ.2.2.2.1;have h4:nb<=b.size:=hJ.2.2.2.2.1;have h5:1+i+min j 1<=(a.size - na)+(b.size - nb):=hJ.2.2.2.2.2;clear hJ;have yU:na - 1 < a.size:=by lia
   have uT:nb - 1 < b.size:=by lia
   dsimp only;refine ab0 (aE uT (ab0 (aE yU (ab0 (L _ _ _ _ hk (hb _ uT) (ha _ yU) ?_)))));rw[<-cn (R:=R) uT,<-cn (R:=R) yU];cases aw:decide (rk R b (nb - 1) < rk R a (na - 1)) with
   | true=>
    have aw:=ad6 aw;have vx:=ho.gF sa sb h1 h2 h4 fun _=>am7 aw;dsimp only;refine au rfl ?_;refine ab0 (aE yU ?_);by_cases c3:(na - 1==0)=true
    . refine au c3 ?_;exact ab1 ⟨rfl,.inl ⟨_,rfl,vx.done sa sb 101 101 (.inl (ab9.mp c3))⟩⟩
    refine av c3 ?_;have Xi:na - 1≠0:=fun z=>c3 183;clear c3;by_cases c4:ac+1>=mg
    . refine au c4 ?_;exact ab1 ⟨rfl,.inr ⟨rfl,by dsimp only;exact vx,by dsimp only;lia,by dsimp only;lia,by dsimp only;lia,by dsimp only;lia,by dsimp only;lia⟩⟩
    . refine av c4 ?_;exact ab1 ⟨rfl,rfl,by dsimp only;exact vx,by dsimp only;lia,by dsimp only;lia,by dsimp only;lia,by dsimp only;lia,by dsimp only;lia⟩
   | false=>
    have aw:=ah1 aw;have n6:=ho.lJ sa sb 101 h4 h2 fun _=>av3.mp aw;dsimp only;refine av ab3 ?_;refine ab0 (aE uT ?_);by_cases c3:(nb - 1==1)=true
    . refine au c3 ?_;exact ab1 ⟨rfl,.inl ⟨_,rfl,n6.first sa sb 101 101 (ab9.mp c3) c0⟩⟩
    refine av c3 ?_;have Xi:nb - 1≠1:=fun z=>c3 183;clear c3;by_cases c4:bc+1>=mg
    . refine au c4 ?_;exact ab1 ⟨rfl,.inr ⟨rfl,by dsimp only;exact n6,by dsimp only;lia,by dsimp only;lia,by dsimp only;lia,by dsimp only;lia,by dsimp only;lia⟩⟩
    . refine av c4 ?_;exact ab1 ⟨rfl,rfl,by dsimp only;exact n6,by dsimp only;lia,by dsimp only;lia,by dsimp only;lia,by dsimp only;lia,by dsimp only;lia⟩
  case ipost=>
   clear ho h1 h2 h3 h4 h5;refine OF (fun r' na nb out ac bc ho=>?_) (fun na nb out ac bc hJ=>?_)
   . exact ab1 ⟨⟨g,rfl⟩,_,rfl,ho⟩
   have ho:Hi R a b out na nb:=hJ.1;have h1:1<=na:=hJ.2.1;have h2:na<=a.size:=hJ.2.2.1;have h3:2<=nb:=hJ.2.2.2.1;have h4:nb<=b.size:=hJ.2.2.2.2.1;have h5:1+(i+1)<=(a.size - na)+(b.size - nb):=hJ.2.2.2.2.2;clear hJ;dsimp only;refine ab0 217;refine ab0 (aj0 (ag0 (I:=fun j c ax=>224/\c.1=none/\Hi R a b c.2.2.2.1 c.2.1 c.2.2.1/\1<=c.2.1/\c.2.1<=a.size/\2<=c.2.2.1/\c.2.2.1<=b.size/\1+(i+1)<=(a.size - c.2.1)+(b.size - c.2.2.1))
    (Q:=fun c ax=>224/\191) ?gstep ?gfin ⟨⟨g,rfl⟩,rfl,298,(by dsimp only;exact h1),(by dsimp only;exact h2),(by dsimp only;exact h3),(by dsimp only;exact h4),(by dsimp only;exact h5)⟩) ?gpost)
   case gfin=>
    rintro⟨r,na,nb,out,mg,ac,bc⟩ ax ⟨e,hr,ho,h1,h2,h3,h4,h5⟩
    exact⟨e,.inr ⟨hr,ho,h1,h2,h3,h4,h5⟩⟩
   case gpost=>
    refine OE (fun r' na nb out mg ac bc g ho=>?_) (fun na nb out mg ac bc g hJ=>?_)
    . exact ab1 ⟨⟨g,rfl⟩,_,rfl,ho⟩
    . dsimp only;rw[cH];exact ab0 (am9 (ab1 ⟨⟨_,rfl⟩,rfl,hJ⟩))
   case gstep=>
    clear ho h1 h2 h3 h4 h5 hi;refine Js ?_;intro j na nb out mg ac bc g _ hj hJ;have ho:Hi R a b out na nb:=hJ.1;have h1:1<=na:=hJ.2.1;have h2:na<=a.size:=hJ.2.2.1;have h3:2<=nb:=hJ.2.2.2.1;have h4:nb<=b.size:=hJ.2.2.2.2.1;have h5:1+(i+1)<=(a.size - na)+(b.size - nb):=hJ.2.2.2.2.2;clear hJ;dsimp only;refine have key:?P:=?pk;?main
    case main=>
     by_cases c0:mg > 1
     . refine au c0 ?_;clear c0;generalize mg - 1=m;revert m
       exact key
     . refine av c0 ?_;clear c0;generalize mg=m;revert m
       exact key
    case pk=>
     intro m;have uT:nb - 1 < b.size:=by lia
     rw[cH];refine ab0 (am9 ?_);refine ab0 (aE uT ?_);refine ab0 (fc L hk ha (hb _ uT) 101 101 (fun p q pq q2=>sa.rk 101 101) fun k YY kt kf=>?_);rw[<-cn (R:=R) uT] at kt kf;simp only [aq6] at kt kf;dsimp only;have IF:0 < k->rk R a (k - 1)<=rk R b (nb - 1):=fun z=>xB (kt (k - 1) 101);have Ld:k < na->rk R b (nb - 1)<=rk R a k:=fun z=>am7 (xC (kf k (aa4 _) 101));clear kt kf;by_cases c3:na - k > 0
     . refine au c3 ?_;have vx:=ho.ju sa sb (na':=k) 101 h2 h4 (fun z _=>Ld z);generalize out++(a.extract k na).reverse=Ta at vx;by_cases c4:(k==0)=true
       . refine au c4 ?_;exact ab1 ⟨⟨_,rfl⟩,.inl ⟨_,rfl,vx.done sa sb 101 101 (.inl (ab9.mp c4))⟩⟩
       refine av c4 ?_;have Xh:k≠0:=fun z=>c4 183;clear c4;refine ab0 (aE uT ?_);have n6:=vx.lJ sa sb 101 h4 101 IF;by_cases c5:(nb - 1==1)=true
       . refine au c5 ?_;exact ab1 ⟨⟨_,rfl⟩,.inl ⟨_,rfl,n6.first sa sb 101 101 (ab9.mp c5) c0⟩⟩
       refine av c5 ?_;have Z9:nb - 1≠1:=fun z=>c5 183;clear c5;have hK:k - 1 < a.size:=by lia
       refine ab0 396;refine ab0 (fc L hk hb (ha _ hK) 101 101 (fun p q pq q2=>sb.rk 101 101) fun k2 RJ lt lf=>?_);rw[<-cn (R:=R) hK] at lt lf;simp only [aq6] at lt lf;dsimp only;have lt':0 < k2->rk R b (k2 - 1)<=rk R a (k - 1):=fun z=>am7 (ox (lt (k2 - 1) 101));have Br:k2 < nb - 1->rk R a (k - 1)<=rk R b k2:=fun z=>oy (lf k2 (aa4 _) 101);clear lt lf;by_cases c6:nb - 1 - k2 > 0
       . refine au c6 ?_;have Ar:=n6.gQ sa sb (nb':=k2) 101 101 101 (fun z _=>Br z);by_cases c7:(k2==1)=true
         . refine au c7 ?_;exact ab1 ⟨⟨_,rfl⟩,.inl ⟨_,rfl,Ar.first sa sb 101 101 (ab9.mp c7) c0⟩⟩
         refine av c7 ?_;have Fb:k2≠1:=fun z=>c7 183;clear c7;by_cases c8:(k2==0)=true
         . refine au c8 ?_;exact ab1 ⟨⟨_,rfl⟩,.inl ⟨_,rfl,Ar.done sa sb 101 101 (.inr (ab9.mp c8))⟩⟩
         refine av c8 ?_;have Z8:k2≠0:=fun z=>c8 183;clear c8;refine ab0 396;have iY:=Ar.gF sa sb 101 101 101 lt';by_cases c7:(k - 1==0)=true
         . refine au c7 ?_;exact ab1 ⟨⟨_,rfl⟩,.inl ⟨_,rfl,iY.done sa sb 101 101 372⟩⟩
         refine av c7 ?_;have Fb:k - 1≠0:=fun z=>c7 183;clear c7;by_cases c8:232=true
         . refine au c8 ?_;exact ab1 114
         . refine av c8 ?_;exact ab1 121
       . refine av c6 ?_;have Li:k2=nb - 1:=by lia
         refine ab0 396;have iY:=n6.gF sa sb 101 101 101 (fun z=>by rw[<-Li] at z ⊢;exact lt' z);by_cases c7:(k - 1==0)=true
         . refine au c7 ?_;exact ab1 ⟨⟨_,rfl⟩,.inl ⟨_,rfl,iY.done sa sb 101 101 372⟩⟩
         refine av c7 ?_;have Fb:k - 1≠0:=fun z=>c7 183;clear c7;by_cases c8:232=true
         . refine au c8 ?_;exact ab1 114
         . refine av c8 ?_;exact ab1 121
     . refine av c3 ?_;have k0:k=na:=by lia
       rw[k0] at IF;refine ab0 (aE uT ?_);have n6:=ho.lJ sa sb 101 h4 101 IF;by_cases c5:(nb - 1==1)=true
       . refine au c5 ?_;exact ab1 ⟨⟨_,rfl⟩,.inl ⟨_,rfl,n6.first sa sb 101 101 (ab9.mp c5) c0⟩⟩
       refine av c5 ?_;have Z9:nb - 1≠1:=fun z=>c5 183;clear c5;have hK:na - 1 < a.size:=by lia
       refine ab0 396;refine ab0 (fc L hk hb (ha _ hK) 101 101 (fun p q pq q2=>sb.rk 101 101) fun k2 RJ lt lf=>?_);rw[<-cn (R:=R) hK] at lt lf;simp only [aq6] at lt lf;dsimp only;have lt':0 < k2->rk R b (k2 - 1)<=rk R a (na - 1):=fun z=>am7 (ox (lt (k2 - 1) 101));have Br:k2 < nb - 1->rk R a (na - 1)<=rk R b k2:=fun z=>oy (lf k2 (aa4 _) 101);clear lt lf;by_cases c6:nb - 1 - k2 > 0
       . refine au c6 ?_;have Ar:=n6.gQ sa sb (nb':=k2) 101 101 101 (fun z _=>Br z);by_cases c7:(k2==1)=true
         . refine au c7 ?_;exact ab1 ⟨⟨_,rfl⟩,.inl ⟨_,rfl,Ar.first sa sb 101 101 (ab9.mp c7) c0⟩⟩
         refine av c7 ?_;have Fb:k2≠1:=fun z=>c7 183;clear c7;by_cases c8:(k2==0)=true
         . refine au c8 ?_;exact ab1 ⟨⟨_,rfl⟩,.inl ⟨_,rfl,Ar.done sa sb 101 101 (.inr (ab9.mp c8))⟩⟩
         refine av c8 ?_;have Z8:k2≠0:=fun z=>c8 183;clear c8;refine ab0 396;have iY:=Ar.gF sa sb 101 101 101 lt';by_cases c7:(na - 1==0)=true
         . refine au c7 ?_;exact ab1 ⟨⟨_,rfl⟩,.inl ⟨_,rfl,iY.done sa sb 101 101 372⟩⟩
         refine av c7 ?_;have Fb:na - 1≠0:=fun z=>c7 183;clear c7;by_cases c8:232=true
         . refine au c8 ?_;exact ab1 114
         . refine av c8 ?_;exact ab1 121
       . refine av c6 ?_;have Li:k2=nb - 1:=by lia
         refine ab0 396;have iY:=n6.gF sa sb 101 101 101 (fun z=>by rw[<-Li] at z ⊢;exact lt' z);by_cases c7:(na - 1==0)=true
         . refine au c7 ?_;exact ab1 ⟨⟨_,rfl⟩,.inl ⟨_,rfl,iY.done sa sb 101 101 372⟩⟩
         refine av c7 ?_;have Fb:na - 1≠0:=fun z=>c7 183;clear c7;by_cases c8:232=true
         . refine au c8 ?_;exact ab1 114
         . refine av c8 ?_;exact ab1 121
section
variable{R:Keyed->Int}
theorem iS(h:a[i]?=b[j]?):rk R a i=rk R b j:=by unfold rk;rw[h]
theorem nk{a:Array Keyed}(hj:j<=a.size)(k:Nat):rk R (mirror a i j ((j - i) / 2)) k=if i<=k/\k < j then rk R a (i+j - 1 - k) else rk R a k:=by
 have e:=getElem?_mirror_all (i:=i) (j:=j) (xs:=a) hj k;by_cases c:i<=k/\k < j
 . rw[if_pos c] at e ⊢;exact iS e
 . rw[if_neg c] at e ⊢;exact iS e
theorem Kj{a:Array Keyed}(ha:i < a.size)(hd:d<=i)(k:Nat):rk R (bubble a i d) k=if k=i - d then rk R a i else if i - d < k/\k<=i then rk R a (k - 1) else rk R a k:=by
 have e:=getElem?_bubble (xs:=a) (src:=i) ha d hd k;by_cases c:k=i - d
 . rw[if_pos c] at e ⊢;exact iS e
 . rw[if_neg c] at e ⊢;by_cases c2:i - d < k/\k<=i
   . rw[if_pos c2] at e ⊢;exact iS e
   . rw[if_neg c2] at e ⊢;exact iS e
def bt(R:Keyed->Int)(a:Array Keyed)(i j:Nat):Prop:= ∀x y,i<=x->x<=y->y < j->rk R a x<=rk R a y
theorem bt.more{lo n:Nat}(h:bt R a lo (lo+n))(n1:1<=n)(hl:rk R a 322<=rk R a (lo+n)):bt R a lo (lo+(n+1)):=fun x y h1 h2 h3=>by
 by_cases c:y < lo+n
 . exact h x y h1 h2 c
 . have:y=lo+n:=by lia
   subst this;by_cases d:x=lo+n
   . rw[d];exact ae8 _
   . exact Int.le_trans (h x 322 h1 101 101) hl
theorem bt.one{lo:Nat}:bt R a lo (lo+1):=fun x y h1 h2 h3=>by rw[show x=y by lia];exact ae8 _
structure Dx(R:Keyed->Int)(a:Array Keyed)(lo n q:Nat):Prop where
 ds: ∀i j,lo<=i->i<=j->j < lo+n->rk R a j<=rk R a i
 q1:q+1<=n
 eq: ∀i,lo+n - (q+1)<=i->i < lo+n->rk R a i=rk R a 322
theorem Dx.turn{lo n q:Nat}(h:Dx R a lo n q)(hn:lo+n<=a.size):rk R (mirror a (lo+n - (q+1)) (lo+n) ((lo+n - (lo+n - (q+1))) / 2)) i=rk R a i:=by
 rw[nk hn];have:=h.q1;split
 . rename_i c;rw[h.eq _ 101 101,h.eq i c.1 c.2]
 . rfl
theorem Dx.turned{lo n q:Nat}(h:Dx R a lo n q)(hn:lo+n<=a.size):Dx R (mirror a (lo+n - (q+1)) (lo+n) ((lo+n - (lo+n - (q+1))) / 2)) lo n q:=
 ⟨fun i j x y z=>by rw[h.turn hn,h.turn hn];exact h.ds i j x y z,h.q1,fun i x y=>by rw[h.turn hn,h.turn hn];exact h.eq i x y⟩
theorem Dx.more{lo n q:Nat}(h:Dx R a lo n q)(hl:rk R a (lo+n) < rk R a 322):Dx R a lo (n+1) 0:=by
 have:=h.q1;refine⟨fun i j x y z=>?_,by lia,fun i x y=>by rw[show i=lo+(n+1) - 1 by lia]⟩;by_cases hj:j < lo+n
 . exact h.ds i j x y hj
 . have:j=lo+n:=by lia
   subst this;by_cases hi:i=lo+n
   . subst hi;exact ae8 _
   . exact Int.le_trans (am7 hl) (h.ds i 322 x 101 101)
theorem Dx.alike{lo n q:Nat}(h:Dx R a lo n q)(hl:rk R a (lo+n)=rk R a 322):Dx R a lo (n+1) (q+1):=by
 have q1:=h.q1;refine⟨fun i j x y z=>?_,by lia,fun i x y=>?_⟩
 . by_cases hj:j < lo+n
   . exact h.ds i j x y hj
   . have:j=lo+n:=by lia
     subst this;by_cases hi:i=lo+n
     . subst hi;exact ae8 _
     . rw[hl];exact h.ds i 322 x 101 101
 . rw[show lo+(n+1) - 1=lo+n by lia];by_cases hi:i=lo+n
   . rw[hi]
   . rw[hl];exact h.eq i 101 101
theorem Dx.up{lo n q:Nat}(h:Dx R a lo n q)(hn:lo+n<=a.size):bt R (mirror a lo (lo+n) ((lo+n - lo) / 2)) lo (lo+n):=fun x y h1 h2 h3=>by
 rw[nk hn,nk hn,if_pos 205,if_pos 205];exact h.ds _ _ 101 101 101
end
structure Wx(κ:SortKind)(a₀ ar:Array Keyed)(lo:Nat)(p:Array 152)(st:SortSt):Prop where
 pm:(136).Perm a₀
 kind:kindOf st=κ
 failed:failedOf st=none
 pend:pendingOf st=p
 keep: ∀i,i < lo->(136)[i]?=ar[i]?
section
variable{prog:Program}{w:World}{A:Around}{E:Value->Shared->Prop}{s:Shared}{κ:SortKind}{R:Keyed->Int}{D:Keyed->Prop}{a₀ ar:Array Keyed}{p:Array 152}{lo:Nat}
theorem Wx.size{st:SortSt}(h:Wx κ a₀ ar lo p st):(136).size=a₀.size:=h.pm.size_eq
theorem Wx.dk{st:SortSt}(h:Wx κ a₀ ar lo p st)(hD: ∀x∈a₀.toList,D x):Dk D 136:=fun i hi=>hD _ ((ak6.mp h.pm).mem_iff.mp (wC hi))
theorem Wx.lt{st:SortSt}(h:Wx κ a₀ ar lo p st)(L:pC prog w A E s κ R D)(hD: ∀x∈a₀.toList,D x){i j:Nat}(hi:i < a₀.size)(hj:j < a₀.size)(q:Q (some (decide (rk R 136 i < rk R 136 j))) st):wpS 110 A E s (ltAt' i j) Q st:=by
 have oJ:i < (136).size:=by rw[h.size];exact hi
 have Au:j < (136).size:=by rw[h.size];exact hj
 rw[ltAt'_eq];refine ab0 (as6 ?_);rw[cn oJ,cn Au] at q;exact ab0 (aE oJ (ab0 (aE Au (L _ _ _ _ h.kind (h.dk hD _ oJ) (h.dk hD _ Au) q))))
theorem Wx.rev{st:SortSt}(h:Wx κ a₀ ar lo p st){i j:Nat}(hi:lo<=i)(hj:j<=a₀.size)(q: ∀ax,Wx κ a₀ ar lo p ax->arrOf ax=mirror 136 i j ((j - i) / 2)->Q () ax):wpS 110 A E s (reverseSlice' i j) Q st:=by
 rw[reverseSlice'_eq];refine am9 (q _ ⟨(mirror_perm _ _ _ _).trans h.pm,h.kind,h.failed,h.pend,fun k hk=>?_⟩ rfl);show(mirror 136 i j ((j - i) / 2))[k]?=_;rw[getElem?_mirror_all (by rw[h.size];exact hj),if_neg 101];exact h.keep k hk
theorem Wx.Yp{st:SortSt}(h:Wx κ a₀ ar lo p st){i j:Nat}(hj:lo<=j)(bE:j<=i)(hi:i < a₀.size)(q: ∀ax,Wx κ a₀ ar lo p ax->arrOf ax=bubble 136 i (i - j)->Q () ax):wpS 110 A E s (moveDown' i j) Q st:=by
 rw[moveDown'_eq];refine am9 (q _ ⟨(bubble_perm _ _ _).trans h.pm,h.kind,h.failed,h.pend,fun k hk=>?_⟩ rfl);show(bubble 136 i (i - j))[k]?=_;rw[getElem?_bubble (by rw[h.size];exact hi) _ 101,if_neg 101,if_neg 101];exact h.keep k hk
theorem BJ(L:pC prog w A E s κ R D)(hD: ∀x∈a₀.toList,D x){st:SortSt}{eJ:Nat}(hn:lo+eJ<=a₀.size)(h1:1<=eJ)(hW:Wx κ a₀ ar lo p st)(h: ∀m ax,Wx κ a₀ ar lo p ax->1<=m->m<=eJ->bt R 153 lo (lo+m)->Q (some m) ax):wpS 110 A E s (countRun' lo eJ) Q st:=by
 rw[countRun'_eq];dsimp only;refine ab0 (aj0 (ag0 (I:=fun i c ax=>ax=st/\c.1=none/\c.2=i/\bt R 136 lo (lo+i)) (Q:=fun c ax=>ax=st/\c.1=none/\1<=c.2/\c.2<=eJ/\bt R 136 lo (lo+c.2)/\(c.2 < eJ->rk R 136 (lo+c.2) < rk R 136 (lo+c.2 - 1))) ?_ ?_ ⟨rfl,rfl,rfl,bt.one⟩) ?_)
 . rintro x ⟨r,n⟩ ax FK IK ⟨rfl,e1,e2,e3⟩
   dsimp only at e1 e2 e3 ⊢;subst e1;subst e2;refine ab0 (hW.lt L hD 101 101 ?_);cases bw:decide (rk R 153 (lo+n) < rk R 153 322) with
   | true=>exact ab1 117
   | false=>exact ab1 ⟨rfl,rfl,rfl,e3.more 101 (av3.mp (ah1 bw))⟩
 . rintro⟨r,n⟩ ax ⟨f0,f1,f2,f3⟩
   dsimp only at f1 f2 f3;rw[<-f2] at f3;have f2:n=eJ:=by lia
   subst f2;exact 157
 . rintro⟨r,n⟩ ax ⟨rfl,e1,e2,e3,sg,O4⟩
   dsimp only at e1 e2 e3 sg O4 ⊢;subst e1;dsimp only;by_cases c1:(n==eJ)=true
   . rw[if_pos c1];exact ab1 (h _ _ hW e2 e3 sg)
   rw[if_neg c1];have Vw:n≠eJ:=fun z=>c1 183;clear c1;have O4:=O4 101;have sz:=hW.size;by_cases c2:n > 1
   . rw[if_pos c2];refine ab0 (hW.lt L hD 101 101 ?_);cases bw:decide (rk R 153 lo < rk R 153 322) with
     | true=>exact ab1 (h _ _ hW e2 e3 sg)
     | false=>
      have bw:=ah1 bw;dsimp only;rw[if_neg ab3];refine ab0 (hW.rev 101 101 fun jx w1 ea=>?_);refine ab0 217;have al: ∀i,lo<=i->i < lo+n->rk R 153 i=rk R 153 322:=fun i i1 i2=>by
       have:=sg lo i 101 i1 i2;have:=sg i 322 i1 101 101;lia
      have QX: ∀i,lo<=i->i < lo+n->rk R (arrOf jx) i=rk R 153 322:=fun i i1 i2=>by
       rw[ea,nk 101,if_pos ⟨i1,i2⟩];exact al _ 101 101
      have ar2:rk R (arrOf jx) (lo+n)=rk R 153 (lo+n):=by rw[ea,nk 101,if_neg 101]
      have UZ:Dx R (arrOf jx) lo (n+1) 0:=Dx.more (q:=n - 1) ⟨fun i j x y z=>by rw[QX i x 101,QX j 101 z];exact ae8 _,by lia,fun i x y=>by rw[QX i 101 y,QX 322 101 101]⟩ (by rw[ar2,QX 322 101 101];exact O4);refine ab0 (aj0 (ag0 (I:=fun i c ax=>Wx κ a₀ ar lo p ax/\c.1=none/\c.2.1=i/\Dx R 153 lo c.2.1 c.2.2) (Q:=fun c ax=>Wx κ a₀ ar lo p ax/\c.1=none/\c.2.1<=eJ/\Dx R 153 lo c.2.1 c.2.2) ?_ ?_ ⟨w1,rfl,rfl,(by dsimp only;exact UZ)⟩) ?_)
      . rintro x ⟨r,m,q⟩ ax FK IK ⟨w',e1,e2,dx⟩
        dsimp only at e1 e2 dx ⊢;subst e1;subst e2;have q1:=dx.q1;have sz:=w'.size;refine ab0 (w'.lt L hD 101 101 ?_);cases bw:decide (rk R 153 (lo+m) < rk R 153 (lo+m - 1)) with
        | true=>
         have bw:=ad6 bw;dsimp only;rw[if_pos rfl];by_cases c:q > 0
         . rw[if_pos c];exact ab0 (w'.rev 101 101 fun eX w2 ea=>ab1 ⟨w2,rfl,rfl,by dsimp only;rw[ea];exact(dx.turned 101).more (by rw[dx.turn 101,dx.turn 101];exact bw)⟩)
         . rw[if_neg c];exact ab1 ⟨w',rfl,rfl,by dsimp only;exact dx.more bw⟩
        | false=>
         have bw:=ah1 bw;dsimp only;rw[if_neg ab3];refine ab0 (w'.lt L hD 101 101 ?_);cases Vx:decide (rk R 153 (lo+m - 1) < rk R 153 (lo+m)) with
         | true=>exact ab1 ⟨w',rfl,by dsimp only;lia,by dsimp only;exact dx⟩
         | false=>exact ab1 ⟨w',rfl,rfl,by dsimp only;exact dx.alike (by have:=ah1 Vx;lia)⟩
      . rintro⟨r,m,q⟩ ax ⟨w',e1,e2,dx⟩
        dsimp only at e2;exact⟨w',e1,by dsimp only;lia,dx⟩
      . rintro⟨r,m,q⟩ ax ⟨w2,e1,e3,dx⟩
        dsimp only at e1 e3 dx ⊢;subst e1;have q1:=dx.q1;have sz:=w2.size;by_cases c:q > 0
        . rw[if_pos c];refine ab0 (w2.rev 101 101 fun eX w3 ea=>?_);have Qh:=dx.turned 101;rw[<-ea] at Qh;have X1:=w3.size;refine ab0 (w3.rev 101 101 fun gb w4 Mj=>?_);have sg:=Qh.up 101;rw[<-Mj] at sg;refine ab0 111
          . rintro x ⟨r,n⟩ ax FK IK ⟨rfl,e1,e2,e3⟩
            dsimp only at e1 e2 e3 ⊢;subst e1;subst e2;refine ab0 (w4.lt L hD 101 101 ?_);cases bw:decide (rk R 153 (lo+n) < rk R 153 322) with
            | true=>exact ab1 117
            | false=>exact ab1 ⟨rfl,rfl,rfl,e3.more 101 (av3.mp (ah1 bw))⟩
          . rintro⟨r,n⟩ ax ⟨f0,f1,f2,f3⟩
            dsimp only at f1 f2 f3;rw[<-f2] at f3;have f2:n=eJ:=by lia
            subst f2;exact 157
          . rintro⟨r,n⟩ ax ⟨rfl,e1,e2,e3,e4,e5⟩
            dsimp only at e1 e2 e3 e4 ⊢;subst e1;exact ab1 (h _ _ w4 e2 e3 e4)
        . rw[if_neg c];refine ab0 (w2.rev 101 101 fun gb w4 Mj=>?_);have sg:=dx.up 101;rw[<-Mj] at sg;refine ab0 111
          . rintro x ⟨r,n⟩ ax FK IK ⟨rfl,e1,e2,e3⟩
            dsimp only at e1 e2 e3 ⊢;subst e1;subst e2;refine ab0 (w4.lt L hD 101 101 ?_);cases bw:decide (rk R 153 (lo+n) < rk R 153 322) with
            | true=>exact ab1 117
            | false=>exact ab1 ⟨rfl,rfl,rfl,e3.more 101 (av3.mp (ah1 bw))⟩
          . rintro⟨r,n⟩ ax ⟨f0,f1,f2,f3⟩
            dsimp only at f1 f2 f3;rw[<-f2] at f3;have f2:n=eJ:=by lia
            subst f2;exact 157
          . rintro⟨r,n⟩ ax ⟨rfl,e1,e2,e3,e4,e5⟩
            dsimp only at e1 e2 e3 e4 ⊢;subst e1;exact ab1 (h _ _ w4 e2 e3 e4)
   . rw[if_neg c2];refine ab0 217;have n1:n=1:=by lia
     subst n1;have UZ:Dx R 153 lo (1+1) 0:=Dx.more (q:=0) ⟨fun i j x y z=>by rw[show i=j by lia];exact ae8 _,by lia,fun i x y=>by rw[show i=lo+1 - 1 by lia]⟩ O4;refine ab0 (aj0 (ag0 (I:=fun i c ax=>Wx κ a₀ ar lo p ax/\c.1=none/\c.2.1=i/\Dx R 153 lo c.2.1 c.2.2) (Q:=fun c ax=>Wx κ a₀ ar lo p ax/\c.1=none/\c.2.1<=eJ/\Dx R 153 lo c.2.1 c.2.2) ?_ ?_ ⟨hW,rfl,rfl,(by dsimp only;exact UZ)⟩) ?_)
     . rintro x ⟨r,m,q⟩ ax FK IK ⟨w',e1,e2,dx⟩
       dsimp only at e1 e2 dx ⊢;subst e1;subst e2;have q1:=dx.q1;have sz:=w'.size;refine ab0 (w'.lt L hD 101 101 ?_);cases bw:decide (rk R 153 (lo+m) < rk R 153 (lo+m - 1)) with
       | true=>
        have bw:=ad6 bw;dsimp only;rw[if_pos rfl];by_cases c:q > 0
        . rw[if_pos c];exact ab0 (w'.rev 101 101 fun eX w2 ea=>ab1 ⟨w2,rfl,rfl,by dsimp only;rw[ea];exact(dx.turned 101).more (by rw[dx.turn 101,dx.turn 101];exact bw)⟩)
        . rw[if_neg c];exact ab1 ⟨w',rfl,rfl,by dsimp only;exact dx.more bw⟩
       | false=>
        have bw:=ah1 bw;dsimp only;rw[if_neg ab3];refine ab0 (w'.lt L hD 101 101 ?_);cases Vx:decide (rk R 153 (lo+m - 1) < rk R 153 (lo+m)) with
        | true=>exact ab1 ⟨w',rfl,by dsimp only;lia,by dsimp only;exact dx⟩
        | false=>exact ab1 ⟨w',rfl,rfl,by dsimp only;exact dx.alike (by have:=ah1 Vx;lia)⟩
     . rintro⟨r,m,q⟩ ax ⟨w',e1,e2,dx⟩
       dsimp only at e2;exact⟨w',e1,by dsimp only;lia,dx⟩
     . rintro⟨r,m,q⟩ ax ⟨w2,e1,e3,dx⟩
       dsimp only at e1 e3 dx ⊢;subst e1;have q1:=dx.q1;have sz:=w2.size;by_cases c:q > 0
       . rw[if_pos c];refine ab0 (w2.rev 101 101 fun eX w3 ea=>?_);have Qh:=dx.turned 101;rw[<-ea] at Qh;have X1:=w3.size;refine ab0 (w3.rev 101 101 fun gb w4 Mj=>?_);have sg:=Qh.up 101;rw[<-Mj] at sg;refine ab0 111
         . rintro x ⟨r,n⟩ ax FK IK ⟨rfl,e1,e2,e3⟩
           dsimp only at e1 e2 e3 ⊢;subst e1;subst e2;refine ab0 (w4.lt L hD 101 101 ?_);cases bw:decide (rk R 153 (lo+n) < rk R 153 322) with
           | true=>exact ab1 117
           | false=>exact ab1 ⟨rfl,rfl,rfl,e3.more 101 (av3.mp (ah1 bw))⟩
         . rintro⟨r,n⟩ ax ⟨f0,f1,f2,f3⟩
           dsimp only at f1 f2 f3;rw[<-f2] at f3;have f2:n=eJ:=by lia
           subst f2;exact 157
         . rintro⟨r,n⟩ ax ⟨rfl,e1,e2,e3,e4,e5⟩
           dsimp only at e1 e2 e3 e4 ⊢;subst e1;exact ab1 (h _ _ w4 e2 e3 e4)
       . rw[if_neg c];refine ab0 (w2.rev 101 101 fun gb w4 Mj=>?_);have sg:=dx.up 101;rw[<-Mj] at sg;refine ab0 111
         . rintro x ⟨r,n⟩ ax FK IK ⟨rfl,e1,e2,e3⟩
           dsimp only at e1 e2 e3 ⊢;subst e1;subst e2;refine ab0 (w4.lt L hD 101 101 ?_);cases bw:decide (rk R 153 (lo+n) < rk R 153 322) with
           | true=>exact ab1 117
           | false=>exact ab1 ⟨rfl,rfl,rfl,e3.more 101 (av3.mp (ah1 bw))⟩
         . rintro⟨r,n⟩ ax ⟨f0,f1,f2,f3⟩
           dsimp only at f1 f2 f3;rw[<-f2] at f3;have f2:n=eJ:=by lia
           subst f2;exact 157
         . rintro⟨r,n⟩ ax ⟨rfl,e1,e2,e3,e4,e5⟩
           dsimp only at e1 e2 e3 e4 ⊢;subst e1;exact ab1 (h _ _ w4 e2 e3 e4)
theorem BK(L:pC prog w A E s κ R D)(hD: ∀x∈a₀.toList,D x){st:SortSt}{n ok:Nat}{Q:Bool->SortSt->Prop}(hn:lo+n<=a₀.size)(o1:1<=ok)(o2:ok<=n)(hW:Wx κ a₀ ar lo p st)(sg:bt R 136 lo (lo+ok))
  (h: ∀ax,Wx κ a₀ ar lo p ax->bt R 153 lo (lo+n)->Q true ax):wpS 110 A E s (binarySort' lo n ok) Q st:=by
 rw[binarySort'_eq];refine ab0 (aj0 (ag0 (I:=fun k c ax=>c=(none,())/\Wx κ a₀ ar lo p ax/\bt R 153 lo (lo+k)) (Q:=fun c ax=>c=(none,())/\Wx κ a₀ ar lo p ax/\bt R 153 lo (lo+n)) ?step ?fin ⟨rfl,hW,by rw[Nat.max_eq_left o1];exact sg⟩) ?post)
 case fin=>
  rintro c ax ⟨e,w',s'⟩
  exact⟨e,w',by rw[show max (max ok 1) n=n by lia] at s';exact s'⟩
 case post=>
  rintro c ax ⟨rfl,w',s'⟩
  exact ab1 (h ax w' s')
 case step=>
  rintro k c ax hak hkn ⟨rfl,w',s'⟩
  have sz:=w'.size;have k1:1<=k:=by lia
  refine ab0 (aj0 (ag0 (I:=fun x c q0=>q0=ax/\c.1=none/\c.2.1<=c.2.2/\c.2.2<=k/\(c.2.2 - c.2.1)+x<=k/\(∀i,i < c.2.1->rk R 153 (lo+i)<=rk R 153 (lo+k))/\(∀i,c.2.2<=i->i < k->rk R 153 (lo+k)<=rk R 153 (lo+i)))
   (Q:=fun c q0=>q0=ax/\c.1=none/\c.2.1<=k/\(∀i,i < c.2.1->rk R 153 (lo+i)<=rk R 153 (lo+k))/\(∀i,c.2.1<=i->i < k->rk R 153 (lo+k)<=rk R 153 (lo+i))) ?istep ?ifin ⟨rfl,rfl,by dsimp only;lia,by dsimp only;lia,by dsimp only;lia,fun i hi=>by dsimp only at hi;lia,fun i h1 h2=>by dsimp only at h1;lia⟩) ?ipost)
  case ifin=>
   rintro⟨r,l,u⟩ q0 ⟨e,e1,e2,e3,e4,e5,e6⟩
   dsimp only at e1 e2 e3 e4 e5 e6;have:l=u:=by lia
   subst this;exact⟨e,e1,e3,e5,e6⟩
  case istep=>
   rintro x ⟨r,l,u⟩ q0 _ hxk ⟨rfl,h1,h2,h3,h4,h5,h6⟩
   dsimp only at h1 h2 h3 h4 h5 h6 ⊢;subst h1;by_cases LJ:l>=u
   . rw[if_pos LJ];have:l=u:=by lia
     subst this;exact ab1 ⟨rfl,rfl,h3,h5,h6⟩
   . rw[if_neg LJ];refine ab0 (w'.lt L hD 101 101 ?_);cases bw:decide (rk R (arrOf q0) (lo+k) < rk R (arrOf q0) (lo+(l+u) / 2)) with
     | true=>
      have bw:=ad6 bw;exact ab1 ⟨rfl,rfl,by dsimp only;lia,by dsimp only;lia,by dsimp only;lia,h5,fun i i1 i2=>by
       dsimp only at i1;have:=s' (lo+(l+u) / 2) (lo+i) 101 101 101;lia⟩
     | false=>
      have bw:=ah1 bw;exact ab1 ⟨rfl,rfl,by dsimp only;lia,by dsimp only;lia,by dsimp only;lia,fun i i1=>by
       dsimp only at i1;have:=s' (lo+i) (lo+(l+u) / 2) 101 101 101;lia,h6⟩
  case ipost=>
   rintro⟨r,l,u⟩ q0 ⟨rfl,h1,h2,h5,h6⟩
   dsimp only at h1 h2 h5 h6 ⊢;subst h1;refine ab0 (w'.Yp (i:=lo+k) (j:=lo+l) 101 101 101 fun eX w2 ea=>ab1 ⟨rfl,w2,?_⟩);intro x y x1 x2 x3;have bu:=fun z=>Kj (R:=R) (a:=arrOf q0) (i:=lo+k) (d:=lo+k - (lo+l)) 101 101 z;rw[ea,bu x,bu y];have e0:lo+k - (lo+k - (lo+l))=lo+l:=by lia
   rw[e0];by_cases a1:x=lo+l
   . rw[if_pos a1];by_cases b1:y=lo+l
     . rw[if_pos b1];exact ae8 _
     . rw[if_neg b1,if_pos 205];have:=h6 (y - 1 - lo) 101 101;rw[show lo+(y - 1 - lo)=y - 1 by lia] at this;exact this
   . rw[if_neg a1];by_cases a2:lo+l < x/\x<=lo+k
     . rw[if_pos a2,if_neg 101,if_pos 205];exact s' _ _ 101 101 101
     . rw[if_neg a2];by_cases b1:y=lo+l
       . rw[if_pos b1];have:=h5 (x - lo) 101;rw[show lo+(x - lo)=x by lia] at this;exact this
       . rw[if_neg b1];by_cases b2:lo+l < y/\y<=lo+k
         . rw[if_pos b2];exact s' _ _ 101 101 101
         . rw[if_neg b2];exact s' _ _ 101 101 101
end
section
variable{R:Keyed->Int}
theorem Cy: ∀{L:List Keyed} {n:Nat} {xs:Array Keyed} (k:Nat),sa+n+L.length<=xs.size->((L.zipIdx n).foldl 275 xs)[k]?=if sa+n<=k/\k < sa+n+L.length then L[k - sa - n]? else xs[k]?
 | [],n,xs,k,_=>by
  rw[if_neg (by rw[an8];lia)];rfl
 | x::L,n,xs,k,h=>by
  rw[ac1] at h ⊢;rw[List.zipIdx_cons,List.foldl_cons];rw[Cy (sa:=sa) (L:=L) (n:=n+1) k (by simp;lia)];by_cases c:sa+n<=k/\k < sa+n+(L.length+1)
  . rw[if_pos c];by_cases d:k=sa+n
    . rw[if_neg 101,Array.getElem?_setIfInBounds,if_pos d.symm,if_pos 101,show k - sa - n=0 by lia];rfl
    . rw[if_pos 101,show k - sa - n=(k - sa - (n+1))+1 by lia,ao5]
  . rw[if_neg c,if_neg 101,Array.getElem?_setIfInBounds,if_neg 101]
theorem t7: ∀{l:List (Keyed × Nat)} {xs:Array Keyed},(l.foldl 275 xs).size=xs.size
 | [],xs=>rfl
 | (x,j)::l,xs=>by
  rw[List.foldl_cons,t7];simp
structure RT(a m a':Array Keyed)(sa e:Nat):Prop where
 at_: ∀k,a'[k]?=if sa<=k/\k < e then m[k - sa]? else a[k]?
 sz:a'.size=a.size
theorem Ko{a m:Array Keyed}(h:sa+m.size<=a.size):RT a m (m.toList.zipIdx.foldl 275 a) sa (sa+m.size):=by
 refine⟨fun k=>?_,t7⟩;have:=Cy (sa:=sa) (L:=m.toList) (n:=0) (xs:=a) k (by rw[ac5];exact h);rw[ac5,al4,au3,ai6] at this;exact this
theorem RT.list(h:RT a m a' sa e)(he:e=sa+m.size)(hs:e<=a.size):a'.toList=a.toList.take sa++(m.toList++a.toList.drop e):=by
 apply ai1;intro k;rw[ai6,h.at_ k];have l1:(a.toList.take sa).length=sa:=by rw[al6,ac5];lia
 by_cases c:k < sa
 . rw[if_neg 101,ad7 101,List.getElem?_take_of_lt c,ai6]
 . rw[ae7 101,l1];by_cases d:k < e
   . rw[if_pos 101,ad7 (by rw[ac5];lia),ai6]
   . rw[if_neg 101,ae7 (by rw[ac5];lia),ac5,List.getElem?_drop,ai6];congr 1
     lia
def gJ(R:Keyed->Int)(a:Array Keyed):Nat->List 152->Nat->Prop
 | s,[],e=>s=e
 | s,x::r,e=>x.1=s/\1<=x.2.1/\bt R a x.1 (x.1+x.2.1)/\gJ R a (x.1+x.2.1) r e
theorem gJ.ch: ∀{s e:Nat} {l:List 152},gJ R a s l e->Ch s l e
 | s,e,[],h=>h
 | s,e,x::r,h=>⟨h.1,h.2.1,gJ.ch h.2.2.2⟩
theorem gJ.same: ∀{s e:Nat} {l:List 152},gJ R a s l e->(∀j,s<=j->j < e->rk R a' j=rk R a j)->gJ R a' s l e
 | s,e,[],h,_=>h
 | s,e,x::r,h,hr=>by
  have le:=h.2.2.2.ch.le;have hs:=h.1;refine⟨h.1,h.2.1,fun y z y1 y2 y3=>?_,gJ.same h.2.2.2 fun j j1 j2=>hr j 101 j2⟩;rw[hr y 101 101,hr z 101 101];exact h.2.2.1 y z y1 y2 y3
theorem gJ.lb: ∀{s e i:Nat} {l:List 152} {x:Nat × Nat × Nat},gJ R a s l e->l[i]?=some x->s<=x.1/\bt R a x.1 (x.1+x.2.1)
 | s,e,i,[],x,_,h=>by simp at h
 | s,e,0,z::r,x,h,h1=>by
  cases (show z=x by simpa using h1);exact⟨Nat.le_of_eq h.1.symm,h.2.2.1⟩
 | s,e,i+1,z::r,x,h,h1=>by
  have:=gJ.lb h.2.2.2 (show r[i]?=some x by simpa using h1);exact⟨by have:=this.1;have:=h.1;lia,this.2⟩
theorem gJ.merge: ∀{s e i:Nat} {l:List 152} {x y:Nat × Nat × Nat},gJ R a s l e->l[i]?=some x->l[i+1]?=some y->bt R a' x.1 (x.1+(x.2.1+y.2.1))->(∀j,(j < x.1\/x.1+(x.2.1+y.2.1)<=j)->rk R a' j=rk R a j)->gJ R a' s ((l.set i (x.1,x.2.1+y.2.1,v)).eraseIdx (i+1)) e
 | s,e,i,[],x,y,h,h1,_,_,_=>by simp at h1
 | s,e,0,[z],x,y,h,h1,h2,_,_=>by simp at h2
 | s,e,0,z::z2::r,x,y,h,h1,h2,sg,hr=>by
  cases (show z=x by simpa using h1);cases (show z2=y by simpa using h2);show z.1=s/\1<=z.2.1+z2.2.1/\bt R a' z.1 (z.1+(z.2.1+z2.2.1))/\gJ R a' (z.1+(z.2.1+z2.2.1)) r e;refine⟨h.1,by have:=h.2.1;lia,sg,?_⟩;have:=h.2.2.2.2.2.2;rw[h.2.2.2.1] at this;rw[<-Nat.add_assoc];exact this.same fun j j1 _=>hr j (.inr 101)
 | s,e,i+1,z::r,x,y,h,h1,h2,sg,hr=>by
  have lb:=gJ.lb h.2.2.2 (show r[i]?=some x by simpa using h1);refine⟨h.1,h.2.1,fun p q p1 p2 p3=>?_,gJ.merge h.2.2.2 245 244 sg hr⟩;rw[hr p (.inl 101),hr q (.inl 101)];exact h.2.2.1 p q p1 p2 p3
theorem gJ.push(hn:1<=n): ∀{s e:Nat} {l:List 152},gJ R a s l e->bt R a e (e+n)->gJ R a s (l++ [(e,n,q)]) (e+n)
 | s,e,[],h,sg=>⟨h.symm,hn,sg,rfl⟩
 | s,e,x::r,h,sg=>⟨h.1,h.2.1,h.2.2.1,gJ.push hn h.2.2.2 sg⟩
theorem gJ.mod(hf: ∀x,(f x).1=x.1/\(f x).2.1=x.2.1): ∀{s e k:Nat} {l:List 152},gJ R a s l e->gJ R a s (l.modify k f) e
 | s,e,k,[],h=>by simpa using h
 | s,e,0,x::r,h=>by
  show(f x).1=s/\1<=(f x).2.1/\bt R a (f x).1 ((f x).1+(f x).2.1)/\gJ R a ((f x).1+(f x).2.1) r e;rw[(hf x).1,(hf x).2];exact h
 | s,e,k+1,x::r,h=>⟨h.1,h.2.1,h.2.2.1,gJ.mod hf h.2.2.2⟩
theorem gJ.len: ∀{s e:Nat} {l:List 152},gJ R a s l e->s+l.length<=e
 | s,e,[],h=>by rw[an8];exact Nat.le_of_eq h
 | s,e,x::r,h=>by
  have:=gJ.len h.2.2.2;have:=h.1;have:=h.2.1;rw[ac1];lia
theorem bt.Ip(h:bt R a i j)(hj:j<=a.size):eo R 282:=by
 unfold eo;rw[al0];intro x y hx hy hxy;have sz:(282).size=j - i:=by rw[an2];lia
 have rY:x < j - i:=by rw[<-sz,<-ac5];exact hx
 have Lx:y < j - i:=by rw[<-sz,<-ac5];exact hy
 have:=h (i+x) (i+y) 101 101 101;rw[cn 101,cn 101] at this;simpa using this
theorem yg{a:Array Keyed}(hj:j<=a.size)(hx:x < j - i):rk R 282 x=rk R a (i+x):=by
 have sz:(282).size=j - i:=by rw[an2];lia
 rw[cn 101,cn 101,Array.getElem_extract]
theorem wA{a m a':Array Keyed}(h1:sa<=ko)(h2:ko < sb)(h3:sb < e')(h4:e'<=e)(h5:e<=a.size)(s1:bt R a sa sb)(s2:bt R a sb e)(o:Out R (a.extract ko sb) (a.extract sb e') m)(P:RT a m a' ko e')(k1:sa < ko->rk R a (ko - 1)<=rk R a sb)(k2:e' < e->rk R a (sb - 1)<=rk R a e'):bt R a' sa e/\a'.toList.Perm a.toList/\ ∀j,(j < ko\/e'<=j)->rk R a' j=rk R a j:=by
 have ms:m.size=e' - ko:=by
  have:=o.1.length_eq;rw[ab8,ac5,ac5,ac5,an2,an2] at this;lia
 have out: ∀j,(j < ko\/e'<=j)->rk R a' j=rk R a j:=fun j hj=>iS (by rw[P.at_ j,if_neg 101]);have ins: ∀j,ko<=j->j < e'->rk R a' j=rk R m (j - ko):=fun j j1 j2=>iS (by rw[P.at_ j,if_pos ⟨j1,j2⟩]);have mem: ∀j,ko<=j->j < e'-> ∃k,ko<=k/\k < e'/\rk R a' j=rk R a k:=fun j j1 j2=>by
  rw[ins j j1 j2,cn 101];have hm:=o.1.mem_iff.mp (wC (a:=m) (i:=j - ko) 101);rcases af6.mp hm with z | z
  . obtain⟨k,p1,p2,p3,e⟩:=dq (R:=R) z;exact⟨k,p1,by lia,e⟩
  . obtain⟨k,p1,p2,p3,e⟩:=dq (R:=R) z;exact⟨k,by lia,p2,e⟩
 have lo: ∀x k,sa<=x->x < ko->ko<=k->k < e'->rk R a x<=rk R a k:=fun x k x1 x2 p1 p2=>by
  have a1:=s1 x (ko - 1) x1 101 101;by_cases c:k < sb
  . exact s1 x k x1 101 c
  . have:=k1 101;have:=s2 sb k (aa4 _) 101 101;lia
 have hi: ∀y k,e'<=y->y < e->ko<=k->k < e'->rk R a k<=rk R a y:=fun y k y1 y2 p1 p2=>by
  by_cases c:k < sb
  . have b1:=s1 k (sb - 1) 101 101 101;have b2:=k2 101;have b3:=s2 e' y 101 y1 y2;lia
  . exact s2 k y 101 101 y2
 refine⟨fun x y x1 x2 x3=>?_,?_,out⟩
 . by_cases cx:x < ko
   . rw[out x (.inl cx)];by_cases cy:y < ko
     . rw[out y (.inl cy)];exact s1 x y x1 x2 101
     . by_cases Vt:y < e'
       . obtain⟨k,p1,p2,e⟩:=mem y 101 Vt;rw[e];exact lo x k x1 cx p1 p2
       . rw[out y (.inr 101)];have q1:=lo x (sb - 1) x1 cx 101 101;have q2:=hi y (sb - 1) 101 x3 101 101;lia
   . by_cases Xg:x < e'
     . by_cases Vt:y < e'
       . rw[ins x 101 Xg,ins y 101 Vt];exact o.2.rk 101 101
       . obtain⟨k,p1,p2,e⟩:=mem x 101 Xg;rw[e,out y (.inr 101)];exact hi y k 101 x3 p1 p2
     . rw[out x (.inr 101),out y (.inr 101)];exact s2 x y 101 x2 x3
 . rw[P.list 101 101];have e1:a.toList.take ko++((a.extract ko sb).toList++(a.extract sb e').toList++a.toList.drop e')=a.toList:=by
    rw[gx,gx];have d1:a.toList.drop sb=(a.toList.drop sb).take (e' - sb)++a.toList.drop e':=by
     conv=>lhs;rw[<-an3 (e' - sb) (a.toList.drop sb)]
     rw[List.drop_drop,show sb+(e' - sb)=e' by lia]
    have d2:a.toList.drop ko=(a.toList.drop ko).take (sb - ko)++a.toList.drop sb:=by
     conv=>lhs;rw[<-an3 (sb - ko) (a.toList.drop ko)]
     rw[List.drop_drop,show ko+(sb - ko)=sb by lia]
    rw[ag6,<-d1,<-d2,an3]
   conv=>rhs;rw[<-e1]
   exact List.Perm.append_left _ (List.Perm.append_right _ o.1)
theorem bt.join(s1:bt R a sa sb)(s2:bt R a sb e)(h1:sa < sb)(hl:rk R a (sb - 1)<=rk R a sb):bt R a sa e:=fun x y x1 x2 x3=>by
 by_cases cx:x < sb
 . by_cases cy:y < sb
   . exact s1 x y x1 x2 cy
   . have q1:=s1 x (sb - 1) x1 101 101;have q2:=s2 sb y (aa4 _) 101 x3;lia
 . exact s2 x y 101 x2 x3
end
structure Px(κ:SortKind)(R:Keyed->Int)(a₀:Array Keyed)(lo:Nat)(p:Array 152)(st:SortSt):Prop where
 pm:(136).Perm a₀
 kind:kindOf st=κ
 failed:failedOf st=none
 pend:pendingOf st=p
 ch:gJ R 136 0 p.toList lo
section
variable{prog:Program}{w:World}{A:Around}{E:Value->Shared->Prop}{s:Shared}{κ:SortKind}{R:Keyed->Int}{D:Keyed->Prop}{a₀:Array Keyed}{p:Array 152}{lo:Nat}
theorem i8(L:pC prog w A E s κ R D)(hD: ∀x∈a₀.toList,D x){st:SortSt}{i:Nat}{Q:Bool->SortSt->Prop}(hW:Px κ R a₀ lo p st)(Ug:lo<=a₀.size)(hi:i+1 < p.size)
  (h: ∀p' ax,Px κ R a₀ lo p' ax->p'.size+1=p.size->(∀j,lo<=j->rk R 153 j=rk R 136 j)->Q true ax):wpS 110 A E s (mergeAt' i) Q st:=by
 rw[uD];refine ab0 (as6 ?_);obtain⟨⟨sa,na,pw⟩,hx⟩: ∃x,p[i]?=some x:=⟨p[i],aj4 101⟩
 obtain⟨⟨sb,nb,Yc⟩,hy⟩: ∃x,p[i+1]?=some x:=⟨p[i+1],aj4 101⟩
 have rY:p.toList[i]?=some (sa,na,pw):=by rw[ai6];exact hx
 have Lx:p.toList[i+1]?=some (sb,nb,Yc):=by rw[ai6];exact hy
 have t2:=hW.ch.ch.two rY Lx;have J6:=(hW.ch.lb rY).2;have Oj:=(hW.ch.lb Lx).2;have hM:=fun(a':Array Keyed)=>hW.ch.merge (a':=a') (v:=pw) rY Lx;dsimp only at t2 J6 Oj hM;obtain⟨n1,e1,n2,e2⟩:=t2;rw[hW.pend,hx,hy];dsimp only;have Nx:((p.setIfInBounds i (sa,na+nb,pw)).eraseIdxIfInBounds (i+1)).toList=(p.toList.set i (sa,na+nb,pw)).eraseIdx (i+1):=by
  rw[Array.toList_eraseIdxIfInBounds,Array.toList_setIfInBounds]
 have T4:((p.setIfInBounds i (sa,na+nb,pw)).eraseIdxIfInBounds (i+1)).size+1=p.size:=by
  rw[<-ac5,Nx,List.length_eraseIdx_of_lt (by rw[ad5,ac5];exact hi),ad5,ac5];lia
 rw[<-Nx] at hM;generalize (p.setIfInBounds i (sa,na+nb,pw)).eraseIdxIfInBounds (i+1)=p1 at hM T4 ⊢;clear Nx;have sz:(136).size=a₀.size:=hW.pm.size_eq;have dk:Dk D 136:=fun i hi=>hD _ ((ak6.mp hW.pm).mem_iff.mp (wC hi));have Nw:sb < (136).size:=by lia
 refine ab0 (FW ?_);refine ab0 (aE Nw ?_);refine ab0 (fc L hW.kind dk (dk _ Nw) 101 101 (fun x y x1 x2=>J6 _ _ 101 101 101) fun k hk kt kf=>?_);rw[<-cn (R:=R) Nw] at kt kf;dsimp only;have IF:0 < k->rk R 136 (sa+k - 1)<=rk R 136 sb:=fun z=>by have:=xB (kt (k - 1) 101);rw[show sa+(k - 1)=sa+k - 1 by lia] at this;exact this
 have Ld:k < na->rk R 136 sb<=rk R 136 (sa+k):=fun z=>am7 (xC (kf k (aa4 _) z));clear kt kf;have whole:rk R 136 (sb - 1)<=rk R 136 sb->Q true (setPending st p1):=fun z=>by
  refine h p1 _ ⟨hW.pm,hW.kind,hW.failed,rfl,?_⟩ T4 fun _ _=>rfl;refine hM 136 ?_ fun j _=>rfl;rw[show sa+(na+nb)=sb+nb by lia];rw[e1] at J6;exact J6.join Oj 101 z
 by_cases c1:(na - k==0)=true
 . rw[if_pos c1];have Vw:=ab9.mp c1;refine ab1 (whole ?_);have:=IF 101;rw[show sa+k - 1=sb - 1 by lia] at this;exact this
 rw[if_neg c1];have Vw:na - k≠0:=fun z=>c1 183;clear c1;have TX:sa+k+(na - k) - 1 < (136).size:=by lia
 refine ab0 (aE TX ?_);refine ab0 (fc L hW.kind dk (dk _ TX) 101 101 (fun x y x1 x2=>Oj _ _ 101 101 101) fun k2 RJ lt lf=>?_);rw[<-cn (R:=R) TX,show sa+k+(na - k) - 1=sb - 1 by lia] at lt lf;dsimp only;have lt':0 < k2->rk R 136 (sb+k2 - 1)<=rk R 136 (sb - 1):=fun z=>by have:=am7 (ox (lt (k2 - 1) 101));rw[show sb+(k2 - 1)=sb+k2 - 1 by lia] at this;exact this
 have Br:k2 < nb->rk R 136 (sb - 1)<=rk R 136 (sb+k2):=fun z=>oy (lf k2 (aa4 _) z);clear lt lf;by_cases c2:(k2==0)=true
 . rw[if_pos c2];have Jw:=ab9.mp c2;refine ab1 (whole ?_);have:=Br 101;rw[Jw,al4] at this;exact this
 rw[if_neg c2];have Jw:k2≠0:=fun z=>c2 183;clear c2;have sx:((136).extract (sa+k) sb).size=na - k:=by rw[an2];lia
 have sy:((136).extract sb (sb+k2)).size=k2:=by rw[an2];lia
 have V4:bt R 136 (sa+k) sb:=fun x y x1 x2 x3=>J6 x y 101 x2 101;have V3:bt R 136 sb (sb+k2):=fun x y x1 x2 x3=>Oj x y x1 x2 101;have RP: ∀i j,Dk D ((136).extract i j):=fun i j l hl=>by
  rw[Array.getElem_extract];exact dk _ _
 have fin: ∀(m:Array Keyed) (g:Nat),Out R ((136).extract (sa+k) sb) ((136).extract sb (sb+k2)) m->wpS 110 A E s (do
   modify fun s=>setArr s (m.toList.zipIdx.foldl (fun a (p,j)=>a.setIfInBounds (sa+k+j) p) (arrOf s))
   return(failedOf (<-get)).isNone) Q (setG (setPending st p1) g):=fun m g o=>by
  have ms:m.size=na - k+k2:=by
   have:=o.1.length_eq;rw[ab8,ac5,ac5,ac5,sx,sy] at this;exact this
  have pt:=Ko (a:=arrOf st) (m:=m) (sa:=sa+k) 101;rw[show sa+k+m.size=sb+k2 by lia] at pt;rw[e1] at J6;obtain⟨q1,q2,q3⟩:=wA (sa:=sa) (e:=sb+nb) 101 101 101 101 101 J6 Oj o pt (fun z=>IF 101) (fun z=>Br 101);refine ab0 (am9 (ab0 (as6 ?_)));have hf:(failedOf st).isNone=true:=by rw[hW.failed];rfl
  show wpS _ _ _ _ (pure (failedOf st).isNone) Q _;rw[hf];refine ab1 (h p1 _ ⟨(ak6.mpr q2).trans hW.pm,hW.kind,hW.failed,rfl,?_⟩ T4 fun j hj=>q3 j 101);refine hM _ ?_ fun j hj=>q3 j 101;rw[show sa+(na+nb)=sb+nb by lia];exact q1
 have c0:rk R ((136).extract sb (sb+k2)) 0<=rk R ((136).extract (sa+k) sb) 0:=by
  rw[yg 101 101,yg 101 101,al4,al4];exact Ld 101
 have cl:rk R ((136).extract sb (sb+k2)) (((136).extract sb (sb+k2)).size - 1)<=rk R ((136).extract (sa+k) sb) (((136).extract (sa+k) sb).size - 1):=by
  rw[sx,sy,yg 101 101,yg 101 101,show sb+(k2 - 1)=sb+k2 - 1 by lia,show sa+k+(na - k - 1)=sb - 1 by lia];exact lt' 101
 by_cases c3:na - k<=k2
 . rw[if_pos c3];exact ab0 (tD L hW.kind (RP _ _) (RP _ _) (V4.Ip 101) (V3.Ip 101) 101 101 c0 cl fun m g o=>fin m g o)
 . rw[if_neg c3];exact ab0 (tE L hW.kind (RP _ _) (RP _ _) (V4.Ip 101) (V3.Ip 101) 101 101 c0 cl fun m g o=>fin m g o)
end
theorem Px.wx{p:Array 152}{lo:Nat}{st:SortSt}(h:Px κ R a₀ lo p st):Wx κ a₀ 136 lo p st:=⟨h.pm,h.kind,h.failed,h.pend,fun _ _=>rfl⟩
theorem Px.back{p:Array 152}{lo:Nat}{st ax:SortSt}(h:Px κ R a₀ lo p st)(w':Wx κ a₀ 136 lo p ax):Px κ R a₀ lo p ax:=⟨w'.pm,w'.kind,w'.failed,w'.pend,h.ch.same fun j _ j2=>iS (w'.keep j j2)⟩
theorem zx(L:pC prog w A E s κ R D)(hD: ∀x∈a₀.toList,D x){st:SortSt}(hW:Px κ R a₀ 0 #[] st)(h1:1<=a₀.size)(h: ∀ax,(153).Perm a₀->failedOf ax=none->bt R 153 0 a₀.size->Q () ax):wpS 110 A E s sortRuns' Q st:=by
 rw[sortRuns'_eq];refine ab0 (as6 ?_);dsimp only;rw[hW.pm.size_eq];have mr:1<=minRun' a₀.size a₀.size 0:=nK h1;generalize minRun' a₀.size a₀.size 0=RE at mr ⊢;refine ab0 (aj0 (ag0 (I:=fun x (c:Option Unit × Nat) ax=>c.1=none/\c.2<=a₀.size/\min x a₀.size<=c.2/\ ∃p,Px κ R a₀ c.2 p ax)
  (Q:=fun(c:Option Unit × Nat) ax=>c.1=none/\c.2=a₀.size/\ ∃p,Px κ R a₀ c.2 p ax) ?step ?fin0 ⟨rfl,ae3 _,by dsimp only;lia,#[],hW⟩) ?post)
 case fin0=>
  rintro⟨r,lo⟩ ax ⟨e1,e2,e3,p,hp⟩
  dsimp only at e1 e2 e3 hp;exact⟨e1,by dsimp only;lia,p,hp⟩
 case post=>
  rintro⟨r,lo⟩ ax ⟨e1,e2,p,Az⟩
  dsimp only at e1 e2 Az ⊢;subst e1;subst e2;dsimp only;have pl:=Az.ch.len;rw[ac5] at pl;refine ab0 (aj0 (ag0 (I:=fun x c ax=>c.1=none/\ ∃p,Px κ R a₀ a₀.size p ax/\p.size+x<=a₀.size)
   (Q:=fun c ax=>c.1=none/\ ∃p,Px κ R a₀ a₀.size p ax/\p.size<=1) ?fstep ?ffin ⟨rfl,p,Az,by lia⟩) ?fpost)
  case ffin=>
   rintro⟨r,u⟩ ax ⟨e1,p,hp,hs⟩
   exact⟨e1,p,hp,by rw[show max 0 a₀.size=a₀.size by lia] at hs;lia⟩
  case fpost=>
   rintro⟨r,u⟩ ax ⟨e1,p,hp,hs⟩
   dsimp only at e1 ⊢;subst e1;refine ab1 (h _ hp.pm hp.failed ?_);have ch:=hp.ch;have hl:p.toList.length<=1:=by rw[ac5];exact hs
   match hq:p.toList,hl,ch with
   | [],_,ch=>have:0=a₀.size:=ch;lia
   | [x],_,ch=>
    obtain⟨a1,a2,a3,a4⟩:=ch;have a4:x.1+x.2.1=a₀.size:=a4;rw[a4,a1] at a3;exact a3
   | _::_::_,hl,_=>simp at hl
  case fstep=>
   clear Az pl;rintro x ⟨r,u⟩ ax _ hx ⟨e1,p,Az,hs⟩
   dsimp only at e1 ⊢;subst e1;refine ab0 (as6 ?_);rw[Az.pend];by_cases c:p.size<=1
   . rw[if_pos c];exact ab1 ⟨rfl,p,Az,c⟩
   rw[if_neg c];have mg: ∀i,i+1 < p.size->wpS 110 A E s (mergeAt' i) (fun b ax=>b=true/\ ∃p',Px κ R a₀ a₀.size p' ax/\p'.size+1=p.size) ax:=fun i hi=>i8 L hD Az (aa4 _) hi fun p' eX a b _=>⟨rfl,p',a,b⟩
   have hi: ∀(b:Bool),(if b=true then p.size - 2 - 1 else p.size - 2)+1 < p.size:=fun b=>by cases b <;> simp <;> omega
   refine ab0 (aj0 (mg _ (hi _)) ?_);rintro b eX ⟨rfl,p2,w2,k2⟩
   exact ab1 ⟨rfl,p2,w2,by lia⟩
 case step=>
  rintro x ⟨r,lo⟩ ax _ hx ⟨e1,e2,e3,p,Az⟩
  dsimp only at e1 e2 e3 Az ⊢;subst e1;by_cases c:lo>=a₀.size
  . rw[if_pos c];exact ab1 ⟨rfl,by dsimp only;lia,p,Az⟩
  rw[if_neg c];refine ab0 (BJ L hD 101 101 Az.wx fun m jx w1 m1 m2 sg=>?_);have UD:=Az.back w1;clear w1;dsimp only;by_cases c2:m < RE
  . rw[if_pos c2];refine ab0 217;refine ab0 (BK L hD 101 m1 101 UD.wx sg fun eX w2 Np=>?_);have wU:=UD.back w2;have n1:1<=min (a₀.size - lo) RE:=by lia
    have n2:lo+min (a₀.size - lo) RE<=a₀.size:=by lia
    simp only [Bool.not_true,au8,if_false];generalize min (a₀.size - lo) RE=n at n1 n2 Np ⊢;refine ab0 (as6 ?_);rw[wU.pend];cases hb:p.back? with
    | none=>
     dsimp only;refine ab0 (am9 (ab1 ⟨rfl,by dsimp only;lia,by dsimp only;lia,_,wU.pm,wU.kind,wU.failed,rfl,?_⟩));show gJ R (arrOf eX) 0 ((pendingOf _).push _).toList _;rw[wU.pend,aq4];exact wU.ch.push n1 Np
    | some t=>
     obtain⟨s1,Ym,q1⟩:=t;dsimp only;refine ab0 (aj0 (ag0 (I:=fun x c ax=>c.1=none/\ ∃p,Px κ R a₀ lo p ax/\bt R 153 lo (lo+n)) (Q:=fun c ax=>c.1=none/\ ∃p,Px κ R a₀ lo p ax/\bt R 153 lo (lo+n)) ?_ (fun _ _ h=>h) ⟨rfl,p,wU,Np⟩) ?_)
     . rintro x ⟨r,u⟩ gb _ _ ⟨e1,p2,w2,s2⟩
       dsimp only at e1 ⊢;subst e1;refine ab0 (as6 ?_);rw[w2.pend];by_cases c:p2.size > 1
       . rw[if_pos c,aj4 (show p2.size - 2 < p2.size by lia)];generalize p2[p2.size - 2]=t;obtain⟨t1,t2,OS⟩:=t;dsimp only;split
         . exact ab1 ⟨rfl,p2,w2,s2⟩
         . refine ab0 (i8 L hD w2 e2 101 fun p3 X2 w3 k3 kr=>?_);exact ab1 ⟨rfl,p3,w3,fun a b a1 a2 a3=>by rw[kr a a1,kr b 101];exact s2 a b a1 a2 a3⟩
       . rw[if_neg c];exact ab1 ⟨rfl,p2,w2,s2⟩
     . rintro⟨r,u⟩ gb ⟨e1,p2,w2,s2⟩
       dsimp only at e1 ⊢;subst e1;refine ab0 290;show gJ R (arrOf gb) 0 (((pendingOf gb).modify ((pendingOf gb).size - 1) _).push _).toList _;rw[w2.pend,aq4,Array.toList_modify];refine gJ.push (e:=lo) n1 (gJ.mod ?_ w2.ch) s2;exact fun _=>⟨rfl,rfl⟩
  . rw[if_neg c2];have wU:=UD;have Np:=sg;have n1:=m1;refine ab0 (as6 ?_);rw[wU.pend];cases hb:p.back? with
    | none=>
     dsimp only;refine ab0 (am9 (ab1 ⟨rfl,by dsimp only;lia,by dsimp only;lia,_,wU.pm,wU.kind,wU.failed,rfl,?_⟩));show gJ R (arrOf jx) 0 ((pendingOf _).push _).toList _;rw[wU.pend,aq4];exact wU.ch.push n1 Np
    | some t=>
     obtain⟨s1,Ym,q1⟩:=t;dsimp only;refine ab0 (aj0 (ag0 (I:=fun x c ax=>c.1=none/\ ∃p,Px κ R a₀ lo p ax/\bt R 153 lo (lo+m)) (Q:=fun c ax=>c.1=none/\ ∃p,Px κ R a₀ lo p ax/\bt R 153 lo (lo+m)) ?_ (fun _ _ h=>h) ⟨rfl,p,wU,Np⟩) ?_)
     . rintro x ⟨r,u⟩ gb _ _ ⟨e1,p2,w2,s2⟩
       dsimp only at e1 ⊢;subst e1;refine ab0 (as6 ?_);rw[w2.pend];by_cases c:p2.size > 1
       . rw[if_pos c,aj4 (show p2.size - 2 < p2.size by lia)];generalize p2[p2.size - 2]=t;obtain⟨t1,t2,OS⟩:=t;dsimp only;split
         . exact ab1 ⟨rfl,p2,w2,s2⟩
         . refine ab0 (i8 L hD w2 e2 101 fun p3 X2 w3 k3 kr=>?_);exact ab1 ⟨rfl,p3,w3,fun a b a1 a2 a3=>by rw[kr a a1,kr b 101];exact s2 a b a1 a2 a3⟩
       . rw[if_neg c];exact ab1 ⟨rfl,p2,w2,s2⟩
     . rintro⟨r,u⟩ gb ⟨e1,p2,w2,s2⟩
       dsimp only at e1 ⊢;subst e1;refine ab0 290;show gJ R (arrOf gb) 0 (((pendingOf gb).modify ((pendingOf gb).size - 1) _).push _).toList _;rw[w2.pend,aq4,Array.toList_modify];refine gJ.push (e:=lo) n1 (gJ.mod ?_ w2.ch) s2;exact fun _=>⟨rfl,rfl⟩
end fX
namespace bW
open PySem PySem.W PyProof.Rows
variable{N:Nat}{K:Nat->Int}{s:Shared}{cmp:Nat->Nat->(Bool->Shared->Prop)->Shared->Prop}
def Xp(N:Nat)(K:Nat->Int)(cmp:Nat->Nat->(Bool->Shared->Prop)->Shared->Prop)(s:Shared):Prop:= ∀i j,i < N->j < N-> ∀C:Bool->Shared->Prop,C (decide (K i < K j)) s->cmp i j C s
structure Pm(N:Nat)(p:Array Nat):Prop where
 pm:p.Perm (List.range N).toArray
theorem Pm.sz(h:Pm N p):p.size=N:=by rw[h.pm.size_eq];simp
def kp(K:Nat->Int)(p:Array Nat)(i:Nat):Int:=K (p.getD i 0)
def VX(K:Nat->Int)(p:Array Nat)(n:Nat):Prop:= ∀i j,i<=j->j < n->kp K p i<=kp K p j
end bW
namespace L2
open PySem PySem.Spec PyProof.Rows
abbrev Key:=Sum Int Str
def pZ:Key->Value->Bool
 | .inl k,v=>Value.isInt k v
 | .inr x,v=>Value.isStrOf x v
def An(w:World):Key->Int
 | .inl k=>hashInt k
 | .inr x=>hashStr w x
theorem bA: ∀{k:Key} {v:Value},pZ k v=true->(∃i t,k=Sum.inl i/\v=Value.int i t)\/(∃x t,k=Sum.inr x/\v=Value.str x t)
 | .inl i,v,h=>by
  obtain⟨t,e⟩:=Value.isInt_shape (k:=i) (v:=v) h;exact .inl ⟨i,t,rfl,e⟩
 | .inr x,v,h=>by
  obtain⟨t,e⟩:=Value.isStrOf_shape (x:=x) (v:=v) h;exact .inr ⟨x,t,rfl,e⟩
theorem Am(i:Int)(t:Tok):pZ (.inl i) (.int i t)=true:=by simp [pZ,Value.isInt]
theorem Al(x:Str)(t:Tok):pZ (.inr x) (.str x t)=true:=by simp [pZ,Value.isStrOf]
theorem Lh(a b:Int):decide ((Sum.inl a:Key)=Sum.inl b)=(a==b):=by
 by_cases e:a=b
 . subst e;simp
 . have h: ¬(Sum.inl a:Key)=Sum.inl b:=fun q=>e (Sum.inl.inj q);rw[ad4 h];exact(ar1.mpr e).symm
theorem Le(a b:Str):decide ((Sum.inr a:Key)=Sum.inr b)=decide (a=b):=by
 by_cases e:a=b
 . subst e;simp
 . have h: ¬(Sum.inr a:Key)=Sum.inr b:=fun q=>e (Sum.inr.inj q);rw[ad4 h,ad4 e]
theorem Lg(a:Int)(b:Str):decide ((Sum.inl a:Key)=Sum.inr b)=false:=ad4 (fun q=>nomatch q)
theorem Lf(a:Str)(b:Int):decide ((Sum.inr a:Key)=Sum.inl b)=false:=ad4 (fun q=>nomatch q)
def bD(prog:Program)(w:World):PySem.KeyKind prog w Key where
 is:=pZ
 hash:=An w
 inj:=fun v a b ha hb=>by
  rcases bA ha with ⟨i,t,rfl,rfl⟩ | ⟨x,t,rfl,rfl⟩
  . rcases bA hb with ⟨j,u,rfl,e⟩ | ⟨y,u,rfl,e⟩
    . injection e with e1 _;rw[e1]
    . exact nomatch e
  . rcases bA hb with ⟨j,u,rfl,e⟩ | ⟨y,u,rfl,e⟩
    . exact nomatch e
    . injection e with e1 _;rw[e1]
 byValue:=fun k v h=>by
  rcases bA h with ⟨i,t,rfl,rfl⟩ | ⟨x,t,rfl,rfl⟩ <;> rfl
 pyHash:=fun hv h=>by
  rcases bA hv with ⟨i,t,rfl,rfl⟩ | ⟨x,t,rfl,rfl⟩
  . exact wpAny_pyHash_int h
  . exact wpAny_pyHash_str h
 eqBool:=fun hu hv h=>by
  rcases bA hu with ⟨i,t,rfl,rfl⟩ | ⟨x,t,rfl,rfl⟩
  . rcases bA hv with ⟨j,u,rfl,rfl⟩ | ⟨y,u,rfl,rfl⟩
    . rw[Lh] at h;exact wpAny_eqBool_int h
    . rw[Lg] at h;exact SeqAt.EqAt.int_str i t y u _ _ _ _ h
  . rcases bA hv with ⟨j,u,rfl,rfl⟩ | ⟨y,u,rfl,rfl⟩
    . rw[Lf] at h;exact SeqAt.EqAt.str_int x t j u _ _ _ _ h
    . rw[Le] at h;exact wpAny_eqBool_str h
 «strs» :=fun k x t v h=>by
  rcases bA h with ⟨i,u,rfl,e⟩ | ⟨y,u,rfl,e⟩
  . exact nomatch e
  . injection e with e1 _
    subst e1;cases v <;> rfl
theorem uA(prog:Program)(w:World)(i:Int)(t:Tok):(bD prog w).is (.inl i) (.int i t)=true:=Am i t
theorem uy(prog:Program)(w:World)(x:Str)(t:Tok):(bD prog w).is (.inr x) (.str x t)=true:=Al x t
inductive V where
 | aC | bl (b:Bool) | int (i:Int) | str (x:Str) | ze (b:Array UInt8) | Bu (b:UInt64) | ref (a:Addr) | ty (n:String)
 deriving DecidableEq
def RelV:V->Value->Prop
 | .aC,u=>u=Value.none
 | .bl b,u=>u=Value.bool b
 | .int i,u=> ∃t,u=Value.int i t
 | .str x,u=> ∃t,u=Value.str x t
 | .ze b,u=> ∃t,u=Value.bytes b t
 | .Bu b,u=> ∃t,u=Value.float b t
 | .ref a,u=>u=Value.ref a
 | .ty n,u=>u=Value.type n
abbrev Vals:List V->List Value->Prop:=Paired RelV
theorem Vals.length(r:Vals xs us):xs.length=us.length:=Paired.length r
theorem Vals.get: ∀{xs:List V} {us:List Value} {i:Nat} {x:V},Vals xs us->xs[i]?=some x-> ∃u,us[i]?=some u/\RelV x u
 | _,_,_,_,.nil,e=>by simp at e
 | _,_,0,_,.cons r _,e=>by simp at e;subst e;exact⟨_,rfl,r⟩
 | _,_,i+1,x,.cons _ t,e=>by
  obtain⟨u,h1,h2⟩:=Vals.get (i:=i) (x:=x) t (by simpa using e);exact⟨u,by simpa using h1,h2⟩
theorem Vals.set(r:RelV x u): ∀{xs:List V} {us:List Value} (i:Nat),Vals xs us->Vals (xs.set i x) (us.set i u)
 | _,_,_,.nil=> .nil
 | _,_,0,.cons _ t=> .cons r t
 | _,_,i+1,.cons q t=> .cons q (Vals.set r i t)
theorem Vals.append: ∀{xs ys:List V} {us ws:List Value},Vals xs us->Vals ys ws->Vals (xs++ys) (us++ws)
 | _,_,_,_,.nil,s=>s
 | _,_,_,_,.cons r t,s=> .cons r (Vals.append t s)
theorem Vals.take: ∀{xs:List V} {us:List Value} (n:Nat),Vals xs us->Vals (xs.take n) (us.take n)
 | _,_,0,_=> .nil
 | _,_,_+1,.nil=> .nil
 | _,_,n+1,.cons r t=> .cons r (Vals.take n t)
theorem Vals.drop: ∀{xs:List V} {us:List Value} (n:Nat),Vals xs us->Vals (xs.drop n) (us.drop n)
 | _,_,0,r=>r
 | _,_,_+1,.nil=> .nil
 | _,_,n+1,.cons _ t=>Vals.drop n t
def oB:Option V->Option Value->Prop
 | some v,some u=>RelV v u
 | none,none=>True
 | _,_=>False
def KV{κ:Type}:List (κ × V)->List (κ × Value)->Prop:=Paired fun(p:κ × V) (q:κ × Value)=>p.1=q.1/\RelV p.2 q.2
def kV:Key->V
 | .inl i=> .int i
 | .inr x=> .str x
def pE(h:Heap)(a:Addr)(items:Array Value):Prop:= ∃o,h.get? a=some o/\o.cls= .type "tuple"/\o.dict=none/\ ∃n,o.data= .seq items n
theorem pE.tup{h:Heap}{a:Addr}{items:Array Value}(x:pE h a items):IsTup h a items:=let ⟨o,e,c,_,d⟩:=x;⟨o,e,c,d⟩
theorem pE.lt(x:pE h a items):a < h.objs.size:=let ⟨_,e,_⟩:=x;ad0 e
theorem pE.new(h:Heap)(items:Array Value):pE (h.push {cls:= .type "tuple",data:= .seq items}) h.objs.size items:=⟨_,ab4 _ rfl,rfl,rfl,_,rfl⟩
inductive HO where
  | lst (xs:List V)
  | tup (xs:List V)
  | dK (aG:List 264) | dT (aG:List (List Key × V))
  | set (S:Int->Bool) (n:Nat)
  | ins (C dx:Addr) (fs:List (Str × V))
  | own (x:Addr)
  | xd (fs:List (Str × V))
  | met (f x:Addr)
  | tZ (lo hi:Int)
  | lQ (o:Obj) (u:HO)
  | vR (ps:Array Value)
  | ext (φ:Heap->Prop)
abbrev Hp:=Addr->Option HO
def upd(H:Hp)(a:Addr)(o:HO):Hp:=fun b=>if b=a then some o else H b
theorem ae:upd H a o a=some o:=by unfold upd;rw[if_pos rfl]
theorem ah(h:b≠a):upd H a o b=H b:=by unfold upd;rw[if_neg h]
theorem Dh{H:Hp}(h:H a=some o)(h':H b=some u)(d:o≠u):a≠b:=by
 intro e;subst e;rw[h] at h';exact d (Option.some.inj h')
theorem az{H:Hp}(h:H a=some o)(h':H b=none):a≠b:=by
 intro e;subst e;rw[h] at h';cases h'
def bg:List Str:= ["best_way"]
def hZ(x:Str):Str:=(x++(".<locals>.":Str))++("<lambda>":Str)
def Jy(H:Hp)(ps es:Array Value):Prop:=TriplesOk es.toList/\ ∀pos cv,codeAmong pos es.toList=some cv->
 ∃c oc vs q t t',cv= .ref c/\H c=some (.lQ oc (.own c))/\oc.data= .fields vs/\vs[1]?=some (.str q t)/\ps[0]?=some (.str q t')
def iz(K:PySem.W.Frag)(H:Hp):Prop:= ∀x∈bg,∀c P,PySem.W.tabIn K x=some (c,P)-> ∃ps,H P=some (.vR ps)/\ps[0]?=some (.str (hZ x) 0)
section
variable (P:Program) (w:World)
def aZ(H:Hp)(h:Heap)(a:Addr):HO->Prop
 | .lst xs=>xs.length<=sizeLine/\ ∃(ai:List Value) (n:Nat),Vals xs ai/\h.get? a=some {cls:= .type "list",data:= .seq ai.toArray n}
 | .tup xs=>xs.length<=sizeLine/\ ∃ai:List Value,Vals xs ai/\pE h a ai.toArray
 | .dK aG=>aG.length<=sizeLine/\389=false/\ ∃vs,KV aG vs/\h.DictOf (bD P w) a vs
 | .dT aG=>aG.length<=sizeLine/\389=false/\ ∃xs:List (List Key × Addr × Value),
   Paired (fun(p:List Key × V) (q:List Key × Addr × Value)=>p.1=q.1/\H q.2.1=some (.tup (p.1.map kV))/\RelV p.2 q.2.2) aG xs/\
   ∃o es ep,h.get? a=some o/\o.ExactDict/\o.data= .dict es ep/\es.toList=xs.map (entryOfKey 383)/\(xs.map (·.1)).Nodup
 | .set S n=>h.SetOf (intKind P w) a S n
 | .ins C dx fs=>H dx=some (.own a)/\fs.length<=1000/\dx≠a/\h.get? a=some (PySem.W.instObj C dx)/\
   ∃mA,h.Ns1 dx mA/\(∀f,oB (fs.lookup f) (mA f))/\PySem.Within mA (fs.map (·.1))
 | .own _=> ∃o,h.get? a=some o
 | .xd fs=> ∃mA,h.Ns1 a mA/\ ∀f,oB (fs.lookup f) (mA f)
 | .tZ lo hi=> ∃t u v,h.get? a=some {cls:= .type "range",data:= .fields #[.int lo t,.int hi u,.int 1 v]}
 | .lQ o u=>h.get? a=some o/\aZ H h a u
 | .vR ps=> ∃es,h.get? a=some (PySem.W.tabObj es)/\Jy H ps es
 | .met f x=>h.get? a=some (PySem.W.methodObj 399 (.ref x))
 | .ext φ=>φ h/\(∃o,h.get? a=some o)/\ ∀h1 h2:Heap,φ h1->(∀o,h1.get? a=some o->h2.get? a=some o)->φ h2
def iA(H:Hp)(h:Heap):Prop:= ∀a o,H a=some o->aZ P w H h a o
end
theorem aZ.lt(x:aZ P w H h a o):a < h.objs.size:=by
 cases o with
 | lst xs=>obtain⟨_,_,_,_,e⟩:=x;exact ad0 e
 | tup xs=>obtain⟨_,_,_,p⟩:=x;exact p.lt
 | dK aG=>obtain⟨_,_,_,_,o,_,_,e,_⟩:=x;exact ad0 e
 | dT aG=>obtain⟨_,_,_,_,o,_,_,e,_⟩:=x;exact ad0 e
 | set S n=>obtain⟨o,_,_,_,e,_⟩:=x;exact ad0 e
 | ins C dx fs=>obtain⟨_,_,_,e,_⟩:=x;exact ad0 e
 | own y=>obtain⟨_,e⟩:=x;exact ad0 e
 | xd fs=>obtain⟨_,⟨_,_,_,e,_⟩,_⟩:=x;exact ad0 e
 | tZ lo hi=>obtain⟨_,_,_,e⟩:=x;exact ad0 e
 | lQ ob u=>obtain⟨e,_⟩:=x;exact ad0 e
 | vR ps=>obtain⟨_,e,_⟩:=x;exact ad0 e
 | met f y=>exact ad0 (show h.get? a=some _ from x)
 | ext φ=>obtain⟨_,⟨_,e⟩,_⟩:=x;exact ad0 e
theorem Paired.K6: ∀{l₁:List α} {l₂:List β},Paired F l₁ l₂->(∀a b,F a b->G a b)->Paired G l₁ l₂
 | _,_,.nil,_=> .nil
 | _,_,.cons r t,f=> .cons (f _ _ r) (Paired.K6 t f)
theorem aZ.tS(x:aZ P w H h a o)(k: ∀b u,(b=a\/H b=some (.own a))->h.get? b=some u->h'.get? b=some u)
  (ho: ∀b,H b=some (.own a)->H' b=some (.own a)) (ht: ∀b xs,H b=some 203->H' b=some 203) (hz: ∀b o u,H b=some (.lQ o u)->H' b=some (.lQ o u):=by first | exact fun _ _ _ q=>q | exact fun _ _ _ q=>by rw[ah (az q (by assumption))];exact q):aZ P w H' h' a o:=by
 induction o with
 | lst xs=>obtain⟨z,ai,n,r,e⟩:=x;exact⟨z,ai,n,r,k _ _ 301 e⟩
 | tup xs=>obtain⟨z,ai,r,ob,e,c⟩:=x;exact⟨z,ai,r,ob,k _ _ 301 e,c⟩
 | dK aG=>obtain⟨z,y,vs,r,ob,es,ep,e,c⟩:=x;exact⟨z,y,vs,r,ob,es,ep,k _ _ 301 e,c⟩
 | dT aG=>
  obtain⟨z,y,xs,r,ob,es,ep,e,c⟩:=x;exact⟨z,y,xs,Paired.K6 r fun p q z=>⟨z.1,ht _ _ z.2.1,z.2.2⟩,ob,es,ep,k _ _ 301 e,c⟩
 | set S n=>obtain⟨ob,es,ep,t,e,c⟩:=x;exact⟨ob,es,ep,t,k _ _ 301 e,c⟩
 | ins C dx fs=>
  obtain⟨d,z,ne,e,mA,⟨od,es,ep,e2,c⟩,r⟩:=x;exact⟨ho _ d,z,ne,k _ _ 301 e,mA,⟨od,es,ep,k _ _ (.inr d) e2,c⟩,r⟩
 | own y=>obtain⟨ob,e⟩:=x;exact⟨ob,k _ _ 301 e⟩
 | xd fs=>obtain⟨mA,⟨od,es,ep,e,c⟩,r⟩:=x;exact⟨mA,⟨od,es,ep,k _ _ 301 e,c⟩,r⟩
 | tZ lo hi=>obtain⟨t,u,v,e⟩:=x;exact⟨t,u,v,k _ _ 301 e⟩
 | lQ ob u ih=>obtain⟨e,q⟩:=x;exact⟨k _ _ 301 e,ih q⟩
 | vR ps=>
  obtain⟨es,e,tk,q⟩:=x;refine⟨es,k a _ 301 e,tk,fun pos cv z=>?_⟩;obtain⟨c,oc,vs,q',t,t',e1,e2,e3⟩:=q pos cv z;exact⟨c,oc,vs,q',t,t',e1,hz _ _ _ e2,e3⟩
 | met f y=>
  have e:h.get? a=some (PySem.W.methodObj 399 (.ref y)):=x;show h'.get? a=some (PySem.W.methodObj 399 (.ref y));exact k a _ 301 e
 | ext φ=>obtain⟨p,⟨o,e⟩,st⟩:=x;exact⟨st _ _ p fun o q=>k _ _ 301 q,⟨o,k _ _ 301 e⟩,st⟩
theorem iA.lt(x:iA P w H h)(e:H a=some o):a < h.objs.size:=(x a o e).lt
theorem iA.fresh(x:iA P w H h)(e:h.objs.size<=a):H a=none:=by
 cases q:H a with
 | none=>rfl
 | some u=>exact absurd (ac8 (x.lt q) e) (af2 _)
theorem iA.kept(x:iA P w H h)(k: ∀b u,h.get? b=some u->h'.get? b=some u):iA P w H h':=fun a o e=>
 (x a o e).tS (fun b u _ q=>k b u q) (fun _ q=>q) fun _ _ q=>q
theorem iA.laid(x:iA P w H h)(k: ∀b u,h.get? b=some u->h'.get? b=some u)(hp:h.objs.size<=a)(new:aZ P w (upd H a o) h' a o):iA P w (upd H a o) h':=fun b u e=>by
 have hn:=x.fresh hp;by_cases hb:b=a
 . subst hb;rw[ae] at e;cases e;exact new
 . rw[ah hb] at e;exact(x b u e).tS (fun c v _ q=>k c v q) (fun c q=>by rw[ah (az q hn)];exact q) fun c xs q=>by rw[ah (az q hn)];exact q
def Rd(H:Hp)(a:Addr)(u:HO):Prop:=H a=some u\/ ∃o,H a=some (.lQ o u)
theorem Rd.ok(r:Rd H a u)(x:iA P w H h):aZ P w H h a u:=by
 rcases r with r | ⟨o,r⟩
 . exact x a u r
 . obtain⟨_,q⟩:=x a _ r;exact q
def Q7:Option HO->Prop
 | some (.lst _)=>True
 | some (.dK _)=>True
 | some (.dT _)=>True
 | some (.set _ _)=>True
 | some (.ins _ _ _)=>True
 | some (.ext _)=>True
 | _=>False
theorem iA.write(ok:iA P w H h)(mu:Q7 (H x))(he:e=x\/H e=some (.own x))(k: ∀b u,b≠e->h.get? b=some u->h'.get? b=some u)(NA: ∃u,h'.get? e=some u)
  (new:aZ P w (upd H x o') h' x o'):iA P w (upd H x o') h':=fun b u q=>by
 have OX: ∀c y,H c=some (.own y)->c≠x:=fun c y r z=>by subst z;rw[r] at mu;exact mu
 have Te: ∀c xs,H c=some 203->c≠x:=fun c xs r z=>by subst z;rw[r] at mu;exact mu
 have Tn: ∀c o u,H c=some (.lQ o u)->c≠x:=fun c o u r z=>by subst z;rw[r] at mu;exact mu
 by_cases hb:b=x
 . subst hb;rw[ae] at q;cases q;exact new
 . rw[ah hb] at q;by_cases LO:b=e
   . have q' : H b = some (.own x) := by
       rcases he with z | z
       . exact absurd (LO.trans z) hb
       . rw[LO];exact z
     rw[q] at q';cases q';obtain⟨v,hv⟩:=NA;exact⟨v,by rw[LO];exact hv⟩
   . refine(ok b u q).tS (fun c v hc r=>k c v ?_ r) (fun c r=>by rw[ah (OX c b r)];exact r) (fun c xs r=>by rw[ah (Te c xs r)];exact r) fun c o u r=>by rw[ah (Tn c o u r)];exact r
     rcases hc with rfl | hc
     . exact LO
     . rintro rfl
       rcases he with z | z
       . exact OX c b hc z
       . rw[hc] at z;cases z;exact hb rfl
structure Un(fs ex:List Addr)(H H':Hp)(h h':Heap):Prop where
 keep: ∀b o,h.get? b=some o->H b=none->b∉fs->b∉ex->h'.get? b=some o
 slot: ∀b o,h.get? b=some o->H b=none->b∈fs->b∉ex-> ∃sl,h'.get? b=some {o with slots:=sl}
 free: ∀b o,h.get? b=some o->H b=none->b∉ex->H' b=none
 there: ∀b o,h.get? b=some o->b∉ex-> ∃o',h'.get? b=some o'
 tK: ∀b xs,H b=some 203->H' b=some 203
 o5: ∀b o u,H b=some (.lQ o u)->H' b=some (.lQ o u)
 oR: ∀b ps,H b=some (.vR ps)-> ∃more,H' b=some (.vR (ps++more))
section
variable{fs fs' ex ex':List Addr}{H H1 H2:Hp}{h h1 h2 h':Heap}{a x e:Addr}{o:HO}
theorem Un.any(u:Un fs ex H H1 h h1)(q:h.get? b=some ob)(n:H b=none)(hx:b∉ex): ∃sl,h1.get? b=some {ob with slots:=sl}:=by
 by_cases hb:b∈fs
 . exact u.slot b ob q n hb hx
 . exact⟨ob.slots,u.keep b ob q n hb hx⟩
theorem Un.kept(k: ∀b u,h.get? b=some u->h'.get? b=some u):Un fs ex H H h h':=
 ⟨fun b ob q _ _ _=>k b ob q,fun b ob q _ _ _=>⟨ob.slots,k b ob q⟩,fun _ _ _ n _=>n,fun b ob q _=>⟨ob,k b ob q⟩,fun _ _ q=>q,fun _ _ _ q=>q,fun _ ps q=>⟨#[],by rw[q];simp⟩⟩
theorem Un.refl:Un fs ex H H h h:=Un.kept fun _ _ q=>q
theorem Un.laid(k: ∀b u,h.get? b=some u->h'.get? b=some u)(hp:h.objs.size<=a)(hn:H a=none):Un fs ex H (upd H a o) h h' where
 keep:=fun b u q _ _ _=>k b u q
 slot:=fun b u q _ _ _=>⟨u.slots,k b u q⟩
 free:=fun b u q n _=>by rw[ah (af0 (ac8 (ad0 q) hp))];exact n
 there:=fun b u q _=>⟨u,k b u q⟩
 tK:=fun b xs q=>by rw[ah (az q hn)];exact q
 o5:=fun b u xs q=>by rw[ah (az q hn)];exact q
 oR:=fun b ps q=>⟨#[],by rw[ah (az q hn),q];simp⟩
theorem Un.write(mu:Q7 (H x))(he:e=x\/H e=some (.own x))(k: ∀b u,b≠e->h.get? b=some u->h'.get? b=some u)(NA: ∃u,h'.get? e=some u):Un fs ex H (upd H x o) h h':=by
 have hx: ∀b,H b=none->b≠x:=fun b n z=>by subst z;rw[n] at mu;exact mu
 have hb: ∀b,H b=none->b≠e:=fun b n z=>by
  subst z;rcases he with r | r
  . exact hx b n r
  . rw[n] at r;cases r
 have hm: ∀b u,H b=some u-> ¬Q7 (some u)->b≠x:=fun b u q nm z=>by subst z;rw[q] at mu;exact nm mu
 refine⟨fun b u q n _ _=>k b u (hb b n) q,fun b u q n _ _=>⟨u.slots,k b u (hb b n) q⟩,fun b u q n _=>by rw[ah (hx b n)];exact n,fun b u q _=>?_,
  fun b xs q=>by rw[ah (hm b _ q fun z=>z)];exact q,fun b u xs q=>by rw[ah (hm b _ q fun z=>z)];exact q,fun b ps q=>⟨#[],by rw[ah (hm b _ q fun z=>z),q];simp⟩⟩
 by_cases LO:b=e
 . subst LO;exact NA
 . exact⟨u,k b u LO q⟩
end
def FI(h:Heap)(H:Hp):List Addr:=(List.range h.objs.size).filter fun a=>(H a).isSome
def r9(h:Heap)(H:Hp):Heap:=PySem.W.hideAll h (FI h H)
theorem Aw(h:Heap)(H:Hp):(r9 h H).objs.size=h.objs.size:=PySem.W.hideAll_size _ _
theorem DS{h:Heap}(e:h.get? b=some o)(n:H b=none):(r9 h H).get? b=some o:=
 PySem.W.hideAll_get _ e fun hm=>by
  have q:(H b).isSome=true:=(ag8.mp hm).2;rw[n] at q;simp at q
theorem GQ(e:(r9 h H).get? b=some o):h.get? b=some o/\H b=none:=by
 have e':h.get? b=some o:=PySem.W.of_hideAll (FI h H) e;refine⟨e',?_⟩;cases q:H b with
 | none=>rfl
 | some x=>
  have hm:b∈FI h H:=ag8.mpr ⟨af8.mpr (ad0 e'),by simp [q]⟩;have z:(r9 h H).get? b=none:=PySem.W.hideAll_none (FI h H) hm;rw[z] at e;cases e
structure Mod(K:PySem.W.Frag)(mg:Str->Option Value)(base:Heap):Prop where
 Tr:K.In base
 glob:base.Ns mainGlobals mg
 blt: ∃mb,base.Ns builtinsNs mb/\ ∀x:Str,x≠"__name__"->mb x=bootBuiltins x
 nolimit:base.NoLimit
 bm: ∃bm ob,mg "__builtins__"=some (.ref bm)/\bm≠builtinsNs/\base.get? bm=some ob/\ob.cls= .type "module"/\ob.dict=some builtinsNs/\ob.data= .plain
structure Cx where
 prog:Program
 w:World
 K:PySem.W.Frag
 mg:Str->Option Value
 base:Heap
 A:Around
 N:List Str
 s₀:Shared
 H₀:Hp
 env:Env
 outer:List Env
 stack:List Env
 ex:List Addr
 fn:Str->Bool
 calm:Bool
 pn:List 123
 xe:Value->Shared->Prop
def oM(l:List Env):List Addr:=l.filterMap (·.frame)
abbrev Cx.fs(X:Cx):List Addr:=oM X.outer
def RQ(sc:Scope)(x:Str):Prop:=sc.names.lookup x=some .local\/sc.names.lookup x=some .cell\/sc.names.lookup x=some .free
def Loc(sc:Scope)(x:Str):Prop:=sc.names.lookup x=some .local\/sc.names.lookup x=some .cell
def Look(env:Env)(h:Heap)(m:Str->Option Value)(x:Str)(u:Value):Prop:=
 (env.kindOf x=some .local/\m x=some u)\/((env.kindOf x=some .cell\/env.kindOf x=some .free)/\ ∃c,env.cells.lookup x=some c/\h.IsCell c (some u))
structure Cx.Ok(X:Cx):Prop where
 mod:Mod X.K X.mg X.base
 kind:X.env.scope.kind= .function
 glob:X.env.globals=mainGlobals
 blt:X.env.builtins=builtinsNs
 above:X.s₀.heap.objs.size<=X.env.locals
 inj: ∀x y c,X.env.cells.lookup x=some c->X.env.cells.lookup y=some c->x=y
 has: ∀x,(X.env.kindOf x=some .cell\/X.env.kindOf x=some .free)-> ∃c,X.env.cells.lookup x=some c
 QS: ∀x c,X.fn x=true->X.env.cells.lookup x=some c->X.s₀.heap.objs.size<=c
 hd:X.calm=true->X.A.handled=none
 frames:X.A.frames=some X.stack
 Rv:X.stack=X.outer\/(X.stack=X.env::X.outer/\X.env.frame=some X.env.locals)
 NH: ∀b∈X.ex,b≠X.env.locals/\ ∀x c,X.env.cells.lookup x=some c->c≠b
 bs: ∀b o,X.base.get? b=some o->X.s₀.heap.get? b=some o/\X.H₀ b=none
 HK:X.base.objs.size<=X.s₀.heap.objs.size
 De: ∀b o,X.base.get? b=some o->b∉X.ex
 AF: ∀b∈X.ex,b∉X.fs
 og:X.s₀.heap.FunFrames X.base X.outer
 NG: ∀b∈X.fs,X.H₀ b=none
 tab:iz X.K X.H₀
structure Inv(X:Cx)(pins:List 123)(σ:List (Option V))(H:Hp)(s:Shared):Prop where
 ok:X.Ok
 os:s.os=X.s₀.os
 bare:AllBare s.gens
 base:Un X.fs X.ex X.H₀ H X.s₀.heap s.heap
 loc: ∃m,s.heap.Ns X.env.locals m/\ ∀(i:Nat) (x:Str) (v:V),X.N[i]?=some x->σ[i]?=some 356->RQ X.env.scope x-> ∃u,RelV v u/\Look X.env s.heap m x u
 cell: ∀x c,X.env.cells.lookup x=some c-> ∃v,s.heap.IsCell c v
 free:H X.env.locals=none
 gH: ∀x c,X.env.cells.lookup x=some c->H c=none
 pin: ∀p∈X.pn++pins,s.heap.get? p.1=some p.2/\H p.1=none/\p.1≠X.env.locals/\p.1∉X.fs/\ ∀v,p.2.data≠ .cell v
 aQ:iA X.prog X.w H s.heap
 len:σ.length=X.N.length
section
variable{X:Cx}{pins:List 123}{σ:List (Option V)}{H H':Hp}{s:Shared}{h':Heap}
theorem Cx.Ok.Th(ok:X.Ok)(e:X.base.get? b=some o):b∉X.fs:=fun hb=>by
 have:=(ok.og.mem hb).1;rw[e] at this;cases this
theorem Inv.bs(I:Inv X pins σ H s): ∀b o,X.base.get? b=some o->s.heap.get? b=some o/\H b=none:=fun b o e=>
 ⟨I.base.keep b o (I.ok.bs b o e).1 (I.ok.bs b o e).2 (I.ok.Th e) (I.ok.De b o e),I.base.free b o (I.ok.bs b o e).1 (I.ok.bs b o e).2 (I.ok.De b o e)⟩
theorem Inv.bk(I:Inv X pins σ H s): ∀b o,X.base.get? b=some o->s.heap.get? b=some o:=fun b o e=>(I.bs b o e).1
theorem iz.on{K:PySem.W.Frag}{fs ex:List Addr}{H H':Hp}{h h':Heap}(T:iz K H)(u:Un fs ex H H' h h'):iz K H':=fun x hx c P e=>by
 obtain⟨ps,e1,e2⟩:=T x hx c P e;obtain⟨more,e3⟩:=u.oR P ps e1;refine⟨_,e3,?_⟩;have hl:0 < ps.size:=(aq0.mp e2).1;rw[Array.getElem?_append_left hl];exact e2
theorem Inv.tab(I:Inv X pins σ H s):iz X.K H:=I.ok.tab.on I.base
theorem Inv.mod(I:Inv X pins σ H s):Mod X.K X.mg X.base:=I.ok.mod
theorem Inv.sX(I:Inv X pins σ H s):X.K.In s.heap:=I.ok.mod.Tr.keeps I.bk
theorem Inv.nolimit(I:Inv X pins σ H s):s.heap.NoLimit:=I.ok.mod.nolimit.keeps I.bk
theorem Inv.lt(I:Inv X pins σ H s):X.env.locals < s.heap.objs.size:=let ⟨_,hn,_⟩:=I.loc;hn.lt
theorem Inv.sz(I:Inv X pins σ H s):X.s₀.heap.objs.size<=s.heap.objs.size:=ac6 I.ok.above (al3 I.lt)
theorem Inv.OY(I:Inv X pins σ H s)(h:s.heap.objs.size<=a):a∉X.fs:=fun hb=>by
 obtain⟨_,o,ho,_⟩:=I.ok.og.mem hb;exact absurd (ac8 (ad0 ho) (ac6 I.sz h)) (af2 _)
theorem Inv.MS(I:Inv X pins σ H s): ∀x c,X.env.cells.lookup x=some c->c≠X.env.locals:=fun x c e z=>by
 obtain⟨v,o,ho,hd⟩:=I.cell x c e;obtain⟨m,⟨o',es,ep,LF,sZ,_⟩,_⟩:=I.loc;rw[z,LF] at ho;cases ho;rw[sZ] at hd;cases hd
theorem Inv.og(I:Inv X pins σ H s):s.heap.FunFrames X.base X.outer:=by
 have all: ∀(l:List Env),(∀b∈oM l,b∈X.fs)->X.s₀.heap.FunFrames X.base l->s.heap.FunFrames X.base l:=by
  intro l;induction l with
  | nil=>intro _ _;trivial
  | cons env r ih=>
   intro hs hl;obtain⟨hk,⟨L,o,hf,hn,ho,hd⟩,hr⟩:=hl;have hL:L∈X.fs:=hs L (by unfold oM;rw[at9,hf];exact ac4);obtain⟨sl,e⟩:=I.base.slot L o ho (I.ok.NG L hL) hL fun z=>I.ok.AF L z hL;exact⟨hk,⟨L,_,hf,hn,e,hd⟩,ih (fun b hb=>hs b (by unfold oM;rw[at9,hf];exact ab6 _ hb)) hr⟩
 exact all X.outer (fun _ hb=>hb) I.ok.og
theorem Inv.stack(I:Inv X pins σ H s):s.heap.FunFrames X.base X.stack:=by
 rcases I.ok.Rv with e | ⟨e,hf⟩
 . rw[e];exact I.og
 . rw[e];obtain⟨m,hn,_⟩:=I.loc;refine .cons (by rw[I.ok.kind];decide) hf hn ?_ I.og;exact Heap.get?_none_of_le (ac6 I.ok.HK I.ok.above)
theorem Inv.qY(I:Inv X pins σ H s): ∀b∈oM X.stack,b∈X.env.locals::X.fs:=fun b hb=>by
 rcases I.ok.Rv with e | ⟨e,hf⟩
 . rw[e] at hb;exact ab6 _ hb
 . rw[e] at hb;unfold oM at hb;rw[at9,hf] at hb;exact hb
theorem Inv.qZ(I:Inv X pins σ H s): ∀b∈oM X.stack,H b=none:=fun b hb=>by
 rcases ad1.mp (I.qY b hb) with e | hb
 . rw[e];exact I.free
 . obtain⟨_,o,ho,_⟩:=I.ok.og.mem hb;exact I.base.free b o ho (I.ok.NG b hb) fun z=>I.ok.AF b z hb
theorem Inv.step{g':Array GenState}{t':Nat}{d':Drawn}{ch:List Addr}(I:Inv X pins σ H s)
  (FO: ∀b∈ch,249/\b≠X.env.locals/\209/\ ∀p∈X.pn++pins,p.1≠b)
  (keep: ∀b o,b≠X.env.locals->b∉X.fs->b∉ch->s.heap.get? b=some o->H b=none->h'.get? b=some o)
  (slot: ∀b o,b≠X.env.locals->b∈X.fs->b∉ch->s.heap.get? b=some o->H b=none-> ∃sl,h'.get? b=some {o with slots:=sl}) (free: ∀b o,b∉ch->s.heap.get? b=some o->H b=none->H' b=none)
  (there: ∀b o,b∉ch->s.heap.get? b=some o-> ∃o',h'.get? b=some o')
  (tK: ∀b xs,H b=some 203->H' b=some 203) (o5: ∀b o u,H b=some (.lQ o u)->H' b=some (.lQ o u)) (oR: ∀b ps,H b=some (.vR ps)-> ∃more,H' b=some (.vR (ps++more)))
  (ns: ∀m,s.heap.Ns X.env.locals m->h'.Ns X.env.locals m) (aQ:iA X.prog X.w H' h') (hg:AllBare g'):
  Inv X pins σ H' {s with heap:=h',gens:=g',drawn:=d',toks:=t'}:=by
 have Wh: ∀b o,X.s₀.heap.get? b=some o->b≠X.env.locals:=fun b o e=>af0 (ac8 (ad0 e) I.ok.above);have RC: ∀b o,X.s₀.heap.get? b=some o->b∉X.ex->b∉ch:=fun b o e hx hb=>by
  rcases(FO b hb).1 with z | z
  . exact hx z
  . exact absurd (ac8 (ad0 e) z) (af2 _)
 have cellK: ∀x c,X.env.cells.lookup x=some c-> ∀v,s.heap.IsCell c v->h'.IsCell c v:=fun x c e v cK=>(by obtain⟨o,ho,hd⟩:=cK;exact(by
  have O2:c∉ch:=fun z=>(FO c z).2.2.1 x c e rfl;by_cases hc:c∈X.fs
  . obtain⟨sl,q⟩:=slot c o (I.MS x c e) hc O2 ho (I.gH x c e);exact⟨_,q,hd⟩
  . exact⟨o,keep c o (I.MS x c e) hc O2 ho (I.gH x c e),hd⟩))
 refine⟨I.ok,I.os,hg,⟨fun b o e n hb hx=>?_,fun b o e n hb hx=>?_,fun b o e n hx=>?_,fun b o e hx=>?_,fun b xs e=>tK b xs (I.base.tK b xs e),fun b o xs e=>o5 b o xs (I.base.o5 b o xs e),fun b ps e=>?_⟩,?_,fun x c e=>?_,?_,fun x c e=>?_,fun p hp=>?_,aQ,I.len⟩
 . exact keep b o (Wh b o e) hb (RC b o e hx) (I.base.keep b o e n hb hx) (I.base.free b o e n hx)
 . obtain⟨sl,e1⟩:=I.base.slot b o e n hb hx;obtain⟨X6,e2⟩:=slot b _ (Wh b o e) hb (RC b o e hx) e1 (I.base.free b o e n hx);exact⟨X6,e2⟩
 . obtain⟨o',e1⟩:=I.base.there b o e hx;exact free b o' (RC b o e hx) e1 (I.base.free b o e n hx)
 . obtain⟨o',e1⟩:=I.base.there b o e hx;exact there b o' (RC b o e hx) e1
 . obtain⟨m1,e1⟩:=I.base.oR b ps e;obtain⟨m2,e2⟩:=oR b _ e1;exact⟨m1++m2,by rw[e2,Array.append_assoc]⟩
 . obtain⟨m,hn,hl⟩:=I.loc;refine⟨m,ns m hn,fun i x v e1 e2 e3=>?_⟩;obtain⟨u,r,l⟩:=hl i x v e1 e2 e3;refine⟨u,r,?_⟩;rcases l with l | ⟨k,c,e,z⟩
   . exact .inl l
   . exact .inr ⟨k,c,e,cellK x c e _ z⟩
 . obtain⟨v,z⟩:=I.cell x c e;exact⟨v,cellK x c e v z⟩
 . obtain⟨m,⟨o,_,_,ho,_⟩,_⟩:=I.loc;exact free _ o (fun z=>(FO _ z).2.1 rfl) ho I.free
 . obtain⟨v,o,ho,hd⟩:=I.cell x c e;exact free c o (fun z=>(FO c z).2.2.1 x c e rfl) ho (I.gH x c e)
 . obtain⟨e,n,ne,nf,d⟩:=I.pin p hp;have O2:p.1∉ch:=fun z=>(FO p.1 z).2.2.2 p hp rfl;exact⟨keep p.1 p.2 ne nf O2 e n,free p.1 p.2 O2 e n,ne,nf,d⟩
theorem Inv.un(I:Inv X pins σ H s)(u:Un X.fs [] H H' s.heap h')(aQ:iA X.prog X.w H' h'):Inv X pins σ H' {s with heap:=h',toks:=t'}:=by
 obtain⟨m,⟨o,es,ep,ho,r⟩,_⟩:=id I.loc;obtain⟨sl,hL⟩:=u.any ho I.free 112;exact I.step (g':=s.gens) (d':=s.drawn) (ch:= []) (fun _ z=>nomatch z) (fun b o _ hb _ e n=>u.keep b o e n hb 112) (fun b o _ hb _ e n=>u.slot b o e n hb 112) (fun b o _ e n=>u.free b o e n 112) (fun b o _ e=>u.there b o e 112) u.tK u.o5 u.oR (fun m' hm=>by
  obtain⟨o',Ja,UU,LF,r'⟩:=hm;rw[ho] at LF;cases LF;exact⟨_,Ja,UU,hL,r'⟩) aQ I.bare
theorem Inv.call(I:Inv X pins σ H s)(u:Un (oM X.stack) ch H H' s.heap h')(aQ:iA X.prog X.w H' h')(hg:AllBare g')(FO: ∀b∈ch,249/\b≠X.env.locals/\209/\ ∀p∈X.pn++pins,p.1≠b):
  Inv X pins σ H' {s with heap:=h',gens:=g',drawn:=d',toks:=t'}:=by
 obtain⟨m,⟨o,es,ep,ho,r⟩,_⟩:=id I.loc;obtain⟨sl,hL⟩:=u.any ho I.free fun z=>(FO _ z).2.1 rfl;exact I.step (ch:=ch) FO (fun b o hL hb hc e n=>u.keep b o e n (fun z=>(ad1.mp (I.qY b z)).elim hL hb) hc) (fun b o _ _ hc e n=>u.any e n hc) (fun b o hc e n=>u.free b o e n hc) (fun b o hc e=>u.there b o e hc) u.tK u.o5 u.oR (fun m' hm=>by
  obtain⟨o',Ja,UU,LF,r'⟩:=hm;rw[ho] at LF;cases LF;exact⟨_,Ja,UU,hL,r'⟩) aQ hg
theorem Inv.turned(I:Inv X pins σ H s)(k: ∀b o,b≠it->s.heap.get? b=some o->h'.get? b=some o)(hn:H it=none)(hL:it≠X.env.locals)(h1:it∈X.ex\/X.s₀.heap.objs.size<=it)(h2: ∀x c,X.env.cells.lookup x=some c->c≠it)(h3: ∀p∈X.pn++pins,p.1≠it):Inv X pins σ H {s with heap:=h',toks:=t'}:=by
 have Wf: ∀b u,H b=some u->b≠it:=fun b u e z=>by rw[z,hn] at e;cases e
 refine I.step (g':=s.gens) (d':=s.drawn) (ch:= [it]) (fun b hb=>?_) (fun b o _ _ hc e _=>k b o (fun z=>hc (by simp [z])) e) (fun b o _ _ hc e _=>⟨o.slots,k b o (fun z=>hc (by simp [z])) e⟩) (fun _ _ _ _ n=>n)
  (fun b o hc e=>⟨o,k b o (fun z=>hc (by simp [z])) e⟩) (fun _ _ e=>e) (fun _ _ _ e=>e) (fun b ps e=>⟨#[],by rw[e];simp⟩) (fun m hm=>?_) (fun b u e=>?_) I.bare
 . have e:b=it:=by simpa using hb
   subst e;exact⟨h1,hL,h2,h3⟩
 . obtain⟨o,es,ep,ho,r⟩:=hm;exact⟨o,es,ep,k _ o (Ne.symm hL) ho,r⟩
 . refine(I.aQ b u e).tS (fun c v hc q=>k c v ?_ q) (fun _ q=>q) fun _ _ q=>q;rcases hc with z | z
   . rw[z];exact Wf b u e
   . exact Wf c _ z
theorem Inv.tok(I:Inv X pins σ H s)(t:Nat):Inv X pins σ H {s with toks:=t}:=I.un (h':=s.heap) (t':=t) Un.refl I.aQ
theorem Inv.kept(I:Inv X pins σ H s)(k: ∀b u,s.heap.get? b=some u->h'.get? b=some u):Inv X pins σ H {s with heap:=h',toks:=t'}:=I.un (Un.kept k) (I.aQ.kept k)
theorem Inv.laid(I:Inv X pins σ H s)(k: ∀b u,s.heap.get? b=some u->h'.get? b=some u)(hp:s.heap.objs.size<=a)(new:aZ X.prog X.w (upd H a o) h' a o):
  Inv X pins σ (upd H a o) {s with heap:=h',toks:=t'}:=I.un (Un.laid k hp (I.aQ.fresh hp)) (I.aQ.laid k hp new)
theorem Inv.write(I:Inv X pins σ H s)(mu:Q7 (H x))(he:e=x\/H e=some (.own x))(k: ∀b u,b≠e->s.heap.get? b=some u->h'.get? b=some u)(NA: ∃u,h'.get? e=some u)(new:aZ X.prog X.w (upd H x o) h' x o):Inv X pins σ (upd H x o) {s with heap:=h',toks:=t'}:=I.un (Un.write mu he k NA) (I.aQ.write mu he k NA new)
theorem Inv.weak{σ':List (Option V)}(I:Inv X pins σ H s)(hl:σ'.length=σ.length)(w: ∀(i:Nat) v,σ'[i]?=some 356->σ[i]?=some 356):Inv X pins σ' H s:=
 ⟨I.ok,I.os,I.bare,I.base,let ⟨m,hn,IQ⟩:=I.loc;⟨m,hn,fun i x v e1 e2 e3=>IQ i x v e1 (w i v e2) e3⟩,I.cell,I.free,I.gH,I.pin,I.aQ,hl.trans I.len⟩
theorem Inv.yx(I:Inv X pins σ H s)(h: ∀p∈OH,s.heap.get? p.1=some p.2/\H p.1=none/\p.1≠X.env.locals/\p.1∉X.fs/\ ∀v,p.2.data≠ .cell v):Inv X OH σ H s:=
 ⟨I.ok,I.os,I.bare,I.base,I.loc,I.cell,I.free,I.gH,fun p hp=>(af6.mp hp).elim (fun z=>I.pin p (List.mem_append_left _ z)) (h p),I.aQ,I.len⟩
theorem uw{N:List Str}(hN:N.Nodup){i j:Nat}(a:N[i]?=some x)(b:N[j]?=some x):i=j:=by
 obtain⟨h1,e1⟩:=aa5.mp a;obtain⟨h2,e2⟩:=aa5.mp b;exact(List.getElem_inj hN).mp (e1.trans e2.symm)
theorem kE(I:Inv X pins σ H s)(hN:X.N.Nodup)(hi:X.N[i]?=some x)(hx:Loc X.env.scope x)(r:RelV v u)(h: ∀s',Inv X pins 329 H s'->(∃a,Heap.SameBut a s.heap s'.heap/\(a=X.env.locals\/X.env.cells.lookup x=some a))->Q () s')(hf:X.fn x=true\/X.env.scope.names.lookup x=some .local:=by first | exact .inl rfl | exact .inr rfl | assumption):wpAny M A (storeName X.env x u) Q E s:=by
 obtain⟨m,hn,hl⟩:=id I.loc;have Uz:(X.env.scope.kind== .class || (X.env.scope.kind== .module && X.env.locals !=X.env.globals))=false:=by rw[I.ok.kind];rfl
 have PQ:i < σ.length:=by rw[I.len];exact(348).1
 have MS:=I.MS;have tracked: ∀{a:Addr} {h':Heap},(∃o,s.heap.get? a=some o/\H a=none)->Heap.SameBut a s.heap h'->iA X.prog X.w H h':=fun{a h'} ha hs b ob e=>by
  obtain⟨_,_,iZ⟩:=ha;refine(I.aQ b ob e).tS (fun c w' hc q=>(hs.2 c ?_).trans q) (fun _ q=>q) fun _ _ q=>q;rintro rfl
  rcases hc with rfl | hc
  . rw[iZ] at e;cases e
  . rw[iZ] at hc;cases hc
 rcases hx with hk | hk
 . refine wpAny_storeName_local hk hn (fun h' YS hs=>?_) Uz;obtain⟨oL,_,_,YN,_⟩:=id hn;refine h _ ⟨I.ok,I.os,I.bare,274,⟨_,YS,fun j y v' e1 e2 e3=>?_⟩,fun y c e=>?_,I.free,I.gH,fun p hp=>?_,tracked ⟨oL,YN,I.free⟩ hs,by simpa using I.len⟩ ⟨_,hs, .inl rfl⟩
   . exact(hs.2 b (af0 (ac8 (ad0 e) I.ok.above))).trans (I.base.keep b o e n hb hx)
   . obtain⟨sl,e1⟩:=I.base.slot b o e n hb hx;exact⟨sl,(hs.2 b (af0 (ac8 (ad0 e) I.ok.above))).trans e1⟩
   . obtain⟨o',e1⟩:=I.base.there b o e hx;exact⟨o',(hs.2 b (af0 (ac8 (ad0 e) I.ok.above))).trans e1⟩
   . by_cases hj:j=i
     . subst hj;rw[hi] at e1;cases e1;rw[ac3 PQ] at e2;cases e2;exact⟨u,r,.inl ⟨hk,by simp⟩⟩
     . rw[ab2 (Ne.symm hj)] at e2;obtain⟨u',r',q⟩:=hl j y v' e1 e2 e3;refine⟨u',r',?_⟩;rcases q with ⟨k,e⟩ | ⟨k,c,e,z⟩
       . refine .inl ⟨k,?_⟩;have:y≠x:=fun e=>hj (uw hN e1 (e▸hi));simp [this,e]
       . exact .inr ⟨k,c,e,z.sameBut hs (MS y c e)⟩
   . obtain⟨w',z⟩:=I.cell y c e;exact⟨w',z.sameBut hs (MS y c e)⟩
   . obtain⟨e,n,ne,nf,d⟩:=I.pin p hp;exact⟨(hs.2 p.1 ne).trans e,n,ne,nf,d⟩
 . have Ax : X.fn x = true := by
     rcases hf with z | z
     . exact z
     . rw[z] at hk;cases hk
   obtain⟨c,hc⟩:=I.ok.has x (.inl hk);obtain⟨w',z⟩:=I.cell x c hc;refine wpAny_storeName_cell I.ok.kind hk hc z (fun h' IV hs=>?_);obtain⟨oc,FN,T7⟩:=id z;refine h {s with heap:=h'} ⟨I.ok,I.os,I.bare,274,⟨m,hn.sameBut hs (Ne.symm (MS x c hc)),fun j y v' e1 e2 e3=>?_⟩,fun y c' e=>?_,I.free,I.gH,fun p hp=>?_,tracked ⟨oc,FN,I.gH x c hc⟩ hs,by simpa using I.len⟩ ⟨c,hs,.inr hc⟩
   . exact(320).trans (I.base.keep b o e n hb hx)
   . obtain⟨sl,e1⟩:=I.base.slot b o e n hb hx;exact⟨sl,(320).trans e1⟩
   . obtain⟨o',e1⟩:=I.base.there b o e hx;exact⟨o',(320).trans e1⟩
   . by_cases hj:j=i
     . subst hj;rw[hi] at e1;cases e1;rw[ac3 PQ] at e2;cases e2;exact⟨u,r,.inr ⟨.inl hk,c,hc,IV⟩⟩
     . rw[ab2 (Ne.symm hj)] at e2;obtain⟨u',r',q⟩:=hl j y v' e1 e2 e3;refine⟨u',r',?_⟩;rcases q with q | ⟨k,c',e,z'⟩
       . exact .inl q
       . refine .inr ⟨k,c',e,z'.sameBut hs ?_⟩;rintro rfl
         exact hj (uw hN e1 (I.ok.inj _ _ _ e hc▸hi))
   . by_cases WH:c'=c
     . subst WH;exact⟨_,IV⟩
     . obtain⟨w2,z2⟩:=I.cell y c' e;exact⟨w2,z2.sameBut hs WH⟩
   . obtain⟨e,n,ne,nf,d⟩:=I.pin p hp;refine⟨(hs.2 p.1 ?_).trans e,n,ne,nf,d⟩;intro q;rw[q,FN] at e;have q':oc=p.2:=Option.some.inj e;exact d w' (by rw[<-q'];exact T7)
theorem jw(I:Inv X pins σ H s)(hN:X.N.Nodup)(hi:X.N[i]?=some x)(hx:Loc X.env.scope x)(r:RelV v u)(h: ∀s',Inv X pins 329 H s'->Q () s')(hf:X.fn x=true\/X.env.scope.names.lookup x=some .local:=by first | exact .inl rfl | exact .inr rfl | assumption):wpAny M A (storeName X.env x u) Q E s:=
 kE I hN hi hx r (fun s' I' _=>h s' I') hf
theorem Inv.E8{s':Shared}(I:Inv X pins σ H s)(ho:s'.os=s.os)(u:Un (oM X.stack) ch H H' s.heap s'.heap)(aQ:iA X.prog X.w H' s'.heap)(hg:AllBare s'.gens)(FO: ∀b∈ch,249/\b≠X.env.locals/\209/\ ∀p∈X.pn++pins,p.1≠b):Inv X pins σ H' s':=by
 obtain⟨h',g',d',t',o'⟩:=s';have e:o'=s.os:=ho;subst e;exact I.call (g':=g') (t':=t') (d':=d') u aQ hg FO
end
abbrev XK:=Value->Option Addr->Hp->Prop
abbrev St:=List (Option V)
abbrev VK:=V->Hp->Prop
abbrev TE:=St->Hp->VK->Prop
abbrev TT:=St->Hp->(Bool->Hp->Prop)->Prop
abbrev TA:=St->Hp->(List V->Hp->Prop)->Prop
structure Ends where
 nx:St->Hp->Prop
 rt:VK
 bk:St->Hp->Prop:=fun _ _=>False
 ct:St->Hp->Prop:=fun _ _=>False
abbrev TS:=Ends->St->Hp->Prop
inductive EP(X:Cx)(pins:List 123)(σ:St)(Q:VK)(u:Value)(s':Shared):Prop
 | mk (v:V) (H':Hp) (h1:Inv X pins σ H' s') (h2:RelV v u) (h3:Q v H')
inductive TP(X:Cx)(pins:List 123)(σ:St)(Q:Bool->Hp->Prop)(b:Bool)(s':Shared):Prop
 | mk (H':Hp) (h1:Inv X pins σ H' s') (h2:Q b H')
inductive AP(X:Cx)(pins:List 123)(σ:St)(Q:List V->Hp->Prop)(us:List Value)(s':Shared):Prop
 | mk (vs:List V) (H':Hp) (h1:Inv X pins σ H' s') (h2:Vals vs us) (h3:Q vs H')
inductive Q2(X:Cx)(pins:List 123)(P:St->Hp->Prop)(s':Shared):Prop
 | mk (σ':St) (H':Hp) (h1:Inv X pins σ' H' s') (h2:P σ' H')
inductive SPr(X:Cx)(pins:List 123)(P:VK)(u:Value)(s':Shared):Prop
 | mk (v:V) (σ':St) (H':Hp) (h1:Inv X pins σ' H' s') (h2:RelV v u) (h3:P v H')
def SP(X:Cx)(pins:List 123)(D:Ends)(f:Flow)(s':Shared):Prop:=
 match f with
 | .next=>Q2 X pins D.nx s'
 | .brk=>Q2 X pins D.bk s'
 | .cont=>Q2 X pins D.ct s'
 | .ret u=>SPr X pins D.rt u s'
def PE(X:Cx)(e:Expr)(t:TE):Prop:=
 ∀(pins:List 123) (s:Shared) (σ:St) (H:Hp) (Q:VK),Inv X pins σ H s->t σ H Q->wpAny 106 X.A (eval e X.env) 253 X.xe s
def PT(X:Cx)(e:Expr)(t:TT):Prop:=
 ∀(pins:List 123) (s:Shared) (σ:St) (H:Hp) (Q:Bool->Hp->Prop),Inv X pins σ H s->t σ H Q->wpAny 106 X.A (isTrue e X.env (eval e X.env)) (TP X pins σ Q) X.xe s
def PW(X:Cx)(e:Expr)(t:TT):Prop:=
 ∀(whole:Sem Value) (pins:List 123) (s:Shared) (σ:St) (H:Hp) (Q:Bool->Hp->Prop),Inv X pins σ H s->t σ H Q->wpAny 106 X.A (isTrue e X.env whole) (TP X pins σ Q) X.xe s
theorem PW.pt(h:PW X e t):PT X e t:=h _
def PA(X:Cx)(es:List Expr)(t:TA):Prop:=
 ∀(pos:Pos) (pins:List 123) (s:Shared) (σ:St) (H:Hp) (Q:List V->Hp->Prop),Inv X pins σ H s->t σ H Q->wpAny 106 X.A (spliced 151) (AP X pins σ Q) X.xe s
def PS(X:Cx)(st:Stmt)(t:TS):Prop:=
 ∀(pins:List 123) (s:Shared) (σ:St) (H:Hp) (D:Ends),Inv X pins σ H s->t D σ H->wpAny 106 X.A (exec st X.env) (SP X pins D) X.xe s
def qG(X:Cx)(st:List Stmt)(t:TS):Prop:=
 ∀(pins:List 123) (s:Shared) (σ:St) (H:Hp) (D:Ends),Inv X pins σ H s->t D σ H->wpAny 106 X.A (execs st X.env) (SP X pins D) X.xe s
theorem aU(h:wpAny M A t Q E s)(hQ: ∀a s,Q a s->Q' a s):wpAny M A t Q' E s:=ae0 h hQ fun _ _ x=>x
section
variable{X:Cx}
def fu(i:Nat):TE:=fun σ H Q=> ∃v,σ[i]?=some 356/\Q v H
def tC(v:V):TE:=fun _ H Q=>Q v H
theorem CK(hN:X.N[i]?=some x)(hv:RQ X.env.scope x)(hd:146=false:=by decide)(tf:(x==("__classdict__":Str))=false:=by decide):PE X 362 (fu i):=by
 intro pins s σ H Q I h;obtain⟨v,e,h⟩:=h;obtain⟨m,hn,hl⟩:=I.loc;obtain⟨u,r,l⟩:=hl i x v hN e hv;have fin:EP X pins σ Q u s:=⟨v,H,I,r,h⟩
 rcases l with ⟨hk,hm⟩ | ⟨hk,c,hc,lN⟩
 . exact wpAny_Name (wpAny_loadName_local I.ok.kind hk hn hm fin) hd
 . rcases hk with hk | hk
   . exact wpAny_Name (wpAny_loadName_cell I.ok.kind hk hc lN fin) hd
   . exact wpAny_Name (wpAny_loadName_free I.ok.kind hk hc lN fin tf) hd
theorem bq{i j pos}:PE X (.Constant 392 j pos) (tC 392):=fun _ _ _ H _ I h=>wpAny_Constant_int ⟨.int i,H,I.tok _,⟨_,rfl⟩,h⟩
theorem OL{b j pos}:PE X (.Constant (.bool b) j pos) (tC (.bl b)):=fun _ _ _ H _ I h=>Constant_bool ⟨.bl b,H,I,rfl,h⟩
theorem KG{j pos}:PE X (.Constant .none j pos) (tC .aC):=fun _ _ _ H _ I h=>Constant_none ⟨.aC,H,I,rfl,h⟩
theorem ji{x j pos}:PE X (.Constant (.str x) j pos) (tC (.str x)):=fun _ _ _ H _ I h=>Calls.Constant_str ⟨.str x,H,I.tok _,⟨_,rfl⟩,h⟩
def Gl(X:Cx)(x:Str):Prop:=X.env.kindOf x=some .globalImplicit
theorem GW(I:Inv X pins σ H s)(hg:Gl X x)(hm:X.mg x=some u)(h:Q u s)(hd:146=false:=by decide):wpAny 106 X.A (eval 362 X.env) Q E s:=
 Calls.Name_function_global I.ok.kind hg (Calls.loadGlobal_global (by rw[I.ok.glob];exact I.mod.glob.keeps I.bk) hm h) hd
theorem bV(I:Inv X pins σ H s)(hg:Gl X x)(hm:X.mg x=none)(hv:bootBuiltins x=some u)(h:Q u s)(hn:x≠"__name__":=by decide)(hd:146=false:=by decide):wpAny 106 X.A (eval 362 X.env) Q E s:=by
 obtain⟨mb,h1,h2⟩:=I.mod.blt;exact Calls.Name_function_global I.ok.kind hg (Calls.loadGlobal_builtin (by rw[I.ok.glob];exact I.mod.glob.keeps I.bk) hm (by rw[I.ok.blt];exact h1.keeps I.bk) ((h2 x hn).trans hv) h) hd
theorem a8(hg:Gl X x)(hm:X.mg x=none)(hv:bootBuiltins x=some u)(r:RelV v u)(hn:x≠"__name__":=by decide)(hd:146=false:=by decide):PE X 362 (tC v):=
 fun _ _ _ H _ I h=>bV I hg hm hv ⟨v,H,I,r,h⟩ hn hd
variable{a b:Expr}{ta tb:TE}{pos:Pos}
def PC(X:Cx)(op:CmpOp)(a b:Expr)(t:TE):Prop:=
 ∀(pins:List 123) (s:Shared) (σ:St) (H:Hp) (Q:VK),Inv X pins σ H s->t σ H Q->
  wpAny 106 X.A (eval a X.env) (fun v s₁=>wpAny 106 X.A (eval b X.env) (fun u s₂=>wpAny 106 X.A (compareOp op v u) 253 X.xe s₂) X.xe s₁) X.xe s
theorem ux(b:Expr)(h:op≠ .In)(h2:op≠ .NotIn):behindInMarks op b=false:=by
 have e1:(op==CmpOp.In)=false:=by cases op <;> first | rfl | exact absurd rfl h
 have e2:(op==CmpOp.NotIn)=false:=by cases op <;> first | rfl | exact absurd rfl h2
 cases b <;> simp [behindInMarks,e1,e2]
def Oa(ta:TE):TE:=fun σ H Q=>ta σ H fun x H1=>Q (.bl (decide (x= .aC))) H1
def Il(ta:TE):TE:=fun σ H Q=>ta σ H fun x H1=>Q (.bl (!decide (x= .aC))) H1
theorem RelV.uu(r:RelV x v):(v==Value.none)=decide (x= .aC):=by
 cases x with
 | aC=>cases r;rfl
 | bl _=>cases r;rfl
 | int _=>obtain⟨t,rfl⟩:=r;rfl
 | str _=>obtain⟨t,rfl⟩:=r;rfl
 | ze _=>obtain⟨t,rfl⟩:=r;rfl
 | Bu _=>obtain⟨t,rfl⟩:=r;rfl
 | ref _=>cases r;rfl
 | ty _=>cases r;rfl
theorem CM{j pos'}(ha:PE X a ta):PC X .Is a (.Constant .none j pos') (Oa ta):=by
 intro pins s σ H Q I h;refine aU 169 fun v s1 fG=>?_;obtain⟨x,H1,I1,r1,q1⟩:=fG;exact Constant_none (is_none_gen ⟨.bl _,H1,I1,by rw[r1.uu];rfl,q1⟩)
theorem GD{j pos'}(ha:PE X a ta):PC X .IsNot a (.Constant .none j pos') (Il ta):=by
 intro pins s σ H Q I h;refine aU 169 fun v s1 i6=>?_;obtain⟨x,H1,I1,r1,q1⟩:=i6;exact Constant_none (isnot_none_gen ⟨.bl _,H1,I1,by rw[r1.uu];rfl,q1⟩)
def tB(t:TE):TT:=fun σ H Q=>t σ H fun x H1=> ∃c,x= .bl c/\Q c H1
theorem KH(h:PC X op a b t)(h1:behindInMarks op b=false:=by first | exact ux _ 105 105 | rfl):PE X 283 t:=fun pins s σ H Q I hw=>wpAny_Compare1 (h pins s σ H Q I hw) h1
theorem rH(h:PC X op a b t)(h1:behindInMarks op b=false:=by first | exact ux _ 105 105 | rfl):PT X 283 (tB t):=by
 intro pins s σ H Q I hw;refine wpAny_isTrue_Compare1 (aU (h pins s σ H _ I hw) fun v s1 h1=>aU h1 fun u s2 h2=>aU h2 fun c s3 kq=>?_) h1;obtain⟨x,H1,I1,r1,q1⟩:=kq;obtain⟨d,rfl,q⟩:=q1;cases r1;exact ai7 ⟨H1,I1,q⟩
theorem Kq(h:PE X e t)(he: ∀whole,isTrue e X.env whole=287:=by intro _;rfl):PT X e (tB t):=by
 intro pins s σ H Q I hw;refine isTrue_plain (aU (h pins s σ H _ I hw) fun v s1 oO=>?_) (he _);obtain⟨x,H1,I1,r1,q1⟩:=oO;obtain⟨d,rfl,q⟩:=q1;cases r1;exact ai7 ⟨H1,I1,q⟩
variable{tA Ru:TT}{rest:List Expr}
def SY(t u:TT):TT:=fun σ H Q=>t σ H fun c H1=>if c=true then u σ H1 Q else Q false H1
def XY(t u:TT):TT:=fun σ H Q=>t σ H fun c H1=>if c=true then Q true H1 else u σ H1 Q
def SS(t:TT):TT:=fun σ H Q=>t σ H fun c H1=>Q (!c) H1
theorem pw_and1(ha:PT X a tA):PW X (.BoolOp .And [a] pos) tA:=by
 intro wh pins s σ H Q I h;refine isTrue_and (aU (ha pins s σ H Q I h) fun c s1 e=>?_);cases c with
 | true=>exact isTrue_and_nil e
 | false=>exact e
theorem pw_or1(ha:PT X a tA):PW X (.BoolOp .Or [a] pos) tA:=by
 intro wh pins s σ H Q I h;refine isTrue_or (aU (ha pins s σ H Q I h) fun c s1 e=>?_);cases c with
 | false=>exact isTrue_or_nil e
 | true=>exact e
theorem pw_and(ha:PT X a tA)(hb:PW X 365 Ru):PW X 349 (SY tA Ru):=by
 intro wh pins s σ H Q I h;refine isTrue_and (aU 169 fun c s1 qJ=>?_);obtain⟨H1,I1,q1⟩:=qJ;cases c with
 | true=>exact hb wh pins s1 σ H1 Q I1 q1
 | false=>exact⟨H1,I1,q1⟩
theorem pw_or(ha:PT X a tA)(hb:PW X 368 Ru):PW X 355 (XY tA Ru):=by
 intro wh pins s σ H Q I h;refine isTrue_or (aU 169 fun c s1 mQ=>?_);obtain⟨H1,I1,q1⟩:=mQ;cases c with
 | true=>exact⟨H1,I1,q1⟩
 | false=>exact hb wh pins s1 σ H1 Q I1 q1
theorem Kr(ha:PT X a tA):PT X (.UnaryOp .Not a pos) (SS tA):=by
 intro pins s σ H Q I h;refine isTrue_not (ae0 (ha pins s σ H (fun c H1=>Q (!c) H1) I h) (fun c s' z=>?_) fun _ _ z=>z);obtain⟨H',I',q⟩:=z;exact⟨H',I',q⟩
def Oe(ta tb:TE):TE:=fun σ H Q=>ta σ H fun x H1=> ∃c,x= .bl c/\if c=true then tb σ H1 Q else Q (.bl false) H1
def SR(ta tb:TE):TE:=fun σ H Q=>ta σ H fun x H1=> ∃c,x= .bl c/\if c=true then Q (.bl true) H1 else tb σ H1 Q
def N4(ta:TE):TE:=fun σ H Q=>ta σ H fun x H1=> ∃c,x= .bl c/\Q (.bl (!c)) H1
theorem KC{op}(h:PE X a t):PE X (.BoolOp op [a] pos) t:=fun pins s σ H Q I hw=>BoolOp_one (h pins s σ H Q I hw)
theorem KJ(ha:PE X a ta)(hb:PE X 365 tb):PE X 349 (Oe ta tb):=by
 intro pins s σ H Q I h;refine BoolOp_and (aU 169 fun v s1 gm=>?_);obtain⟨x,H1,I1,r1,q1⟩:=gm;obtain⟨c,rfl,q1⟩:=q1;cases r1;refine ai7 ?_;cases c with
 | true=>exact hb pins s1 σ H1 Q I1 q1
 | false=>exact⟨.bl false,H1,I1,rfl,q1⟩
theorem OK(ha:PE X a ta)(hb:PE X 368 tb):PE X 355 (SR ta tb):=by
 intro pins s σ H Q I h;refine BoolOp_or (aU 169 fun v s1 i7=>?_);obtain⟨x,H1,I1,r1,q1⟩:=i7;obtain⟨c,rfl,q1⟩:=q1;cases r1;refine ai7 ?_;cases c with
 | false=>exact hb pins s1 σ H1 Q I1 q1
 | true=>exact⟨.bl true,H1,I1,rfl,q1⟩
theorem KD(ha:PE X a ta):PE X (.UnaryOp .Not a pos) (N4 ta):=by
 intro pins s σ H Q I h;refine UnaryOp_ (aU 169 fun v s1 mS=>?_);obtain⟨x,H1,I1,r1,q1⟩:=mS;obtain⟨c,rfl,q1⟩:=q1;cases r1;exact not_of (ai7 ⟨.bl (!c),H1,I1,rfl,q1⟩)
def XZ(t:TT)(ta tb:TE):TE:=fun σ H Q=>t σ H fun c H1=>if c=true then ta σ H1 Q else tb σ H1 Q
theorem CL(hc:PT X c tA)(ha:PE X a ta)(hb:PE X b tb):PE X (.IfExp c a b pos) (XZ tA ta tb):=by
 intro pins s σ H Q I h;refine wpAny_IfExp (aU (hc pins s σ H _ I h) fun d s1 qM=>?_);obtain⟨H1,I1,q1⟩:=qM;cases d with
 | true=>exact ha pins s1 σ H1 Q I1 q1
 | false=>exact hb pins s1 σ H1 Q I1 q1
end
def bL(K:PySem.W.Frag)(H:Hp)(a:Addr)(xs:List V):Prop:=
 Rd H a 159\/
  ∃(o:Obj) (ai:Array Value) (n:Nat),K.lookup a=some o/\o.cls= .type "list"/\o.dict=none/\o.data= .seq ai n/\ai.size<=sizeLine/\Vals xs ai.toList
def dF(K:PySem.W.Frag)(H:Hp)(a:Addr)(xs:List V):Prop:=
 Rd H a 203\/
  ∃(o:Obj) (ai:Array Value) (n:Nat),K.lookup a=some o/\o.cls= .type "tuple"/\o.data= .seq ai n/\ai.size<=sizeLine/\Vals xs ai.toList
def HQ:Value->Option V
 | .none=>some .aC
 | .bool b=>some (.bl b)
 | .int i _=>some 392
 | .str x _=>some (.str x)
 | .bytes b _=>some (.ze b)
 | .float b _=>some (.Bu b)
 | .ref a=>some 226
 | .type n=>some (.ty n)
 | _=>none
theorem RelV.abs(r:RelV x u):HQ u=some x:=by
 cases x with
 | aC=>cases r;rfl
 | bl _=>cases r;rfl
 | int _=>obtain⟨t,rfl⟩:=r;rfl
 | str _=>obtain⟨t,rfl⟩:=r;rfl
 | ze _=>obtain⟨t,rfl⟩:=r;rfl
 | Bu _=>obtain⟨t,rfl⟩:=r;rfl
 | ref _=>cases r;rfl
 | ty _=>cases r;rfl
theorem RelV.inj(r:RelV x u)(q:RelV y u):x=y:=Option.some.inj (r.abs.symm.trans q.abs)
theorem Vals.inj: ∀{xs ys:List V} {us:List Value},Vals xs us->Vals ys us->xs=ys
 | _,_,_,.nil,.nil=>rfl
 | _,_,_,.cons r t,.cons r' t'=>by rw[r.inj r',Vals.inj t t']
section
variable{X:Cx}{pins:List 123}{σ:St}{H:Hp}{s:Shared}{a:Addr}{xs ys:List V}
theorem bL.of{K:PySem.W.Frag}(h:H a=some 159):bL K H a xs:= .inl (.inl h)
theorem dF.of{K:PySem.W.Frag}(h:H a=some 203):dF K H a xs:= .inl (.inl h)
theorem Inv.list(I:Inv X pins σ H s)(h:bL X.K H a xs): ∃ai:List Value,Vals xs ai/\PlainL s.heap a ai.toArray/\xs.length<=sizeLine:=by
 rcases h with h | ⟨o,ai,n,hk,hc,hd,hs,hz,r⟩
 . obtain⟨z,ai,n,r,e⟩:=h.ok I.aQ;exact⟨ai,r,⟨_,n,e,rfl,rfl,rfl⟩,z⟩
 . refine⟨ai.toList,r,⟨o,n,I.sX a o hk,hc,hd,by simpa using hs⟩,?_⟩;have e:=r.length;simp only [ac5] at e;lia
theorem Inv.tuple(I:Inv X pins σ H s)(h:dF X.K H a xs): ∃ai:List Value,Vals xs ai/\IsTup s.heap a ai.toArray/\xs.length<=sizeLine:=by
 rcases h with h | ⟨o,ai,n,hk,hc,hs,hz,r⟩
 . obtain⟨z,ai,r,p⟩:=h.ok I.aQ;exact⟨ai,r,p.tup,z⟩
 . refine⟨ai.toList,r,⟨o,I.sX a o hk,hc,n,by simpa using hs⟩,?_⟩;have e:=r.length;simp only [ac5] at e;lia
theorem Inv.uG(I:Inv X pins σ H s)(h:bL X.K H a xs)(h':bL X.K H a ys):xs=ys:=by
 obtain⟨ai,r,⟨o,n,e,_,_,d⟩,_⟩:=I.list h;obtain⟨its',r',⟨o',n',e',_,_,d'⟩,_⟩:=I.list h';rw[e] at e';cases e';rw[d] at d';injection d' with d1 _
 have:ai=its':=by simpa using ai5 Array.toList d1
 subst this;exact r.inj r'
theorem Inv.pH(I:Inv X pins σ H s)(h:dF X.K H a xs)(h':dF X.K H a ys):xs=ys:=by
 obtain⟨ai,r,⟨o,e,_,n,d⟩,_⟩:=I.tuple h;obtain⟨its',r',⟨o',e',_,n',d'⟩,_⟩:=I.tuple h';rw[e] at e';cases e';rw[d] at d';injection d' with d1 _
 have:ai=its':=by simpa using ai5 Array.toList d1
 subst this;exact r.inj r'
end
abbrev Cx.oP(X:Cx)(E:Value->Shared->Prop):Cx:={X with xe:=E}
abbrev Cx.Bq(X:Cx):Cx:=X.oP fun _ _=>False
theorem Cx.Ok.oP{X:Cx}(ok:X.Ok)(E:Value->Shared->Prop):(X.oP E).Ok:=
 ⟨ok.mod,ok.kind,ok.glob,ok.blt,ok.above,ok.inj,ok.has,ok.QS,ok.hd,ok.frames,ok.Rv,ok.NH,ok.bs,ok.HK,ok.De,ok.AF,ok.og,ok.NG,ok.tab⟩
theorem Cx.Ok.gP{X:Cx}(ok:(X.oP E).Ok):X.Ok:=
 ⟨ok.mod,ok.kind,ok.glob,ok.blt,ok.above,ok.inj,ok.has,ok.QS,ok.hd,ok.frames,ok.Rv,ok.NH,ok.bs,ok.HK,ok.De,ok.AF,ok.og,ok.NG,ok.tab⟩
theorem Inv.oP(I:Inv X pins σ H s)(E:Value->Shared->Prop):Inv (X.oP E) pins σ H s:=⟨I.ok.oP E,I.os,I.bare,I.base,I.loc,I.cell,I.free,I.gH,I.pin,I.aQ,I.len⟩
theorem Inv.gP(I:Inv (X.oP E) pins σ H s):Inv X pins σ H s:=⟨I.ok.gP,I.os,I.bare,I.base,I.loc,I.cell,I.free,I.gH,I.pin,I.aQ,I.len⟩
theorem SP.gP(h:SP (X.oP E) pins D f s'):SP X pins D f s':=by
 cases f with
 | next=>obtain⟨σ',H',I,q⟩:=h;exact⟨σ',H',I.gP,q⟩
 | brk=>obtain⟨σ',H',I,q⟩:=h;exact⟨σ',H',I.gP,q⟩
 | cont=>obtain⟨σ',H',I,q⟩:=h;exact⟨σ',H',I.gP,q⟩
 | ret u=>obtain⟨v,σ',H',I,r,q⟩:=h;exact⟨v,σ',H',I.gP,r,q⟩
theorem qG.Bq{st:List Stmt}(h:qG X.Bq st t):qG X st t:=fun pins s σ H D I hw=>
 ae0 (h pins s σ H D (I.oP _) hw) (fun _ _ q=>q.gP) fun _ _ z=>False.elim z
section
variable{X:Cx}{st:Stmt}{rest:List Stmt}{t u:TS}{e:Expr}{te:TE}{pos:Pos}
def N5:TS:=fun D σ H=>D.nx σ H
def SN(t u:TS):TS:=fun D σ H=>t {D with nx:=u D} σ H
theorem yq:qG X [] N5:=fun _ _ σ H _ I h=>wpAny_execs_nil ⟨σ,H,I,h⟩
theorem cQ(h1:PS X st t)(h2:qG X rest u):qG X (st::rest) (SN t u):=by
 intro pins s σ H D I h;refine wpAny_execs_cons (aU (h1 pins s σ H {D with nx:=u D} I h) fun f s1 q=>?_);cases f with
 | next=>
  obtain⟨σ',H',I',q⟩:=q;exact h2 pins s1 σ' H' D I' q
 | ret v=>exact q
 | brk=>exact q
 | cont=>exact q
theorem mD(h1:PS X st t):qG X [st] t:=by
 intro pins s σ H D I h;refine wpAny_execs_cons (aU (h1 pins s σ H D I h) fun f s1 q=>?_);cases f with
 | next=>exact wpAny_execs_nil q
 | ret v=>exact q
 | brk=>exact q
 | cont=>exact q
theorem Inv.quiet(I:Inv X pins σ H s):interactive X.env=false:=by simp [interactive,I.ok.kind]
def Ob(te:TE):TS:=fun D σ H=>te σ H fun _ H1=>D.nx σ H1
theorem Gu(he:PE X e te)(hs:swapsWith e none pos.line X.env=pure false:=by rfl):PS X (.Expr e pos) (Ob te):=by
 intro pins s σ H D I h;exact wpAny_Expr_any (aU 324 fun v s1 BC=>(by obtain⟨x,H1,I1,r1,q1⟩:=BC;exact(⟨σ,H1,I1,q1⟩))) I.quiet hs
def SO(te:TE):TS:=fun D σ H=>te σ H D.rt
theorem rJ(he:PE X e te):PS X (.Return (some e) pos) (SO te):=by
 intro pins s σ H D I h;exact wpAny_Return_some (aU 324 fun v s1 BB=>(by obtain⟨x,H1,I1,r1,q1⟩:=BB;exact(⟨x,σ,H1,I1,r1,q1⟩)))
def SU(c:TT)(t u:TS):TS:=fun D σ H=>c σ H fun b H1=>if b=true then t D σ H1 else u D σ H1
theorem IA(hc:PT X c tc)(ha:qG X a t)(hb:qG X b u):PS X (.If c a b pos) (SU tc t u):=by
 intro pins s σ H D I h;refine wpAny_If (aU (hc pins s σ H _ I h) fun d s1 qL=>?_);obtain⟨H1,I1,q1⟩:=qL;cases d with
 | true=>exact ha pins s1 σ H1 D I1 q1
 | false=>exact hb pins s1 σ H1 D I1 q1
end
abbrev TG:=V->St->Hp->(St->Hp->Prop)->Prop
abbrev MZ:=List V->St->Hp->(St->Hp->Prop)->Prop
def PG(X:Cx)(target:Expr)(t:TG):Prop:=
 ∀(pins:List 123) (s:Shared) (σ:St) (H:Hp) (v:V) (u:Value) (Q:St->Hp->Prop),Inv X pins σ H s->RelV v u->t v σ H Q->
  wpAny 106 X.A (assign target X.env u) (fun _ s'=>Q2 X pins Q s') X.xe s
def RV(X:Cx)(ts:List Expr)(t:MZ):Prop:=
 ∀(pins:List 123) (s:Shared) (σ:St) (H:Hp) (vs:List V) (us:List Value) (Q:St->Hp->Prop),Inv X pins σ H s->Vals vs us->t vs σ H Q->
  wpAny 106 X.A (assignInOrder ((assignEach ts X.env).map (·.2)) us) (fun _ s'=>Q2 X pins Q s') X.xe s
abbrev Q1:=V->V->V->Hp->(Hp->Prop)->Prop
def Q3(X:Cx)(t:Q1):Prop:=
 ∀(pins:List 123) (s:Shared) (σ:St) (H:Hp) (o i v:V) (ov iv u:Value) (Q:Hp->Prop),Inv X pins σ H s->RelV o ov->RelV i iv->RelV v u->t o i v H Q->
  wpAny 106 X.A (setItem ov iv u) (fun _ s'=> ∃H',Inv X pins σ H' s'/\Q H') X.xe s
section
variable{X:Cx}{pos:Pos}
def cI(i:Nat):TG:=fun v σ H Q=>Q 329 H
theorem aA(hN:X.N.Nodup)(hi:X.N[i]?=some x)(hx:Loc X.env.scope x)(hf:X.fn x=true\/X.env.scope.names.lookup x=some .local:=by first | exact .inl rfl | exact .inr rfl | assumption):PG X 362 (cI i):=by
 intro pins s σ H v u Q I r h;exact wpAny_assign_Name (jw I hN hi hx r (fun s' I'=>⟨_,H,I',h⟩) hf)
def wZ:MZ:=fun vs σ H Q=>vs= []/\Q σ H
def gG(t:TG)(u:MZ):MZ:=fun vs σ H Q=> ∃v r,vs=v::r/\t v σ H fun σ' H'=>u r σ' H' Q
theorem bP:RV X [] wZ:=by
 intro pins s σ H vs us Q I r h;obtain⟨e,h⟩:=h;subst e;cases r;exact assignInOrder_nil ⟨σ,H,I,h⟩
theorem aF(h1:PG X e t)(h2:RV X es u)(hs:(assignEach (e::es) X.env).map (·.2)=assign e X.env::(assignEach es X.env).map (·.2):=by rfl):RV X (e::es) (gG t u):=by
 intro pins s σ H vs us Q I r h;obtain⟨v,vr,e1,h⟩:=h;subst e1;cases r with
 | cons r rr=>
  rw[hs];refine assignInOrder_cons (aU (h1 pins s σ H _ _ _ I r h) fun _ s1 qK=>?_);obtain⟨σ1,H1,I1,q1⟩:=qK;exact h2 pins s1 σ1 H1 _ _ Q I1 rr q1
def AD(K:PySem.W.Frag)(n:Nat)(t:MZ):TG:=fun v σ H Q=> ∃a xs,v= .ref a/\dF K H a xs/\xs.length=n/\t xs σ H Q
theorem cU(hc:X.calm=true)(h:RV X es t)(hn:(assignEach es X.env).length=n:=by rfl)(DL:(assignEach es X.env).findIdx? (·.1)=none:=by rfl):PG X (.Tuple es k pos) (AD X.K n t):=by
 intro pins s σ H v u Q I r hw;obtain⟨a,xs,e1,hq,hl,hw⟩:=hw;subst e1;cases r;obtain⟨ai,rv,ht,hz⟩:=I.tuple hq;refine assign_Tuple_tuple 288 ht (by simp [hn,<-hl,rv.length]) DL fun h' hx=>?_;have I1:Inv X pins σ H {s with heap:=h'}:=I.kept (t':=s.toks) fun b o e=>hx b o (af0 (ad0 e)) e;exact h pins _ σ H xs _ Q I1 (by simpa using rv) hw
def UO(to ti:TE)(t:Q1):TG:=fun v σ H Q=>to σ H fun o H1=>ti σ H1 fun i H2=>t o i v H2 fun H3=>Q σ H3
theorem v7 (ho : PE X o to) (hi : PE X i ti) (hs : Q3 X t) (ha : ∀ v, assign (.Subscript o i pos) X.env v = (do
   let ov<-holding [v] (eval o X.env)
   let iv<-holding [v,ov] (eval i X.env)
   standAt pos
   holding [v,ov,iv] (setItem ov iv v)
   release [v,ov,iv] []):=by intro _;rfl):PG X (.Subscript o i pos) (UO to ti t):=by
 intro pins s σ H v u Q I r h;rw[ha];refine aa0 (ag2 (aU (ho pins s σ H _ I h) fun ov s1 vE=>?_));obtain⟨x,H1,I1,r1,q1⟩:=vE;refine aa0 (ag2 (aU (hi pins s1 σ H1 _ I1 q1) fun iv s2 vD=>?_));obtain⟨y,H2,I2,r2,q2⟩:=vD;refine aa0 (ak4 (aa0 (ag2 (aU (hs pins s2 σ H2 x y v ov iv u _ I2 r1 r2 r q2) fun _ s3 BA=>?_))));obtain⟨H3,I3,q3⟩:=BA;exact wpAny_release ⟨σ,H3,I3,q3⟩
def zE(te:TE)(g:TG):TS:=fun D σ H=>te σ H fun x H1=>g x σ H1 D.nx
theorem rK(he:PE X e te)(hg:PG X tg g)(hs:swapsWithSole [tg] e pos.line X.env=pure false:=by rfl)(hw:swappedStores [tg] e X.env=pure none:=by rfl)(h1:(assignEach [tg] X.env).map (·.2)= [assign tg X.env]:=by rfl):PS X (.Assign [tg] e pos) (zE te g):=by
 intro pins s σ H D I h;refine wpAny_Assign_stores (aU 324 fun v s1 JK=>?_) hs hw;obtain⟨x,H1,I1,r1,q1⟩:=JK;rw[h1];exact aU (hg pins s1 σ H1 x v _ I1 r1 q1) fun _ s2 q=>q
theorem fA(hN:X.N.Nodup)(hi:X.N[i]?=some x)(hx:Loc X.env.scope x)(he:PE X e te)(hs:swapsWith e 373 pos.line X.env=pure false:=by rfl)(hf:X.fn x=true\/X.env.scope.names.lookup x=some .local:=by first | exact .inl rfl | exact .inr rfl | assumption):
  PS X (.Assign [.Name x pos'] e pos) (zE te (cI i)):=by
 intro pins s σ H D I h;refine wpAny_Assign_Name (aU 324 fun v s1 JJ=>?_) hs;obtain⟨y,H1,I1,r1,q1⟩:=JJ;exact jw I1 hN hi hx r1 (fun s2 I2=>⟨_,H1,I2,q1⟩) hf
def SQ(i j:Nat)(ta:TA):TS:=fun D σ H=>ta σ H fun vs H1=> ∃v w,vs= [v,w]/\D.nx ((329).set j 251) H1
theorem Kt{kt k2 Ks}(hc:X.calm=true)(hN:X.N.Nodup)(hi:X.N[i]?=some x)(hj:X.N[j]?=some y)(bE:i≠j)(hx:X.env.scope.names.lookup x=some .local)(hy:X.env.scope.names.lookup y=some .local)(ha:PA X [a,b] ta)(hw:swappedStores [.Tuple [.Name x px, .Name y py] kt pt] 354 X.env=pure (some [x,y]))(hs:swapsWithSole [.Tuple [.Name x px, .Name y py] kt pt] 354 pos.line X.env=pure false:=by rfl):
  PS X (.Assign [.Tuple [.Name x px,.Name y py] kt pt] 354 pos) (SQ i j ta):=by
 intro pins s σ H D I h;rw[exec_Assign_arm];refine aa0 (ak4 ?_);rw[hs];refine aa0 357;rw[if_neg 105];refine aa0 (Tuple_ (aU (ha _ pins s σ H _ I h) fun us s1 Bz=>?_));obtain⟨vs,H1,I1,r1,q1⟩:=Bz;obtain⟨v,w,e1,q1⟩:=q1;subst e1;obtain⟨u1,u2,rfl,rv,vw⟩: ∃u1 u2,us= [u1,u2]/\RelV v u1/\RelV w u2:=by
  cases r1 with
  | cons p q=>
   cases q with
   | cons p' q'=>
    cases q';exact⟨_,_,rfl,p,p'⟩
 refine ai0 ?_ (by show 2<=sizeLine;decide);have I2:Inv X pins σ H1 {s1 with heap:=s1.heap.push {cls:= .type "tuple",data:= .seq [u1,u2].toArray}}:=I1.kept (t':=s1.toks) fun b o e=>aa3 _ e;rw[hw];refine aa0 357;show wpAny 106 X.A (do rule "assign.swapped-stores";let items<-unpackItems (.ref s1.heap.objs.size) 2 none;assignInOrder [fun v=>bindName X.env y v,fun v=>bindName X.env x v] items.reverse;pure Flow.next) _ _ _;refine aa0 (aj5 (aa0 (unpackItems_tuple (items:= #[u1,u2]) 288 (IsTup.new s1.heap _) fun h' rY=>?_)));have I3:=I2.kept (h':=h') (t':=s1.toks) fun b o e=>rY b o (af0 (ad0 e)) e;show wpAny _ _ (assignInOrder [fun v=>bindName X.env y v,fun v=>bindName X.env x v] [u2,u1] >>=fun _=>pure Flow.next) _ _ _;refine aa0 (assignInOrder_cons (wpAny_bindName (jw I3 hN hj (.inl hy) vw (fun s2 I4=>?_) (.inr hy))));refine assignInOrder_cons (wpAny_bindName (jw I4 hN hi (.inl hx) rv (fun s3 I5=>assignInOrder_nil 357) (.inr hx)));rw[List.set_comm _ _ (Ne.symm bE)] at I5;exact⟨_,H1,I5,q1⟩
end
section
variable{X:Cx}{pos:Pos}
def JX(c:TT)(tb:TS):TS:=fun D σ H=> ∃W:Nat->St->Hp->Prop,(∃m,W m σ H)/\ ∀m σ H,W m σ H->
 c σ H fun b H1=>if b=true then∃N:St->Hp->Prop,(∀σ' H',N σ' H'-> ∃m',m' < m/\W m' σ' H')/\tb {D with nx:=N,ct:=N,bk:=D.nx} σ H1 else D.nx σ H1
theorem CA(hp:PassesOwn 106 X.A X.env X.xe)(hc:PT X c tc)(hb:qG X body tb):PS X (.While c body [] pos) (JX tc tb):=by
 intro pins s σ H D I h;obtain⟨W,⟨m0,w0⟩,turn⟩:=h;refine wpAny_While (codeAny_whileLoop (fun n s'=> ∃σ' H',Inv X pins σ' H' s'/\W n σ' H') ?_ m0 ⟨σ,H,I,w0⟩);rintro n s1 ⟨σ1,H1,I1,w1⟩
 refine ap8 hp (aU (hc pins s1 σ1 H1 _ I1 (turn n σ1 H1 w1)) fun b s2 Sw=>?_);obtain⟨H2,I2,q2⟩:=Sw;cases b with
 | true=>
  obtain⟨N,hN,q2⟩:=q2;rw[if_pos rfl];refine ap8 hp (aU (hb pins s2 σ1 H2 _ I2 q2) fun f s3 q3=>?_);cases f with
  | next=>
   obtain⟨σ3,H3,I3,n3⟩:=q3;obtain⟨m',hm,w3⟩:=hN σ3 H3 n3;exact⟨m',hm,σ3,H3,I3,w3⟩
  | cont=>
   obtain⟨σ3,H3,I3,n3⟩:=q3;obtain⟨m',hm,w3⟩:=hN σ3 H3 n3;exact⟨m',hm,σ3,H3,I3,w3⟩
  | brk=>exact q3
  | ret v=>exact q3
 | false=>
  rw[if_neg ab3];exact wpAny_execs_nil ⟨σ1,H2,I2,q2⟩
end
structure It where
 go:Nat->Hp->Prop
 Bl:Nat->Hp->V->Hp->Prop
 stop:Nat->Hp->Prop
def eZ(X:Cx)(pins:List 123)(H:Hp)(b:Addr):Prop:=
 H b=none/\b≠X.env.locals/\b∉X.fs/\249/\209/\ ∀p∈X.pn++pins,p.1≠b
theorem Inv.iO(I:Inv X pins σ H s)(hb:s.heap.objs.size<=b)(hn:H' b=none):eZ X pins H' b:=by
 refine⟨hn,an7 (ac8 I.lt hb),I.OY hb,.inr (ac6 I.sz hb),fun x c e z=>?_,fun p hp z=>?_⟩
 . obtain⟨v,q⟩:=I.cell x c e;exact absurd (ac8 q.lt (by rw[z];exact hb)) (af2 _)
 . exact absurd (ac8 (ad0 (I.pin p hp).1) (by rw[z];exact hb)) (af2 _)
structure Turn(P:Program)(w:World)(K:PySem.W.Frag)(tg:Expr)(J:It)(fp:List Addr)(it:Addr)(tn:Nat->Heap->Prop):Prop where
 mem:it∈fp
 obj: ∀i h,tn i h-> ∀b∈fp,∃o,h.get? b=some o/\ ∀v,o.data≠ .cell v
 keep: ∀i h h',tn i h->(∀b∈fp,∀o,h.get? b=some o->h'.get? b=some o)->tn i h'
 item: ∀(X:Cx),X.prog=P->X.w=w->X.K=K->X.calm=true-> ∀(i:Nat) (pins:List 123) (s:Shared) (σ:St) (H:Hp) (E:Value->Shared->Prop),Inv X pins σ H s->(∀b∈fp,eZ X pins H b)->tn i s.heap->J.go i H->
  wpAny (model P w) X.A (pyNext 346) (fun r s1=> ∃u,r=some u/\
   wpAny (model P w) X.A (letOwnedTupleGo tg 346 u) (fun _ s2=> ∃x H',Inv X pins σ H' s2/\RelV x u/\J.Bl i H x H'/\tn (i+1) s2.heap/\ ∀b∈fp,H' b=none) E s1) E s
 done: ∀(X:Cx),X.prog=P->X.w=w->X.K=K->X.calm=true-> ∀(i:Nat) (pins:List 123) (s:Shared) (σ:St) (H:Hp) (E:Value->Shared->Prop),Inv X pins σ H s->(∀b∈fp,eZ X pins H b)->tn i s.heap->J.stop i H->
  wpAny (model P w) X.A (pyNext 346) (fun r s1=>r=none/\Inv X pins σ H s1) E s
 self: ∀(A:Around) (i:Nat) (s:Shared) (Q:Value->Shared->Prop) (E:Value->Shared->Prop),tn i s.heap->Q 346 s->wpAny (model P w) A (pyIter 346) Q E s
abbrev TI:=St->Hp->(It->Hp->Prop)->Prop
def Q4(X:Cx)(pins:List 123)(σ:St)(tg:Expr)(R:It->Hp->Prop)(Pd:Value)(s2:Shared):Prop:=
 ∃(it:Addr) (fp:List Addr) (tn:Nat->Heap->Prop) (J:It) (H':Hp),Pd= .ref it/\Inv X pins σ H' s2/\Turn X.prog X.w X.K tg J fp it tn/\tn 0 s2.heap/\(∀b∈fp,eZ X pins H' b)/\R J H'
def PI(X:Cx)(tg iter:Expr)(wi:TI):Prop:=
 ∀(pins:List 123) (s:Shared) (σ:St) (H:Hp) (R:It->Hp->Prop),Inv X pins σ H s->wi σ H R->
  wpAny 106 X.A (eval iter X.env) (fun v s1=>wpAny 106 X.A (pyIter v) (Q4 X pins σ tg R) X.xe s1) X.xe s
theorem yV{s:Shared}(ho:s.heap.get? it=some o)(hc:o.cls= .type n)(hd:o.data= .fields vs)(hn: ["enumerate","zip","dict_itemiterator","dict_reverseitemiterator","odict_iterator","itertools.zip_longest","itertools.pairwise"].contains n=false)(hQ:Q () s):wpAny M A (letOwnedTupleGo tg 346 u) Q E s:=by
 unfold letOwnedTupleGo;cases tg <;> first
  | exact aa7 hQ
  | (cases u <;> first
    | exact aa7 hQ
    | (refine aa0 (wpAny_load ho ?_)
       rw[hc,hd];show wpAny M A (if (["enumerate","zip","dict_itemiterator","dict_reverseitemiterator","odict_iterator","itertools.zip_longest","itertools.pairwise"].contains n && vs[0]?==some (rawInt _))=true then _ else _) Q E s;rw[if_neg (by intro h;rw[hn,av5] at h;cases h)];exact aa7 hQ))
def VO(K:PySem.W.Frag)(a:Addr):It:=
 ⟨fun i H=> ∃xs x,bL K H a xs/\xs[i]?=some x,fun i H x H'=>H'=H/\ ∀xs,bL K H a xs->xs[i]?=some x,fun i H=> ∃xs,bL K H a xs/\xs.length<=i⟩
def VN(K:PySem.W.Frag)(a:Addr):It:=
 ⟨fun i H=> ∃xs x,dF K H a xs/\xs[i]?=some x,fun i H x H'=>H'=H/\ ∀xs,dF K H a xs->xs[i]?=some x,fun i H=> ∃xs,dF K H a xs/\xs.length<=i⟩
def Q9(lo:Int)(n:Nat):It:=⟨fun i _=>i < n,fun i H x H'=>H'=H/\x= .int (lo+i),fun i _=>n<=i⟩
theorem zB{P:Program}{w:World}{K:PySem.W.Frag}{tg:Expr}(a it:Addr):Turn P w K tg (VO K a) [it] it (fun i h=>h.IsListIter it a i) where
 mem:=by simp
 obj:=fun i h st b hb=>by
  have e:b=it:=by simpa using hb
  subst e;obtain⟨o,e,c,d⟩:=st;exact⟨o,e,fun v z=>by rw[d] at z;cases z⟩
 keep:=fun i h h' st k=>st.at fun o e=>k it 112 o e
 item:=by
  intro X hP hw hK hc i pins s σ H E I hf st hg;subst hP hw hK;obtain⟨xs,x,hq,hx⟩:=hg;obtain⟨ai,rv,p,hz⟩:=I.list hq;obtain⟨u,hu,ru⟩:=rv.get hx;obtain⟨f0,f1,f2,f3,f4,f5⟩:=hf it 112;refine wpAny_pyNext_list_item st p.isList (x:=u) (by simpa using hu) fun h' ax sb=>?_;have I1:Inv X pins σ H {s with heap:=h'}:=I.turned (t':=s.toks) 313 f0 f1 f3 f4 f5;obtain⟨o,e,c,d⟩:=id ax;exact⟨u,rfl,yV (s:={s with heap:=h'}) e c d 105 ⟨x,H,I1,ru,⟨rfl,fun ys hy=>by rw[I.uG hy hq];exact hx⟩,ax,fun b hb=>(411).1⟩⟩
 done:=by
  intro X hP hw hK hc i pins s σ H E I hf st hg;subst hP hw hK;obtain⟨xs,hq,hx⟩:=hg;obtain⟨ai,rv,p,hz⟩:=I.list hq;obtain⟨f0,f1,f2,f3,f4,f5⟩:=hf it 112;have hl:=rv.length;exact wpAny_pyNext_list_end 288 st p.isList (by simp;lia) fun h' eb=>166
 self:=fun _ _ _ _ _ st h=>wpAny_pyIter_listiter st h
theorem vM{P:Program}{w:World}{K:PySem.W.Frag}{tg:Expr}(a it:Addr):Turn P w K tg (VN K a) [it] it (fun i h=>h.IsTupleIter it a i) where
 mem:=by simp
 obj:=fun i h st b hb=>by
  have e:b=it:=by simpa using hb
  subst e;obtain⟨o,e,c,d⟩:=st;exact⟨o,e,fun v z=>by rw[d] at z;cases z⟩
 keep:=fun i h h' st k=>st.at fun o e=>k it 112 o e
 item:=by
  intro X hP hw hK hc i pins s σ H E I hf st hg;subst hP hw hK;obtain⟨xs,x,hq,hx⟩:=hg;obtain⟨ai,rv,p,hz⟩:=I.tuple hq;obtain⟨u,hu,ru⟩:=rv.get hx;obtain⟨f0,f1,f2,f3,f4,f5⟩:=hf it 112;refine wpAny_pyNext_tuple_item st (show s.heap.IsTuple a ai.toArray from p) (x:=u) (by simpa using hu) fun h' ax sb=>?_;have I1:Inv X pins σ H {s with heap:=h'}:=I.turned (t':=s.toks) 313 f0 f1 f3 f4 f5;obtain⟨o,e,c,d⟩:=id ax;exact⟨u,rfl,yV (s:={s with heap:=h'}) e c d 105 ⟨x,H,I1,ru,⟨rfl,fun ys hy=>by rw[I.pH hy hq];exact hx⟩,ax,fun b hb=>(411).1⟩⟩
 done:=by
  intro X hP hw hK hc i pins s σ H E I hf st hg;subst hP hw hK;obtain⟨xs,hq,hx⟩:=hg;obtain⟨ai,rv,p,hz⟩:=I.tuple hq;obtain⟨f0,f1,f2,f3,f4,f5⟩:=hf it 112;have hl:=rv.length;exact wpAny_pyNext_tuple_end 288 st (show s.heap.IsTuple a ai.toArray from p) (by simp;lia) fun h' eb=>166
 self:=fun _ _ _ _ _ st h=>wpAny_pyIter_tupleiter st h
theorem vN{P:Program}{w:World}{K:PySem.W.Frag}{tg:Expr}(it:Addr)(lo:Int)(n:Nat):Turn P w K tg (Q9 lo n) [it] it (fun i h=>IsRangeIter h it (lo+(i:Nat)*1) ((n:Int) - (i:Nat)) 1) where
 mem:=by simp
 obj:=fun i h st b hb=>by
  have e:b=it:=by simpa using hb
  subst e;exact⟨_,st,fun v z=>by
   have z':Data.fields _=Data.cell v:=z;cases z'⟩
 keep:=fun i h h' st k=>k it 112 _ st
 item:=by
  intro X hP hw hK hc i pins s σ H E I hf st hg;subst hP hw hK;obtain⟨f0,f1,f2,f3,f4,f5⟩:=hf it 112;have W:=Walks.range (prog:=X.prog) (w:=X.w) 288 it lo 1 n;refine W.item i s _ _ hg st fun v h' tk hv ax kk=>?_;obtain⟨t,rfl⟩:=hv;have I1:Inv X pins σ H {s with heap:=h',toks:=tk}:=I.turned (fun b o hb e=>kk b o (by simpa using hb) e) f0 f1 f3 f4 f5;refine⟨_,rfl,yV (s:={s with heap:=h',toks:=tk}) (n:="range_iterator") ax rfl rfl 105 ⟨.int (lo+i),H,I1,⟨t,?_⟩,⟨rfl,rfl⟩,ax,fun b hb=>(411).1⟩⟩;rw[Int.mul_one]
 done:=by
  intro X hP hw hK hc i pins s σ H E I hf st hg;subst hP hw hK;obtain⟨f0,f1,f2,f3,f4,f5⟩:=hf it 112;exact wpAny_pyNext_range_end 288 st (by have:n<=i:=hg;lia) fun h' eb=>166
 self:=fun _ _ _ _ _ st h=>wpAny_pyIter_rangeiter st h
section
variable{X:Cx}{tg:Expr}
def Pk(K:PySem.W.Frag)(tl:TE):TI:=fun σ H R=>tl σ H fun x H1=> ∃a,x= .ref a/\(∃xs,bL K H1 a xs)/\R (VO K a) H1
def TK(K:PySem.W.Frag)(tl:TE):TI:=fun σ H R=>tl σ H fun x H1=> ∃a,x= .ref a/\(∃xs,dF K H1 a xs)/\R (VN K a) H1
theorem Gw(hl:PE X l tl):PI X tg l (Pk X.K tl):=by
 intro pins s σ H R I h;refine aU (hl pins s σ H _ I h) fun v s1 Sv=>?_;obtain⟨x,H1,I1,r1,q1⟩:=Sv;obtain⟨a,e,⟨xs,hq⟩,q⟩:=q1;subst e;cases r1;obtain⟨ai,rv,p,hz⟩:=I1.list hq;refine ai8 p.isList ?_;refine⟨s1.heap.objs.size,[s1.heap.objs.size],_,_,H1,rfl,I1.kept (t':=s1.toks) fun b o e=>aa3 _ e,zB a _,⟨_,ab4 _ rfl,rfl,rfl⟩,fun b hb=>?_,q⟩;have e:b=s1.heap.objs.size:=by simpa using hb
 subst e;exact I1.iO (aa4 _) 345
theorem Kx(hl:PE X l tl):PI X tg l (TK X.K tl):=by
 intro pins s σ H R I h;refine aU (hl pins s σ H _ I h) fun v s1 Su=>?_;obtain⟨x,H1,I1,r1,q1⟩:=Su;obtain⟨a,e,⟨xs,hq⟩,q⟩:=q1;subst e;cases r1;obtain⟨ai,rv,p,hz⟩:=I1.tuple hq;refine ai2 (show s1.heap.IsTuple a ai.toArray from p) ?_;refine⟨s1.heap.objs.size,[s1.heap.objs.size],_,_,H1,rfl,I1.kept (t':=s1.toks) fun b o e=>aa3 _ e,vM a _,⟨_,ab4 _ rfl,rfl,rfl⟩,fun b hb=>?_,q⟩;have e:b=s1.heap.objs.size:=by simpa using hb
 subst e;exact I1.iO (aa4 _) 345
theorem t5{lo hi:Int}(I:Inv X pins σ H s)(h1: -(2^62)<=lo)(h2:lo < 2^62)(h3: -(2^62)<=hi)(h4:hi < 2^62)(q:R (Q9 lo (hi - lo).toNat) H):wpAny 106 X.A (pyIter 126) (Q4 X pins σ tg R) E {s with heap:=s.heap.push {cls:= .type "range",data:= .fields #[.int lo t,.int hi u,.int 1 v]},toks:=tk}:=by
 refine wpAny_pyIter_range (IsRange.new ..) (small_one h1 h2 h3 h4) ?_;have I1:Inv X pins σ H {s with heap:=s.heap.push {cls:= .type "range",data:= .fields #[.int lo t,.int hi u,.int 1 v]},toks:=tk}:=I.kept fun b o e=>aa3 _ e;refine⟨(201).objs.size,[(201).objs.size],_,_,H,rfl,
  I1.kept (t':=tk) fun b o e=>aa3 _ e,vN _ lo (hi - lo).toNat,?_,fun b hb=>?_,q⟩
 . have e1:lo+375*1=lo:=by simp
   have e2:(((hi - lo).toNat:Nat):Int) - 375=Builtin.Range.rangeSize lo hi 1:=by rw[rangeSize_one];split <;> lia
   show IsRangeIter _ _ (lo+375*1) ((((hi - lo).toNat:Nat):Int) - 375) 1;rw[e1,e2];exact ab4 _ rfl
 . have e:b=(201).objs.size:=by simpa using hb
   subst e;exact I1.iO (aa4 _) 345
def Pj(ta:TA):TI:=fun σ H R=>ta σ H fun vs H1=> ∃j:Int,vs= [.int j]/\ -(2^62)<=j/\j < 2^62/\R (Q9 0 j.toNat) H1
def Ph(ta:TA):TI:=fun σ H R=>ta σ H fun vs H1=> ∃i j:Int,vs= [.int i,.int j]/\(-(2^62)<=i/\i < 2^62/\ -(2^62)<=j/\j < 2^62)/\R (Q9 i (j - i).toNat) H1
theorem zN(hg:Gl X "range")(hm:X.mg "range"=none)(ha:PA X [a] ta)(hs:starEach [a] X.env= [(false,eval a X.env)]:=by rfl):PI X tg (.Call (.Name "range" p) [a] [] pos) (Pj ta):=by
 intro pins s σ H R I h;refine Call_ (bV I hg hm boot_range (ag7 (aU 156 fun us s1 Ss=>?_) hs rfl));obtain⟨vs,H1,I1,r1,q1⟩:=Ss;obtain⟨j,e,q1,q2,q⟩:=q1;subst e;cases r1 with
 | cons r rr=>
  cases rr;obtain⟨t,rfl⟩:=r;exact call_range_1 (t5 I1 101 101 q1 q2 (by simpa using q))
theorem zM(hg:Gl X "range")(hm:X.mg "range"=none)(ha:PA X [a,b] ta)(hs:starEach [a,b] X.env= [(false,eval a X.env),(false,eval b X.env)]:=by rfl)(gL:starEach [b] X.env= [(false,eval b X.env)]:=by rfl):
  PI X tg (.Call (.Name "range" p) [a,b] [] pos) (Ph ta):=by
 intro pins s σ H R I h;refine Call_ (bV I hg hm boot_range (ag7 (aU 156 fun us s1 Sr=>?_) (by rw[hs,gL]) (by rw[gL];rfl)));obtain⟨vs,H1,I1,r1,q1⟩:=Sr;obtain⟨i,j,e,⟨q1,q2,q3,q4⟩,q⟩:=q1;subst e;cases r1 with
 | cons r rr=>
  cases rr with
  | cons r' rr=>
   cases rr;obtain⟨t,rfl⟩:=r;obtain⟨t',rfl⟩:=r';exact call_range_2 (t5 I1 q1 q2 q3 q4 q)
def SV(wi:TI)(g:TG)(tb:TS):TS:=fun D σ H=>wi σ H fun J H1=> ∃W:Nat->Nat->St->Hp->Prop,(∃m,W 0 m σ H1)/\ ∀i m σ H,W i m σ H->
 (J.stop i H/\D.nx σ H)\/(J.go i H/\ ∃N:St->Hp->Prop,(∀σ' H',N σ' H'-> ∃m',m' < m/\W (i+1) m' σ' H')/\ ∀x H',J.Bl i H x H'->g x σ H' fun σ2 H2=>tb {D with nx:=N,ct:=N,bk:=D.nx} σ2 H2)
def jh(fp:List Addr)(h:Heap):List 123:=fp.filterMap fun b=>(h.get? b).map fun o=>(b,o)
theorem cu{h:Heap}(hb:b∈fp)(e:h.get? b=some o):(b,o)∈jh fp h:=ap5.mpr ⟨b,hb,by rw[e];rfl⟩
theorem zX(hp:p∈jh fp h):p.1∈fp/\h.get? p.1=some p.2:=by
 obtain⟨b,hb,e⟩:=ap5.mp hp;cases q:h.get? b with
 | none=>rw[q] at e;cases e
 | some o=>
  rw[q] at e;have e':(b,o)=p:=Option.some.inj e;subst e';exact⟨hb,q⟩
theorem Inv.pinned(I:Inv X pins σ H s)(hf: ∀b∈fp,eZ X pins H b)(ho: ∀b∈fp,∃o,s.heap.get? b=some o/\ ∀v,o.data≠ .cell v):Inv X (pins++jh fp s.heap) σ H s:=
 I.yx fun p hp=>(af6.mp hp).elim (fun z=>I.pin p (ad8 _ z)) fun z=>by
  obtain⟨hb,e⟩:=zX z;obtain⟨f0,f1,f2,_⟩:=hf p.1 hb;obtain⟨o,e',d⟩:=ho p.1 hb;rw[e] at e';cases e';exact⟨e,f0,f1,f2,d⟩
theorem Inv.fI(I:Inv X (pins++pl) σ H s):Inv X pins σ H s:=I.yx fun p hp=>I.pin p (ad8 _ (List.mem_append_left _ hp))
theorem Ku(hp:PassesOwn 106 X.A X.env X.xe)(hc:X.calm=true)(hi:PI X tg iter wi)(hg:PG X tg g)(hb:qG X body tb)(hs: ∀x,foldedSetIterable iter X.env x=pure x:=by intro _;rfl):PS X (.For tg iter body [] pos) (SV wi g tb):=by
 intro pins s σ H D I h;refine wpAny_For (aU 323 fun v s1 h1=>aU h1 fun Pd s2 h2=>?_) hs;obtain⟨it,fp,tn,J,H2,e,I2,T,eX,f2,W,⟨m0,w0⟩,turn⟩:=h2;subst e;have vS: ∀{H':Hp},196-> ∀b∈fp,eZ X pins H' b:=fun hn b hb=>⟨hn b hb,(f2 b hb).2⟩
 refine codeAny_forLoop_any (fun n s'=> ∃i σ' H',Inv X pins σ' H' s'/\tn i s'.heap/\196/\W i n σ' H') ?_ m0 ⟨0,σ,H2,I2,eX,fun b hb=>(f2 b hb).1,w0⟩;rintro n s3 ⟨i,σ3,H3,I3,gb,WO,w3⟩
 rcases turn i n σ3 H3 w3 with ⟨stop,qn⟩ | ⟨go,N,hN,step⟩
 . refine ap8 hp (aU (T.done X rfl rfl rfl hc i pins s3 σ3 H3 X.xe I3 (vS WO) gb stop) fun r s4 Sq=>?_);obtain⟨hr,I4⟩:=Sq;subst hr;exact wpAny_execs_nil ⟨σ3,H3,I4,qn⟩
 . refine ap8 hp (aU (T.item X rfl rfl rfl hc i pins s3 σ3 H3 X.xe I3 (vS WO) gb go) fun r s4 So=>?_);obtain⟨u,hr,h4⟩:=So;subst hr;refine ap8 hp (aU h4 fun _ s5 Sn=>?_);obtain⟨x,H5,I5,r5,y5,Bm,FP⟩:=Sn;have I5':=I5.pinned (vS FP) (T.obj _ _ Bm);refine ap8 hp (aU (hg _ s5 σ3 H5 x u _ I5' r5 (step x H5 y5)) fun _ s6 Sk=>?_);obtain⟨σ6,H6,I6,q6⟩:=Sk;refine ap8 hp (aU (hb _ s6 σ6 H6 _ I6 q6) fun f s7 q7=>?_);have again: ∀{σ7:St} {H7:Hp},Inv X (pins++jh fp s5.heap) σ7 H7 s7->N σ7 H7-> ∃m,m < n/\ ∃i σ' H',Inv X pins σ' H' s7/\tn i s7.heap/\196/\W i m σ' H':=fun{σ7 H7} I7 n7=>by
    obtain⟨m',hm,w7⟩:=hN σ7 H7 n7;refine⟨m',hm,i+1,σ7,H7,I7.fI,T.keep _ _ _ Bm fun b hb o e=>(I7.pin (b,o) (ad8 _ (ad8 _ (cu hb e)))).1,fun b hb=>?_,w7⟩;obtain⟨o,e,d⟩:=T.obj _ _ Bm b hb;exact(I7.pin (b,o) (ad8 _ (ad8 _ (cu hb e)))).2.1
   cases f with
   | next=>obtain⟨σ7,H7,I7,n7⟩:=q7;exact again I7 n7
   | cont=>obtain⟨σ7,H7,I7,n7⟩:=q7;exact again I7 n7
   | brk=>obtain⟨σ7,H7,I7,q7⟩:=q7;exact⟨σ7,H7,I7.fI,q7⟩
   | ret v=>obtain⟨x7,σ7,H7,I7,r7,q7⟩:=q7;exact⟨x7,σ7,H7,I7.fI,r7,q7⟩
end
abbrev R2:=V->V->Hp->VK->Prop
def lu(X:Cx)(f:Value->Value->Sem Value)(r:R2):Prop:=
 ∀(pins:List 123) (s:Shared) (σ:St) (H:Hp) (x y:V) (v u:Value) (Q:VK),Inv X pins σ H s->RelV x v->RelV y u->r x y H Q->
  wpAny 106 X.A (f v u) 253 X.xe s
def VC(X:Cx)(f:Value->Sem Value)(r:V->Hp->VK->Prop):Prop:=
 ∀(pins:List 123) (s:Shared) (σ:St) (H:Hp) (x:V) (v:Value) (Q:VK),Inv X pins σ H s->RelV x v->r x H Q->
  wpAny 106 X.A (f v) 253 X.xe s
def dJ(X:Cx)(f:Value)(r:List V->Hp->VK->Prop):Prop:=
 ∀(pins:List 123) (s:Shared) (σ:St) (H:Hp) (xs:List V) (us:List Value) (Q:VK),Inv X pins σ H s->Vals xs us->r xs H Q->
  wpAny 106 X.A (call f us) 253 X.xe s
def VD(X:Cx)(r:V->Hp->(Bool->Hp->Prop)->Prop):Prop:=
 ∀(pins:List 123) (s:Shared) (σ:St) (H:Hp) (x:V) (v:Value) (Q:Bool->Hp->Prop),Inv X pins σ H s->RelV x v->r x H Q->
  wpAny 106 X.A (truthy v) (TP X pins σ Q) X.xe s
def JY(r:R2)(ta tb:TE):TE:=fun σ H Q=>ta σ H fun x H1=>tb σ H1 fun y H2=>r x y H2 Q
def XW(r:V->Hp->VK->Prop)(ta:TE):TE:=fun σ H Q=>ta σ H fun x H1=>r x H1 Q
def rI(C:Int->Int->Prop)(g:Int->Int->V):R2:=fun x y H Q=> ∃i j,x= .int i/\y= .int j/\C i j/\Q (g i j) H
def Iy(g:Int->Int->V):R2:=fun x y H Q=> ∃i j,x= .int i/\y= .int j/\Q (g i j) H
def rU(g:Int->V):V->Hp->VK->Prop:=fun x H Q=> ∃i,x= .int i/\Q (g i) H
section
variable{X:Cx}{a b c:Expr}{ta tb tc:TE}{pos:Pos}
theorem MX(ha:PE X a ta)(hb:PE X b tb){pins:List 123}{s:Shared}{σ:St}{H:Hp}{R:V->V->Hp->Prop}(I:Inv X pins σ H s)
  (h:ta σ H fun x H1=>tb σ H1 fun y H2=>R x y H2) {Q:Value->Shared->Prop} {f:Value->Value->Sem Value}
  (hf: ∀v u s2 x y H2,Inv X pins σ H2 s2->RelV x v->RelV y u->R x y H2->wpAny 106 X.A (f v u) Q X.xe s2):
  wpAny 106 X.A (eval a X.env) (fun v s₁=>wpAny 106 X.A (eval b X.env) (fun u s₂=>wpAny 106 X.A (f v u) Q X.xe s₂) X.xe s₁) X.xe s:=by
 refine aU 169 fun v s1 Sj=>?_;obtain⟨x,H1,I1,r1,q1⟩:=Sj;refine aU (hb pins s1 σ H1 _ I1 q1) fun u s2 Si=>?_;obtain⟨y,H2,I2,r2,q2⟩:=Si;exact hf v u s2 x y H2 I2 r1 r2 q2
theorem bM(ho:lu X (binaryOp op) r)(ha:PE X a ta)(hb:PE X b tb):PE X (.BinOp a op b pos) (JY r ta tb):=by
 intro pins s σ H Q I h;exact wpAny_BinOp (MX ha hb I h fun v u s2 x y H2 I2 rx ry q=>ho pins s2 σ H2 x y v u Q I2 rx ry q)
theorem OJ(ho:VC X (unaryOp op) r)(ha:PE X a ta):PE X (.UnaryOp op a pos) (XW r ta):=by
 intro pins s σ H Q I h;exact UnaryOp_ (aU 169 fun v s1 Sh=>(by obtain⟨x,H1,I1,r1,q1⟩:=Sh;exact(ho pins s1 σ H1 x v Q I1 r1 q1)))
theorem RA{C:Int->Int->Prop}{g:Int->Int->Int}(rule: ∀(i j:Int) (t u:Tok) (s:Shared) (Q:Value->Shared->Prop) (E:Value->Shared->Prop),C i j->Q (.int (g i j) s.toks) {s with toks:=s.toks+1}->wpAny 106 X.A (f (.int i t) (.int j u)) Q E s):
  lu X f (rI C fun i j=> .int (g i j)):=by
 intro pins s σ H x y v u Q I rx ry h;obtain⟨i,j,rfl,rfl,hc,q⟩:=h;obtain⟨t,rfl⟩:=rx;obtain⟨t',rfl⟩:=ry;exact rule i j t t' s _ _ hc ⟨.int (g i j),H,I.tok _,⟨_,rfl⟩,q⟩
theorem OR{g:Int->Int->Int}(rule: ∀(i j:Int) (t u:Tok) (s:Shared) (Q:Value->Shared->Prop) (E:Value->Shared->Prop),Q (.int (g i j) s.toks) {s with toks:=s.toks+1}->wpAny 106 X.A (f (.int i t) (.int j u)) Q E s):
  lu X f (Iy fun i j=> .int (g i j)):=by
 intro pins s σ H x y v u Q I rx ry h;obtain⟨i,j,rfl,rfl,q⟩:=h;obtain⟨t,rfl⟩:=rx;obtain⟨t',rfl⟩:=ry;exact rule i j t t' s _ _ ⟨.int (g i j),H,I.tok _,⟨_,rfl⟩,q⟩
theorem KP{g:Int->Int->Bool}(rule: ∀(i j:Int) (t u:Tok) (s:Shared) (Q:Value->Shared->Prop) (E:Value->Shared->Prop),Q (.bool (g i j)) s->wpAny 106 X.A (f (.int i t) (.int j u)) Q E s):
  lu X f (Iy fun i j=> .bl (g i j)):=by
 intro pins s σ H x y v u Q I rx ry h;obtain⟨i,j,rfl,rfl,q⟩:=h;obtain⟨t,rfl⟩:=rx;obtain⟨t',rfl⟩:=ry;exact rule i j t t' s _ _ ⟨.bl (g i j),H,I,rfl,q⟩
def VW(i j:Int):Prop:=0 < j/\j < 1073741824
def FH(i j:Int):Prop:=0<=j/\j<=1000000/\i.natAbs < 2^64
def Bk(i j:Int):Prop:=(-(2^64) < i/\i < 2^64)\/(-(2^64) < j/\j < 2^64)
theorem Bk.ok(h:Bk i j):IntMulOk i j:=by
 rcases h with ⟨h1,h2⟩ | ⟨h1,h2⟩
 . exact .of_left (intBits_le_64 h1 h2)
 . exact .of_right (intBits_le_64 h1 h2)
theorem jj:lu X (binaryOp .Add) (Iy fun i j=> .int (i+j)):=OR fun _ _ _ _ _ _ _ q=>add_int q
theorem KN:lu X (binaryOp .Sub) (Iy fun i j=> .int (i - j)):=OR fun _ _ _ _ _ _ _ q=>sub_int q
theorem g6:lu X (binaryOp .Mult) (rI Bk fun i j=> .int (i*j)):=RA fun _ _ _ _ _ _ _ hc q=>mul_int q hc.ok
theorem GI:lu X (binaryOp .FloorDiv) (rI VW fun i j=> .int (i / j)):=RA fun i j _ _ _ _ _ hc q=>by
 have h1:(0:Int) < j:=hc.1;have h2:j < 1073741824:=hc.2;exact floordiv_int 101 (by rw[Int.fdiv_eq_ediv_of_nonneg i 101];exact q) (.inl (PyProof.noPylong_small 101))
theorem g8:lu X (binaryOp .Mod) (rI (fun _ j=>0 < j) fun i j=> .int (i % j)):=RA fun i j _ _ _ _ _ hc q=>by
 have h1:(0:Int) < j:=hc;exact mod_int' 101 (by rw[Int.fmod_eq_emod_of_nonneg i 101];exact q)
theorem CP:lu X (binaryOp .Pow) (rI FH fun i j=> .int (i^j.toNat)):=RA fun _ _ _ _ _ _ _ hc q=>pow_int_small hc.1 hc.2.1 hc.2.2 q
theorem XQ{g:Int->Int}(rule: ∀(i:Int) (t:Tok) (s:Shared) (Q:Value->Shared->Prop) (E:Value->Shared->Prop),Q (.int (g i) s.toks) {s with toks:=s.toks+1}->wpAny 106 X.A (f (.int i t)) Q E s):
  VC X f (rU fun i=> .int (g i)):=by
 intro pins s σ H x v Q I rx h;obtain⟨i,rfl,q⟩:=h;obtain⟨t,rfl⟩:=rx;exact rule i t s _ _ ⟨.int (g i),H,I.tok _,⟨_,rfl⟩,q⟩
theorem JQ:VC X (unaryOp .USub) (rU fun i=> .int (-i)):=XQ fun _ _ _ _ _ q=>neg_int q
end
def F7:V->V->Bool
 | .aC,.aC=>true | .aC,.int _=>true | .int _,.aC=>true | .aC,.bl _=>true | .bl _,.aC=>true | .aC,.str _=>true | .str _,.aC=>true
 | .int _,.int _=>true | .bl _,.bl _=>true | .str _,.str _=>true | .ze _,.ze _=>true
 | .int _,.str _=>true | .str _,.int _=>true | .bl _,.str _=>true | .str _,.bl _=>true
 | _,_=>false
def Wc:R2:=fun x y H Q=>F7 x y=true/\Q (.bl (decide (x=y))) H
def Wa:R2:=fun x y H Q=>F7 x y=true/\Q (.bl (!decide (x=y))) H
theorem y8:decide (V.int i=V.int j)=(i==j):=by
 rw[ak9];simp
theorem Ez:decide (V.bl i=V.bl j)=(i==j):=by
 rw[ak9];simp
theorem y6:decide (V.str i=V.str j)=(i==j):=by
 rw[ak9];simp
theorem y9:decide (V.ze i=V.ze j)=(i.toList==j.toList):=by
 rw[ak9];cases i;cases j;simp
section
variable{X:Cx}{a b c:Expr}{ta tb tc:TE}{pos:Pos}
theorem aR(I:Inv X pins σ H s)(q:Q (.bl k) H)(e:k=k'):EP X pins σ Q (.bool k') s:=by
 subst e;exact⟨.bl k,H,I,rfl,q⟩
theorem CQ:lu X (compareOp .Eq) Wc:=by
 intro pins s σ H x y v u Q I rx ry h;obtain⟨hs,q⟩:=h;cases x with
 | aC=>
  cases rx;cases y with
  | aC=>cases ry;exact PySem.EqNone.eq_none_none 214
  | bl j=>cases ry;exact PySem.EqNone.eq_none_bool 214
  | int j=>obtain⟨t',rfl⟩:=ry;exact PySem.EqNone.eq_none_int 214
  | str j=>obtain⟨t',rfl⟩:=ry;exact PySem.EqNone.eq_none_str 214
  | _=>exact absurd 162 ab3
 | bl i=>
  cases rx;cases y with
  | aC=>cases ry;exact PySem.EqNone.eq_bool_none 214
  | bl j=>cases ry;exact eq_bool (aR I q Ez)
  | str j=>obtain⟨t',rfl⟩:=ry;exact PySem.EqMixed.eq_bool_str 214
  | _=>exact absurd 162 ab3
 | int i=>
  obtain⟨t,rfl⟩:=rx;cases y with
  | aC=>cases ry;exact PySem.EqNone.eq_int_none 214
  | int j=>obtain⟨t',rfl⟩:=ry;exact eq_int (aR I q y8)
  | str j=>obtain⟨t',rfl⟩:=ry;exact PySem.EqMixed.eq_int_str 214
  | _=>exact absurd 162 ab3
 | str i=>
  obtain⟨t,rfl⟩:=rx;cases y with
  | aC=>cases ry;exact PySem.EqNone.eq_str_none 214
  | bl j=>cases ry;exact PySem.EqMixed.eq_str_bool 214
  | int j=>obtain⟨t',rfl⟩:=ry;exact PySem.EqMixed.eq_str_int 214
  | str j=>obtain⟨t',rfl⟩:=ry;exact eq_str (aR I q y6)
  | _=>exact absurd 162 ab3
 | ze i=>
  obtain⟨t,rfl⟩:=rx;cases y with
  | ze j=>obtain⟨t',rfl⟩:=ry;exact PySem.W.eq_bytes (aR I q y9)
  | _=>exact absurd 162 ab3
 | _=>exact absurd 162 ab3
theorem OO:lu X (compareOp .NotEq) Wa:=by
 intro pins s σ H x y v u Q I rx ry h;obtain⟨hs,q⟩:=h;cases x with
 | aC=>
  cases rx;cases y with
  | aC=>cases ry;exact PySem.EqNone.ne_none_none 214
  | bl j=>cases ry;exact PySem.EqNone.ne_none_bool 214
  | int j=>obtain⟨t',rfl⟩:=ry;exact PySem.EqNone.ne_none_int 214
  | str j=>obtain⟨t',rfl⟩:=ry;exact PySem.EqNone.ne_none_str 214
  | _=>exact absurd 162 ab3
 | bl i=>
  cases rx;cases y with
  | aC=>cases ry;exact PySem.EqNone.ne_bool_none 214
  | bl j=>cases ry;exact ne_bool (aR I q (ai5 not Ez))
  | str j=>obtain⟨t',rfl⟩:=ry;exact PySem.EqMixed.ne_bool_str 214
  | _=>exact absurd 162 ab3
 | int i=>
  obtain⟨t,rfl⟩:=rx;cases y with
  | aC=>cases ry;exact PySem.EqNone.ne_int_none 214
  | int j=>obtain⟨t',rfl⟩:=ry;exact ne_int (aR I q (ai5 not y8))
  | str j=>obtain⟨t',rfl⟩:=ry;exact PySem.EqMixed.ne_int_str 214
  | _=>exact absurd 162 ab3
 | str i=>
  obtain⟨t,rfl⟩:=rx;cases y with
  | aC=>cases ry;exact PySem.EqNone.ne_str_none 214
  | bl j=>cases ry;exact PySem.EqMixed.ne_str_bool 214
  | int j=>obtain⟨t',rfl⟩:=ry;exact PySem.EqMixed.ne_str_int 214
  | str j=>obtain⟨t',rfl⟩:=ry;exact ne_str (aR I q (ai5 not y6))
  | _=>exact absurd 162 ab3
 | ze i=>
  obtain⟨t,rfl⟩:=rx;cases y with
  | ze j=>obtain⟨t',rfl⟩:=ry;exact PySem.W.ne_bytes (aR I q (ai5 not y9))
  | _=>exact absurd 162 ab3
 | _=>exact absurd 162 ab3
theorem OP:lu X (compareOp .Lt) (Iy fun i j=> .bl (decide (i < j))):=KP fun _ _ _ _ _ _ _ q=>lt_int q
theorem IB:lu X (compareOp .Gt) (Iy fun i j=> .bl (decide (j < i))):=KP fun _ _ _ _ _ _ _ q=>gt_int q
theorem OQ:lu X (compareOp .GtE) (Iy fun i j=> .bl (decide (j<=i))):=KP fun _ _ _ _ _ _ _ q=>ge_int q
theorem fB(b:Expr)(h:op≠ .In:=by decide)(h2:op≠ .NotIn:=by decide):behindInMarks op b=false:=by
 have e1:(op==CmpOp.In)=false:=by cases op <;> first | rfl | exact absurd rfl h
 have e2:(op==CmpOp.NotIn)=false:=by cases op <;> first | rfl | exact absurd rfl h2
 cases b <;> simp [behindInMarks,e1,e2]
theorem yA(ho:lu X (compareOp op) r)(ha:PE X a ta)(hb:PE X b tb)(hm:behindInMarks op b=false):PE X 283 (JY r ta tb):=by
 intro pins s σ H Q I h;exact wpAny_Compare1 (MX ha hb I h fun v u s2 x y H2 I2 rx ry q=>ho pins s2 σ H2 x y v u Q I2 rx ry q) hm
def N2(t:TE):TT:=fun σ H Q=>t σ H fun x H'=> ∃k,x= .bl k/\Q k H'
theorem jD(ho:lu X (compareOp op) r)(ha:PE X a ta)(hb:PE X b tb)(hm:behindInMarks op b=false):PT X 283 (N2 (JY r ta tb)):=by
 intro pins s σ H Q I h;refine wpAny_isTrue_Compare1 (aU 169 fun v s1 ⟨x,H1,I1,r1,q1⟩=>aU (hb pins s1 σ H1 _ I1 q1) fun u s2 ⟨y,H2,I2,r2,q2⟩=>
  aU (ho pins s2 σ H2 x y v u _ I2 r1 r2 q2) fun c s3 ⟨z,H3,I3,r3,k,e,q3⟩=>?_) hm
 subst e;cases r3;exact ai7 ⟨H3,I3,q3⟩
def Q0(K:PySem.W.Frag)(x:V)(H:Hp)(k:Bool):Prop:=
 match x with
 | .aC=>k=false
 | .bl b=>k=b
 | .int i=>k=(i !=0)
 | .str y=>y.length<=sizeLine/\k=((y.length:Int) !=0)
 | .ze y=>y.size<=sizeLine/\k=((y.size:Int) !=0)
 | .ref p=>(∃xs,bL K H p xs/\k=!xs.isEmpty)\/(∃xs,dF K H p xs/\k=!xs.isEmpty)\/ ∃aG,H p=some 407/\k=!aG.isEmpty
 | _=>False
theorem wM(r:KV aG vs):(!vs.isEmpty)=!aG.isEmpty:=by
 cases r <;> rfl
theorem nX(r:Vals xs ai):(!ai.toArray.isEmpty)=!xs.isEmpty:=by
 cases r <;> simp
theorem kP:(sizeLine:Nat) < 2^63:=by rw[ap0];decide
theorem JR:VD X (fun x H Q=> ∃k,Q0 X.K x H k/\Q k H):=by
 intro pins s σ H x v Q I rx h;obtain⟨k,e,q⟩:=h;have hl:=kP;have hs:sizeLine=16777216:=ap0;cases x with
 | aC=>
  cases rx;have e':k=false:=e;subst e';exact truthy_none ⟨H,I,q⟩
 | bl b=>
  cases rx;have e':k=b:=e;subst e';exact ai7 ⟨H,I,q⟩
 | int i=>
  obtain⟨t,rfl⟩:=rx;have e':k=(i !=0):=e;subst e';exact PySem.P.truthy_int ⟨H,I,q⟩
 | str y=>
  obtain⟨t,rfl⟩:=rx;obtain⟨hy,e'⟩:y.length<=sizeLine/\k=((y.length:Int) !=0):=e;subst e';exact PySem.P.truthy_str 101 ⟨H,I.tok _,q⟩
 | ze y=>
  obtain⟨t,rfl⟩:=rx;obtain⟨hy,e'⟩:y.size<=sizeLine/\k=((y.size:Int) !=0):=e;subst e';exact PySem.W.truthy_bytes 101 ⟨H,I.tok _,q⟩
 | ref p=>
  cases rx;have e':(∃xs,bL X.K H p xs/\k=!xs.isEmpty)\/(∃xs,dF X.K H p xs/\k=!xs.isEmpty)\/ ∃aG,H p=some 407/\k=!aG.isEmpty:=e;rcases e' with ⟨xs,hx,e'⟩ | ⟨xs,hx,e'⟩ | ⟨aG,hx,e'⟩
  . subst e';obtain⟨ai,r,pl,hz⟩:=I.list hx;have hlen:=r.length;exact wpAny_truthy_list pl.isList (by simp only [ab5];lia) ⟨H,I.tok _,by rw[nX r];exact q⟩
  . subst e';obtain⟨ai,r,pl,hz⟩:=I.tuple hx;have hlen:=r.length;exact truthy_tuple pl (by simp only [ab5];lia) ⟨H,I.tok _,by rw[nX r];exact q⟩
  . subst e';obtain⟨hz,hS,vs,r,m⟩:aG.length<=sizeLine/\(p==sysModules)=false/\ ∃vs,KV aG vs/\s.heap.DictOf (bD X.prog X.w) p vs:=I.aQ p _ hx;have hlen:aG.length=vs.length:=Paired.length r;exact wpAny_truthy_dict hS m 101 ⟨H,I.tok _,by rw[wM r];exact q⟩
 | _=>exact(show False from e).elim
theorem Cz(ha:PE X a ta)(he: ∀whole,isTrue a X.env whole=(do let v<-whole;standAt a.pos;holding [v] (truthy v))):
  PT X a (fun σ H Q=>ta σ H fun x H'=> ∃k,Q0 X.K x H' k/\Q k H'):=by
 intro pins s σ H Q I h;exact isTrue_plain (aU 169 fun v s1 Sg=>(by obtain⟨x,H1,I1,r1,q1⟩:=Sg;exact(JR pins s1 σ H1 x v Q I1 r1 q1))) (he _)
theorem vals1(r:Vals [x] us): ∃u,us= [u]/\RelV x u:=by
 cases r with
 | cons r1 r2=>cases r2;exact⟨_,rfl,r1⟩
theorem vals2(r:Vals [x,y] us): ∃u w',us= [u,w']/\RelV x u/\RelV y w':=by
 cases r with
 | cons r1 r2=>
  cases r2 with
  | cons r3 r4=>cases r4;exact⟨_,_,rfl,r1,r3⟩
theorem A4:dJ X (.type "int") (fun xs H Q=>(∃i,xs= [.int i]/\Q 392 H)\/ ∃k,xs= [.bl k]/\Q (.int (if k then 1 else 0)) H):=by
 intro pins s σ H xs us Q I r h;rcases h with ⟨i,rfl,q⟩ | ⟨k,rfl,q⟩
 . obtain⟨u,rfl,t,rfl⟩:=vals1 r;exact call_int_int ⟨.int i,H,I,⟨_,rfl⟩,q⟩
 . obtain⟨u,rfl,r1⟩:=vals1 r;cases r1;exact call_int_bool ⟨.int (if k then 1 else 0),H,I.tok _,⟨_,rfl⟩,q⟩
end
structure M7(h:Heap)(x dx C:Addr)(mA:Str->Option Value):Prop where
 obj:h.get? x=some (PySem.W.instObj C dx)
 ns:h.Ns1 dx mA
 ne:dx≠x
theorem Ai{h:Heap}(n:h.Ns1 dx mA): ∃od,h.get? dx=some od/\ ∀name,PySem.W.lookIn name od=some (mA name):=by
 obtain⟨o,es,ep,ho,hd,hk,_,hm⟩:=n;refine⟨o,ho,fun name=>?_⟩;have e:=hm name;unfold nsFind findBy at e;rw[<-Array.find?_toList] at e;unfold PySem.W.lookIn;rw[hd];dsimp only;split
 . rename_i y q;rw[q] at e;exact ai5 some e
 . rename_i q;rw[q] at e;have a:es.toList.any (·.refKey)=false:=by
    rw[List.any_eq_false];intro y hy;obtain⟨z,t,rZ⟩:=hk y (Array.mem_toList_iff.mp hy);simp [DictEntry.refKey,rZ]
   have a': ¬es.toList.any (·.refKey)=true:=by rw[a];exact ab3
   rw[if_neg a'];exact ai5 some e
theorem M7.look(I:M7 h x dx C mA): ∃od,PySem.W.InstAt h x (PySem.W.instObj C dx) C (some od)/\ ∀name,PySem.W.lookIn name od=some (mA name):=
 let ⟨od,ho,hl⟩:=Ai I.ns
 ⟨od,⟨I.obj,rfl,rfl,ho⟩,hl⟩
theorem oB.some_of(r:oB 356 o): ∃u,o=some u/\RelV v u:=by
 cases o with
 | none=>exact(show False from r).elim
 | some u=>exact⟨u,rfl,r⟩
theorem G1(aQ:iA P w H h)(e:H a=some (.ins C dx fs)): ∃mA,M7 h a dx C mA/\(∀f,oB (fs.lookup f) (mA f))/\PySem.Within mA (fs.map (·.1))/\fs.length<=1000/\H dx=some (.own a):=by
 obtain⟨d,z,ne,ob,mA,n,r,q⟩:=(show aZ P w H h a (.ins C dx fs) from aQ a _ e)
 exact⟨mA,⟨ob,n,ne⟩,r,q,z,d⟩
structure VU(K:PySem.W.Frag)(C:Addr):Prop where
 pg:PySem.W.plainGet K C Str.empty=true
 hd:PySem.W.hasDictIn K C=true
 po:PySem.W.plainOver K C=true
 sa:PySem.W.findIn K (.ref C) "__setattr__"=some (some (.builtin "object.__setattr__"))
theorem VU.get{K:PySem.W.Frag}(c:VU K C)(f:Str):PySem.W.plainGet K C f=true:=c.pg
section
variable{X:Cx}{pins:List 123}{σ:St}{H:Hp}{s:Shared}{A:Around}{E:Value->Shared->Prop}{Q:Value->Shared->Prop}{c:Value}{b:Bool}
inductive mf(K:PySem.W.Frag)(H:Hp):V->Value->Prop where
 | aC:mf K H .aC (.type "NoneType")
 | bl (x:Bool):mf K H (.bl x) (.type "bool")
 | int (i:Int):mf K H 392 (.type "int")
 | str (x:Str):mf K H (.str x) (.type "str")
 | Bu (x:UInt64):mf K H (.Bu x) (.type "float")
 | lst {a:Addr} {xs:List V} (e:H a=some 159):mf K H 226 (.type "list")
 | lQ {a:Addr} {o:Obj} {xs:List V} (e:H a=some (.lQ o 159)):mf K H 226 (.type "list")
 | tup {a:Addr} {xs:List V} (e:H a=some 203):mf K H 226 (.type "tuple")
 | dK {a:Addr} {aG:List 264} (e:H a=some 407):mf K H 226 360
 | dT {a:Addr} {aG:List (List Key × V)} (e:H a=some (.dT aG)):mf K H 226 360
 | ins {a C dx:Addr} {fs:List (Str × V)} (e:H a=some (.ins C dx fs)) (cl:VU K C) (ha:PySem.W.findIn K (.ref C) "__class__"=some (some (.builtin "object.__class__")))
   (hn:PySem.W.specialIn K (.builtin "object.__class__") "__get__"=some (some (.builtin "getset_descriptor.__get__"))) (Wu:PySem.W.takesIn K (.builtin "object.__class__")=some true)
   (hm:PySem.W.mroIn K C (.type "object")=some true):mf K H 226 (.ref C)
theorem eh(I:Inv X pins σ H s)(rx:RelV x u)(ty:mf X.K H x t)(e:PySem.W.kitOne X.K t c=some b)(h: ∀tk,Q (.bool b) {s with toks:=tk}):
  wpAny 106 A (call (.builtin "isinstance") [u,c]) Q E s:=by
 cases ty with
 | aC=>cases (show u=Value.none from rx);exact ak0 PySem.W.kitx_none I.sX True.intro e 186 h
 | bl y=>cases (show u=Value.bool y from rx);exact ak0 PySem.W.kitx_bool I.sX True.intro e 186 h
 | int i=>obtain⟨t,q⟩:=(show∃t,u=Value.int i t from rx);cases q;exact ak0 PySem.W.kitx_int I.sX True.intro e 186 h
 | str y=>obtain⟨t,q⟩:=(show∃t,u=Value.str y t from rx);cases q;exact ak0 PySem.W.kitx_str I.sX True.intro e 186 h
 | Bu y=>obtain⟨t,q⟩:=(show∃t,u=Value.float y t from rx);cases q;exact ak0 PySem.W.kitx_float I.sX True.intro e 186 h
 | @lst a xs ea=>
  cases 263;obtain⟨_,_,n,_,h1⟩:=(show aZ X.prog X.w H s.heap a 159 from I.aQ a _ ea)
  exact ak0 PySem.W.kitx_list I.sX ⟨_,h1,rfl⟩ e 186 h
 | @lQ a ob xs ea=>
  cases 263;obtain⟨_,_,_,n,_,h1⟩:=(show aZ X.prog X.w H s.heap a (.lQ ob 159) from I.aQ a _ ea)
  exact ak0 PySem.W.kitx_list I.sX ⟨_,h1,rfl⟩ e 186 h
 | @tup a xs ea=>
  cases 263;obtain⟨_,_,_,p⟩:=(show aZ X.prog X.w H s.heap a 203 from I.aQ a _ ea)
  obtain⟨o,h1,h2,_⟩:=p;exact ak0 PySem.W.kitx_tuple I.sX ⟨o,h1,h2⟩ e 186 h
 | @dK a aG ea=>
  cases 263;obtain⟨_,_,vs,_,p⟩:=(show aZ X.prog X.w H s.heap a 407 from I.aQ a _ ea)
  obtain⟨o,es,ep,h1,h2,_⟩:=p;exact ak0 PySem.W.kitx_dict I.sX ⟨o,h1,h2.1⟩ e 186 h
 | @dT a aG ea=>
  cases 263;obtain⟨_,_,xs,_,o,es,ep,h1,h2,_⟩:=(show aZ X.prog X.w H s.heap a (.dT aG) from I.aQ a _ ea)
  exact ak0 PySem.W.kitx_dict I.sX ⟨o,h1,h2.1⟩ e 186 h
 | @ins a C dx fs ea cl ha hn Wu hm=>
  cases 263;obtain⟨mA,O,_⟩:=G1 I.aQ ea;obtain⟨od,J,_⟩:=O.look;exact ak0 (PySem.W.kitx_own (cl.get _) cl.hd ha hn Wu hm) I.sX J e 186 h
end
structure ck(k:Nat)(A:Around):Prop where
 hd:A.handled=none
 dp:A.depth+3*k+5 < recursionLimit
 un:A.units+16*k+200 < cLine
 gd:A.guards=some []
theorem ck.mono(r:ck k A)(h:j<=k):ck j A:=⟨r.hd,by have:=r.dp;lia,by have:=r.un;lia,r.gd⟩
theorem ck.deeper(r:ck (k+1) A)(env:Env):ck k (A.deeper env):=
 ⟨r.hd,by have:=r.dp;show A.depth+1+3*k+5 < _;lia,by have:=r.un;show A.units+3+16*k+200 < _;lia,r.gd⟩
theorem ck.depth(r:ck k A):A.depth < recursionLimit:=by have:=r.dp;lia
theorem ck.units(r:ck k A):A.units+64 < cLine:=by have:=r.un;lia
theorem ck.BP(r:ck k A):A.units < cLine:=by have:=r.un;lia
def tR:TA:=fun _ H Q=>Q [] H
def mX(ta:TE)(tr:TA):TA:=fun σ H Q=>ta σ H fun x H1=>tr σ H1 fun xs H2=>Q (x::xs) H2
section
variable{X:Cx}{e:Expr}{es:List Expr}{te:TE}{t:TA}{pos:Pos}
theorem aK:PA X [] tR:=fun _ _ _ _ H Q I h=>aw1 ⟨[],H,I,.nil,h⟩
theorem aj(ha:PE X e te)(hr:PA X es t)(hs:starEach (e::es) X.env=(false,eval e X.env)::starEach es X.env:=by rfl):PA X (e::es) (mX te t):=by
 intro pos pins s σ H Q I h;rw[hs];show wpAny _ _ (spliced ((false,eval e X.env)::backTo pos (starEach es X.env))) _ _ s;refine ap7 (aU 169 fun u s1 Sf=>?_);obtain⟨x,H1,I1,r1,q1⟩:=Sf;exact aU (hr pos pins s1 σ H1 _ I1 q1) fun us s2 Se=>(by obtain⟨xs,H2,I2,r2,q2⟩:=Se;exact(⟨x::xs,H2,I2,.cons r1 r2,q2⟩))
def SM(t:TA):TE:=fun σ H Q=>t σ H fun xs H1=>xs.length<=sizeLine/\ ∀p,H1 p=none->Q 379 (upd H1 p 203)
def N8(t:TA):TE:=fun σ H Q=>t σ H fun xs H1=>xs.length<=sizeLine/\ ∀p,H1 p=none->Q 379 (upd H1 p 159)
theorem KA{x1}(h:PA X es t):PE X (.Tuple es x1 pos) (SM t):=by
 intro pins s σ H Q I hq;refine wpAny_Tuple_spliced (aU (h pos pins s σ H _ I hq) fun us s1 ⟨xs,H1,I1,r,z,q⟩=>⟨by rw[<-r.length];exact z,?_⟩);have hf:H1 s1.heap.objs.size=none:=I1.aQ.fresh (aa4 _);refine⟨.ref s1.heap.objs.size,upd H1 s1.heap.objs.size 203,I1.laid (t':=s1.toks) (fun b u e=>aa3 _ e) (aa4 _) ?_,rfl,q _ hf⟩;exact⟨z,us,r,⟨_,ab4 _ rfl,rfl,rfl,_,rfl⟩⟩
theorem rN(h:PA X es t):PE X (.List es pos) (N8 t):=by
 intro pins s σ H Q I hq;refine wpAny_List_spliced (aU (h pos pins s σ H _ I hq) fun us s1 ⟨xs,H1,I1,r,z,q⟩=>⟨by rw[<-r.length];exact z,?_⟩);have hf:H1 s1.heap.objs.size=none:=I1.aQ.fresh (aa4 _);refine⟨.ref s1.heap.objs.size,upd H1 s1.heap.objs.size 159,I1.laid (t':=s1.toks) (fun b u e=>aa3 _ e) (aa4 _) ?_,rfl,q _ hf⟩;exact⟨z,us,0,r,ab4 _ rfl⟩
end
abbrev Sp:=List V->Hp->VK->XK->Prop
abbrev JG:=List Env->Hp->Shared->XK->Value->Shared->Prop
structure Ic(P:Program)(w:World)(K:PySem.W.Frag)(mg:Str->Option Value)(base:Heap)(A:Around)(outer:List Env)(s:Shared)(H:Hp):Prop where
 frames:A.frames=some outer
 mod:Mod K mg base
 bs: ∀b o,base.get? b=some o->s.heap.get? b=some o/\H b=none
 HK:base.objs.size<=s.heap.objs.size
 og:s.heap.FunFrames base outer
 NG: ∀b∈oM outer,H b=none
 aQ:iA P w H s.heap
 bare:AllBare s.gens
 tab:iz K H
def CE(outer:List Env)(P:Program)(w:World)(H:Hp)(s:Shared)(Q:VK)(u:Value)(s':Shared):Prop:=
 ∃v H',s'.os=s.os/\AllBare s'.gens/\Un (oM outer) [] H H' s.heap s'.heap/\iA P w H' s'.heap/\RelV v u/\Q v H'
def CR(CX:JG)(outer:List Env)(P:Program)(w:World)(H:Hp)(s:Shared)(Q:VK)(E:XK)(r:Result)(s':Shared):Prop:=
 match r with
 | .ok (.ret u)=>CE outer P w H s Q u s'
 | .ok _=>False
 | .error e=>CX outer H s E e s'
structure bh(P:Program)(w:World)(K:PySem.W.Frag)(mg:Str->Option Value)(base:Heap)(CX:JG)(k:Nat)(f:Addr)(fd:FuncData)(ps:List Str)(sp:Sp):Prop where
 len: ∀vs H Q E,sp vs H Q E->vs.length=ps.length
 run: ∀(A:Around) (outer:List Env) (s:Shared) (H:Hp) (args:Args) (us:List Value) (vs:List V) (Q:VK) (E:XK),ck k A->Ic P w K mg base A outer s H->BindsTo s fd args (ps.zip us)->Vals vs us->sp vs H Q E->
  codeAny (model P w) A (.call 399 args) (CR CX outer P w H s Q E) s
theorem bh.imp{P:Program}{w:World}{K:PySem.W.Frag}{k:Nat}(F:bh P w K mg base CX k f fd ps sp)(h: ∀vs H Q E,X3 vs H Q E->sp vs H Q E):bh P w K mg base CX k f fd ps X3:=
 ⟨fun vs H Q E q=>F.len vs H Q E (h _ _ _ _ q),fun A outer s H args us vs Q E hr he hb hv hs=>F.run A outer s H args us vs Q E hr he hb hv (h _ _ _ _ hs)⟩
theorem Inv.UW(I:Inv X pins σ H s):Ic X.prog X.w X.K X.mg X.base X.A X.stack s H:=
 ⟨I.ok.frames,I.ok.mod,I.bs,ac6 I.ok.HK I.sz,I.stack,I.qZ,I.aQ,I.bare,I.tab⟩
theorem Inv.after(I:Inv X pins σ H s)(h:CE X.stack X.prog X.w H s Q u s'):EP X pins σ Q u s':=by
 obtain⟨v,H',os,bare,un,aQ,r,q⟩:=h;obtain⟨hh,g,d,t,Ye⟩:=s';obtain rfl:Ye=s.os:=os;exact⟨v,H',I.call (h':=hh) (g':=g) (d':=d) (t':=t) (ch:= []) un aQ bare (fun b z=>absurd z 112),r,q⟩
def B9(sp:Sp)(Ml:List V)(E:XK)(t:TA):TE:=fun σ H Q=>t σ H fun vs H1=>sp (vs++Ml) H1 Q E
def Binds(K:PySem.W.Frag)(fd:FuncData)(ps:List Str)(ds:List Value):Prop:=
 ∀(s:Shared) (us:List Value),K.In s.heap->(us++ds).length=ps.length->BindsTo s fd ⟨us,[]⟩ (ps.zip (us++ds))
theorem Binds.all{K:PySem.W.Frag}{ps:List Str}(h: ∀us:List Value,us.length=ps.length->bindArgs fd ⟨us,[]⟩=pure (ps.zip us)):Binds K fd ps []:=fun s us _ hl=>by
 rw[ah8] at hl ⊢;exact .of_eq (h us hl)
def Passes(CX:JG)(X:Cx)(E:XK):Prop:= ∀(pins:List 123) (σ:St) (H:Hp) (s:Shared) (e:Value) (s':Shared),Inv X pins σ H s->CX X.stack H s E e s'->X.xe e s'
theorem Kh(F:bh X.prog X.w X.K X.mg X.base CX k f fd ps sp)(hr:ck k X.A)(hb:Binds X.K fd ps ds)(hd:Vals Ml ds)(hx:Passes CX X E)(I:Inv X pins σ H s)(r:Vals vs us)(h:sp (vs++Ml) H Q E):wpAny 106 X.A (call 399 us) 253 X.xe s:=by
 have r2:Vals (vs++Ml) (us++ds):=r.append hd;have hl:(us++ds).length=ps.length:=by rw[<-r2.length];exact F.len _ _ _ _ h
 refine wpAny_call (au2 (F.run X.A X.stack s H ⟨us,[]⟩ (us++ds) (vs++Ml) Q E hr I.UW (hb s us I.sX hl) r2 h) fun r s' hq=>?_);cases r with
 | error e=>exact hx pins σ H s e s' I hq
 | ok fl=>
  cases fl with
  | ret u=>exact I.after hq
  | next=>exact False.elim hq
  | brk=>exact False.elim hq
  | cont=>exact False.elim hq
theorem GC(F:bh X.prog X.w X.K X.mg X.base CX k f fd ps sp)(hr:ck k X.A)(hg:Gl X x)(hm:X.mg x=some 399)(hk:PySem.W.keepIn X.K 399=true)(hb:Binds X.K fd ps ds)(hd:Vals Ml ds)(hx:Passes CX X E)
  (ha:PA X (e::es) t) (oK:146=false:=by decide) (he:starEach (e::es) X.env=(false,eval e X.env)::starEach es X.env:=by rfl) (dM:(151).any (·.1)=false:=by rfl):
  PE X 189 (B9 sp Ml E t):=by
 intro pins s σ H Q I h;refine al7 (GW I hg hm ?_ oK);refine PySem.W.callWith_K (h₀:=X.base) I.ok.mod.Tr hk (aU 156 fun us s1 ⟨vs,H1,I1,r,q⟩=>⟨I1.sX,?_⟩) he dM;exact Kh F hr hb hd hx I1 r q
def PK(X:Cx)(iV:List Keyword)(t:TA):Prop:=
 ∀(pos:Pos) (pins:List 123) (s:Shared) (σ:St) (H:Hp) (Q:List V->Hp->Prop),Inv X pins σ H s->t σ H Q->wpAny 106 X.A (evalAll ((116).map (·.2))) (AP X pins σ Q) X.xe s
theorem v5:PK X [] tR:=fun _ _ _ _ H Q I h=>wpAny_evalAll_nil ⟨[],H,I,.nil,h⟩
theorem rL(ha:PE X e te)(hr:PK X iV t):PK X (⟨nm,e,kQ⟩::iV) (mX te t):=by
 intro pos pins s σ H Q I h;show wpAny _ _ (evalAll ((do let v<-eval e X.env;standAt pos;pure v)::(116).map (·.2))) _ _ s;refine wpAny_evalAll_cons (aa0 (aU 169 fun u s1 ⟨x,H1,I1,r1,q1⟩=>aa0 (ak4 357)));exact aU (hr pos pins s1 σ H1 _ I1 q1) fun us s2 Sd=>(by obtain⟨xs,H2,I2,r2,q2⟩:=Sd;exact(⟨x::xs,H2,I2,.cons r1 r2,q2⟩))
structure aH(N P:List Str)(sc:Scope):Prop where
 kind:sc.kind= .function
 co:sc.isCoroutine=false
 gen:sc.isGenerator=false
 nd:N.Nodup
 pre:N.take P.length=P
 par: ∀x∈P,sc.names.lookup x=some .local\/sc.names.lookup x=some .cell
 K1: ∀y∈sc.names,y.2≠ .free
theorem qB{kindOf:Str->Option NameKind}: ∀{binds:List (Str × Value)} {m:Str->Option Value},(∀v,(x,v)∉binds)->bindL kindOf binds m x=m x
 | [],_,_=>rfl
 | (n,v)::r,m,h=>by
  unfold bindL;rw[qB fun w hw=>h w (ab6 _ hw)];split
  . have:x≠n:=by rintro rfl;exact h v ac4
    simp [this]
  . rfl
theorem qD{kindOf:Str->Option NameKind}: ∀{binds:List (Str × Value)} {m:Str->Option Value},(∀v,(x,v)∉binds)->bindC kindOf binds m x=m x
 | [],_,_=>rfl
 | (n,v)::r,m,h=>by
  unfold bindC;rw[qD fun w hw=>h w (ab6 _ hw)];split
  . rfl
  . have:x≠n:=by rintro rfl;exact h v ac4
    simp [this]
theorem qC{kindOf:Str->Option NameKind}: ∀{P:List Str} {vs:List Value} {i:Nat} {m:Str->Option Value},P.Nodup->P[i]?=some x->vs[i]?=some v->kindOf x=some .local->
  bindL kindOf (P.zip vs) m x=some v
 | [],_,_,_,_,h,_,_=>by simp at h
 | _::_,[],_,_,_,_,h,_=>by simp at h
 | p::P,w::vs,0,m,nd,h1,h2,hk=>by
  simp at h1 h2;subst h1;subst h2;show bindL kindOf ((p,w)::P.zip vs) m p=_;unfold bindL;rw[qB fun v hv=>(ak8.mp nd).1 (List.of_mem_zip hv).1,if_pos hk];simp
 | p::P,w::vs,i+1,m,nd,h1,h2,hk=>by
  show bindL kindOf ((p,w)::P.zip vs) m x=_;unfold bindL;exact qC (i:=i) (ak8.mp nd).2 245 244 hk
theorem qE{kindOf:Str->Option NameKind}: ∀{P:List Str} {vs:List Value} {i:Nat} {m:Str->Option Value},P.Nodup->P[i]?=some x->vs[i]?=some v->kindOf x≠some .local->
  bindC kindOf (P.zip vs) m x=some v
 | [],_,_,_,_,h,_,_=>by simp at h
 | _::_,[],_,_,_,_,h,_=>by simp at h
 | p::P,w::vs,0,m,nd,h1,h2,hk=>by
  simp at h1 h2;subst h1;subst h2;show bindC kindOf ((p,w)::P.zip vs) m p=_;unfold bindC;rw[qD fun v hv=>(ak8.mp nd).1 (List.of_mem_zip hv).1,if_neg hk];simp
 | p::P,w::vs,i+1,m,nd,h1,h2,hk=>by
  show bindC kindOf ((p,w)::P.zip vs) m x=_;unfold bindC;exact qE (i:=i) (ak8.mp nd).2 245 244 hk
def start(N:List Str)(vs:List V):St:=vs.map some++List.replicate (N.length - vs.length) none
def k9(CX:JG)(P:Program)(w:World)(K:PySem.W.Frag)(mg:Str->Option Value)(base:Heap)(N:List Str)(qual:Str)(scope:Scope)(f:Addr)(cd:Value)(A:Around)(outer:List Env)(s:Shared)(H:Hp)(E:XK):Cx where
 prog:=P
 w:=w
 K:=K
 mg:=mg
 base:=base
 A:=A.deeper 219
 N:=N
 s₀:=s
 H₀:=H
 env:=envOfC qual scope s.heap.objs.size f cd
 outer:=outer
 stack:=envOfC qual scope s.heap.objs.size f cd::outer
 ex:= []
 calm:=true
 fn:=fun _=>true
 pn:= []
 xe:=fun e s'=>wpAny (model P w) (A.deeper 219) (leaving 219 e) (fun _ sW=>CX outer H s E e sW) (fun e' sW=>CX outer H s E e' sW) s'
theorem j9{sc:Scope}(h:sc.names.lookup x=some .cell): ∃c,(cellsFrom n sc.names []).lookup x=some c:=by
 have q:=PySem.W.cellsFrom_some sc.names n [] (.inl h);exact av1.mp q
theorem Ap{CX:JG}{P:Program}{w:World}{K:PySem.W.Frag}{A:Around}{vs:List V}(S:aH N ps scope)(hd:A.handled=none)(e0:Ic P w K mg base A outer s H)(hl:vs.length=ps.length)(r:Vals vs us)(x:InCallC s s.heap.objs.size (bindL (219).kindOf (ps.zip us) fun _=>none) (cellsFrom 143 scope.names []) (bindC (219).kindOf (ps.zip us) fun _=>none) s1):
  Inv (k9 CX P w K mg base N qual scope f cd A outer s H E) [] (start N vs) H s1:=by
 have dM:ps.length<=N.length:=by have:=ai5 List.length S.pre;rw[al6] at this;lia
 obtain⟨h1,tk,rfl,hk⟩:=x.done;have OZ: ∀b:Addr,b∉(k9 CX P w K mg base N qual scope f cd A outer s H E).ex:=fun b z=>absurd (show b∈176 from z) 112;refine⟨⟨e0.mod,S.kind,rfl,rfl,aa4 _,fun y z c h1 h2=>?_,fun y hy=>?_,fun y c _ h=>?_,fun _=>hd,Around.frames_deeper e0.frames,.inr ⟨rfl,rfl⟩,fun b z=>absurd z (OZ b),e0.bs,e0.HK,fun b _ _=>OZ b,fun b z=>absurd z (OZ b),e0.og,e0.NG,e0.tab⟩,
  rfl,e0.bare,Un.kept hk,⟨_,x.toInCall.ns,fun i y v h1 h2 h3=>?_⟩,fun y c h=>⟨_,x.cell y c h⟩,e0.aQ.fresh (aa4 _),fun y c h=>?_,fun p hp=>absurd (show p∈([]:List 123) from hp) 112,e0.aQ.kept hk,?_⟩
 . exact name_of_addr x.apart (af7 h1) (af7 h2)
 . have hy:scope.names.lookup y=some .cell\/scope.names.lookup y=some .free:=hy;rcases hy with hy | hy
   . exact j9 hy
   . exact absurd rfl (S.K1 _ (af7 hy))
 . exact al3 (x.above y c (af7 h))
 . have hi : i < vs.length := by
     unfold start at h2;by_cases hi:i < vs.length
     . exact hi
     . rw[ae7 (by simpa using hi)] at h2;rw[ad2] at h2;split at h2 <;> cases h2
   have ha:vs[i]?=some v:=by
    unfold start at h2;rw[ad7 (by simpa using hi),aa6] at h2;cases e:vs[i]? with
    | none=>rw[e] at h2;cases h2
    | some a=>rw[e] at h2;cases h2;rfl
   obtain⟨u,hu,rv⟩:=r.get ha;have hp:ps[i]?=some y:=by
    rw[<-S.pre,List.getElem?_take_of_lt 101];exact h1
   have Wl:ps.Nodup:=by rw[<-S.pre];exact S.nd.sublist (List.take_sublist _ _)
   refine⟨u,rv,?_⟩;rcases S.par y (ac7 hp) with k | k
   . exact .inl ⟨k,qC Wl hp hu k⟩
   . obtain⟨c,e⟩:=j9 (n:=s.heap.objs.size+1) k;refine .inr ⟨.inl k,c,e,?_⟩;have q:=x.cell y c e;rw[qE Wl hp hu (by show scope.names.lookup y≠_;rw[k];decide)] at q;exact q
 . exact e0.aQ.fresh (al3 (x.above y c (af7 h)))
 . unfold start;show _=N.length;rw[ab8,aa2,an4];lia
theorem IZ {CX : JG} {P : Program} {w : World} {K : PySem.W.Frag} {mg : Str -> Option Value} {base : Heap} {k : Nat} {f : Addr} {name qual : Str} {params : Arguments} {body : List Stmt} {scope : Scope} {dV kV doc pm bK ct oc : Value} (lk : K.lookup f = some ⟨oc, od, .func (PySem.W.fnOf name qual params body scope dV kV doc pm an bK ct), zR⟩) (tf : PySem.W.codeIn K bK qual = true) (S : aH N ps scope) (len : ∀ vs H Q E, sp vs H Q E -> vs.length = ps.length) (eO : ∀ (A : Around) (outer : List Env) (s : Shared) (H : Hp) (vs : List V) (Q : VK) (E : XK), ck k (A.deeper (envOfC qual scope s.heap.objs.size f bK)) -> sp vs H Q E ->
   ∃t,qG 293 body t/\t {nx:=fun _ H'=>Q .aC H',rt:=Q} (start N vs) H):
  bh P w K mg base CX (k+1) f (PySem.W.fnOf name qual params body scope dV kV doc pm an bK ct) ps sp:=by
 refine⟨len,fun A outer s H args us vs Q E hr e0 hb r IL=>?_⟩;have hl:=len _ _ _ _ IL;have KX:K.In s.heap:=e0.mod.Tr.keeps fun b o e=>(e0.bs b o e).1;have lim:s.heap.NoLimit:=e0.mod.nolimit.keeps fun b o e=>(e0.bs b o e).1;have PN: ∀y∈ps.zip us,scope.names.lookup y.1=some .local\/(scope.names.lookup y.1=some .cell/\((cellsFrom 143 scope.names []).lookup y.1).isSome=true):=fun Sb hy=>(by obtain⟨n,v⟩:=Sb;exact(by
  rcases S.par n (List.of_mem_zip hy).1 with q | q
  . exact .inl q
  . exact .inr ⟨q,PySem.W.cellsFrom_some _ _ _ (.inl q)⟩))
 refine codeAny_call_function hr.depth (KX _ _ lk) rfl S.co S.gen rfl (PySem.W.codeRec_of KX tf) (hb _ _ _ _ ?_);refine wpAny_newFunctionEnv_cells S.kind PN fun env he s1 x=>?_;subst he;refine⟨lim.keeps x.toInCall.keep,codeAny_func ?_⟩;obtain⟨t,ht,hq⟩:=eO A outer s H vs Q E (hr.deeper _) IL;have I:Inv 293 [] (start N vs) H s1:=Ap S hr.hd e0 hl r x;refine ae0 (ht [] s1 (start N vs) H _ I hq) (fun fl s' hs=>?_) fun e s' hs=>hs;have fin: ∀{σ':St} {H':Hp} {v:V} {u:Value},Inv 293 [] σ' H' s'->RelV v u->Q v H'->CE outer P w H s Q u s':=
  fun{σ' H' v u} J rv q=>⟨v,H',J.os,J.bare,J.base,J.aQ,rv,q⟩
 cases fl with
 | ret u=>
  obtain⟨v,σ',H',J,rv,q⟩:=hs;exact fin J rv q
 | next=>
  obtain⟨σ',H',J,q⟩:=hs;exact fin (v:=V.aC) (u:=Value.none) J rfl q
 | brk=>
  obtain⟨_,_,_,q⟩:=hs;exact False.elim q
 | cont=>
  obtain⟨_,_,_,q⟩:=hs;exact False.elim q
section
variable{X:Cx}{x:Str}{p pos:Pos}{e:Expr}{es:List Expr}{t:TA}{id T:String}{r:List V->Hp->VK->Prop}
def SW(r:List V->Hp->VK->Prop)(t:TA):TE:=fun σ H Q=>t σ H fun vs H1=>r vs H1 Q
theorem eI(hc:dJ X 361 r)(hg:Gl X x)(hm:X.mg x=none)(hv:bootBuiltins x=some 361)(ha:PA X (e::es) t)(hn:x≠"__name__":=by decide)(oK:146=false:=by decide)
  (he:starEach (e::es) X.env=(false,eval e X.env)::starEach es X.env:=by rfl) (dM:(151).any (·.1)=false:=by rfl):PE X 189 (SW r t):=by
 intro pins s σ H Q I h;refine al7 (bV I hg hm hv ?_ hn oK);exact PyProof.Rows.callWith_builtin1 (aU 156 fun us s1 Sa=>(by obtain⟨vs,H1,I1,r1,q1⟩:=Sa;exact(hc pins s1 σ H1 vs us Q I1 r1 q1))) he dM
theorem eg(hc:dJ X 397 r)(hg:Gl X x)(hm:X.mg x=none)(hv:bootBuiltins x=some 397)(ha:PA X (e::es) t)(hn:x≠"__name__":=by decide)(oK:146=false:=by decide)
  (he:starEach (e::es) X.env=(false,eval e X.env)::starEach es X.env:=by rfl) (dM:(151).any (·.1)=false:=by rfl):PE X 189 (SW r t):=by
 intro pins s σ H Q I h;refine al7 (bV I hg hm hv ?_ hn oK);exact ag7 (aU 156 fun us s1 R9=>(by obtain⟨vs,H1,I1,r1,q1⟩:=R9;exact(hc pins s1 σ H1 vs us Q I1 r1 q1))) he dM
end
end L2
namespace HT
open PySem PyProof.Rows
theorem Cu(A:Around)(s:Shared)(a:Int)(t:Tok)(c:Int)(u:Tok)(prog:Program)(w:World)(E:Value->Shared->Prop)(Q:Value->Shared->Prop)(h:Q (.bool (decide (a < c))) s):
  wpAny 110 A (richCompare .Lt (.int a t) (.int c u)) Q E s:=
 (PyProof.Rows.lt_int h:wpAny 110 A (compareOp .Lt (.int a t) (.int c u)) Q E s)
section
variable{prog:Program}{w:World}{A:Around}{E:Value->Shared->Prop}{s:Shared}
theorem HI{vs ws:List Value}(ht:IsTup s.heap t vs.toArray)(hb:IsTup s.heap b ws.toArray)(hv:vs≠ [])(h1:ws= []->Q (.ref t) s)(h2:ws≠ []->Q 126 {s with heap:=s.heap.push {cls:= .type "tuple",data:= .seq (vs++ws).toArray}})(hsz:vs.length+ws.length<=sizeLine):wpAny 110 A (binaryOp .Add (.ref t) (.ref b)) Q E s:=by
 obtain⟨⟨cls,dd,data,sl⟩,ho,hc,n,hd⟩:=id ht;obtain⟨⟨Vv,NI,data2,Ir⟩,Ny,Ay,n2,hd2⟩:=id hb;simp only at hc hd Ay hd2;subst hc hd Ay hd2;have e:vs.toArray++ws.toArray=(vs++ws).toArray:=by simp
 by_cases hw:ws= []
 . exact concat_meets ⟨_, ho, rfl⟩ ⟨_, Ny, rfl⟩ noFill_tuple_add seq_tuple_add PySem.F.slot_tuple_add av6 (av0 _ _)
     (tuple_addW1 t b vs.toArray ws.toArray n n2 dd NI sl Ir (by simpa using hv) (by simp [hw])) ⟨ho,Ny,h1 hw⟩
 . refine concat_meets ⟨_, ho, rfl⟩ ⟨_, Ny, rfl⟩ noFill_tuple_add seq_tuple_add PySem.F.slot_tuple_add av6 (av0 _ _)
     (tuple_addW2 t b vs.toArray ws.toArray n n2 dd NI sl Ir (by simpa using hv) (by simpa using hw) (by rw[ab5,ab5];exact hsz)) ⟨ho,Ny,?_⟩
   rw[e];exact h2 hw
def cT(n d:Nat):Option Int->Nat
 | none=>d
 | some v=>if v < 0 then(v+(n:Int)).toNat else min v.toNat n
theorem Co(n d:Nat):cT n d none=d:=rfl
theorem Gd(n d k:Nat):cT n d (some (k:Int))=min k n:=by
 show(if (k:Int) < 0 then((k:Int)+(n:Int)).toNat else min (k:Int).toNat n)=min k n;rw[if_neg 101,ae5]
theorem Kb(n d:Nat)(hd:d<=n)(o:Option Int):cT n d o<=n:=by
 cases o with
 | none=>exact hd
 | some v=>
  show(if v < 0 then(v+(n:Int)).toNat else min v.toNat n)<=n;by_cases hv:v < 0
  . rw[if_pos hv];lia
  . rw[if_neg hv];exact Nat.min_le_right _ _
theorem zd(v:Int)(n d:Nat):(if v < 0 then max (v+(n:Int)) 0 else min v (n:Int))=((cT n d 356:Nat):Int):=by
 show(if v < 0 then max (v+(n:Int)) 0 else min v (n:Int))=(((if v < 0 then(v+(n:Int)).toNat else min v.toNat n):Nat):Int)
 by_cases hv:v < 0
 . simp only [if_pos hv];lia
 . simp only [if_neg hv];lia
theorem xE(lo hi:Option Int)(n:Nat):Builtin.Slice.sliceAdjust lo hi 1 (n:Int)=((((cT n 0 lo:Nat):Int)),((cT n n hi:Nat):Int)):=by
 have h1: ¬((1:Int) < 0):=by lia
 unfold Builtin.Slice.sliceAdjust;simp only [h1,if_false];refine Prod.ext ?_ ?_
 . cases lo with
   | none=>rfl
   | some v=>exact zd v n 0
 . cases hi with
   | none=>rfl
   | some v=>exact zd v n n
theorem v3(i j:Nat):Builtin.Slice.slicePlaces (i:Int) (j:Int) 1=j - i:=by
 unfold Builtin.Slice.slicePlaces;have h1:(1:Int) > 0:=by lia
 simp only [h1,if_true,Int.ediv_one];split <;> lia
theorem m6(p:IsPart v o)(h:Q o s):wpAny 110 A (Builtin.Slice.slicePartIndex v) Q E s:=by
 cases p with
 | none=>exact slicePart_none h
 | int i t=>exact slicePart_int h
theorem fK{sl:Addr}{vl vu:Value}{lo hi:Option Int}{n:Nat}{Q:Int × Int × Nat->Shared->Prop}(hs:s.heap.IsSliceOf sl vl vu .none)(pl:IsPart vl lo)(pu:IsPart vu hi)
  (h:Q ((((cT n 0 lo:Nat):Int)),1,cT n n hi - cT n 0 lo) s):wpAny 110 A (Builtin.Slice.sliceApplied (.ref sl) (pure (n:Int))) Q E s:=by
 obtain⟨os,Lz,RL,PU⟩:=id hs;unfold Builtin.Slice.sliceApplied Builtin.Slice.sliceFields;refine aa0 (aa0 (aj9 Lz PU (x:=vl) rfl (aa0 (aj9 Lz PU (x:=vu) rfl (aa0 (aj9 Lz PU (x:= .none) rfl 357))))));refine aa0 (slicePart_none ?_);show wpAny _ _ (if ((1:Int)==0)=true then _ else _) _ _ s;rw[if_neg 105];refine aa0 (m6 pl (aa0 (m6 pu (aa0 357))));show wpAny _ _ (match Builtin.Slice.sliceAdjust lo hi 1 (n:Int) with | (lo,hi)=>pure (lo,(1:Int),Builtin.Slice.slicePlaces lo hi 1)) _ _ s;rw[xE lo hi n];show wpAny _ _ (pure ((((cT n 0 lo:Nat):Int)),(1:Int),Builtin.Slice.slicePlaces (((cT n 0 lo:Nat):Int)) ((cT n n hi:Nat):Int) 1)) _ _ s;rw[v3];exact aa7 h
theorem CG(xs:Array Value)(i k:Nat):((List.range k).filterMap fun(m:Nat)=>xs[((i:Int)+(m:Int)*1).toNat]?).toArray=((xs.toList.drop i).take k).toArray:=by
 have e:(fun(m:Nat)=>xs[((i:Int)+(m:Int)*1).toNat]?)=fun m=>xs[i+m]?:=by
  funext m
  have:((i:Int)+(m:Int)*1).toNat=i+m:=by lia
  rw[this]
 rw[e];have:=pick_run xs i k;rw[List.filterMap_map] at this;have e2:((fun x=>xs[x]?) ∘ fun x=>i+x)=fun m=>xs[i+m]?:=rfl;rw[e2] at this;rw[this]
theorem jV{t sl:Addr}{items:Array Value}{vl vu:Value}{lo hi:Option Int}(ht:IsTup s.heap t items)(hs:s.heap.IsSliceOf sl vl vu .none)(pl:IsPart vl lo)(pu:IsPart vu hi)(hw: ¬(cT items.size 0 lo=0/\cT items.size items.size hi=items.size))(h:Q 126 {s with heap:=s.heap.push {cls:= .type "tuple",data:= .seq (184).toArray}})(hsz:items.size<=sizeLine):wpAny 110 A (getItem (.ref t) (.ref sl)) Q E s:=by
 have yO:sizeOk (.seq (184).toArray):=by
  show(184).toArray.size<=sizeLine;rw[ab5,al6,at4,ac5];lia
 have hj:cT items.size items.size hi<=items.size:=Kb _ _ (aa4 _) hi;obtain⟨os,Lz,RL,PU⟩:=id hs;have UE:s.TypeIs (.ref sl) "slice":=⟨os,Lz,RL⟩
 unfold getItem;try with_reducible refine ag2 ?_
 first | refine aa0 357 | skip
 refine aa0 (wpAny_sequenceKey ht.typeIs 105 ?_);refine aa0 (am1 (name:=Str.ofString "__getitem__") ht.typeIs an6
  (ao8 an6 ht.typeIs entry_tuple_getitem ?_ (args_tuple_getitem _ _)))
 show wpAny _ _ (Builtin.Tuple.tupleItemsOf (.ref t) >>=_) _ _ s;refine aa0 (tupleItemsOf_ ht ?_);refine aa0 (wpAny_typeOf UE ?_);rw[if_pos 105];refine aa0 (fK hs pl pu ?_);have YQ: ¬(((((cT items.size 0 lo:Nat):Int))==0 && (1:Int)==1 && (cT items.size items.size hi - cT items.size 0 lo)==items.size)=true):=by
  intro q;rw[ak3,ak3] at q;have q1:(((cT items.size 0 lo:Nat):Int))=0:=eq_of_beq q.1.1;have q2:cT items.size items.size hi - cT items.size 0 lo=items.size:=eq_of_beq q.2;exact hw 205
 show wpAny _ _ (if ((((cT items.size 0 lo:Nat):Int))==0 && (1:Int)==1 && (cT items.size items.size hi - cT items.size 0 lo)==items.size)=true then _ else _) _ _ s;rw[if_neg YQ,CG];first
  | exact aa0 (m:=Builtin.Tuple.tupleExact _) (ai0 (aa7 ⟨_,rfl,aa7 h⟩) yO)
  | exact aa0 (m:=Builtin.Tuple.tupleExact _) (ai0 (aa0 (aa7 (aa7 ⟨_,rfl,aa7 h⟩))) yO)
  | exact aa0 (aa0 (m:=Builtin.Tuple.tupleExact _) (ai0 (aa7 (aa7 ⟨_,rfl,aa7 h⟩)) yO))
  | exact aa0 (aa0 (m:=Builtin.Tuple.tupleExact _) (ai0 (aa7 ⟨_,rfl,aa7 h⟩) yO))
end
end HT
namespace L2
open PySem PySem.Spec PyProof.Rows
abbrev TO:=St->Hp->(Option Int->Hp->Prop)->Prop
def PO(X:Cx)(e:Option Expr)(t:TO):Prop:=
 ∀(pins:List 123) (s:Shared) (σ:St) (H:Hp) (Q:Option Int->Hp->Prop),Inv X pins σ H s->t σ H Q->
  wpAny 106 X.A (evalPart e X.env) (fun u s'=> ∃o H',Inv X pins σ H' s'/\IsPart u o/\Q o H') X.xe s
def F3:TO:=fun _ H Q=>Q none H
def N3(t:TE):TO:=fun σ H Q=>t σ H fun x H1=> ∃i,x= .int i/\Q (some i) H1
theorem intsAre_of{ns:List Int}: ∀{us:List Value},Vals 131 us->IntsAre us ns:=by
 induction ns with
 | nil=>intro us r;rw[au5] at r;cases r;exact .nil
 | cons n ns ih=>
  intro us r;rw[ac2] at r;cases r with
  | cons r1 r2=>
   obtain⟨t,e⟩:=r1;subst e;exact .cons n t (ih r2)
section
variable{X:Cx}{e:Expr}{te:TE}{lo hi:Option Expr}{tl th:TO}{pos p2:Pos}
theorem yw:PO X none F3:=by
 intro pins s σ H Q I h;rw[evalPart_none];exact aa7 ⟨none,H,I,.none,h⟩
theorem yv(h:PE X e te):PO X (some e) (N3 te):=by
 intro pins s σ H Q I hw;rw[evalPart_some];refine aU (h pins s σ H _ I hw) fun u s1 R8=>?_;obtain⟨x,H1,I1,r1,q1⟩:=R8;obtain⟨i,rfl,q⟩:=q1;obtain⟨t,rfl⟩:=r1;exact⟨some i,H1,I1,.int i t,q⟩
def tj(X:Cx)(r:V->Option Int->Option Int->Hp->VK->Prop):Prop:=
 ∀(pins:List 123) (s:Shared) (σ:St) (H:Hp) (x:V) (v vl vu:Value) (lo hi:Option Int) (sl:Addr) (Q:VK),Inv X pins σ H s->RelV x v->s.heap.IsSliceOf sl vl vu .none->IsPart vl lo->IsPart vu hi->r x lo hi H Q->
  ∃T id,typeLookup 397 "__getitem__"=pure (some 361)/\s.TypeIs v T/\wpAny 106 X.A (getItem v (.ref sl)) 253 X.xe s
def XX(r:V->Option Int->Option Int->Hp->VK->Prop)(te:TE)(tl th:TO):TE:=fun σ H Q=>te σ H fun x H1=>tl σ H1 fun l H2=>th σ H2 fun u H3=>r x l u H3 Q
theorem nA(hr:tj X r)(he:PE X e te)(hl:PO X lo tl)(hu:PO X hi th):PE X (.Subscript e (.Slice lo hi none p2) pos) (XX r te tl th):=by
 intro pins s σ H Q I h;refine Subscript_ (aU 324 fun v s1 R7=>?_);obtain⟨x,H1,I1,r1,q1⟩:=R7;refine wpAny_Slice (aU (hl pins s1 σ H1 _ I1 q1) fun vl s2 ⟨l,H2,I2,pl,q2⟩=>aU (hu pins s2 σ H2 _ I2 q2) fun vu s3 R6=>?_);obtain⟨u,H3,I3,pu,q3⟩:=R6;rw[evalPart_none];refine aa7 ?_;have I4:Inv X pins σ H3 {s3 with heap:=s3.heap.push {cls:= .type "slice",data:= .fields #[vl,vu,.none]}}:=I3.kept (t':=s3.toks) fun b ob q=>aa3 _ q;obtain⟨T,id,hT,ht,hg⟩:=hr pins {s3 with heap:=s3.heap.push {cls:= .type "slice",data:= .fields #[vl,vu,.none]}} σ H3 x v vl vu l u s3.heap.objs.size Q I4 r1 (Heap.IsSliceOf.new ..) pl pu q3;show wpAny 106 X.A (subscriptTail e (.Slice lo hi none p2) v (.ref s3.heap.objs.size)) 253 X.xe {s3 with heap:=s3.heap.push {cls:= .type "slice",data:= .fields #[vl,vu,.none]}};exact tail_any (ops:= [.ref s3.heap.objs.size,v]) ht hT hg (by with_unfolding_all rfl)
def l9(xs:List V)(lo hi:Option Int):List V:=(xs.drop (HT.cT xs.length 0 lo)).take 296
theorem lY(xs:List V)(lo hi:Option Int):(l9 xs lo hi).length<=xs.length:=by
 unfold l9;rw[al6,at4];lia
theorem Vals.yC(r:Vals xs us):us= []↔xs= []:=by
 cases r with
 | nil=>simp
 | cons _ _=>simp
end
def uK(n:Nat)(i:Int):Option Nat:=if 0<=i then(if i < n then some i.toNat else none) else if -(n:Int)<=i then some (i+n).toNat else none
def ke{α:Type}(xs:List α)(i:Int):Option α:=(uK xs.length i).bind fun j=>xs[j]?
theorem yH(h:uK n i=some j):seqIndex? i n=some j/\j < n/\ -(n:Int)<=i/\i < n:=by
 unfold uK at h;by_cases h0:0<=i
 . rw[if_pos h0] at h;by_cases h1:i < n
   . rw[if_pos h1] at h;have e:i.toNat=j:=Option.some.inj h;exact⟨by rw[seqIndex_of h0 h1,e],by lia,by lia,h1⟩
   . rw[if_neg h1] at h;cases h
 . rw[if_neg h0] at h;by_cases h1: -(n:Int)<=i
   . rw[if_pos h1] at h;have e:(i+n).toNat=j:=Option.some.inj h;exact⟨by rw[seqIndex_neg 101 h1,e],by lia,h1,by lia⟩
   . rw[if_neg h1] at h;cases h
theorem sS(h:ke xs i=some v): ∃j,seqIndex? i xs.length=some j/\xs[j]?=some v/\j < xs.length/\ -(xs.length:Int)<=i/\i < xs.length:=by
 unfold ke at h;cases e:uK xs.length i with
 | none=>rw[e] at h;cases h
 | some j=>
  rw[e] at h;obtain⟨h1,h2,h3,h4⟩:=yH e;exact⟨j,h1,h,h2,h3,h4⟩
theorem aI{j:Nat}(h:xs[j]?=some v):ke xs (j:Int)=some v:=by
 have hj:j < xs.length:=(aa5.mp h).1;have e:uK xs.length (j:Int)=some j:=by
  unfold uK;rw[if_pos 101,if_pos 101];simp
 unfold ke;rw[e];exact h
theorem vp(xs:List α)(v:α):ke (xs++ [v]) (-1)=some v:=by
 have hl:(xs++ [v]).length=xs.length+1:=by simp
 have e:uK (xs++ [v]).length (-1)=some xs.length:=by
  unfold uK;rw[hl,if_neg 105,if_pos 101];congr 1
  lia
 unfold ke;rw[e];show(xs++ [v])[xs.length]?=some v;simp
def mP(b:Expr):Prop:= ∀o i,subscripted b false o i=operate [o,i] (getItem o i)
def HZ(X:Cx)(r:R2):Prop:=
 ∀(value slice:Expr) (pins:List 123) (s:Shared) (σ:St) (H:Hp) (x y:V) (v u:Value) (Q:VK),Inv X pins σ H s->RelV x v->RelV y u->r x y H Q->
  subscripted slice false v u=operate [v,u] (getItem v u)->wpAny 106 X.A (subscriptTail value slice v u) 253 X.xe s
def VL(X:Cx)(id:String)(r:V->List V->Hp->VK->Prop):Prop:=
 ∀(pins:List 123) (s:Shared) (σ:St) (H:Hp) (x:V) (xs:List V) (v:Value) (us:List Value) (Q:VK),Inv X pins σ H s->RelV x v->Vals xs us->r x xs H Q->
  wpAny 106 X.A (call 361 (v::us)) 253 X.xe s
section
variable{X:Cx}{a b:Expr}{ta tb:TE}{pos:Pos}
theorem HZ.or(h:HZ X r)(h':HZ X r'):HZ X (fun x y H Q=>r x y H Q\/r' x y H Q):=by
 intro value slice pins s σ H x y v u Q I rx ry q hs;rcases q with q | q
 . exact h value slice pins s σ H x y v u Q I rx ry q hs
 . exact h' value slice pins s σ H x y v u Q I rx ry q hs
theorem yy(hr:HZ X r)(ha:PE X a ta)(hb:PE X b tb)(hs:mP b):PE X (.Subscript a b pos) (JY r ta tb):=by
 intro pins s σ H Q I h;exact Subscript_ (MX ha hb I h fun v u s2 x y H2 I2 rx ry q=>hr a b pins s2 σ H2 x y v u Q I2 rx ry q (hs _ _))
def OC(K:PySem.W.Frag):R2:=fun x y H Q=> ∃p xs i v,x= .ref p/\y= .int i/\bL K H p xs/\ke xs i=some v/\Q v H
def OA(K:PySem.W.Frag):R2:=fun x y H Q=> ∃p xs i v,x= .ref p/\y= .int i/\dF K H p xs/\ke xs i=some v/\Q v H
def OB:R2:=fun x y H Q=> ∃z i c,x= .str z/\y= .int i/\z.length<=sizeLine/\ke z.cps.toList i=some c/\Q (.str ⟨#[c]⟩) H
theorem mI:HZ X (OC X.K):=by
 intro value slice pins s σ H x y v u Q I rx ry h hs;obtain⟨p,xs,i,z,rfl,rfl,hq,he,q⟩:=h;cases rx;obtain⟨t,rfl⟩:=ry;obtain⟨ai,r,pl,hz⟩:=I.list hq;obtain⟨j,h1,h2,h3,h4,h5⟩:=sS he;obtain⟨w,ew,vw⟩:=r.get h2;have hl:=r.length;have hn:=kP;have fin:EP X pins σ Q w s:=⟨z,H,I,vw,q⟩
 by_cases h0:0<=i
 . have hj : i.toNat = j := by
     rw[seqIndex_of h0 h5] at h1;exact Option.some.inj h1
   exact item_listR pl.isList h0 101 (by rw[hj];simpa using ew) fin hs
 . have hj : (i + (ai.toArray.size : Int)).toNat = j := by
     rw[seqIndex_neg 101 h4] at h1;rw[ab5,<-hl];exact Option.some.inj h1
   exact subscriptTail_builtinR (x:=w) pl.isList.typeIs slot_list_getitem.lookup
    (wpAny_getItem_list_neg (Q:=fun r s'=>r=w/\EP X pins σ Q r s') pl.isList 101 (by rw[ab5] <;> lia) 101 (by rw[hj];simpa using ew) ⟨rfl,fin⟩) hs
theorem Lj:HZ X (OA X.K):=by
 intro value slice pins s σ H x y v u Q I rx ry h hs;obtain⟨p,xs,i,z,rfl,rfl,hq,he,q⟩:=h;cases rx;obtain⟨t,rfl⟩:=ry;obtain⟨ai,r,pl,hz⟩:=I.tuple hq;obtain⟨j,h1,h2,h3,h4,h5⟩:=sS he;obtain⟨w,ew,vw⟩:=r.get h2;have hl:=r.length;have hn:=kP;have fin:EP X pins σ Q w s:=⟨z,H,I,vw,q⟩
 exact subscriptTail_builtinR (x:=w) pl.typeIs slot_tuple_getitem.lookup
  (getItem_tuple (j:=j) (Q:=fun r s'=>r=w/\EP X pins σ Q r s') pl 101 101 (by rw[ab5,<-hl];exact h1) (by simpa using ew) ⟨rfl,fin⟩) hs
theorem Ll:HZ X OB:=by
 intro value slice pins s σ H x y v u Q I rx ry h hs;obtain⟨z,i,c,rfl,rfl,hz,he,q⟩:=h;obtain⟨t,rfl⟩:=rx;obtain⟨t',rfl⟩:=ry;obtain⟨j,h1,h2,h3,h4,h5⟩:=sS he;have hl:z.cps.toList.length=z.length:=by simp [Str.length]
 rw[hl] at h1 h4 h5;have hn:=kP;exact tail_any (typeIs_str s z t) slot_str_getitem.lookup (getItem_str (c:=c) (by
  have e1:decide (i < -(2^63:Int))=false:=ad4 101;have e2:decide (i>=2^63)=false:=ad4 101;rw[e1,e2,Bool.or_false]) (by rw[h1];simpa using h2) ⟨.str ⟨#[c]⟩,H,I.tok _,⟨_,rfl⟩,q⟩) hs
def Wb(K:PySem.W.Frag):R2:=fun x y H Q=>OC K x y H Q\/OA K x y H Q\/OB x y H Q
theorem Lm:HZ X (Wb X.K):=mI.or (Lj.or Ll)
theorem wF(ai:List Value)(n j:Nat)(u:Value):Obj.mapSeq (·.setIfInBounds j u) {cls:= .type "list",data:= .seq ai.toArray n}={cls:= .type "list",data:= .seq (ai.set j u).toArray n}:=by
 simp [Obj.mapSeq]
theorem Inv.lst{pins:List 123}{σ:St}{H:Hp}{s:Shared}{p:Addr}{xs:List V}(I:Inv X pins σ H s)(h:H p=some 159):
  ∃(ai:List Value) (n:Nat),Vals xs ai/\s.heap.get? p=some {cls:= .type "list",data:= .seq ai.toArray n}/\xs.length<=sizeLine:=by
 obtain⟨z,ai,n,r,e⟩:=I.aQ p _ h;exact⟨ai,n,r,e,z⟩
theorem Inv.K9{ai its':List Value}(I:Inv X pins σ H s)(h:H p=some 159)(ho:s.heap.get? p=some {cls:= .type "list",data:= .seq ai.toArray n})(hf:f {cls:= .type "list",data:= .seq ai.toArray n}={cls:= .type "list",data:= .seq its'.toArray n'})(r:Vals ys its')(hz:ys.length<=sizeLine)(t:Nat):
  Inv X pins σ (upd H p (.lst ys)) {s with heap:=s.heap.update p f,toks:=t}:=by
 have e:(s.heap.update p f).get? p=some {cls:= .type "list",data:= .seq its'.toArray n'}:=by
  rw[an5 f ho (by rw[hf] <;> rfl),hf]
 refine I.write (x:=p) (e:=p) (by rw[h];trivial) 301 (fun b u hb q=>(ag1 _ _ (Ne.symm hb)).trans q) ⟨_,e⟩ ?_;exact⟨hz,its',n',r,e⟩
def Oy:V->V->V->Hp->(Hp->Prop)->Prop:=fun o i v H Q=> ∃p xs k j,o= .ref p/\i= .int k/\H p=some 159/\uK xs.length k=some j/\Q (upd H p (.lst (xs.set j v)))
theorem set_list:Q3 X Oy:=by
 intro pins s σ H o i v ov iv u Q I ro ri rv h;obtain⟨p,xs,k,j,rfl,rfl,hp,hj,q⟩:=h;cases ro;obtain⟨t,rfl⟩:=ri;obtain⟨ai,n,r,ho,hz⟩:=I.lst hp;obtain⟨h1,h2,h3,h4⟩:=yH hj;have hl:=r.length;have hn:=kP;have I':Inv X pins σ (upd H p (.lst (xs.set j v))) {s with heap:=s.heap.update p (Obj.mapSeq (·.setIfInBounds j u))}:=
  I.K9 hp ho (wF ai n j u) (r.set rv j) (by rw[ad5];exact hz) s.toks
 by_cases h0:0<=k
 . have hk : k.toNat = j := by
     rw[seqIndex_of h0 h4] at h1;exact Option.some.inj h1
   exact PySem.W.ki_setAt ho h0 101 (by rw[ab5,<-hl];exact h4) (by rw[hk];exact⟨_,I',q⟩)
 . have hk : (k + (ai.toArray.size : Int)).toNat = j := by
     rw[seqIndex_neg 101 h3] at h1;rw[ab5,<-hl];exact Option.some.inj h1
   exact PySem.W.ki_setBack ho 101 (by rw[ab5,<-hl];exact h3) 101 (by rw[hk];exact⟨_,I',q⟩)
theorem rh(lo hi:Option Int)(n:Nat):(sliceBounds lo hi none n).1=((HT.cT n 0 lo:Nat):Int)/\(sliceBounds lo hi none n).2.1=((HT.cT n n hi:Nat):Int)/\(sliceBounds lo hi none n).2.2=1:=by
 refine⟨?_,?_,rfl⟩
 . cases lo with
   | none=>simp [sliceBounds,HT.cT]
   | some i=>
    simp only [sliceBounds,HT.cT,Option.getD_none,show(1:Int) > 0 by decide,if_true];by_cases h:i < 0
    . simp only [h,if_true] <;> lia
    . simp only [h,if_false] <;> lia
 . cases hi with
   | none=>simp [sliceBounds,HT.cT]
   | some i=>
    simp only [sliceBounds,HT.cT,Option.getD_none,show(1:Int) > 0 by decide,if_true];by_cases h:i < 0
    . simp only [h,if_true] <;> lia
    . simp only [h,if_false] <;> lia
theorem oU(ai:List Value)(lo hi:Option Int):slicePick ai.toArray lo hi none=((ai.drop (HT.cT ai.length 0 lo)).take (HT.cT ai.length ai.length hi - HT.cT ai.length 0 lo)).toArray:=by
 obtain⟨h1,h2,h3⟩:=rh lo hi ai.toArray.size;unfold slicePick;rw[h1,h2,h3];simp only [sliceRange_one,pick_run,ab5] <;> rfl
def S5(K:PySem.W.Frag):V->Option Int->Option Int->Hp->VK->Prop:=fun x lo hi H Q=> ∃a xs,x= .ref a/\bL K H a xs/\ ∀p,H p=none->Q 379 (upd H p (.lst (l9 xs lo hi)))
theorem ya:tj X (S5 X.K):=by
 intro pins s σ H x v vl vu lo hi sl Q I rx hs pl pu h;obtain⟨a,xs,rfl,hx,q⟩:=h;cases rx;obtain⟨ai,r,ht,hz⟩:=I.list hx;have hlen:=r.length;refine⟨"list",_,slot_list_getitem.lookup,ht.isList.typeIs,?_⟩;refine wpAny_getItem_list_slice ht.isList hs pl pu .none 112 ?_ (by rw[ab5] <;> lia);rw[oU,<-hlen];refine⟨.ref s.heap.objs.size,_,I.laid (t':=s.toks) (o:= .lst (l9 xs lo hi)) (fun b ob q=>aa3 _ q) (aa4 _) ?_,rfl,q _ (I.aQ.fresh (aa4 _))⟩;exact⟨ac6 (lY xs lo hi) hz,_,0,(r.drop (HT.cT xs.length 0 lo)).take 296,ab4 _ rfl⟩
def dm:V->Bool
 | .aC=>true
 | .bl _=>true
 | .int _=>true
 | .str _=>true
 | _=>false
def o6:V->V->Bool
 | .aC,.aC=>true
 | .bl a,.bl b=>a==b
 | .bl a,.int b=>(if a then 1 else 0)==b
 | .int a,.bl b=>a==(if b then 1 else 0)
 | .int a,.int b=>a==b
 | .str a,.str b=>a==b
 | _,_=>false
theorem w9(ry:RelV y u)(rx:RelV x v)(fy:dm y=true)(fx:dm x=true):SeqAt.EqAt A s u v (o6 y x):=by
 cases y with
 | aC=>
  cases ry;cases x with
  | aC=>cases rx;exact SeqAt.EqAt.same _
  | bl b=>cases rx;exact SeqAt.EqAt.none_bool b
  | int b=>obtain⟨t,rfl⟩:=rx;exact SeqAt.EqAt.none_int b t
  | str b=>obtain⟨t,rfl⟩:=rx;exact SeqAt.EqAt.none_str b t
  | _=>exact absurd 384 ab3
 | bl a=>
  cases ry;cases x with
  | aC=>cases rx;exact SeqAt.EqAt.bool_none a
  | bl b=>cases rx;exact SeqAt.EqAt.bool_bool a b
  | int b=>obtain⟨t,rfl⟩:=rx;exact SeqAt.EqAt.bool_int a b t
  | str b=>obtain⟨t,rfl⟩:=rx;exact SeqAt.EqAt.bool_str a b t
  | _=>exact absurd 384 ab3
 | int a=>
  obtain⟨t',rfl⟩:=ry;cases x with
  | aC=>cases rx;exact SeqAt.EqAt.int_none a t'
  | bl b=>cases rx;exact SeqAt.EqAt.int_bool a t' b
  | int b=>obtain⟨t,rfl⟩:=rx;exact SeqAt.EqAt.int_int a t' b t
  | str b=>obtain⟨t,rfl⟩:=rx;exact SeqAt.EqAt.int_str a t' b t
  | _=>exact absurd 384 ab3
 | str a=>
  obtain⟨t',rfl⟩:=ry;cases x with
  | aC=>cases rx;exact SeqAt.EqAt.str_none a t'
  | bl b=>cases rx;exact SeqAt.EqAt.str_bool a t' b
  | int b=>obtain⟨t,rfl⟩:=rx;exact SeqAt.EqAt.str_int a t' b t
  | str b=>obtain⟨t,rfl⟩:=rx;exact SeqAt.EqAt.str_str a t' b t
  | _=>exact absurd 384 ab3
 | _=>exact absurd (show false=true from fy) ab3
def w8(x:V)(u:Value):Bool:=match u with
 | .none=>o6 .aC x
 | .bool b=>o6 (.bl b) x
 | .int i _=>o6 392 x
 | .str z _=>o6 (.str z) x
 | _=>false
theorem Ed(r:RelV y u)(f:dm y=true):w8 x u=o6 y x:=by
 cases y with
 | aC=>cases r;rfl
 | bl b=>cases r;rfl
 | int i=>obtain⟨t,rfl⟩:=r;rfl
 | str z=>obtain⟨t,rfl⟩:=r;rfl
 | _=>exact absurd (show false=true from f) ab3
theorem kg: ∀{xs:List V} {us:List Value},Vals xs us->xs.all dm=true->us.any (w8 x)=xs.any fun y=>o6 y x
 | _,_,.nil,_=>rfl
 | y::xs,u::us,.cons r t,f=>by
  rw[aw3,ak3] at f;rw[ao3,ao3,Ed r f.1,kg t f.2]
theorem hU(rx:RelV x v)(fx:dm x=true): ∀{xs:List V} {us:List Value},Vals xs us->xs.all dm=true-> ∀u∈us,SeqAt.EqAt A s u v (w8 x u)
 | _,_,.nil,_=>fun u hu=>by cases hu
 | y::xs,u::us,.cons r t,f=>fun u' hu=>by
  rw[aw3,ak3] at f;rcases ad1.mp hu with rfl | hu
  . rw[Ed r f.1];exact w9 r rx f.1 fx
  . exact hU rx fx t f.2 u' hu
def Nu(x:V)(xs:List V):Bool:=xs.any fun y=>o6 y x
def Rz(K:PySem.W.Frag)(neg:Bool):R2:=fun x y H Q=> ∃p xs,y= .ref p/\(bL K H p xs\/dF K H p xs)/\dm x=true/\xs.all dm=true/\Q (.bl (if neg then !Nu x xs else Nu x xs)) H
theorem zT:lu X (compareOp .In) (Rz X.K false):=by
 intro pins s σ H x y v u Q I rx ry h;obtain⟨p,xs,rfl,hq,fx,fs,q⟩:=h;cases ry;rcases hq with hq | hq
 . obtain⟨ai,r,pl,hz⟩:=I.list hq;refine SeqAt.in_listAt (w8 x) pl.isList 242 ⟨.bl _,H,I,rfl,?_⟩;rw[show ai.toArray.any (w8 x)=ai.any (w8 x) by simp,kg r fs];exact q
 . obtain⟨ai,r,pl,hz⟩:=I.tuple hq;refine SeqAt.in_tupleAt (w8 x) pl 242 ⟨.bl _,H,I,rfl,?_⟩;rw[show ai.toArray.any (w8 x)=ai.any (w8 x) by simp,kg r fs];exact q
theorem jM:lu X (compareOp .NotIn) (Rz X.K true):=by
 intro pins s σ H x y v u Q I rx ry h;obtain⟨p,xs,rfl,hq,fx,fs,q⟩:=h;cases ry;rcases hq with hq | hq
 . obtain⟨ai,r,pl,hz⟩:=I.list hq;refine SeqAt.notIn_listAt (w8 x) pl.isList 242 ⟨.bl _,H,I,rfl,?_⟩;rw[show ai.toArray.any (w8 x)=ai.any (w8 x) by simp,kg r fs];exact q
 . obtain⟨ai,r,pl,hz⟩:=I.tuple hq;refine SeqAt.notIn_tupleAt (w8 x) pl 242 ⟨.bl _,H,I,rfl,?_⟩;rw[show ai.toArray.any (w8 x)=ai.any (w8 x) by simp,kg r fs];exact q
theorem dX:dJ X (.builtin "len") (fun xs H Q=> ∃p ys,xs= [.ref p]/\(bL X.K H p ys\/dF X.K H p ys)/\Q (.int ys.length) H):=by
 intro pins s σ H xs us Q I r h;obtain⟨p,ys,rfl,hq,q⟩:=h;obtain⟨u,rfl,rx⟩:=vals1 r;cases rx;have hn:=kP;rcases hq with hq | hq
 . obtain⟨ai,r',pl,hz⟩:=I.list hq;have hlen:=r'.length;exact Calls.call_len_list pl.isList 307 ⟨.int ys.length,H,I.tok _,⟨s.toks+1,by rw[ab5,hlen]⟩,q⟩
 . obtain⟨ai,r',pl,hz⟩:=I.tuple hq;have hlen:=r'.length;exact len_tuple pl 307 ⟨.int ys.length,H,I.tok _,⟨s.toks+1,by rw[ab5,hlen]⟩,q⟩
theorem kc:dJ X (.type "list") (fun xs H Q=> ∃p ys,xs= [.ref p]/\(bL X.K H p ys\/dF X.K H p ys)/\ ∀l,H l=none->Q (.ref l) (upd H l (.lst ys))):=by
 intro pins s σ H xs us Q I r h;obtain⟨p,ys,rfl,hq,q⟩:=h;obtain⟨u,rfl,rx⟩:=vals1 r;cases rx;have fin: ∀(ai:List Value),Vals ys ai->ys.length<=sizeLine-> ∀(h':Heap) (c':Nat),(∀b o',s.heap.get? b=some o'->h'.get? b=some o')->
   h'.get? s.heap.objs.size=some {cls:= .type "list",dict:=none,data:= .seq ai.toArray c',slots:= #[]}->EP X pins σ Q 126 {s with heap:=h'}:=fun ai r' hz h' c' kp e=>
  ⟨.ref s.heap.objs.size,_,I.laid (t':=s.toks) kp (aa4 _) (show aZ X.prog X.w _ h' _ (.lst ys) from⟨hz,ai,c',r',e⟩),rfl,q _ (I.aQ.fresh (aa4 _))⟩
 rcases hq with hq | hq
 . obtain⟨ai,r',pl,hz⟩:=I.list hq;have hlen:=r'.length;obtain⟨o,ho,hc,n,hd⟩:=pl.isList;exact call_list_seq p 301 ho hc hd (fun h' c' kp e=>fin ai r' hz h' c' kp e) 307
 . obtain⟨ai,r',pl,hz⟩:=I.tuple hq;have hlen:=r'.length;obtain⟨o,ho,hc,n,hd⟩:=pl;exact call_list_seq p (.inr rfl) ho hc hd (fun h' c' kp e=>fin ai r' hz h' c' kp e) 307
theorem i5:dJ X (.type "tuple") (fun xs H Q=> ∃p ys,xs= [.ref p]/\((bL X.K H p ys/\ ∀l,H l=none->Q (.ref l) (upd H l 412))\/(dF X.K H p ys/\Q 379 H))):=by
 intro pins s σ H xs us Q I r h;obtain⟨p,ys,rfl,h⟩:=h;obtain⟨u,rfl,rx⟩:=vals1 r;cases rx;rcases h with ⟨hq,q⟩ | ⟨hq,q⟩
 . obtain⟨ai,r',pl,hz⟩:=I.list hq;have hlen:=r'.length;refine call_tuple_list pl.isList (fun h' kp=>?_) 307;have I1:Inv X pins σ H {s with heap:=h'}:=I.kept (t':=s.toks) kp;have I2:Inv X pins σ (upd H h'.objs.size 412) {s with heap:=h'.push {cls:= .type "tuple",data:= .seq ai.toArray}}:=
    I1.laid (t':=s.toks) (fun b o e=>aa3 _ e) (aa4 _) (show aZ X.prog X.w _ _ _ 412 from⟨hz,ai,r',pE.new _ _⟩)
   exact⟨.ref h'.objs.size,_,I2,rfl,q _ 345⟩
 . obtain⟨ai,r',pl,hz⟩:=I.tuple hq;exact call_tuple_same pl ⟨.ref p,H,I,rfl,q⟩
def SE(K:PySem.W.Frag)(T:String)(x:V)(H:Hp):Prop:=match x with
 | .str _=>T="str"
 | .int _=>T="int"
 | .ref p=>(T="list"/\ ∃xs,bL K H p xs)\/(T="tuple"/\ ∃o,K.lookup p=some o/\o.cls= .type "tuple"/\o.dict=none)\/
   (T="dict"/\((∃aG,H p=some 407)\/ ∃aG,H p=some (.dT aG)))\/(T="set"/\ ∃S n,H p=some (.set S n))\/(T="tuple"/\ ∃xs,H p=some 203)
 | _=>False
theorem BQ(I:Inv X pins σ H s)(r:RelV x v)(ty:SE X.K T x H):
  s.TypeIs v T/\ ∀a,v= .ref a-> ∃ob,s.heap.get? a=some ob/\ob.dict=none:=by
 cases x with
 | str z=>
  obtain⟨t,rfl⟩:=r;cases (show T="str" from ty);exact⟨typeIs_str s z t,fun _ e=>nomatch e⟩
 | int i=>
  obtain⟨t,rfl⟩:=r;cases (show T="int" from ty);exact⟨typeIs_int s i t,fun _ e=>nomatch e⟩
 | ref p=>
  cases r;rcases ty with ⟨rfl,xs,hq⟩ | ⟨rfl,o,hk,hc,hd⟩ | ⟨rfl,hk⟩ | ⟨rfl,S,n,hk⟩ | ⟨rfl,xs,hk⟩
  . obtain⟨ai,_,pl,_⟩:=I.list hq;refine⟨pl.isList.typeIs,fun a e=>?_⟩;cases e;obtain⟨o,n,e,c,hd,_⟩:=pl;exact⟨o,e,hd⟩
  . refine⟨⟨o,I.sX p o hk,hc⟩,fun a e=>?_⟩;cases e;exact⟨o,I.sX _ o hk,hd⟩
  . have z : ∃ o, s.heap.get? p = some o /\ o.ExactDict := by
      rcases hk with ⟨aG,hk⟩ | ⟨aG,hk⟩
      . obtain⟨_,_,_,_,o,_,_,e,ex,_⟩:=I.aQ p _ hk;exact⟨o,e,ex⟩
      . obtain⟨_,_,_,_,o,_,_,e,ex,_⟩:=I.aQ p _ hk;exact⟨o,e,ex⟩
    obtain⟨o,e,ex⟩:=z;refine⟨⟨o,e,ex.1⟩,fun a e2=>?_⟩;cases e2;exact⟨o,e,ex.2.1⟩
  . obtain⟨o,_,_,_,e,ex,_⟩:=I.aQ p _ hk;refine⟨⟨o,e,ex.1⟩,fun a e2=>?_⟩;cases e2;exact⟨o,e,ex.2.1⟩
  . obtain⟨_,_,_,o,e,c,dn,_⟩:=(show aZ X.prog X.w H s.heap p 203 from I.aQ p _ hk)
    refine⟨⟨o,e,c⟩,fun a e2=>?_⟩;cases e2;exact⟨o,e,dn⟩
 | _=>exact False.elim ty
def SX(K:PySem.W.Frag)(T:String)(r:V->List V->Hp->VK->Prop)(to:TE):TE:=fun σ H Q=>to σ H fun x H1=>SE K T x H1/\r x [] H1 Q
def V2(K:PySem.W.Frag)(T:String)(r:V->List V->Hp->VK->Prop)(to:TE)(t:TA):TE:=fun σ H Q=>to σ H fun x H1=>SE K T x H1/\t σ H1 fun xs H2=>r x xs H2 Q
variable{o e:Expr}{es:List Expr}{to:TE}{t:TA}{name:Str}{apos bp:Pos}{T id:String}{r:V->List V->Hp->VK->Prop}
theorem KI(pa:PlainAttrs T)(slot:Slot T name id)(TU:typeOf 361=pure (.type "method_descriptor"))(hm:VL X id r)(ho:PE X o to)
  (eP:attributeBase o name X.env (eval o X.env)=eval o X.env:=by rfl) (eM:246=true:=by rfl):PE X (.Call (.Attribute o name apos) [] [] bp) (SX X.K T r to):=by
 intro pins s σ H Q I h;refine wpAny_Call_method0_late eP eM (aU (ho pins s σ H _ I h) fun v s1 R5=>?_);obtain⟨x,H1,I1,r1,ty,q1⟩:=R5;obtain⟨h1,h2⟩:=BQ I1 r1 ty;exact⟨T,id,pa,slot,TU,h1,h2,Calls.callWith_builtin rfl (PySem.evalArgs_none (hm pins s1 σ H1 x [] v [] Q I1 r1 .nil q1))⟩
theorem t9(pa:PlainAttrs T)(slot:Slot T name id)(TU:typeOf 361=pure (.type "method_descriptor"))(hm:VL X id r)(ho:PE X o to)(ha:PA X (e::es) t)
  (eP:attributeBase o name X.env (eval o X.env)=eval o X.env:=by rfl)
  (n8:((backTo bp (starEach (e::es) X.env)).all (fun x=>!x.1) && (backToKw bp (keywordEach [] X.env)).all (fun x=>x.1.isSome)
   && decide ((e::es).length+([]:List Keyword).length+(if ([]:List Keyword).isEmpty then 0 else 1) < 30))=true:=by rfl)
  (eM:246=true:=by rfl) (hs:starEach (e::es) X.env=(false,eval e X.env)::starEach es X.env:=by rfl) (eL:(backTo bp (starEach es X.env)).any (·.1)=false:=by rfl):
  PE X (.Call (.Attribute o name apos) (e::es) [] bp) (V2 X.K T r to t):=by
 intro pins s σ H Q I h;refine wpAny_Call_method_late eP n8 eM rfl (aU (ho pins s σ H _ I h) fun v s1 R4=>?_);obtain⟨x,H1,I1,r1,ty,q1⟩:=R4;obtain⟨h1,h2⟩:=BQ I1 r1 ty;refine⟨T,id,pa,slot,TU,h1,h2,?_⟩;have hA:=ha bp pins s1 σ H1 _ I1 q1;rw[hs] at hA ⊢;refine Calls.callWith_builtin (by show(false || (backTo bp (starEach es X.env)).any (·.1))=false;rw[eL] <;> rfl) (Calls.evalArgs_plain ?_);exact aU hA fun us s2 R3=>(by obtain⟨vs,H2,I2,r2,q2⟩:=R3;exact(hm pins s2 σ H2 x vs v us Q I2 r1 r2 q2))
end
def RW(X:Cx)(id:String)(r:V->List V->Hp->VK->Prop):Prop:=
 ∀(pins:List 123) (s:Shared) (σ:St) (H:Hp) (x:V) (xs:List V) (v:Value) (us:List Value) (Q:VK),Inv X pins σ H s->RelV x v->Vals xs us->r x xs H Q->
  wpAny 106 X.A (call 361 (v::us)) 253 X.xe s
theorem Vals.one: ∀{x:V} {us:List Value},Vals [x] us-> ∃u,us= [u]/\RelV x u
 | _,_,.cons r .nil=>⟨_,rfl,r⟩
theorem Vals.zero: ∀{us:List Value},Vals [] us->us= []
 | _,.nil=>rfl
theorem Vals.reverse(h:Vals xs us):Vals xs.reverse us.reverse:=by
 induction h with
 | nil=>exact .nil
 | cons r t ih=>rw[av9,av9];exact Vals.append ih (.cons r .nil)
theorem Vals.rep(h:Vals xs us): ∀k:Nat,Vals (List.replicate k xs).flatten (List.replicate k us).flatten
 | 0=> .nil
 | k+1=>by
  rw[am4,am4,ag5,ag5];exact Vals.append h (Vals.rep h k)
theorem foldl_rep(ai:List Value): ∀(k:Nat) (acc:List Value),
  List.foldl (fun x1 x2=>x1++x2) acc.toArray (List.replicate k ai.toArray)=(acc++(List.replicate k ai).flatten).toArray
 | 0,acc=>by simp
 | k+1,acc=>by
  have e:acc.toArray++ai.toArray=(acc++ai).toArray:=by simp
  have e2:(acc++ai)++(List.replicate k ai).flatten=acc++(List.replicate (k+1) ai).flatten:=by
   rw[am4,ag5,ag6]
  rw[<-e2,<-foldl_rep ai k (acc++ai),<-e,am4,List.foldl_cons]
theorem Inv.La{ai its':List Value}(I:Inv X pins σ H s)(hH:H l=some 159)(e:s.heap.get? l=some {cls:= .type "list",data:= .seq ai.toArray n})(hf:f ai.toArray=its'.toArray)(hv:Vals ys its')(hz:ys.length<=sizeLine):
  Inv X pins σ (upd H l (.lst ys)) {s with heap:=s.heap.update l (Obj.mapSeq f),toks:=t'}:=by
 have q:=PySem.IsL.update e f;rw[hf] at q;refine I.write (x:=l) (e:=l) (by rw[hH];exact trivial) 301 (fun b' u hb hu=>(ag1 s.heap (Obj.mapSeq f) (Ne.symm hb)).trans hu) ⟨_,q⟩ ?_;exact⟨hz,its',_,hv,q⟩
theorem Inv.O7(I:Inv X pins σ H s)(hv:Vals ys ai)(hz:ys.length<=sizeLine):
  Inv X pins σ (upd H s.heap.objs.size (.lst ys)) {s with heap:=s.heap.push {cls:= .type "list",data:= .seq ai.toArray},toks:=t'}:=
 I.laid (fun _ _ q=>aa3 _ q) (aa4 _) ⟨hz,ai,0,hv,ab4 _ rfl⟩
theorem Inv.fresh(I:Inv X pins σ H s):H s.heap.objs.size=none:=I.aQ.fresh (aa4 _)
theorem Inv.wG(I:Inv X pins σ H s)(hH:H l=some 159):xs.length<=sizeLine/\ ∃(ai:List Value) (n:Nat),Vals xs ai/\xs.length=ai.length/\s.heap.get? l=some {cls:= .type "list",data:= .seq ai.toArray n}:=by
 obtain⟨z,ai,n,r,e⟩:=I.aQ l _ hH;exact⟨z,ai,n,r,r.length,e⟩
theorem uo(h:n<=sizeLine):Builtin.List.listTooLong n=false:=by
 unfold Builtin.List.listTooLong;exact ad4 101
section
variable{X:Cx}
def Gp:V->List V->Hp->VK->Prop:=fun x vs H Q=> ∃l xs y,x= .ref l/\vs= [y]/\H l=some 159/\xs.length < sizeLine/\Q .aC (upd H l (.lst (xs++ [y])))
theorem kN:RW X "list.append" Gp:=by
 intro pins s σ H x vs v us Q I rx rv h;obtain⟨l,xs,y,rfl,rfl,hH,hz,q⟩:=h;cases rx;obtain⟨u,rfl,ru⟩:=rv.one;obtain⟨z,ai,n,r,hl,e⟩:=I.wG hH;refine at1 F.slot_list_append ⟨_,e,rfl⟩ F.entry_list_append (F.args_list_append_2 _ _) (PySem.list_append l ai.toArray n u (by rw[ab5];lia)) ⟨e,?_⟩;refine⟨.aC,_,I.La (its':=ai++ [u]) hH e 112 (r.append (.cons ru .nil)) ?_,rfl,q⟩;rw[ab8,List.length_singleton];lia
def Gm:V->List V->Hp->VK->Prop:=fun x vs H Q=> ∃l b xs zs,x= .ref l/\vs= [.ref b]/\H l=some 159/\H b=some (.lst zs)/\xs.length+zs.length<=sizeLine/\Q .aC (upd H l (.lst (xs++zs)))
theorem pV:RW X "list.extend" Gm:=by
 intro pins s σ H x vs v us Q I rx rv h;obtain⟨l,b,xs,zs,rfl,rfl,hH,hB,hz,q⟩:=h;cases rx;obtain⟨u,rfl,ru⟩:=rv.one;cases ru;obtain⟨z,ai,n,r,hl,e⟩:=I.wG hH;obtain⟨z2,b9,n2,r2,Ui,e2⟩:=I.wG hB;have hsz:ai.toArray.size+b9.toArray.size<=sizeLine:=by rw[ab5,ab5];lia
 have DQ: ¬(!ai.toArray.isEmpty && Builtin.List.listTooLong (ai.toArray.size+b9.toArray.size))=true:=by
  rw[uo hsz,Bool.and_false];exact ab3
 refine at1 F.slot_list_extend ⟨_,e,rfl⟩ F.entry_list_extend (F.args_list_extend_2 _ _)
  (AutoSeq1.list_extend_list_list_0 l ai.toArray n b b9.toArray n2 DQ (by rw[ab5];lia) 101) ⟨e,e2,?_⟩
 refine⟨.aC,_,I.La (its':=ai++b9) hH e 112 (r.append r2) ?_,rfl,q⟩;rw[ab8];lia
def Cw:V->List V->Hp->VK->Prop:=fun x vs H Q=> ∃l xs,x= .ref l/\vs= []/\H l=some 159/\Q .aC (upd H l (.lst xs.reverse))
theorem wz:RW X "list.reverse" Cw:=by
 intro pins s σ H x vs v us Q I rx rv h;obtain⟨l,xs,rfl,rfl,hH,q⟩:=h;cases rx;have YB:=rv.zero;subst YB;obtain⟨z,ai,n,r,hl,e⟩:=I.wG hH;refine at1 F.slot_list_reverse ⟨_,e,rfl⟩ F.entry_list_reverse (F.args_list_reverse_1 _) (AutoSeq1.list_reverse_list_0 l ai.toArray n (by rw[ab5];lia)) ⟨e,?_⟩;refine⟨.aC,_,I.La (its':=ai.reverse) hH e 112 r.reverse ?_,rfl,q⟩;rw[List.length_reverse];lia
def Kn:R2:=fun x y H Q=> ∃l b xs zs,x= .ref l/\y= .ref b/\H l=some 159/\H b=some (.lst zs)/\xs.length+zs.length<=sizeLine/\ ∀p,H p=none->Q 379 (upd H p (.lst (xs++zs)))
theorem CS:lu X (binaryOp .Add) Kn:=by
 intro pins s σ H x y v u Q I rx ry h;obtain⟨l,b,xs,zs,rfl,rfl,hH,hB,hz,q⟩:=h;cases rx;cases ry;obtain⟨z,ai,n,r,hl,e⟩:=I.wG hH;obtain⟨z2,b9,n2,r2,Ui,e2⟩:=I.wG hB;refine PySem.P.add_list e e2 ?_ (by rw[ab5,ab5];lia);have ea:ai.toArray++b9.toArray=(ai++b9).toArray:=by simp
 rw[ea];exact⟨.ref _,_,I.O7 (t':=s.toks) (r.append r2) (by rw[ab8];lia),rfl,q _ I.fresh⟩
def Oz:R2:=fun x y H Q=> ∃l k xs,x= .ref l/\y= .int k/\H l=some 159/\ -(2^63)<=k/\k < 2^63/\xs.length*k.toNat<=sizeLine/\
 ∀p,H p=none->Q 379 (upd H p (.lst (List.replicate k.toNat xs).flatten))
theorem len_rep{α:Type}(xs:List α)(k:Nat):(List.replicate k xs).flatten.length=k*xs.length:=by
 induction k with
 | zero=>simp
 | succ k ih=>rw[am4,ag5,ab8,ih,as7,au4]
theorem KO:lu X (binaryOp .Mult) Oz:=by
 intro pins s σ H x y v u Q I rx ry h;obtain⟨l,k,xs,rfl,rfl,hH,h1,h2,hz,q⟩:=h;cases rx;obtain⟨t,rfl⟩:=ry;obtain⟨z,ai,n,r,hl,e⟩:=I.wG hH;have hlen:ai.toArray.size*k.toNat<=sizeLine:=by rw[ab5,<-hl];exact hz
 have UA: ¬ai.toArray.size*k.toNat > (2^63 - 1) / 8:=by
  have:(sizeLine:Nat)<=(2^63 - 1) / 8:=by decide
  lia
 have Us: ¬(!Builtin.List.listFitsIndex k)=true:=by
  rw[fitsIndex_both h1 h2];exact ab3
 have DQ: ¬Builtin.List.listTooLong (ai.toArray.size*k.toNat)=true:=by
  rw[uo hlen];exact ab3
 have T8:List.foldl (fun x1 x2=>x1++x2) #[] (List.replicate (if ai.toArray.isEmpty=true then 0 else k.toNat) ai.toArray)=(List.replicate k.toNat ai).flatten.toArray:=by
  have f0: ∀m:Nat,List.foldl (fun x1 x2=>x1++x2) #[] (List.replicate m ai.toArray)=(List.replicate m ai).flatten.toArray:=fun m=>by
   have:=foldl_rep ai m [];rw[au0] at this;exact this
  rw[f0];cases ai with
  | nil=>simp
  | cons a r'=>rw[if_neg 112]
 refine wpAny_binaryOp_repeat_ref (T:="list") (U:="int") 105 ⟨_,e,rfl⟩ (fun s'=>typeIs_int s' k t) noFill_list_mul F.fills_int_mul F.slot_int_rmul repeat_list F.slot_int_index.lookup
  (at1 F.slot_int_rmul (typeIs_int s k t) F.entry_int_rmul (F.args_int_rmul_2 _ _) (int___rmul___int_list k t l ai.toArray n)
   ⟨e,rfl,⟨_,e,rfl⟩,at1 F.slot_list_mul ⟨_,e,rfl⟩ F.entry_list_mul (F.args_list_mul_2 _ _) (AutoListH.list___mul___list_int_3 l ai.toArray n k t Us UA DQ) ⟨e,?_⟩⟩)
 rw[T8];exact⟨.ref _,_,I.O7 (t':=s.toks) (r.rep k.toNat) (by rw[len_rep,Nat.mul_comm];exact hz),rfl,q _ I.fresh⟩
end
section
variable{κ:Type}[DecidableEq κ]
def gO(aG:List (κ × V))(k:κ):Option V:=(aG.find? fun kv=>decide (kv.1=k)).map (·.2)
def putK(aG:List (κ × V))(k:κ)(v:V):List (κ × V):=
 if 338=true then aG.map (fun kv=>if kv.1=k then(kv.1,v) else kv) else aG++ [(k,v)]
theorem jr{p:κ × V}(e:p.1=k):gO (p::r) k=some p.2:=by simp [gO,ar6,e]
theorem jt{p:κ × V}(e: ¬p.1=k):gO (p::r) k=gO r k:=by simp [gO,ar6,e]
theorem tG(k:κ): ∀aG:List (κ × V),338=(gO aG k).isSome
 | []=>rfl
 | p::r=>by
  rw[ao3];by_cases e:p.1=k
  . simp only [jr e,ad3 e,Bool.true_or,Option.isSome_some]
  . rw[jt e,ad4 e,Bool.false_or];exact tG k r
theorem fk(aG:List (κ × V))(k:κ)(v:V):(putK aG k v).length<=aG.length+1:=by
 unfold putK;split
 . rw[aa2];lia
 . rw[ab8,ac1,an8];lia
theorem oB.fP(r:oB o u):o.isSome=u.isSome:=by
 cases o with
 | none=>cases u with
  | none=>rfl
  | some _=>exact(show False from r).elim
 | some _=>cases u with
  | none=>exact(show False from r).elim
  | some _=>rfl
theorem KV.val(r:KV aG vs)(k:κ):oB (gO aG k) (valueAt vs k):=by
 unfold KV at r;induction r with
 | nil=>exact True.intro
 | @cons p q ps qs h t ih=>
  obtain⟨h1,h2⟩:=h;by_cases e:p.1=k
  . have e':q.1=k:=h1.symm.trans e;have b:valueAt (q::qs) k=some q.2:=by simp [valueAt,ar6,e']
    rw[jr e,b];exact h2
  . have e': ¬q.1=k:=fun z=>e (h1.trans z);have b:valueAt (q::qs) k=valueAt qs k:=by simp [valueAt,ar6,e']
    rw[jt e,b];exact ih
theorem KV.any(r:KV aG vs)(k:κ):338=vs.any fun kv=>decide (kv.1=k):=by
 unfold KV at r;induction r with
 | nil=>rfl
 | cons h t ih=>rw[ao3,ao3,ih,h.1]
theorem KV.Kl(r:KV aG vs)(k:κ)(ry:RelV y u):
  KV (aG.map fun kv=>if kv.1=k then(kv.1,y) else kv) (vs.map fun kv=>if kv.1=k then(kv.1,u) else kv):=by
 unfold KV at r ⊢;induction r with
 | nil=>exact .nil
 | @cons p q ps qs h t ih=>
  rw[ac2,ac2];refine .cons ?_ ih;obtain⟨h1,h2⟩:=h;by_cases e:p.1=k
  . rw[if_pos e,if_pos (h1.symm.trans e)];exact⟨h1,ry⟩
  . rw[if_neg e,if_neg (fun z=>e (h1.trans z))];exact⟨h1,h2⟩
theorem KV.put(r:KV aG vs)(k:κ)(ry:RelV y u):KV (putK aG k y) (stored vs k u):=by
 unfold putK stored;rw[r.any k];by_cases e:(vs.any fun kv=>decide (kv.1=k))=true
 . rw[if_pos e,if_pos e];exact r.Kl k ry
 . rw[if_neg e,if_neg e];exact Paired.snoc r ⟨rfl,ry⟩
theorem KV.length{aG:List (κ × V)}(r:KV aG vs):aG.length=vs.length:=Paired.length r
end
theorem nV(r:RelV (kV k) u):(bD P w).is k u=true:=by
 cases k with
 | inl i=>obtain⟨t,e⟩:=(show∃t,u=Value.int i t from r);subst e;exact uA P w i t
 | inr x=>obtain⟨t,e⟩:=(show∃t,u=Value.str x t from r);subst e;exact uy P w x t
theorem p9: ∀{ks:List Key} {us:List Value},Vals (ks.map kV) us->ItemsAre (bD P w) ks us
 | [],_,r=>by rw[au5] at r;cases r;exact .nil
 | k::ks,_,r=>by
  rw[ac2] at r;cases r with
  | cons h t=>exact .cons (nV h) (p9 t)
abbrev KT(H:Hp):List (List Key × V)->List (List Key × Addr × Value)->Prop:=Paired fun p q=>p.1=q.1/\H q.2.1=some (.tup (p.1.map kV))/\RelV p.2 q.2.2
theorem KT.val(r:KT H aG xs)(k:List Key):oB (gO aG k) ((atKey xs k).map (·.2)):=by
 induction r with
 | nil=>exact True.intro
 | @cons p q ps qs h t ih=>
  obtain⟨h1,_,h2⟩:=h;by_cases e:p.1=k
  . have e':q.1=k:=h1.symm.trans e;have b:atKey (q::qs) k=some q.2:=by simp [atKey,ar6,e']
    rw[jr e,b];exact h2
  . have e': ¬q.1=k:=fun z=>e (h1.trans z);have b:atKey (q::qs) k=atKey qs k:=by simp [atKey,ar6,e']
    rw[jt e,b];exact ih
theorem KT.Kl(r:KT H aG xs)(k:List Key)(ry:RelV y u):
  KT H (aG.map fun kv=>if kv.1=k then(kv.1,y) else kv) (xs.map (putAt k u)):=by
 induction r with
 | nil=>exact .nil
 | @cons p q ps qs h t ih=>
  rw[ac2,ac2];refine .cons ?_ ih;obtain⟨h1,h2,h3⟩:=h;unfold putAt;by_cases e:p.1=k
  . rw[if_pos e,if_pos (h1.symm.trans e)];exact⟨h1,h2,ry⟩
  . rw[if_neg e,if_neg (fun z=>e (h1.trans z))];exact⟨h1,h2,h3⟩
theorem KT.put(r:KT H aG xs)(k:List Key)(hb:H b=some (.tup (k.map kV)))(ry:RelV y u):
  KT H (putK aG k y) (storedH xs k b u):=by
 have e:338=(atKey xs k).isSome:=by
  rw[tG,(r.val k).fP,Option.isSome_map]
 unfold putK storedH;rw[e];by_cases q:(atKey xs k).isSome=true
 . rw[if_pos q,if_pos q];exact r.Kl k ry
 . rw[if_neg q,if_neg q];exact Paired.snoc r ⟨rfl,hb,ry⟩
theorem KT.keeps(r:KT H aG xs)(ht: ∀b ys,H b=some 412->H' b=some 412):KT H' aG xs:=
 Paired.K6 r fun _ _ z=>⟨z.1,ht _ _ z.2.1,z.2.2⟩
theorem Iw(ok:iA P w H h)(e:Rd H a u):aZ P w H h a u:=e.ok ok
theorem ql(ok:iA P w H h)(e:Rd H a 407):aG.length<=sizeLine/\389=false/\ ∃vs,KV aG vs/\h.DictOf (bD P w) a vs:=
 show aZ P w H h a 407 from Iw ok e
theorem y4(ok:iA P w H h)(e:H a=some 407):aG.length<=sizeLine/\389=false/\ ∃vs,KV aG vs/\h.DictOf (bD P w) a vs:=ql ok (.inl e)
theorem nU{ks:List Key}(ok:iA P w H h)(e:H a=some (.tup (ks.map kV))):(383).is h ks a:=by
 obtain⟨_,ai,r,o,h1,h2,_,n,h3⟩:=(show aZ P w H h a (.tup (ks.map kV)) from ok a _ e)
 exact⟨o,ai.toArray,n,h1,h2,h3,by simpa using p9 r⟩
theorem uV(ok:iA P w H h)(e:Rd H a (.dT aG)):aG.length<=sizeLine/\389=false/\
  ∃xs,KT H aG xs/\h.DictOfH 383 a xs:=by
 obtain⟨z,y,xs,r,o,es,ep,h1,h2,h3,h4,h5⟩:=(show aZ P w H h a (.dT aG) from Iw ok e)
 refine⟨z,y,xs,r,o,es,ep,h1,h2,h3,h4,fun x hx=>?_,h5⟩;have all: ∀{l:List (List Key × V)} {m:List (List Key × Addr × Value)},KT H l m-> ∀x∈m,(383).is h x.1 x.2.1:=by
  intro l m q;induction q with
  | nil=>intro x hx;exact nomatch hx
  | @cons p q ps qs hq t ih=>
   intro x hx;rcases ad1.mp hx with e | hx
   . subst e;exact nU ok (by rw[<-hq.1];exact hq.2.1)
   . exact ih x hx
 exact all r x hx
theorem Qi(ok:iA P w H h)(e:H a=some (.dT aG)):aG.length<=sizeLine/\389=false/\
  ∃xs,KT H aG xs/\h.DictOfH 383 a xs:=uV ok (.inl e)
def iQ(H:Hp)(a:Addr)(y:V)(r:Option V):Prop:=
 (∃aG k,Rd H a 407/\y=kV k/\r=gO aG k)\/ ∃aG k b,Rd H a (.dT aG)/\y= .ref b/\H b=some (.tup (k.map kV))/\r=gO aG k
def Bj(H:Hp)(a:Addr)(y v:V)(H':Hp):Prop:=
 (∃aG k,H a=some 407/\y=kV k/\aG.length < sizeLine/\H'=upd H a (.dK (putK aG k v)))\/
 ∃aG k b,H a=some (.dT aG)/\y= .ref b/\H b=some (.tup (k.map kV))/\aG.length < sizeLine/\H'=upd H a (.dT (putK aG k v))
theorem iQ.k{H:Hp}{a:Addr}{aG:List 264}{k:Key}(e:H a=some 407):iQ H a (kV k) (gO aG k):= .inl ⟨aG,k,.inl e,rfl,rfl⟩
theorem Bj.k{H:Hp}{a:Addr}{aG:List 264}{k:Key}(e:H a=some 407)(hl:aG.length < sizeLine):Bj H a (kV k) v (upd H a (.dK (putK aG k v))):= .inl ⟨aG,k,e,rfl,hl,rfl⟩
theorem Inv.big(I:Inv X pins σ H s):sysModules < s.heap.objs.size:=by
 have h:mainGlobals < s.heap.objs.size:=(I.mod.glob.keeps I.bk).lt;exact Nat.lt_trans 105 h
theorem AU(hu:A.units+1 < cLine)(I:Inv X pins σ H s)(g:iQ H a y 356)(ry:RelV y u)(h: ∀w' s',Inv X pins σ H s'->RelV v w'->Q w' s'):
  wpAny 106 A (getItem 226 u) Q E s:=by
 rcases g with ⟨aG,k,e,ey,l⟩ | ⟨aG,k,b,e,ey,eb,l⟩
 . subst ey;obtain⟨z,hd,vs,rel,dd⟩:=ql I.aQ e;obtain⟨w',hw,vw⟩:=oB.some_of (v:=v) (o:=valueAt vs k) (by rw[l];exact rel.val k);exact wpAny_getItem_of (nV ry) dd.mapOf hw (h w' _ (I.tok _) vw)
 . subst ey;cases 363;obtain⟨z,hd,xs,rel,dd⟩:=uV I.aQ e;obtain⟨w',hw,vw⟩:=oB.some_of (v:=v) (o:=(atKey xs k).map (·.2)) (by rw[l];exact rel.val k);obtain⟨p,hp,T5⟩:=ae6.mp hw;refine wpAny_getItem_heap (au6 hu) (nU I.aQ eb) dd hp ?_;rw[T5];exact h w' _ (I.tok _) vw
theorem U4(hu:A.units+1 < cLine)(I:Inv X pins σ H s)(g:iQ H a y o)(ry:RelV y u)(h: ∀s',Inv X pins σ H s'->Q (.bool o.isSome) s'):
  wpAny 106 A (compareOp .In u 226) Q E s:=by
 rcases g with ⟨aG,k,e,ey,l⟩ | ⟨aG,k,b,e,ey,eb,l⟩
 . subst ey;obtain⟨z,hd,vs,rel,dd⟩:=ql I.aQ e;refine wpAny_in_of (nV ry) hd dd.mapOf ?_;rw[<-(rel.val k).fP,<-l];exact h _ (I.tok _)
 . subst ey;cases 363;obtain⟨z,hd,xs,rel,dd⟩:=uV I.aQ e;refine wpAny_in_heap (au6 hu) (nU I.aQ eb) hd dd ?_;have q:=(rel.val k).fP;rw[Option.isSome_map] at q;rw[<-q,<-l];exact h _ (I.tok _)
theorem Hl(hu:A.units+1 < cLine)(I:Inv X pins σ H s)(g:iQ H a y o)(ry:RelV y u)(h: ∀s',Inv X pins σ H s'->Q (.bool (!o.isSome)) s'):
  wpAny 106 A (compareOp .NotIn u 226) Q E s:=by
 rcases g with ⟨aG,k,e,ey,l⟩ | ⟨aG,k,b,e,ey,eb,l⟩
 . subst ey;obtain⟨z,hd,vs,rel,dd⟩:=ql I.aQ e;refine wpAny_notIn_of (nV ry) hd dd.mapOf ?_;rw[<-(rel.val k).fP,<-l];exact h _ (I.tok _)
 . subst ey;cases 363;obtain⟨z,hd,xs,rel,dd⟩:=uV I.aQ e;refine wpAny_notIn_heap (au6 hu) (nU I.aQ eb) hd dd ?_;have q:=(rel.val k).fP;rw[Option.isSome_map] at q;rw[<-q,<-l];exact h _ (I.tok _)
theorem mL(I:Inv X pins σ H s)(mu:Q7 (H a))(hs:Heap.SameBut a s.heap h')(he: ∃q,h'.get? a=some q)(new:aZ X.prog X.w (upd H a ob) h' a ob):
  Inv X pins σ (upd H a ob) {s with heap:=h',toks:=t'}:=
 I.write (x:=a) (e:=a) mu 301 (fun b q hb z=>(hs.2 b hb).trans z) he new
theorem xm{h':Heap}{aG:List 264}(z:aG.length<=sizeLine)(hd:389=false)(rel:KV aG vs)(dd:h'.DictOf (bD P w) a vs):
  aZ P w H' h' a 407:=⟨z,hd,vs,rel,dd⟩
theorem AQ(hu:A.units+1 < cLine)(I:Inv X pins σ H s)(g:Bj H a y v H')(ry:RelV y u)(rv:RelV v r)(h: ∀s',Inv X pins σ H' s'->Q () s'):
  wpAny 106 A (setItem 226 u r) Q E s:=by
 rcases g with ⟨aG,k,e,ey,l,eH⟩ | ⟨aG,k,b,e,ey,eb,l,eH⟩
 . subst ey eH;obtain⟨z,hd,vs,rel,dd⟩:=y4 I.aQ e;have hz:vs.length<=sizeLine:=by rw[<-rel.length];exact z
   have hl:(putK aG k v).length<=sizeLine:=by have:=fk aG k v;lia
   refine wpAny_setItem_pairs (hsz:=hz) (nV ry) dd fun h' FR hs=>h _ ?_;have he: ∃q,h'.get? a=some q:=let ⟨q,_,_,hq,_⟩:=FR;⟨q,hq⟩;exact mL I (by rw[e];exact True.intro) hs he (xm hl hd (rel.put k rv) FR)
 . subst ey eH;cases 363;obtain⟨z,hd,xs,rel,dd⟩:=Qi I.aQ e;have hz:xs.length<=sizeLine:=by rw[<-Paired.length rel];exact z
   have hl:(putK aG k v).length<=sizeLine:=by have:=fk aG k v;lia
   refine wpAny_setItem_heap (hsz:=hz) (au6 hu) (nU I.aQ eb) dd fun h' FR hs=>h _ ?_;obtain⟨q,es,ep,hq,h2,h3,h4,_,h5⟩:=FR;refine mL I (by rw[e];exact True.intro) hs ⟨q,hq⟩ ⟨hl,hd,_,(rel.put k eb rv).keeps fun c ys ec=>?_,q,es,ep,hq,h2,h3,h4,h5⟩;rw[ah (Dh ec e 186)];exact ec
theorem eR(I:Inv X pins σ H s)(e:Rd H a 407)(h: ∀t s',Inv X pins σ H s'->Q (.int aG.length t) s'):wpAny 106 A (call (.builtin "len") [.ref a]) Q E s:=by
 obtain⟨z,hd,vs,rel,dd⟩:=ql I.aQ e;refine call_len_dict hd dd (by rw[<-rel.length];rw[ap0] at z;lia) ?_;rw[<-rel.length];exact h _ _ (I.tok _)
def M8(i:Expr):Prop:= ∀ov iv,subscripted i false ov iv=operate [ov,iv] (getItem ov iv)
theorem F5{prog:Program}{w:World}{A:Around}{E:Value->Shared->Prop}{s:Shared}{env:Env}{value slice:Expr}{pos:Pos}{T id:String}(hl:typeLookup 397 "__getitem__"=pure (some 361))(hs:M8 slice)(h:wpAny 110 A (eval value env) (fun o s₁=>wpAny 110 A (eval slice env) (fun i s₂=>s₂.TypeIs o T/\wpAny 110 A (getItem o i) Q E s₂) E s₁) E s):
  wpAny 110 A (eval (.Subscript value slice pos) env) Q E s:=by
 refine Subscript_ (ae0 h (fun o s₁ h₁=>ae0 h₁ (fun i s₂ h₂=>?_) fun _ _ x=>x) fun _ _ x=>x);obtain⟨hT,h₂⟩:=h₂;unfold subscriptTail;refine aa0 ?_;rw[getitemInPython_of_ne hT.not_modules];refine aa0 (wpAny_specialOf hT hl ?_);have fin:wpAny 110 A (subscripted slice false o i) (fun r s₃=>wpAny 110 A (letTemporaryGo value o r >>=fun _=>pure r) Q E s₃) E s₂:=by
  rw[hs o i];exact wpAny_operating (ae0 h₂ (fun r s₃ h₃=>aa0 (wpAny_letTemporaryGo (aa7 h₃))) fun _ _ x=>x)
 first
  | exact aa7 (aa0 fin)
  | exact aa0 (aa7 (aa0 fin))
  | exact aa0 fin
theorem u4(I:Inv X pins σ H s)(g:iQ H a y o):s.TypeIs 226 "dict":=by
 rcases g with ⟨aG,k,e,_,_⟩ | ⟨aG,k,b,e,_,_,_⟩
 . obtain⟨_,_,vs,_,dd⟩:=ql I.aQ e;exact dd.typeIs
 . obtain⟨_,_,xs,_,dd⟩:=uV I.aQ e;exact dd.typeIs
def Od(td ty:TE):TE:=fun σ H Q=>td σ H fun x H1=>ty σ H1 fun y H2=> ∃a v,x= .ref a/\iQ H2 a y 356/\Q v H2
def Oc(ty td:TE):TE:=fun σ H Q=>ty σ H fun y H1=>td σ H1 fun x H2=> ∃a o,x= .ref a/\iQ H2 a y o/\Q (.bl o.isSome) H2
def x6(ty td:TE):TE:=fun σ H Q=>ty σ H fun y H1=>td σ H1 fun x H2=> ∃a o,x= .ref a/\iQ H2 a y o/\Q (.bl (!o.isSome)) H2
def Om(td ty tv:TE):TS:=fun D σ H=>tv σ H fun v H1=>td σ H1 fun x H2=>ty σ H2 fun y H3=> ∃a H4,x= .ref a/\Bj H3 a y v H4/\D.nx σ H4
theorem jG(hu:X.A.units+1 < cLine)(ho:PE X o td)(hi:PE X i ty)(hs:M8 i):PE X (.Subscript o i pos) (Od td ty):=by
 intro pins s σ H Q I h;refine F5 PySem.F.slot_dict_getitem.lookup hs (aU (ho pins s σ H _ I h) fun u s1 ⟨x,H1,I1,rx,q1⟩=>aU (hi pins s1 σ H1 _ I1 q1) fun iv s2 R1=>?_);obtain⟨y,H2,I2,ry,a,v,ex,g,q2⟩:=R1;subst ex;obtain rfl:u=Value.ref a:=rx;exact⟨u4 I2 g,AU hu I2 g ry fun w' s3 I3 vw=>⟨v,H2,I3,vw,q2⟩⟩
theorem KL(hu:X.A.units+1 < cLine)(hi:PE X i ty)(ho:PE X o td):PC X .In i o (Oc ty td):=by
 intro pins s σ H Q I h;refine aU 323 fun iv s1 ⟨y,H1,I1,ry,q1⟩=>aU (ho pins s1 σ H1 _ I1 q1) fun u s2 R0=>?_;obtain⟨x,H2,I2,rx,a,ov,ex,g,q2⟩:=R0;subst ex;obtain rfl:u=Value.ref a:=rx;exact U4 hu I2 g ry fun s3 I3=>⟨.bl ov.isSome,H2,I3,rfl,q2⟩
theorem zQ(hu:X.A.units+1 < cLine)(hi:PE X i ty)(ho:PE X o td):PC X .NotIn i o (x6 ty td):=by
 intro pins s σ H Q I h;refine aU 323 fun iv s1 ⟨y,H1,I1,ry,q1⟩=>aU (ho pins s1 σ H1 _ I1 q1) fun u s2 RZ=>?_;obtain⟨x,H2,I2,rx,a,ov,ex,g,q2⟩:=RZ;subst ex;obtain rfl:u=Value.ref a:=rx;exact Hl hu I2 g ry fun s3 I3=>⟨.bl (!ov.isSome),H2,I3,rfl,q2⟩
theorem yr(hu:X.A.units+1 < cLine)(ho:PE X o td)(hi:PE X i ty)(hv:PE X value tv)(hs:swapsWith value (some (.Subscript o i pos')) pos.line X.env=pure false):
  PS X (.Assign [.Subscript o i pos'] value pos) (Om td ty tv):=by
 intro pins s σ H D I h;refine wpAny_Assign_Subscript (aU (hv pins s σ H _ I h) fun r s1 ⟨v,H1,I1,rv,q1⟩=>aU (ho pins s1 σ H1 _ I1 q1) fun u s2 ⟨x,H2,I2,rx,q2⟩=>aU (hi pins s2 σ H2 _ I2 q2) fun iv s3 RY=>?_) hs;obtain⟨y,H3,I3,ry,a,H4,ex,g,q3⟩:=RY;subst ex;obtain rfl:u=Value.ref a:=rx;exact AQ hu I3 g ry rv fun s4 I4=>⟨σ,H4,I4,q3⟩
theorem u3(h:Heap)(hb:sysModules < h.objs.size):aZ P w H (h.push {cls:= .type "dict",data:= .dict #[]}) h.objs.size (.dK []):=
 ⟨ae3 _,ar1.mpr (Ne.symm (af0 hb)),[],.nil,Heap.DictOf.new h⟩
def qX:List (TE × TE)->St->Hp->(List (V × V)->Hp->Prop)->Prop
 | [],_,H,Q=>Q [] H
 | (tk,tv)::r,σ,H,Q=>tk σ H fun x H1=>tv σ H1 fun y H2=>qX r σ H2 fun ps H3=>Q ((x,y)::ps) H3
abbrev VV:List (V × V)->List (Value × Value)->Prop:=Paired fun p q=>RelV p.1 q.1/\RelV p.2 q.2
def RU(X:Cx)(pos:Pos)(keys:List (Option Expr))(values:List Expr)(JS:List (TE × TE)):Prop:=
 ∀(pins:List 123) (s:Shared) (σ:St) (H:Hp) (Q:List (V × V)->Hp->Prop),Inv X pins σ H s->qX JS σ H Q->
  wpAny 106 X.A (evalPairs (pairTrees keys values X.env pos)) (fun vs s'=> ∃ps H',Inv X pins σ H' s'/\VV ps vs/\Q ps H') X.xe s
theorem yu:RU X pos [] [] []:=fun pins s σ H Q I h=>pairTrees_nil_walk ⟨[],H,I,.nil,h⟩
theorem nv(hk:PE X k tk)(hv:PE X v tv)(hr:RU X pos ks vs JS):
  RU X pos (some k::ks) (v::vs) ((tk,tv)::JS):=fun pins s σ H Q I h=>
 pairTrees_cons_walk (aU (hk pins s σ H _ I h) fun u s1 NO=>(by obtain⟨x,H1,I1,rx,q1⟩:=NO;exact(aU (hv pins s1 σ H1 _ I1 q1) fun w2 s2 NN=>(by obtain⟨y,H2,I2,ry,q2⟩:=NN;exact(
  aU (hr pins s2 σ H2 _ I2 q2) fun ws s3 NM=>(by obtain⟨ps,H3,I3,rel,q3⟩:=NM;exact(⟨(x,y)::ps,H3,I3,.cons ⟨rx,ry⟩ rel,q3⟩)))))))
def bQ(aG more:List 264):List 264:=more.foldl (fun acc kv=>putK acc kv.1 kv.2) aG
theorem KV.merge: ∀{more:List 264} {rs:List (Key × Value)} {aG:List 264} {vs:List (Key × Value)},KV more rs->KV aG vs->KV (bQ aG more) (merged vs rs):=by
 intro more rs aG vs r;unfold KV at r;induction r generalizing aG vs with
 | nil=>intro q;exact q
 | @cons p q ps qs h t ih=>
  intro r0;have e:KV (putK aG p.1 p.2) (stored vs q.1 q.2):=by
   have:=r0.put p.1 h.2;rw[<-h.1];exact this
  exact ih e
theorem iU: ∀(more aG:List 264),(bQ aG more).length<=aG.length+more.length
 | [],aG=>by show aG.length<=aG.length+0;lia
 | p::r,aG=>by
  have h1:=iU r (putK aG p.1 p.2);have h2:=fk aG p.1 p.2;show(bQ (putK aG p.1 p.2) r).length<=_;rw[ac1];lia
theorem ou: ∀{aG:List 264} {ws:List (Value × Value)},VV (aG.map fun kv=>(kV kv.1,kv.2)) ws-> ∃rs,Carries (bD P w) ws rs/\KV aG rs
 | [],_,r=>by rw[au5] at r;cases r;exact⟨[],True.intro,.nil⟩
 | p::aG,_,r=>by
  rw[ac2] at r;cases r with
  | @cons a b as bs h t=>
   obtain⟨rs,c,q⟩:=ou (P:=P) (w:=w) t;obtain⟨b1,b2⟩:=b;exact⟨(p.1,b2)::rs,⟨nV h.1,rfl,c⟩,.cons ⟨rfl,h.2⟩ q⟩
def Io(JS:List (TE × TE)):TE:=fun σ H Q=> ∀p,H p=none->qX JS σ (upd H p (.dK [])) fun ps H2=>H2 p=some (.dK [])/\ ∃aG:List 264,ps=aG.map (fun kv=>(kV kv.1,kv.2))/\aG.length<=15/\Q 379 (upd H2 p (.dK (bQ [] aG)))
theorem yz(h:RU X pos keys values JS)(LP:keys.all (·.isSome)=true)(hl:keys.length=values.length)(h0:keys≠ [])(Zh:keys.length<=15):PE X (.Dict keys values pos) (Io JS):=by
 intro pins s σ H Q I q;have hn:=I.aQ.fresh (aa4 s.heap.objs.size);have I1:=I.laid (a:=s.heap.objs.size) (o:= .dK []) (h':=s.heap.push {cls:= .type "dict",data:= .dict #[]}) (t':=s.toks) (fun _ _ q=>aa3 _ q) (aa4 _) (u3 s.heap I.big);refine wpAny_Dict_walk (knd:=bD X.prog X.w) LP hl h0 Zh (aU (h pins _ σ _ _ I1 (q _ hn)) fun ws s2 NL=>?_);obtain⟨ps,H2,I2,rel,e,aG,ep,lk,q2⟩:=NL;subst ep;obtain⟨rs,c,rk⟩:=ou (P:=X.prog) (w:=X.w) rel;obtain⟨z,hd,SD,r0,dd⟩:=y4 I2.aQ e;cases r0;refine⟨rs,c,dd,fun h' FR hs=>⟨.ref s.heap.objs.size,_,?_,rfl,q2⟩⟩;have hz:(bQ [] aG).length<=sizeLine:=by
  have h1:=iU aG [];rw[an8] at h1;rw[ap0];lia
 have he: ∃q,h'.get? s.heap.objs.size=some q:=let ⟨q,_,_,hq,_⟩:=FR;⟨q,hq⟩;exact mL I2 (by rw[e];exact True.intro) hs he (xm hz hd (rk.merge .nil) FR)
end L2
namespace Xq
open PySem PySem.W PySem.Calls PyProof.Rows
theorem l5: ∀(ns:List Int) (vs:List Value),WellAll P h vs (ns.map WData.int)->IntsAre vs ns:=by
 intro ns;induction ns with
 | nil=>
  intro vs w;rw[au5] at w;cases w;exact .nil
 | cons n ns ih=>
  intro vs w;rw[ac2] at w;cases w with
  | cons a b=>
   cases a;exact .cons _ _ (ih _ b)
theorem zH{l:OpenLaw}(hn:l.most=some n)(G5:l.row.toRowW.claim.pre args=true)(TN:WellAll P h vals args):
  ∃a vs ns,vals= [Value.ref a]/\args= [WData.list (ns.map WData.int)]/\h.get? a=some {cls:= .type "list",data:= .seq vs.toArray}/\IntsAre vs ns/\ns.length<=n:=by
 have YG:WShape.hasAll [] args [.list .int]=true:=(pre_splitW G5).1;have hc:l.pre.holds [] {args:=args}=true:=(pre_splitW G5).2;obtain⟨d,r,rfl,h1,h2⟩:=hasAllW_cons YG;obtain rfl:=hasAllW_nil h2;obtain⟨xs,rfl,h3⟩:=hasW_list h1;obtain⟨ns,rfl⟩:=items_int h3;have hlen:ns.length<=n:=by
  unfold OpenLaw.pre at hc;have h4:(WTm.not (.lt (.lit (.int (n:Int))) (.len (.arg 0)))).holds [] {args:= [.list 403]}=true:=by
   have h4:=(holds_andW hc).1;rw[hn] at h4;exact h4
  have h5:=condW_of h4 (w_not (w_lt w_lit (w_len_list (w_arg rfl))));rw[aa2] at h5;refine Nat.le_of_not_lt fun q=>?_;have q':(n:Int) < ((ns.length:Nat):Int):=by lia
  first
   | (rw[ad3 q'] at h5;exact absurd h5 105)
   | (simp at h5;lia)
 cases TN with
 | cons w1 w2=>
  cases w2;cases w1 with
  | list ho LP=>exact⟨_,_,ns,rfl,rfl,ho,l5 ns _ LP,hlen⟩
theorem zL(l:OpenLaw)(args:List WData):l.row.toRowW.claim.post args (.bool true) args=true:=
 postW_of (r:=l.row.toRowW) (X:=(true==true))
  (show WShape.has [] (.bool true) .bool=true by first | rfl | decide | simp [WShape.has,WShape.arms,WShape.armsAll])
  (show(WTm.eq .res (.lit (.bool true))).value [] {args:=args,res:=some (.bool true),after:=args}=some (.bool (true==true)) from w_eq_bool (w_res rfl) w_lit) rfl
theorem vo {l : OpenLaw} {d : DefRec} (hn : l.most = some n) (PV : d.params.defaults = []) (call : ∀ (w : World) (s₀ s₁ : Shared) (mg mb : Str -> Option Value) (fa : Addr) (o : Obj) (pm cd doc : Value) (a : Addr) (vs : List Value) (ns : List Int),
   Ground q loose [] XP w s₀ mg mb s₁.heap->YP w s₁.heap->
   s₁.heap.get? fa=some o->o.data= .func (docDef d.name d.params d.body d.scope pm cd doc)->s₁.heap.CodeRec cd d.name->mg d.name=some (.ref fa)->
   s₁.heap.get? a=some {cls:= .type "list",data:= .seq vs.toArray}->IntsAre vs ns->ns.length<=n->s₁.gens= #[]->
   codeAny (model l.prog w) callerA (.call (.ref fa) ⟨[.ref a],[]⟩) 188 s₁):
  WalkO q loose XP YP l.row.toRowW d [] (fun f vs=>PySem.call f vs):=by
 intro w s₀ s₁ mg mb G Y fa o pm cd doc dV kV ho hd tf hD PB hg args vals as G5 YU hrd TN Ug;obtain rfl:dV= .none:=Dflts.none hD PV;obtain rfl:kV= .none:=Dflts.noKw hD;obtain⟨a,vs,ns,rfl,rfl,LC,hints,hlen⟩:=zH hn G5 TN;refine enter_call (au2 (call w s₀ s₁ mg mb fa o pm cd doc a vs ns G Y ho (fd_plain hd) tf PB LC hints hlen hg) fun r s' hq=>?_);obtain⟨rfl,h2,h3,h4⟩:=hq;exact⟨.inl ⟨.bool true,.bool true,[],rfl,fun _=>rfl,.bool true,zL l _,fun _=>⟨List.Pairwise.nil,fun _ hm=>(nomatch hm)⟩⟩,h2,h3,h4⟩
end Xq
namespace L2
open PySem PySem.Spec PyProof.Rows
theorem kx: ∀{vs:List Value} {ns:List Int},IntsAre vs ns->Vals 131 vs
 | _,_,.nil=> .nil
 | _,_,.cons n t h=> .cons ⟨t,rfl⟩ (kx h)
def M6(H:Hp):Prop:= ∀b,H b=none\/(∃o xs,H b=some (.lQ o 159))\/ ∃ps,H b=some (.vR ps)
def bj(K:PySem.W.Frag)(b:Addr):Option Str:=bg.find? fun x=>decide ((PySem.W.tabIn K x).map (·.2)=some b)
def qT(K:PySem.W.Frag)(H:Hp):Hp:=fun b=>match bj K b with
 | some x=>some (.vR #[.str (hZ x) 0])
 | none=>H b
theorem JW{K:PySem.W.Frag}(e:bj K b=some x):qT K H b=some (.vR #[.str (hZ x) 0]):=by unfold qT;rw[e]
theorem JV{K:PySem.W.Frag}(e:bj K b=none):qT K H b=H b:=by unfold qT;rw[e]
theorem Ds{K:PySem.W.Frag}{s₁:Shared}{vs:List Value}(KX:K.In s₁.heap)(uQ:s₁.heap.Ns mainGlobals mg)(hb:s₁.heap.Ns builtinsNs mb)(Y8: ∀x:Str,x≠"__name__"->mb x=bootBuiltins x)(Uh:s₁.heap.NoLimit)(hg:s₁.gens= #[])(ha:s₁.heap.get? a=some {cls:= .type "list",data:= .seq vs.toArray})(hi:IntsAre vs ns)(hl:ns.length<=sizeLine)(hr:ck k callerA)(F: ∀base:Heap,K.In base->base.Ns mainGlobals mg->bh P w K mg base CX k fa fd [x] sp)(PZ: ∀(s:Shared) (u:Value),BindsTo s fd ⟨[u],[]⟩ [(x,u)])(IL: ∀H:Hp,M6 H->bL K H a 131->sp [.ref a] H (fun v _=>v= .bl true) fun _ _ _=>False)(Zf: ∃bm ob,mg "__builtins__"=some (.ref bm)/\bm≠builtinsNs/\s₁.heap.get? bm=some ob/\ob.cls= .type "module"/\ob.dict=some builtinsNs/\ob.data= .plain)(P4:PySem.W.noTabs K=true)(P2: ∀x∈bg,∃c P,PySem.W.tabIn K x=some (c,P)/\PySem.W.CodeHd s₁.heap c P/\s₁.heap.get? P=some (PySem.W.tabObj #[]))(UG: ∀x∈bg,∀y∈bg,∀c c' P,PySem.W.tabIn K x=some (c,P)->PySem.W.tabIn K y=some (c',P)->x=y)(UM: ∀H e s',CX [] H s₁ (fun _ _ _=>False) e s'->False):
  codeAny (model P w) callerA (.call (.ref fa) ⟨[.ref a],[]⟩) 188 s₁:=by
 have rv:=kx hi;have Tq:=hi.length;have core: ∀H:Hp,M6 H->bL K H a 131->iA P w H s₁.heap->(∀b,H b≠none->b=a\/ ∃c,PySem.W.CodeHd s₁.heap c b/\s₁.heap.get? b=some (PySem.W.tabObj #[]))->(H a≠none->K.lookup a=none)->iz K H->
   codeAny (model P w) callerA (.call (.ref fa) ⟨[.ref a],[]⟩) 188 s₁:=by
  intro H hO hS aQ hA hK Ha;have sR: ∀{b:Addr} {o:Obj},s₁.heap.get? b=some o->H b=none->(r9 s₁.heap H).get? b=some o:=fun e n=>DS e n;have OZ: ∀{b:Addr} {o:Obj} {es:Array DictEntry} {ep:Nat},s₁.heap.get? b=some o->o.data= .dict es ep->H b=none:=fun{b o es ep} e d=>by
   cases q:H b with
   | none=>rfl
   | some u=>
    rcases hA b (by rw[q];simp) with e' | ⟨_,_,e'⟩
    . subst e';rw[ha] at e;cases e;have d':Data.seq vs.toArray _=Data.dict es ep:=d;cases d'
    . rw[e'] at e;cases e;have d':Data.fields #[]=Data.dict es ep:=d;cases d'
  have RB: ∀{b:Addr} {m:Str->Option Value},s₁.heap.Ns b m->(r9 s₁.heap H).Ns b m:=fun{b m} NK=>(by obtain⟨o,es,ep,e,d,r⟩:=NK;exact(⟨o,es,ep,sR e (OZ e d),d,r⟩))
  have WJ:K.In (r9 s₁.heap H):=fun b o e=>sR (KX b o e) (by
   cases q:H b with
   | none=>rfl
   | some u=>
    rcases hA b (by rw[q];simp) with e' | ⟨_,_,e'⟩
    . subst e';rw[hK (by rw[q];simp)] at e;cases e
    . have e2:=KX b o e;rw[e'] at e2;cases e2;have h2:=ah9.mp P4 (b,_) (PySem.W.mem_of_lookupK e);exact absurd (show false=true from h2) ab3)
  have hM:Mod K mg (r9 s₁.heap H):=⟨WJ,RB uQ,⟨mb,RB hb,Y8⟩,let ⟨mc,h1,h2⟩:=Uh;⟨mc,RB h1,h2⟩,by
   obtain⟨bm,ob,e1,e2,e3,e4,e5,e6⟩:=Zf;refine⟨bm,ob,e1,e2,sR e3 ?_,e4,e5,e6⟩;cases q:H bm with
   | none=>rfl
   | some u=>
    rcases hA bm (by rw[q];simp) with e' | ⟨_,_,e'⟩
    . rw[e',ha] at e3;cases e3;have z:Value.type "list"=Value.type "module":=e4;injection z with z;exact absurd z 105
    . rw[e'] at e3;cases e3;cases e4⟩
  have e0:Ic P w K mg (r9 s₁.heap H) callerA [] s₁ H:=⟨rfl,hM,fun b o e=>GQ e,Nat.le_of_eq (Aw _ _),trivial,fun b hb=>absurd (show b∈176 from hb) 112,aQ,.of_eq hg,Ha⟩
  refine au2 ((F _ WJ (RB uQ)).run callerA [] s₁ H ⟨[.ref a],[]⟩ [.ref a] [.ref a] _ _ hr e0 (PZ s₁ 226) (.cons rfl .nil) (IL H hO hS)) fun r s' h=>?_;cases r with
  | error e=>exact(UM H e s' h).elim
  | ok fl=>
   cases fl with
   | next=>exact False.elim h
   | brk=>exact False.elim h
   | cont=>exact False.elim h
   | ret u=>
    obtain⟨v,H',os,bare,un,Py,r',q⟩:=h;have q':v= .bl true:=q;subst q';obtain rfl:u=Value.bool true:=r';refine⟨rfl,⟨fun b o e=>?_,fun b o e=>un.there b o e 112⟩,os,bare⟩;cases q:H b with
    | none=>exact .inl <| un.keep b o e q (by intro z;exact absurd (show b∈176 from z) 112) 112
    | some u=>
     rcases hO b with z | ⟨ob,xs,z⟩ | ⟨ps,z⟩
     . rw[q] at z;cases z
     . refine .inl ?_;have z2:=un.o5 b ob _ z;obtain⟨e1,_⟩:=aQ b _ z;obtain⟨e2,_⟩:=Py b _ z2;rw[e] at e1;cases e1;exact e2
     . obtain⟨more,z2⟩:=un.oR b ps z;obtain⟨es,e2,_⟩:=Py b _ z2;rcases hA b (by rw[q];simp) with e' | ⟨c,hc,e'⟩
       . subst e';obtain⟨Ja,e3,_⟩:=aQ b _ z;rw[ha] at e3;cases e3
       . rw[e'] at e;cases e;exact .inr (.inl ⟨(hc.tab e').isCodeTable,rfl,#[],es,rfl,by rw[e2];simp⟩)
 have NX: ∀{b:Addr} {x:Str} {c P:Addr},x∈bg->PySem.W.tabIn K x=some (c,P)->s₁.heap.get? P=some (PySem.W.tabObj #[])/\PySem.W.CodeHd s₁.heap c P:=fun{b x c P} hx e=>by
  obtain⟨c',P',e1,e2,e3⟩:=P2 x hx;rw[e] at e1;cases e1;exact⟨e3,e2⟩
 have yE: ∀{b x},bj K b=some x->x∈bg/\ ∃c,PySem.W.tabIn K x=some (c,b):=fun{b x} e=>by
  refine⟨List.mem_of_find?_eq_some e,?_⟩;have q:=ad6 (List.find?_some (p:=fun x=>decide ((PySem.W.tabIn K x).map (·.2)=some b)) e);obtain⟨⟨c,P⟩,e1,e2⟩:=ae6.mp q;have e2:P=b:=e2;subst e2;exact⟨c,e1⟩
 have GP: ∀{x c P},x∈bg->PySem.W.tabIn K x=some (c,P)->bj K P=some x:=fun{x c P} hx e=>by
  cases q:bj K P with
  | none=>
   have:=List.find?_eq_none.mp q x hx;exact absurd (by rw[e];exact ad3 rfl) this
  | some y=>
   obtain⟨hy,c',e'⟩:=yE q;rw[UG y hy x hx c' c P e' e]
 have Fm: ∀{b x} (H:Hp),bj K b=some x->qT K H b=some (.vR #[.str (hZ x) 0]):=fun{b x} H e=>JW e;have sU: ∀{b} (H:Hp),bj K b=none->qT K H b=H b:=fun{b} H e=>JV e;have Xk: ∀H,iz K (qT K H):=fun H x hx c P e=>⟨_,Fm _ (GP hx e),rfl⟩
 have x5: ∀{b x},bj K b=some x-> ∃c,PySem.W.CodeHd s₁.heap c b/\s₁.heap.get? b=some (PySem.W.tabObj #[]):=fun{b x} e=>by
  obtain⟨hx,c,e1⟩:=yE e;obtain⟨e2,e3⟩:=NX (b:=b) hx e1;exact⟨c,e3,e2⟩
 have Dl:bj K a=none:=by
  cases q:bj K a with
  | none=>rfl
  | some x=>
   obtain⟨c,_,e⟩:=x5 q;rw[ha] at e;cases e
 have Ik: ∀{H b x},bj K b=some x->aZ P w H s₁.heap b (.vR #[.str (hZ x) 0]):=fun{H b x} e=>by
  obtain⟨c,_,e1⟩:=x5 e;exact⟨#[],e1,trivial,fun pos cv z=>nomatch z⟩
 cases hk:K.lookup a with
 | some o=>
  have e:=KX a o hk;rw[ha] at e;cases e;refine core (qT K fun _=>none) (fun b=>?_) (.inr ⟨_,vs.toArray,_,hk,rfl,rfl,rfl,by rw[ab5,Tq];exact hl,by simpa using rv⟩) (fun b u z=>?_) (fun b z=>?_) (fun z=>absurd (sU (fun _=>none) Dl) z) (Xk _)
  . cases q:bj K b with
    | none=>exact .inl (sU _ q)
    | some x=>exact .inr (.inr ⟨_,Fm _ q⟩)
  . cases q:bj K b with
    | none=>
     rw[sU _ q] at z;cases z
    | some x=>
     rw[Fm _ q] at z;cases z;exact Ik q
  . cases q:bj K b with
    | none=>exact absurd (sU (fun _=>none) q) z
    | some x=>exact .inr (x5 q)
 | none=>
  refine core (qT K fun b=>if b=a then some (.lQ {cls:= .type "list",data:= .seq vs.toArray} (.lst 131)) else none) (fun b=>?_) (.inl (.inr ⟨{cls:= .type "list",data:= .seq vs.toArray},(sU _ Dl).trans (if_pos rfl)⟩)) (fun b u z=>?_) (fun b z=>?_) (fun _=>hk) (Xk _)
  . cases q:bj K b with
    | none=>
     by_cases hb:b=a
     . exact .inr (.inl ⟨_,_,(sU _ q).trans (if_pos hb)⟩)
     . exact .inl ((sU _ q).trans (if_neg hb))
    | some x=>exact .inr (.inr ⟨_,Fm _ q⟩)
  . cases q:bj K b with
    | none=>
     rw[sU _ q] at z;by_cases hb:b=a
     . have z':=(if_pos hb).symm.trans z;cases z';subst hb;exact⟨ha,by rw[aa2];exact hl,vs,_,rv,ha⟩
     . have z':=(if_neg hb).symm.trans z;cases z'
    | some x=>
     rw[Fm _ q] at z;cases z;exact Ik q
  . cases q:bj K b with
    | none=>
     by_cases hb:b=a
     . exact .inl hb
     . exact absurd ((sU _ q).trans (if_neg hb)) z
    | some x=>exact .inr (x5 q)
theorem F0 {l : PySem.W.OpenLaw} {n k : Nat} {q : Program} {loose : List Str} {XP : (Str -> Option Value) -> Heap -> Prop} {YP : World -> Heap -> Prop} {d : DefRec} {K : Params -> PySem.W.Frag} {CX : World -> JG} {sp : World -> Sp} (hn : l.most = some n) (sY : n <= sizeLine) (PV : d.params.defaults = []) (hr : ck k callerA) (hY : ∀ (w : World) (h : Heap), YP w h -> (266).In h) (F : ∀ (w : World) (mg : Str -> Option Value) (fa : Addr) (h : Heap), (266).In h -> h.Ns mainGlobals mg -> mg d.name = some (.ref fa) ->
   ∃fd:FuncData,(∀(s:Shared) (u:Value),BindsTo s fd ⟨[u],[]⟩ [(x,u)])/\
    ∀base:Heap,(266).In base->base.Ns mainGlobals mg->bh l.prog w 266 mg base (CX w) k fa fd [x] (sp w)) (IL: ∀(w:World) (H:Hp) (a:Addr) (ns:List Int),ns.length<=n->M6 H->bL 266 H a 131->sp w [.ref a] H (fun v _=>v= .bl true) fun _ _ _=>False) (UM: ∀(w:World) (H:Hp) (s:Shared) (e:Value) (s':Shared),CX w [] H s (fun _ _ _=>False) e s'->False) (P4: ∀w:World,PySem.W.noTabs 266=true) (P2: ∀(w:World),∀x∈bg,∃d c P,(recsOf q).find? (fun e=>e.name==x)=some d/\PySem.W.tabIn 266 x=some (c,P)) (UG: ∀(w:World),∀x∈bg,∀y∈bg,∀c c' P,PySem.W.tabIn 266 x=some (c,P)->PySem.W.tabIn 266 y=some (c',P)->x=y):
  PySem.W.WalkO q loose XP YP l.row.toRowW d [] (fun f vs=>PySem.call f vs):=by
 refine Xq.vo hn PV fun w s₀ s₁ mg mb fa o pm cd doc a vs ns G Y ho hd tf PB LC hints hlen hg=>?_;have KX:=hY w _ Y;obtain⟨fd,hb,hF⟩:=F w mg fa _ KX G.T.g PB;exact Ds KX G.T.g G.T.b G.T.builtins G.T.nolimit hg LC hints (ac6 hlen sY) hr hF hb (fun H hO hS=>IL w H a ns hlen hO hS) G.T.bmain (P4 w) (fun x hx=>by
  obtain⟨dx,c,P,e1,e2⟩:=P2 w x hx;obtain⟨e3,e4⟩:=PySem.W.tab_of G.T KX e1 e2;exact⟨c,P,e2,e3,e4⟩) (UG w) fun H e s'=>UM w H s₁ e s'
def fq(s:Stmt):Arguments:=match s with
 | .FunctionDef _ a _ _ _ _ _ _ _ _=>a
 | _=>{posonlyargs:= [],args:= [],vararg:=none,kwonlyargs:= [],kw_defaults:= [],kwarg:=none,defaults:= []}
def bT(s:Stmt):List Stmt:=match s with
 | .FunctionDef _ _ b _ _ _ _ _ _ _=>b
 | _=> []
def ab(s:Stmt):Scope:=match s with
 | .FunctionDef _ _ _ _ _ _ sc _ _ _=>sc
 | _=>{kind:= .function,names:= [],isGenerator:=false,isCoroutine:=false}
abbrev dY:JG:=fun _ _ _ _ _ _=>False
abbrev E0:XK:=fun _ _ _=>False
theorem OM:Passes dY X E0:=fun _ _ _ _ _ _ _ h=>h.elim
structure gC(K:PySem.W.Frag)(x qual:Str)(st:Stmt)(f:Addr)(fd:FuncData):Prop where
 ex: ∃(oc:Value) (od:Option Addr) (kV doc pm:Value) (an:Option Addr) (bK ct:Value) (zR:Array 410),
  fd=PySem.W.fnOf x qual (fq st) (bT st) (ab st) .none kV doc pm an bK ct/\K.lookup f=some ⟨oc,od,.func fd,zR⟩/\PySem.W.codeIn K bK qual=true
 kp:PySem.W.keepIn K 399=true
section
variable{P:Program}{w:World}{K:PySem.W.Frag}{mg:Str->Option Value}{base:Heap}
theorem gC.ok {x qual : Str} {st : Stmt} {k : Nat} (F : gC K x qual st f fd) (S : aH N ps (ab st)) (len : ∀ vs H Q E, sp vs H Q E -> vs.length = ps.length) (eO : ∀ (bK : Value) (A : Around) (outer : List Env) (s : Shared) (H : Hp) (vs : List V) (Q : VK) (E : XK), ck k 179 -> sp vs H Q E ->
   ∃t,qG (173).Bq (bT st) t/\t {nx:=fun _ H'=>Q .aC H',rt:=Q} (start N vs) H):bh P w K mg base dY (k+1) f fd ps sp:=by
 obtain⟨oc,od,kV,doc,pm,an,bK,ct,zR,rfl,lk,tf⟩:=F.ex;refine IZ lk tf S len fun A outer s H vs Q E hr IL=>?_;obtain⟨t,h,q⟩:=eO bK A outer s H vs Q E hr IL;exact⟨t,h.Bq,q⟩
theorem gC.binds{x qual:Str}{st:Stmt}{ps:List Str}(F:gC K x qual st f fd)(h: ∀(kV doc pm:Value) (an:Option Addr) (bK ct:Value) (us:List Value),us.length=ps.length->bindArgs 238 ⟨us,[]⟩=pure (ps.zip us)):Binds K fd ps []:=by
 obtain⟨oc,od,kV,doc,pm,an,bK,ct,zR,rfl,lk,tf⟩:=F.ex;exact .all (h kV doc pm an bK ct)
theorem LZ{x qual:Str}{st:Stmt}{f:Addr}{oc:Value}{od an:Option Addr}{zR:Array 410}{kV doc pm bK ct:Value}(l:K.lookup f=some ⟨oc,od, .func 238,zR⟩)
  (c:PySem.W.codeIn K bK qual=true) (k:PySem.W.keepIn K 399=true):gC K x qual st f 238:=⟨⟨oc,od,kV,doc,pm,an,bK,ct,zR,rfl,l,c⟩,k⟩
end
theorem lM(hr:ck k A):A.units+1 < cLine:=an1 (Nat.add_le_add_left (by decide:1<=64) _) hr.units
theorem fJ(h:n<=1000):n < sizeLine:=an1 h 105
theorem pv(i:Nat)(hN:X.N[i]?=some x:=by rfl)(hv:RQ X.env.scope x:=by first | exact Or.inl rfl | exact Or.inr 401 | exact Or.inr (Or.inr rfl))(hd:146=false:=by decide)(tf:(x==("__classdict__":Str))=false:=by decide):PE X 362 (fu i):=CK hN hv hd tf
theorem A3:dJ X (.builtin "len") (fun xs H Q=> ∃a aG,xs= [V.ref a]/\H a=some 407/\Q (.int aG.length) H):=by
 intro pins s σ H xs us Q I r h;obtain⟨a,aG,rfl,ha,q⟩:=h;obtain⟨u,rfl,ru⟩:=vals1 r;cases ru;exact eR I (.inl ha) fun t s' I'=>⟨.int aG.length,H,I',⟨t,rfl⟩,q⟩
theorem a9{A B:Prop}(h:B):if false=true then A else B:=by
 rw[if_neg ab3];exact h
theorem cw{A B:Prop}(h:A):if true=true then A else B:=by
 rw[if_pos rfl];exact h
theorem Tw{c A B:Prop} [Decidable c](h1:c->A)(h2: ¬c->B):if c then A else B:=by
 by_cases h:c
 . rw[if_pos h];exact h1 h
 . rw[if_neg h];exact h2 h
def aq(H H':Hp):Prop:= ∀b o,H b=some o->H' b=some o
theorem aq.refl(H:Hp):aq H H:=fun _ _ h=>h
theorem aq.seq{K:PySem.W.Frag}(e:aq H H')(h:bL K H a xs):bL K H' a xs:=by
 rcases h with (h | ⟨o,h⟩) | h
 . exact .inl (.inl (e _ _ h))
 . exact .inl (.inr ⟨o,e _ _ h⟩)
 . exact .inr h
def sQ(scope:Scope)(cl:List 265)(C:Addr)(env:Env):Env:=
 {scope:=relabel scope env,locals:=C,globals:=env.globals,cells:=cellsFrom (C+1) scope.names cl,qual:=env.qual,func:=none,code:=env.code,frame:=env.frame,builtins:=env.builtins}
def fE(X:Cx)(N:List Str)(scope:Scope)(s:Shared)(H:Hp)(cl:List 265)(C:Addr)(ex:List Addr):Cx:=
 {X with N:=N,s₀:=s,H₀:=H,env:=sQ scope cl C X.env,outer:=X.stack,ex:=ex,fn:=fun x=>decide (scope.names.lookup x=some .cell),pn:= [],xe:=fun _ _=>False}
theorem bb: ∀(names:List 132) (n:Nat) (acc:List 265),cellsFrom n names acc=cellsFrom n names []++acc
 | [],_,_=>rfl
 | (name,kind)::r,n,acc=>by
  unfold cellsFrom;split
  . rw[bb r (n+1) ((name,n)::acc),bb r (n+1) [(name,n)],ag6];rfl
  . exact bb r n acc
theorem fD: ∀(names:List 132) (n:Nat) {x:Str} {c:Addr},(x,c)∈cellsFrom n names []->(x,NameKind.cell)∈names
 | [],_,_,_,h=>by simp [cellsFrom] at h
 | (name,kind)::r,n,x,c,h=>by
  unfold cellsFrom at h;split at h
  . rename_i hk;rw[bb] at h;rcases af6.mp h with q | q
    . exact ab6 _ (fD r _ q)
    . have e:(x,c)=(name,n):=by simpa using q
      cases e;have:kind= .cell:=by simpa using hk
      subst this;exact ac4
  . exact ab6 _ (fD r _ h)
theorem fC{α:Type}: ∀{l:List (Str × α)} {x:Str} {v:α},(l.map (·.1)).Nodup->(x,v)∈l->l.lookup x=some v
 | (k,w)::r,x,v,nd,h=>by
  rw[ac2] at nd;obtain⟨h1,h2⟩:=ak8.mp nd;rw[ag3];rcases ad1.mp h with e | h'
  . cases e;simp
  . have qe : (x == k) = false := by
      rw[ar1];intro e;exact h1 (e▸ac9.mpr ⟨(x,v),h',rfl⟩)
    rw[qe];exact fC h2 h'
theorem hV{env:Env}: ∀{names:List 132} {x:Str} {k:NameKind},
  (names.map fun(n,k)=>if 164 then(n,NameKind.cell) else(n,k)).lookup x=some k->
  names.lookup x=some k\/(k= .cell/\names.lookup x=some .free)
 | [],_,_,h=>by simp at h
 | (n,k0)::r,x,k,h=>by
  have ih:= @hV env r x k;rw[ac2] at h;cases hx:x==n with
  | true=>
   by_cases hc:218=true
   . dsimp only at h;rw[if_pos hc,ag3,hx] at h;cases h;right;refine⟨rfl,?_⟩;rw[ag3,hx];simp only [ak3] at hc;have:k0= .free:=by simpa using hc.1.1
     rw[this]
   . dsimp only at h;rw[if_neg hc,ag3,hx] at h;left;rw[ag3,hx];exact h
  | false=>
   have h':(r.map fun(n,k)=>if 164 then(n,NameKind.cell) else(n,k)).lookup x=some k:=by
    by_cases hc:218=true
    . dsimp only at h;rw[if_pos hc,ag3,hx] at h;exact h
    . dsimp only at h;rw[if_neg hc,ag3,hx] at h;exact h
   rw[ag3,hx];exact ih h'
theorem dU{env:Env}: ∀{names:List 132} {x:Str},names.lookup x=some .free->
  (names.map fun(n,k)=>if 164 then(n,NameKind.cell) else(n,k)).lookup x=some .free\/
  (names.map fun(n,k)=>if 164 then(n,NameKind.cell) else(n,k)).lookup x=some .cell
 | [],_,h=>by simp at h
 | (n,k0)::r,x,h=>by
  have ih:= @dU env r x;rw[ac2];dsimp only;cases hx:x==n with
  | true=>
   rw[ag3,hx] at h;cases h;by_cases hc:(NameKind.free==NameKind.free && env.scope.kind== .function && env.kindOf n==some .cell)=true
   . right;rw[if_pos hc,ag3,hx]
   . left;rw[if_neg hc,ag3,hx]
  | false=>
   rw[ag3,hx] at h;by_cases hc:218=true
   . rw[if_pos hc];simp only [ag3,hx];exact ih h
   . rw[if_neg hc];simp only [ag3,hx];exact ih h
theorem gB{scope:Scope}{env:Env}(h: ∀x∈scope.names,x.2= .free-> ∃c,env.cells.lookup x.1=some c):
  ∃cl,closureFor scope env=pure cl/\(∀x c,(x,c)∈cl->env.cells.lookup x=some c)/\ ∀x,(x,NameKind.free)∈scope.names-> ∃c,(x,c)∈cl:=by
 have gen: ∀(names:List 132) (acc:List 265),(∀x∈names,x.2= .free-> ∃c,env.cells.lookup x.1=some c)->(∀x c,(x,c)∈acc->env.cells.lookup x=some c)->
   ∃cl,(forIn names acc (fun(x:Str × NameKind) (cs:List 265)=>match x with | (name,kind)=>if kind== .free then(do let a<-cellOf env name;pure (ForInStep.yield ((name,a)::cs))) else pure (ForInStep.yield cs)):Sem (List 265))=pure cl/\
    (∀x c,(x,c)∈cl->env.cells.lookup x=some c)/\(∀p∈acc,p∈cl)/\ ∀x,(x,NameKind.free)∈names-> ∃c,(x,c)∈cl:=by
  intro names;induction names with
  | nil=>intro acc _ ha;exact⟨acc,by rw[List.forIn_nil],ha,fun _ hp=>hp,fun x hx=>by simp at hx⟩
  | cons p r ih=>
   intro acc hn ha;obtain⟨n,k⟩:=p;rw[List.forIn_cons];by_cases hk:(k==NameKind.free)=true
   . have r8:k= .free:=by simpa using hk
     obtain⟨c,hc⟩:=hn (n,k) ac4 r8;obtain⟨cl,e1,e2,e3,e4⟩:=ih ((n,c)::acc) (fun x hx=>hn x (ab6 _ hx)) (fun x c' hx=>by
      rcases ad1.mp hx with e | hx
      . cases e;exact hc
      . exact ha x c' hx)
     refine⟨cl,?_,e2,fun q hq=>e3 q (ab6 _ hq),fun x hx=>?_⟩
     . dsimp only;rw[if_pos hk];have:cellOf env n=pure c:=by unfold cellOf;rw[hc]
       rw[this];exact e1
     . rcases ad1.mp hx with e | hx
       . cases e;exact⟨c,e3 _ ac4⟩
       . exact e4 x hx
   . obtain⟨cl,e1,e2,e3,e4⟩:=ih acc (fun x hx=>hn x (ab6 _ hx)) ha;refine⟨cl,?_,e2,e3,fun x hx=>?_⟩
     . dsimp only;rw[if_neg hk];exact e1
     . rcases ad1.mp hx with e | hx
       . cases e;exact absurd rfl hk
       . exact e4 x hx
 obtain⟨cl,e1,e2,_,e4⟩:=gen scope.names [] h (fun _ _ hx=>nomatch hx);refine⟨cl,?_,e2,e4⟩;unfold closureFor;first
  | exact e1
  | (simp only [bind_pure];exact e1)
theorem sJ (I : Nat -> Shared -> Prop) (turn : ∀ n s, I n s -> wpAny 110 A (pyNext it) (fun r s₁ => match r with
   | none=>R (.ok .next) s₁
   | some v=>wpAny 110 A (letOwnedTupleGo target it v) (fun _ s₀=>wpAny 110 A (assign target env v) (fun _ s₂=>
     wpAny 110 A 240 (fun ok s₃=>
      if ok=true then wpAny 110 A (eval elt env) (fun x s₄=>
       wpAny 110 A (call (.builtin "list.append") [acc,x]) (fun _ s₅=> ∃m,m < n/\I m s₅) 129 s₄) 129 s₃
      else∃m,m < n/\I m s₃) 129 s₂) 129 s₀) 129 s₁) 129 s) (n:Nat) (h:I n s):codeAny 110 A (.compLoop (.ListComp elt [⟨target,iter,ifs,0⟩] scope pos) 0 it acc env) R s:=by
 refine codeAny_loop rfl I (fun n s hI=>?_) n h;show wpAny _ A ((compTurn (.ListComp elt [⟨target,iter,ifs,0⟩] scope pos) 0 it acc env).onRaise 344) _ _ s;refine wpAny_noted ?_;rw[compTurn_list];refine aa0 229;cases r with
 | none=>exact aa7 h₁
 | some v=>
  refine aa0 302;refine aa0 170;cases ok with
  | false=>exact aa7 ⟨rfl,h₃⟩
  | true=>
   exact aa0 239
def PF(X:Cx)(ifs:List Expr)(t:TT):Prop:=
 ∀(pins:List 123) (s:Shared) (σ:St) (H:Hp) (Q:Bool->Hp->Prop),Inv X pins σ H s->t σ H Q->
  wpAny 106 X.A (forIn ifs true fun c r=>if r=true then do let ok<-isTrue c X.env (eval c X.env);pure (ForInStep.yield ok) else pure (ForInStep.yield r)) (TP X pins σ Q) X.xe s
def N1:TT:=fun _ H Q=>Q true H
theorem Kz:PF X [] N1:=fun _ _ _ H _ I h=>wpAny_tests_nil ⟨H,I,h⟩
theorem Ky(h:PT X c t):PF X [c] t:=fun pins s σ H Q I hw=>wpAny_tests_one (h pins s σ H Q I hw)
def kF(nt:Nat)(js:List Nat)(σ:St):St:=List.replicate nt none++js.map fun j=>(σ[j]?).join
structure mq(X:Cx)(N:List Str)(nt:Nat)(js:List Nat)(scope:Scope):Prop where
 kind:scope.kind= .function
 nd:(scope.names.map (·.1)).Nodup
 len:nt<=N.length
 QR:js.map (fun j=>X.N[j]?)=(N.drop nt).map some
 fr: ∀x∈N.drop nt,scope.names.lookup x=some .free
 Iu: ∀x∈scope.names,x.2= .free->X.env.kindOf x.1=some .cell\/X.env.kindOf x.1=some .free
theorem mq.names(S:mq X N nt js scope): ∀x∈scope.names,x.2= .local->scope.names.lookup x.1=some .local:=fun x hx e=>by
 obtain⟨n,k⟩:=x;cases e;exact fC S.nd hx
theorem qA(S:mq X N nt js scope)(hc:X.calm=true)(I:Inv X pins σ H s)(hf: ∀b∈fp,eZ X pins H b)(WE: ∀b∈fp,b < s.heap.objs.size)(c1: ∀x c,(x,c)∈cl->X.env.cells.lookup x=some c)(c2: ∀x,(x,NameKind.free)∈scope.names-> ∃c,(x,c)∈cl):
  Inv (fE X N scope s H cl s.heap.objs.size fp) [] 292 H {s with heap:=pushCells 185 scope.names,toks:=tk}:=by
 have keep: ∀b o,s.heap.get? b=some o->(pushCells 185 scope.names).get? b=some o:=fun b o e=>ar5 _ _ b o (aa3 _ e);have ok:=cellsFrom_ok scope.names 185 143 [] ⟨fun _ _ hm=>(nomatch hm),List.Pairwise.nil⟩ (by rw[ai4];exact aa4 _);rw[ai4] at ok;have split: ∀x c,(cellsFrom 143 scope.names cl).lookup x=some c->(x,c)∈cellsFrom 143 scope.names []\/(x,c)∈cl:=fun x c e=>by
  rw[bb] at e;exact af6.mp (af7 e)
 have old: ∀x c,(x,c)∈cl->c < s.heap.objs.size:=fun x c h=>by
  obtain⟨v,q⟩:=I.cell x c (c1 x c h);exact q.lt
 have new: ∀x c,(x,c)∈cellsFrom 143 scope.names []->s.heap.objs.size+1<=c:=fun x c h=>(ok.empty x c h).2;have fresh: ∀b,s.heap.objs.size<=b->H b=none:=fun b hb=>I.aQ.fresh hb;have vd: ∀x,scope.names.lookup x=some .free-> ∀c,X.env.cells.lookup x=some c->(cellsFrom 143 scope.names cl).lookup x=some c:=fun x hx c Y5=>by
  obtain⟨c',IV⟩:=c2 x (af7 hx);have e1:(cellsFrom 143 scope.names []).lookup x=none:=by
   cases e:(cellsFrom 143 scope.names []).lookup x with
   | none=>rfl
   | some d=>
    have:=fC S.nd (fD _ _ (af7 e));rw[hx] at this;cases this
  have e2: ∃d,cl.lookup x=some d:=by
   cases e:cl.lookup x with
   | some d=>exact⟨d,rfl⟩
   | none=>
    exfalso;have: ∀{l:List 265},(x,c')∈l->l.lookup x≠none:=fun{l}=>by
     induction l with
     | nil=>intro h;simp at h
     | cons p r ih=>
      intro h;obtain⟨k,v⟩:=p;rw[ag3];cases hb:x==k with
      | true=>simp
      | false=>
       rcases ad1.mp h with q | q
       . cases q;simp at hb
       . exact ih q
    exact this IV e
  obtain⟨d,hd⟩:=e2;have:d=c:=by
   have:=c1 x d (af7 hd);rw[Y5] at this;cases this;rfl
  subst this;rw[bb,List.lookup_append,e1,hd];rfl
 have Zm: ∀b,b≠X.env.locals->b∉X.fs->b∉oM X.stack:=fun b h1 h2 hb=>(ad1.mp (I.qY b hb)).elim h1 h2;refine⟨⟨I.ok.mod,S.kind,I.ok.glob,I.ok.blt,aa4 _,fun x y c e1 e2=>?_,fun x hx=>?_,fun x c h1 h2=>?_,I.ok.hd,I.ok.frames,.inl rfl,fun b hb=>⟨?_,fun x c e=>?_⟩,fun b o e=>⟨I.bk b o e,(I.bs b o e).2⟩,?_,fun b o e hb=>?_,fun b hb=>?_,I.stack,I.qZ,I.tab⟩,
  rfl,I.bare,Un.kept keep,⟨_,(Heap.Ns.new s.heap 360).keeps (ar5 _ _),fun i x v e1 e2 e3=>?_⟩,fun x c e=>?_,fresh _ (aa4 _),fun x c e=>?_,fun p hp=>absurd (show p∈([]:List 123) from hp) 112,I.aQ.kept keep,?_⟩
 . rcases split x c e1 with h1 | h1 <;> rcases split y c e2 with h2 | h2
   . exact name_of_addr ok.apart h1 h2
   . exact absurd (ac8 (old y c h2) (as4 (new x c h1))) (af2 _)
   . exact absurd (ac8 (old x c h1) (as4 (new y c h2))) (af2 _)
   . exact I.ok.inj x y c (c1 x c h1) (c1 y c h2)
 . have own : scope.names.lookup x = some .cell -> ∃ c, (cellsFrom (s.heap.objs.size + 1) scope.names cl).lookup x = some c := fun h => by
     obtain⟨c,e⟩:=j9 (n:=s.heap.objs.size+1) h;exact⟨c,by rw[bb,List.lookup_append,e];rfl⟩
   have WN:scope.names.lookup x=some .free-> ∃c,(cellsFrom 143 scope.names cl).lookup x=some c:=fun h=>by
    obtain⟨c,e⟩:=I.ok.has x (S.Iu _ (af7 h) rfl);exact⟨c,vd x h c e⟩
   rcases hx with h | h <;> rcases hV h with q | ⟨z,q⟩
   . exact own q
   . exact WN q
   . exact WN q
   . cases z
 . have h1:scope.names.lookup x=some .cell:=by simpa [fE] using h1
   obtain⟨d,e⟩:=j9 (n:=s.heap.objs.size+1) h1;have h2:(cellsFrom 143 scope.names cl).lookup x=some c:=h2;rw[bb,List.lookup_append,e] at h2;have:d=c:=by simpa using h2
   subst this;exact as4 (new x d (af7 e))
 . exact af0 (WE b hb)
 . rcases split x c e with h | h
   . exact an7 (ac8 (WE b hb) (as4 (new x c h)))
   . exact(411).2.2.2.2.1 x c (c1 x c h)
 . exact ac6 I.ok.HK I.sz
 . rcases(411).2.2.2.1 with z | z
   . exact I.ok.De b o e z
   . exact absurd (ac8 (ad0 e) (ac6 I.ok.HK z)) (af2 _)
 . exact Zm b (411).2.1 (411).2.2.1
 . have hi : nt <= i := by
     apply Nat.le_of_not_lt;intro dQ;unfold kF at e2;rw[ad7 (by simpa using dQ),ad2,if_pos dQ] at e2;cases e2
   have AO:(js.map fun j=>(σ[j]?).join)[i - nt]?=some 356:=by
    unfold kF at e2;rw[ae7 (by simpa using hi),an4] at e2;exact e2
   rw[aa6] at AO;have Mk:(N.drop nt)[i - nt]?=some x:=by
    rw[List.getElem?_drop];have:nt+(i - nt)=i:=by lia
    rw[this];exact e1
   cases hj:js[i - nt]? with
   | none=>rw[hj] at AO;cases AO
   | some j=>
    rw[hj] at AO;have sE:(σ[j]?).join=some v:=by simpa using AO
    have hσ:σ[j]?=some 356:=by
     cases q:σ[j]? with
     | none=>rw[q] at sE;cases sE
     | some o=>rw[q] at sE;simpa using sE
    have hX:X.N[j]?=some x:=by
     have:=ai5 (fun l=>l[i - nt]?) S.QR;simp only [aa6,hj,Mk,Option.map_some] at this;exact Option.some.inj this
    have iZ:=S.fr x (ac7 Mk);have hk:=S.Iu _ (af7 iZ) rfl;obtain⟨m,_,hl⟩:=I.loc;obtain⟨u,ru,lk⟩:=hl j x v hX hσ (by rcases hk with q | q;exact .inr (.inl q);exact .inr (.inr q));refine⟨u,ru,?_⟩;rcases lk with ⟨r8,_⟩ | ⟨_,c,G8,lN⟩
    . rcases hk with q | q <;> rw[q] at r8 <;> cases r8
    . refine .inr ⟨?_,c,vd x iZ c G8,lN.keeps keep⟩;rcases dU (env:=X.env) iZ with q | q
      . exact .inr q
      . exact .inl q
 . rcases split x c e with h | h
   . exact⟨none,(ok.empty x c h).1⟩
   . obtain⟨v,q⟩:=I.cell x c (c1 x c h);exact⟨v,q.keeps keep⟩
 . rcases split x c e with h | h
   . exact fresh _ (as4 (new x c h))
   . exact I.gH x c (c1 x c h)
 . unfold kF;show _=N.length;rw[ab8,an4,aa2];have:=ai5 List.length S.QR;rw[aa2,aa2,at4] at this;have:=S.len;lia
def mj(nt:Nat)(g:TG):Prop:= ∀v σ H (Q:St->Hp->Prop),g v σ H Q->g v σ H fun σ' H'=>Q σ' H'/\σ'.length=σ.length/\ ∀k,nt<=k->σ'[k]?=σ[k]?
def zo(nt:Nat)(g:MZ):Prop:= ∀vs σ H (Q:St->Hp->Prop),g vs σ H Q->g vs σ H fun σ' H'=>Q σ' H'/\σ'.length=σ.length/\ ∀k,nt<=k->σ'[k]?=σ[k]?
theorem bz(h:i < nt:=by decide):mj nt (cI i):=fun v σ H Q q=>⟨q,by simp,fun k hk=>by rw[ab2 101]⟩
theorem D5:zo nt wZ:=fun vs σ H Q cK=>(by obtain⟨e,q⟩:=cK;exact(⟨e,q,rfl,fun _ _=>rfl⟩))
def zm(g:MZ):Prop:= ∀vs σ H (Q Q':St->Hp->Prop),(∀σ' H',Q σ' H'->Q' σ' H')->g vs σ H Q->g vs σ H Q'
theorem qh:zm wZ:=fun vs σ H Q Q' hq eU=>(by obtain⟨e,q⟩:=eU;exact(⟨e,hq _ _ q⟩))
theorem wW(hu:zm u):zm (gG (cI i) u):=fun vs σ H Q Q' hq gk=>(by obtain⟨v,r,e,q⟩:=gk;exact(⟨v,r,e,hu r _ _ Q Q' hq q⟩))
theorem qi(h:i < nt:=by decide)(hm:zm u)(hu:zo nt u):zo nt (gG (cI i) u):=fun vs σ H Q cK=>(by obtain⟨v,r,e,q⟩:=cK;exact(by
 refine⟨v,r,e,hm _ _ _ _ _ (fun σ' H' z=>?_) (hu r 329 H Q q)⟩;obtain⟨z1,z2,z3⟩:=z;refine⟨z1,by simpa using z2,fun k hk=>?_⟩;rw[z3 k hk,ab2 101]))
theorem D4{nt n:Nat}{K:PySem.W.Frag}(h:zo nt t):mj nt (AD K n t):=fun v σ H Q i6=>(by obtain⟨a,xs,e,sq,l,q⟩:=i6;exact(⟨a,xs,e,sq,l,h xs σ H Q q⟩))
def JF(nt:Nat)(js:List Nat)(g:TG)(tc:TT)(te:TE)(σ:St)(Q:VK)(D:Addr)(J:It)(H0:Hp):Prop:=
 ∃W:Nat->Nat->List V->Hp->Prop,(∃m,W 0 m [] H0)/\ ∀i m acc H,W i m acc H->
  (J.stop i H/\Q (.ref D) H)\/(J.go i H/\acc.length < sizeLine/\ ∃B:List V->Hp->Prop,(∀cf H',B cf H'-> ∃m',m' < m/\W (i+1) m' cf H')/\ ∀x H',J.Bl i H x H'->g x 292 H' fun σ2 H2=>
   tc σ2 H2 fun b H3=>if b=true then te σ2 H3 fun v H4=>H4 D=some (.lst acc)/\B (acc++ [v]) (upd H4 D (.lst (acc++ [v]))) else B acc H3)
def B8(nt:Nat)(js:List Nat)(wi:TI)(g:TG)(tc:TT)(te:TE):TE:=fun σ H Q=>wi σ H fun J H1=> ∀D,H1 D=none->JF nt js g tc te σ Q D J (upd H1 D 353)
theorem iR{s:Shared}(h: ∀oq:Env,{oq with scope:=relabel scope env}=sQ scope cl s.heap.objs.size env->oq.locals=s.heap.objs.size->Q oq {s with heap:=pushCells 185 scope.names}):
  wpAny M A (newFunctionEnv scope env.globals cl [] env.qual none .none (some env)) Q E s:=by
 simp only [newFunctionEnv,Option.isSome_some,if_true];refine aa0 (wpAny_alloc ?_);refine aa0 (wpAny_layCells _ (fun name kind cells=>by cases YX:kind==NameKind.cell <;> simp [YX]) _ _ _ _ ?_);rw[show(168).heap.objs.size=s.heap.objs.size+1 from ai4 ..];first
  | exact aa7 (h _ rfl rfl)
  | exact aa0 (aa7 (aa7 (h _ rfl rfl)))
theorem qw{elt tg iter:Expr}{ifs:List Expr}{pos:Pos}{g:TG}{tc:TT}{te:TE}{cl:List 265}{Q:VK}{E:Value->Shared->Prop}{RR:Value->Addr->Result->Shared->Prop}(S:mq X N nt js scope)(hc:X.calm=true)(hg: ∀s H cl C ex,PG 109 tg g)(ip:mj nt g)(hf: ∀s H cl C ex,PF 109 ifs tc)(he: ∀s H cl C ex,PE 109 elt te){tn:Nat->Heap->Prop}(I:Inv X pins σ H s)(T:Turn X.prog X.w X.K tg J fp it tn)(st:tn 0 s.heap)(ff: ∀b∈fp,eZ X pins H b)(c1: ∀x c,(x,c)∈cl->X.env.cells.lookup x=some c)(c2: ∀x,(x,NameKind.free)∈scope.names-> ∃c,(x,c)∈cl)(R: ∀D,H D=none->JF nt js g tc te σ Q D J (upd H D 353))(fin: ∀(D C:Addr) (s':Shared) (H':Hp),Inv X pins σ H' s'->eZ X pins H' C->(∃m,s'.heap.Ns C m)->Q (.ref D) H'->RR (.ref D) C (.ok .next) s'):
  wpAny 106 X.A (newList []) (fun acc s₃=>wpAny 106 X.A (newFunctionEnv scope X.env.globals cl [] X.env.qual none .none (some X.env)) (fun oq s₄=>
   codeAny 106 X.A (.compStart 115 0 346 acc {oq with scope:=relabel scope X.env}) (RR acc oq.locals) s₄) E s₃) E s:=by
 refine ai0 (iR fun oq Em Mi=>?_);rw[Em,Mi];dsimp only;have hD:H s.heap.objs.size=none:=I.aQ.fresh (aa4 _);obtain⟨W,⟨m0,w0⟩,turn⟩:=R s.heap.objs.size hD;have kD: ∀b u,s.heap.get? b=some u->(107).get? b=some u:=fun b u e=>aa3 _ e;have I3:Inv X pins σ 172 {s with heap:=s.heap.push {cls:= .type "list",data:= .seq (181).toArray},toks:=s.toks}:=
  I.laid kD (aa4 _) ⟨ae3 _,[],_,.nil,ab4 _ rfl⟩
 have fs: ∀b∈fp,b < s.heap.objs.size:=fun b hb=>by
  obtain⟨o,e,_⟩:=T.obj _ _ st b hb;exact ad0 e
 have Qb: ∀b∈fp,eZ X pins 172 b:=fun b hb=>⟨by rw[ah (af0 (fs b hb))];exact(ff b hb).1,(ff b hb).2⟩
 have I4:=qA (tk:=s.toks) S hc I3 Qb (fun b hb=>by show b < (s.heap.push _).objs.size;rw[ai4];exact aq1 (fs b hb)) c1 c2;dsimp only at I4;have UN:(107).objs.size=s.heap.objs.size+1:=ai4 ..;generalize hY:fE X N scope {s with heap:=s.heap.push {cls:= .type "list",data:= .seq (181).toArray},toks:=s.toks} 172 cl (107).objs.size fp=Y at I4;have Za:=hY;have xF:Y.env=sQ scope cl (107).objs.size X.env:=by rw[<-hY];rfl
 have eT:Y.prog=X.prog:=by rw[<-hY];rfl
 have Yw:Y.w=X.w:=by rw[<-hY];rfl
 have YA:Y.A=X.A:=by rw[<-hY];rfl
 have YK:Y.K=X.K:=by rw[<-hY];rfl
 have qF:Y.calm=true:=by rw[<-hY];exact hc
 have zj:Y.xe=fun _ _=>False:=by rw[<-hY];rfl
 have Fl:Y.ex=fp:=by rw[<-hY];rfl
 have Vz:Y.pn= []:=by rw[<-hY];rfl
 have VA:Y.fs=oM X.stack:=by rw[<-hY];rfl
 have QZ:Y.s₀={s with heap:=s.heap.push {cls:= .type "list",data:= .seq (181).toArray},toks:=s.toks}:=by rw[<-hY];rfl
 have VB:Y.H₀=upd H s.heap.objs.size 353:=by rw[<-hY];rfl
 have Ur:PG Y tg g:=by rw[<-hY];exact hg _ _ _ _ _
 have Uu:PF Y ifs tc:=by rw[<-hY];exact hf _ _ _ _ _
 have Uw:PE Y elt te:=by rw[<-hY];exact he _ _ _ _ _
 have hm:(Y.N.length:Nat)=(292).length:=I4.len.symm;rw[<-xF,<-eT,<-Yw,<-YA];have L0: ∀{H':Hp} (_: ∀b∈fp,H' b=none),∀b∈fp,eZ Y [] H' b:=fun{H'} hn b hb=>by
  refine 207;rw[Vz] at hp;simp at hp
 have back: ∀{H':Hp} {s':Shared} {σ':St},Inv Y [] σ' H' s'->Inv X pins σ H' s'/\eZ X pins H' Y.env.locals/\ ∃m,s'.heap.Ns Y.env.locals m:=fun{H' s' σ'} J=>by
  have hb:Un (oM X.stack) fp 172 H' 107 s'.heap:=by
   have:=J.base;rw[VA,Fl,VB,QZ] at this;exact this
  have loc:Y.env.locals=s.heap.objs.size+1:=by rw[xF];exact UN
  have os:s'.os=s.os:=by
   have:=J.os;rw[QZ] at this;exact this
  have aQ:iA X.prog X.w H' s'.heap:=by
   have:=J.aQ;rw[eT,Yw] at this;exact this
  refine 204;exact I.iO (by rw[loc];exact ap1 _) J.free
 have loop:codeAny (model Y.prog Y.w) Y.A (.compLoop 115 0 346 126 Y.env) (RR 126 Y.env.locals)
   {s with heap:=pushCells ((107).push {cls:= .type "dict",data:= .dict #[]}) scope.names}:=by
  refine sJ (fun n s'=> ∃i acc H',Inv Y [] 292 H' s'/\tn i s'.heap/\196/\W i n acc H') ?_ m0
   ⟨0,[],_,I4,T.keep _ _ _ st fun b _ o e=>ar5 _ _ b o (aa3 _ (kD b o e)),fun b hb=>(Qb b hb).1,w0⟩
  rintro n s5 ⟨i,acc,H5,I5,Bm,FP,w5⟩
  rcases turn i n acc H5 w5 with ⟨stop,q⟩ | ⟨go,hlen,B,hB,step⟩
  . have hd:=T.done Y eT Yw YK qF i [] s5 _ H5 129 I5 (L0 FP) Bm stop;rw[<-eT,<-Yw] at hd;refine aU hd fun r s6 kq=>?_;obtain⟨hr,I6⟩:=kq;subst hr;obtain⟨b1,b2,b3⟩:=back I6;exact fin _ _ _ _ b1 b2 b3 q
  . have hd:=T.item Y eT Yw YK qF i [] s5 _ H5 129 I5 (L0 FP) Bm go;rw[<-eT,<-Yw] at hd;refine aU hd fun r s6 oO=>?_;obtain⟨u,hr,h6⟩:=oO;subst hr;refine aU h6 fun _ s7 qJ=>?_;obtain⟨x,H7,I7,r7,y7,Cb,Qa⟩:=qJ;have Ra:=I7.pinned (L0 Qa) (T.obj _ _ Cb);have g7:=ip _ _ _ _ (step x H7 y7);have h7:=Ur _ s7 _ H7 x u _ Ra r7 g7;rw[zj] at h7;refine aU h7 fun _ s8 mQ=>?_;obtain⟨σ8,H8,I8,q8,l8,k8⟩:=mQ;have h8:=Uu _ s8 σ8 H8 _ I8 q8;rw[zj] at h8;refine aU h8 fun b s9 gm=>?_;obtain⟨H9,I9,q9⟩:=gm;have again: ∀{mi:Hp} {oW:Shared} {cf:List V},Inv Y ([]++jh fp s7.heap) σ8 mi oW->B cf mi-> ∃m,m < n/\ ∃i acc H',Inv Y [] 292 H' oW/\tn i oW.heap/\196/\W i m acc H':=fun{mi oW cf} xK QW=>by
     obtain⟨m',PD,NS⟩:=hB cf mi QW;refine 139
     . by_cases hk:nt<=k
       . rw[k8 k hk];exact e
       . exfalso;unfold kF at e;rw[ad7 (by simp;lia),ad2,if_pos 101] at e;cases e
     . obtain⟨o,e,d⟩:=T.obj _ _ Cb b hb;exact(xK.pin (b,o) (ad8 _ (ad8 _ (cu hb e)))).2.1
    cases b with
    | false=>
     rw[if_neg ab3] at q9 ⊢;exact again I9 q9
    | true=>
     rw[if_pos rfl] at q9 ⊢;have h9:=Uw _ s9 σ8 H9 _ I9 q9;rw[zj] at h9;refine aU h9 fun y oW i7=>?_;obtain⟨v,mi,xK,S7,LU,OD⟩:=i7;have LV:=(kN (X:=Y) _ oW σ8 mi 126 [v] 126 [y] (fun _ H'=>B (acc++ [v]) H') xK rfl (.cons S7 .nil) ⟨_,acc,v,rfl,rfl,LU,hlen,OD⟩)
     rw[zj] at LV;refine aU LV fun _ Rx mS=>?_;obtain⟨_,Nf,Rb,_,S8⟩:=mS;exact again Rb S8
 have El:(107).objs.size=Y.env.locals:=by rw[xF];rfl
 rw[El];exact codeAny_compStart_list loop 271
theorem GA(S:mq X N nt js scope)(hc:X.calm=true)(hi:PI X tg iter wi)(hg: ∀s H cl C ex,PG 109 tg g)(ip:mj nt g)(hf: ∀s H cl C ex,PF 109 ifs tc)(he: ∀s H cl C ex,PE 109 elt te)(hs: ∀x,foldedSetIterable iter X.env x=pure x:=by intro _;rfl):PE X 115 (B8 nt js wi g tc te):=by
 intro pins s σ H Q I h;obtain⟨cl,IU,c1,c2⟩:=gB (scope:=scope) (env:=X.env) fun x hx e=>I.ok.has x.1 (S.Iu x hx e);rw[eval_ListComp];refine au9 (use:=none) rfl hs IU S.kind S.names (aU 323 fun v s1 h1=>aU h1 fun Pd s2 h2=>?_);obtain⟨it,fp,tn,J,H2,rfl,I2,T,eX,f2,R⟩:=h2;refine qw (RR:=fun acc C=>compPost 106 X.A X.xe none 253 acc C) S hc hg ip hf he I2 T eX f2 c1 c2 R fun D C s' H' I' fo qM q=>?_;obtain⟨m,hn⟩:=qM;refine⟨m,hn,fun h' sb=>⟨.ref D,H',?_,rfl,q⟩⟩;obtain⟨f0,f1,_,f3,f4,f5⟩:=fo;exact I'.turned (t':=s'.toks) 313 f0 f1 f3 f4 f5
theorem yt{pos pos' py:Pos}(hN:X.N.Nodup)(G6:X.N[i]?=some y)(hy:Loc X.env.scope y)(S:mq X N nt js scope)(hc:X.calm=true)(hi:PI X tg iter wi)(hg: ∀s H cl C ex,PG 109 tg g)(ip:mj nt g)(hf: ∀s H cl C ex,PF 109 ifs tc)(he: ∀s H cl C ex,PE 109 elt te)(G4:swapsWith 115 (some 289) pos'.line X.env=pure true:=by rfl)(hs: ∀x,foldedSetIterable iter X.env x=pure x:=by intro _;rfl)(Ax:X.fn y=true\/X.env.scope.names.lookup y=some .local:=by first | exact .inl rfl | exact .inr rfl | assumption):
  PS X (.Assign [.Name y py] 115 pos') (zE (B8 nt js wi g tc te) (cI i)):=by
 intro pins s σ H D I h;obtain⟨cl,IU,c1,c2⟩:=gB (scope:=scope) (env:=X.env) fun x hx e=>I.ok.has x.1 (S.Iu x hx e);rw[exec_Assign_Name_used _ _ _ _ G4];refine aa0 (ak4 (aa0 ?_));show wpAny _ _ (do let _<-comprehension 115 scope X.env _ (newList []) false (eval iter X.env) (some 267)) _ _ s;refine aa0 (ae0 (au9 (use:=some 267) (Q:=fun _ s'=>SP X pins D .next s') rfl hs IU S.kind S.names
  (aU 323 fun v s1 h1=>aU h1 fun Pd s2 h2=>?_)) (fun _ s' hq=>aa7 (aa7 hq)) fun _ _ e=>e)
 obtain⟨it,fp,tn,J,H2,rfl,I2,T,eX,f2,R⟩:=h2;refine qw (RR:=fun acc C=>compPost 106 X.A X.xe (some 267) (fun _ s'=>SP X pins D .next s') acc C) (Q:=fun x H1=>cI i x σ H1 D.nx) S hc hg ip hf he I2 T eX f2 c1 c2 R fun Da C s' H' I' fo vF q=>?_;obtain⟨m,hn⟩:=vF;show wpAny _ _ (assign 289 X.env (.ref Da)) _ _ _;obtain⟨f0,f1,_,f3,f4,f5⟩:=fo;refine wpAny_assign_Name (kE I' hN G6 hy (v:= .ref Da) rfl (fun sW Rc mR=>?_) Ax);obtain⟨a,sb,ha⟩:=mR;have UL:C≠a:=by
  rcases ha with z | z
  . rw[z];exact f1
  . exact Ne.symm (f4 _ _ z)
 refine⟨m,hn.sameBut sb UL,fun h' S2=>⟨_,H',?_,q⟩⟩;exact Rc.turned (t':=sW.toks) (fun b o hb e=>(S2.2 b hb).trans e) f0 f1 f3 f4 f5
open AutoSeq1 (wpAny_loadPart')
theorem Lq(q1:typeLookup 397 "__init__"=pure (some (.builtin "object.__init__")))(q2:Bind.madeBy 397=pure (some newId))(q3:(some newId !=some "object.__new__")=true):Meets (Builtin.«object.__init__» ⟨me::more,kw⟩) (fun _ R s=>s.TypeIs me T/\R (.ok (.ret .none)) s):=by
 refine Meets.of_wp fun prog w A R s cK=>?_;obtain⟨hT,hq⟩:=cK;cases more with
 | nil=>
  cases kw with
  | nil=>exact aa7 ⟨_,rfl,hq⟩
  | cons p r=>
   repeat (any_goals (first | assumption | wp_step))
   all_goals exact⟨_,rfl,hq⟩
 | cons a r=>
  repeat (any_goals (first | assumption | wp_step))
  all_goals exact⟨_,rfl,hq⟩
theorem iy(ft:TypeCalled T newId "object.__init__")(qe:(some newId !=some "object.__new__")=true)(c1:checkTypeCall T ⟨xs,kw⟩=pure ())(c2:checkBuiltinCall newId ⟨.type T::xs,kw⟩=pure ())(c3: ∀ob,argsOk "object.__init__" ⟨ob::xs,kw⟩)(eN:entryFor table newId=some B)(mt:Meets (B ⟨.type T::xs,kw⟩) S)(h:S A.in1 (wants (fun ob z=>z.TypeIs ob T/\Q ob z) E) s):wpAny 110 A (call 397 xs kw) Q E s:=by
 obtain⟨c,tl,Ua⟩:=ft.mro;have WB:=ft.made;have Aq:=ft.sub;refine wpAny_call (codeAny_of_tree (show wpAny _ _ (callAny 397 _) _ _ _ from aa7 ⟨Code.quiet_builtin _ (by decide+kernel),aj2 F.entry_type_call ?_⟩));rw[Around.under_plain (weight_type_call_type T xs kw) (units_type_call_type T xs kw)];have k1:=ft.notType;have k2:=ft.canCreate;repeat (any_goals (first | assumption | wp_step))
 refine au2 (codeAny_call_builtin ft.plain eN (am6 c2 (mt prog w A.in1 _ s h))) fun r z hr=>?_;match r,hr with
 | .error e,hr=>exact hr
 | .ok (.ret ob),hr=>
  obtain⟨hT,hq⟩:=hr;have l1:=ft.init.lookup;have l2:=ft.init.bind ob;repeat (any_goals (first | assumption | wp_step))
  refine au2 (codeAny_call_builtin ft.init.plain F.entry_object_init (ft.init.check _ _ _ _ _ _ _ _ hT (c3 ob) (Lq ft.init.lookup ft.made qe prog w A.in1 (wants (fun v z'=>v= .none/\Q ob z') E) z ⟨hT,rfl,hq⟩))) fun r2 z2 wO=>?_;match r2,wO with
  | .error e,wO=>exact wO
  | .ok (.ret v),wO=>
   obtain⟨rfl,hq2⟩:=wO;repeat (any_goals (first | assumption | wp_step))
  | .ok .next,wO=>exact wO.elim
  | .ok .brk,wO=>exact wO.elim
  | .ok .cont,wO=>exact wO.elim
 | .ok .next,hr=>exact hr.elim
 | .ok .brk,hr=>exact hr.elim
 | .ok .cont,hr=>exact hr.elim
open AutoSeq1 (wpAny_loadPart')
def jY(h:Heap)(t:Addr)(k:Int):Heap:=
 (h.push {cls:= .type "tuple_iterator",data:= .fields #[.ref t,.int 0 0]}).push {cls:= .type "enumerate",data:= .fields #[.none,.bool false,.ref h.objs.size,rawInt k,.none,.none]}
def oh(t:Addr)(k:Int):PySem.Spec:=fun _ R s=>(∃items,s.heap.IsTuple t items)/\R (.ok (.ret (.ref (s.heap.push {cls:= .type "tuple_iterator",data:= .fields #[.ref t,.int 0 0]}).objs.size))) {s with heap:=jY s.heap t k}
theorem Ei(t:Addr):Meets (Builtin.«enumerate.__new__» ⟨[.type "enumerate",.ref t],[]⟩) (oh t 0):=
 .of_wp fun prog w A R s cK=>(by obtain⟨⟨items,hT⟩,h⟩:=cK;exact(by
  obtain⟨hp,g,d,tk,os⟩:=s;have Aq:=sub_enumerate;obtain⟨⟨c,Ql,dt,sl⟩,hl,hc,n,hd⟩:=id hT;replace hc:c= .type "tuple":=hc
  replace hd:dt= .seq items n:=hd
  subst hc hd;wp_walk using af1 hl
  refine wpAny_stack_any fun st=>aa7 ?_;split
  . rename_i c _ _ _ _ _;cases 367 <;> (wp_walk using af1 hl,ai2 hT;exact⟨_,rfl,h⟩)
  . wp_walk using af1 hl,ai2 hT
    exact⟨_,rfl,h⟩))
theorem Eg(t:Addr)(u:Tok):Meets (Builtin.«enumerate.__new__» ⟨[.type "enumerate",.ref t],[("start",.int 1 u)]⟩) (oh t 1):=
 .of_wp fun prog w A R s eU=>(by obtain⟨⟨items,hT⟩,h⟩:=eU;exact(by
  obtain⟨hp,g,d,tk,os⟩:=s;have Aq:=sub_enumerate;obtain⟨⟨c,Ql,dt,sl⟩,hl,hc,n,hd⟩:=id hT;replace hc:c= .type "tuple":=hc
  replace hd:dt= .seq items n:=hd
  subst hc hd;wp_walk using af1 hl
  refine wpAny_stack_any fun st=>aa7 ?_;split
  . rename_i c _ _ _ _ _;cases 367 <;> (wp_walk using af1 hl,ai2 hT;exact⟨_,rfl,h⟩)
  . wp_walk using af1 hl,ai2 hT
    exact⟨_,rfl,h⟩))
theorem Eh(t:Addr)(u:Tok):Meets (Builtin.«enumerate.__new__» ⟨[.type "enumerate",.ref t,.int 1 u],[]⟩) (oh t 1):=
 .of_wp fun prog w A R s gk=>(by obtain⟨⟨items,hT⟩,h⟩:=gk;exact(by
  obtain⟨hp,g,d,tk,os⟩:=s;have Aq:=sub_enumerate;obtain⟨⟨c,Ql,dt,sl⟩,hl,hc,n,hd⟩:=id hT;replace hc:c= .type "tuple":=hc
  replace hd:dt= .seq items n:=hd
  subst hc hd;wp_walk using af1 hl
  refine wpAny_stack_any fun st=>aa7 ?_;split
  . rename_i c _ _ _ _ _;cases 367 <;> (wp_walk using af1 hl,ai2 hT;exact⟨_,rfl,h⟩)
  . wp_walk using af1 hl,ai2 hT
    exact⟨_,rfl,h⟩))
open AutoSeq1 (wpAny_loadPart')
theorem tL(a1:s.heap.IsTupleIter it t j)(a2:s.heap.IsTuple t ai)(a3:ai[j]?=some y)(k: ∀h',h'.IsTupleIter it t (j+1)->Heap.SameBut it s.heap h'->Q y {s with heap:=h'}):wpAny 110 A 297 Q E s:=by
 obtain⟨ob,b1,b2,b3⟩:=id a1;obtain⟨ot,d1,_,nt,d2⟩:=a2;unfold Builtin.SmallTypes.nextOf;refine aa0 237;show wpAny _ _ (field 346 0 >>=_) _ _ s;refine aa0 (aj9 b1 b3 (x:= .ref t) rfl ?_);show wpAny _ _ (if (Value.ref t==Value.none)=true then _ else _) _ _ s;rw[if_neg (show¬(Value.ref t==Value.none)=true from fun z=>nomatch (show false=true from z))];show wpAny _ _ (field 346 1 >>=_) _ _ s;refine aa0 (aj9 b1 b3 (x:= .int j 0) rfl ?_);show wpAny _ _ (seqItems? (.ref t) >>=_) _ _ s;refine aa0 (ah7 d1 d2 ?_);simp only [ae5,a3];refine aa0 (wpAny_setField b1 b3 112 (aa7 ⟨y,rfl,aa7 (k _ ⟨_,an5 _ b1 (Obj.isFreed_of_fields (Obj.data_mapFields b3 _)),(Obj.cls_mapFields ..).trans b2,by rw[Obj.data_mapFields b3];simp [rawInt]⟩ (ar3 ..))⟩))
theorem tM(hh:A.handled=none)(a1:s.heap.IsTupleIter it t j)(a2:s.heap.IsTuple t ai)(a3:ai[j]?=none)(k: ∀h' e,Heap.ExtBut it s.heap h'->291->E (.ref e) {s with heap:=h'}):wpAny 110 A 297 Q E s:=by
 obtain⟨ob,b1,b2,b3⟩:=id a1;obtain⟨ot,d1,_,nt,d2⟩:=a2;unfold Builtin.SmallTypes.nextOf;refine aa0 237;show wpAny _ _ (field 346 0 >>=_) _ _ s;refine aa0 (aj9 b1 b3 (x:= .ref t) rfl ?_);show wpAny _ _ (if (Value.ref t==Value.none)=true then _ else _) _ _ s;rw[if_neg (show¬(Value.ref t==Value.none)=true from fun z=>nomatch (show false=true from z))];show wpAny _ _ (field 346 1 >>=_) _ _ s;refine aa0 (aj9 b1 b3 (x:= .int j 0) rfl ?_);show wpAny _ _ (seqItems? (.ref t) >>=_) _ _ s;refine aa0 (ah7 d1 d2 ?_);simp only [ae5,a3];refine aa0 (aj5 (aa0 (wpAny_setField b1 b3 112 ?_)));show wpAny _ _ (newExc (.type "StopIteration") [] >>=_) _ _ _;refine aa0 ?_;simp only [newExc,newTuple];refine aa0 (ai0 ?_ (by size_fits));refine aa0 (m:=firstArgMember _ _) (am6 (a:=Value.none) (by first | rfl | (simp only [firstArgMember];rfl)) (ai0 ?_ (by size_fits)));simp only [raiseNew];refine aa0 (wpAny_handled ?_);first | rw[show A.in1.handled=none from hh] | rw[hh]
 exact aa0 (aa7 (wpAny_throw (k _ _ (((ar3 ..).extBut.push _).push _) ⟨_,ab4 _ rfl,rfl⟩)))
theorem uW{prog:Program}{w:World}{A:Around}(hh:A.handled=none)(it t:Addr)(qe:t≠it)(ai:Array Value)(k:Nat):
  Draws prog w A it [it,t] (ai.size+k) (fun i v=>k<=i/\ai[i - k]?=some v) (fun i h=>k<=i/\h.IsTupleIter it t (i - k)/\h.IsTuple t ai) where
 live:=fun _ _ cK=>(by obtain⟨_,st,_⟩:=cK;exact(let ⟨o,ho,_⟩:=st;⟨o,ho⟩))
 frame:=fun _ _ _ eU hk=>(by obtain⟨l,st,eX⟩:=eU;exact(⟨l,let ⟨o,q,r⟩:=st;⟨o,hk it 112 o q,r⟩,let ⟨o,q,r⟩:=eX;⟨o,hk t 112 o q,r⟩⟩))
 item:=fun i s Q E hi ⟨l,st,eX⟩ hQ=>by
  have dQ:i - k < ai.size:=by grind
  refine tL st eX (y:=ai[i - k]) (by simp [dQ]) fun h' q1 q2=>hQ _ h' s.toks ⟨l,by simp [dQ]⟩ ⟨by grind,?_,?_⟩ q2
  . rw[show i+1 - k=i - k+1 by grind];exact q1
  . obtain⟨o,q,r⟩:=eX;exact⟨o,(q2.2 t qe).trans q,r⟩
 done:=fun s Q E fG hE=>(by obtain⟨l,st,eX⟩:=fG;exact(tM hh st eX 112 hE))
section
variable{X:Cx}{pins:List 123}{σ:St}{H:Hp}{s:Shared}
theorem Inv.kz{h':Heap}{t':Nat}{ch:List Addr}(I:Inv X pins σ H s)(hc: ∀b∈ch,eZ X pins H b)(hT:s.heap.objs.size<=T)(k: ∀b u,b∉ch->s.heap.get? b=some u->h'.get? b=some u)(new:aZ X.prog X.w (upd H T o) h' T o):Inv X pins σ (upd H T o) {s with heap:=h',toks:=t'}:=by
 have nT:H T=none:=I.aQ.fresh hT;have ne: ∀b u,s.heap.get? b=some u->b≠T:=fun b u e z=>absurd (ac8 (ad0 e) (z▸hT)) (af2 _);have FI: ∀b u,H b=some u->b∉ch:=fun b u e z=>by rw[(hc b z).1] at e;cases e
 refine I.step (g':=s.gens) (d':=s.drawn) (ch:=ch) (fun b hb=>?_) (fun b u _ _ hn e _=>k b u hn e) (fun b u _ _ hn e _=>⟨u.slots,k b u hn e⟩) (fun b u hn e n=>by rw[ah (ne b u e)];exact n)
  (fun b u hn e=>⟨u,k b u hn e⟩) (fun b xs e=>by rw[ah (az e nT)];exact e) (fun b ob u e=>by rw[ah (az e nT)];exact e) (fun b ps e=>⟨#[],by rw[ah (az e nT),e];simp⟩) (fun m hm=>?_) (fun b u e=>?_) I.bare
 . obtain⟨f0,f1,f2,f3,f4,f5⟩:=hc b hb;exact⟨f3,f1,f4,f5⟩
 . obtain⟨ob,es,ep,ho,r⟩:=hm;exact⟨ob,es,ep,k _ ob (fun z=>(hc _ z).2.1 rfl) ho,r⟩
 . by_cases hb:b=T
   . subst hb;rw[ae] at e;cases e;exact new
   . rw[ah hb] at e;refine(I.aQ b u e).tS (fun c v IV q=>k c v ?_ q) (fun c q=>by rw[ah (az q nT)];exact q) fun c xs q=>by rw[ah (az q nT)];exact q
     rcases IV with z | z
     . rw[z];exact FI b u e
     . exact FI c _ z
def Nd(K:PySem.W.Frag)(a:Addr)(k:Nat):It:=
 ⟨fun i H=> ∃xs x,dF K H a xs/\xs[i]?=some x,fun i H x H'=> ∃p y,x= .ref p/\H p=none/\H'=upd H p (.tup [.int 258,y])/\ ∀xs,dF K H a xs->xs[i]?=some y,fun i H=> ∃xs,dF K H a xs/\xs.length=i⟩
theorem zC{P:Program}{w:World}{K:PySem.W.Frag}{es:List Expr}{x1}{tp:Pos}(a e it:Addr)(k:Nat)(LM:e≠it):
  Turn P w K 171 (Nd K a k) [e,it] e (fun i h=>(∃old,IsEnum h e it 258 old)/\h.IsTupleIter it a i) where
 mem:=by simp
 obj:=fun i h st b hb=>by
  obtain⟨⟨old,jx⟩,eX⟩:=st;rcases ad1.mp hb with q | q
  . subst q;exact⟨_,jx,fun v z=>nomatch (show Data.fields _=Data.cell v from z)⟩
  . have q:b=it:=by simpa using q
    subst q;obtain⟨o,q1,q2,q3⟩:=eX;exact⟨o,q1,fun v z=>by rw[q3] at z;cases z⟩
 keep:=fun i h h' st kk=>by
  obtain⟨⟨old,jx⟩,eX⟩:=st;exact⟨⟨old,kk e 112 _ jx⟩,eX.at fun o q=>kk it 112 o q⟩
 item:=by
  intro X hP hw hK hc i pins s σ H E I hf st hg;subst hP hw hK;obtain⟨xs,x,hq,hx⟩:=hg;obtain⟨ai,rv,p,hz⟩:=I.tuple hq;obtain⟨u,hu,ru⟩:=rv.get hx;obtain⟨⟨old,jx⟩,eX⟩:=st;have ha: ∃o,s.heap.get? a=some o:=let ⟨o,q,_⟩:=p;⟨o,q⟩;have UC:a≠e:=by
   rintro rfl
   obtain⟨o,q1,q2,_⟩:=p;rw[jx] at q1;cases q1;injection q2 with z;exact absurd z 105
  have LQ:a≠it:=by
   rintro rfl
   obtain⟨o,q1,q2,_⟩:=p;obtain⟨o',r1,r2,_⟩:=eX;rw[r1] at q1;cases q1;rw[r2] at q2;injection q2 with z;exact absurd z 105
  have D:=uW (prog:=X.prog) (w:=X.w) (A:=X.A.in1) 288 it a LQ ai.toArray k;have hlen:i < ai.length:=(aa5.mp hu).1;refine wpAny_pyNext_enum_itemD D jx ⟨by lia,by rw[show i+k - k=i by lia];exact eX,p⟩ (by simp;lia) LM (by simp [LM,Ne.symm UC]) fun y h' tk hy ho iI ht hsz hk=>?_;obtain⟨_,hy⟩:=hy;rw[show i+k - k=i by lia] at hy;have ey:y=u:=by
   have:ai[i]?=some y:=by simpa using hy
   rw[hu] at this;cases this;rfl
  subst ey;refine 376;refine wpAny_letOwnedTupleGo_enum ho fun h2 Ux J7=>?_;have DZ:e < s.heap.objs.size:=ad0 jx;have DR:it < s.heap.objs.size:=let ⟨o,q,_⟩:=eX;ad0 q;have I1:Inv X pins σ (upd H s.heap.objs.size (.tup [.int 258,x])) {s with heap:=h2,toks:=tk+1}:=by
   refine I.kz (ch:= [e,it]) hf (aa4 _) (fun b o hb q=>?_) ⟨by show 2<=sizeLine;decide,[.int 258 tk,y],.cons ⟨_,rfl⟩ (.cons ru .nil),?_⟩
   . have h1:b≠e:=fun z=>hb (by simp [z]);have oa:b≠it:=fun z=>hb (by simp [z]);exact(J7.2 b h1).trans (hk b o h1 oa q)
   . exact⟨_,(J7.2 _ (an7 DZ)).trans ht,rfl,rfl,_,rfl⟩
  refine⟨.ref s.heap.objs.size,_,I1,rfl,⟨_,x,rfl,I.aQ.fresh (aa4 _),rfl,fun ys hy=>by rw[I.pH hy hq];exact hx⟩,⟨⟨y,?_⟩,?_⟩,fun b hb=>?_⟩
  . rw[show((i+1+k:Nat):Int)=258+1 by lia];exact Ux
  . obtain⟨_,q,_⟩:=iI;rw[show i+k+1 - k=i+1 by lia] at q;exact q.at fun o z=>(J7.2 it (Ne.symm LM)).trans z
  . rw[ah (fun z=>?_)]
    . exact(411).1
    . rcases ad1.mp hb with q | q
      . subst q;exact absurd (z▸DZ) (af2 _)
      . have q:b=it:=by simpa using q
        subst q;exact absurd (z▸DR) (af2 _)
 done:=by
  intro X hP hw hK hc i pins s σ H E I hf st hg;subst hP hw hK;obtain⟨xs,hq,hx⟩:=hg;obtain⟨ai,rv,p,hz⟩:=I.tuple hq;obtain⟨⟨old,jx⟩,eX⟩:=st;have LQ:a≠it:=by
   rintro rfl
   obtain⟨o,q1,q2,_⟩:=p;obtain⟨o',r1,r2,_⟩:=eX;rw[r1] at q1;cases q1;rw[r2] at q2;injection q2 with z;exact absurd z 105
  have hl:=rv.length;have D:=uW (prog:=X.prog) (w:=X.w) (A:=X.A.in1) 288 it a LQ ai.toArray k;obtain⟨f0,f1,f2,f3,f4,f5⟩:=hf it 112;refine wpAny_pyNext_enum_endD D jx ⟨by simp,?_,p⟩ fun h' eb=>⟨rfl,I.turned (t':=s.toks) (fun b o hb q=>eb b o hb q) f0 f1 f3 f4 f5⟩
  rw[show ai.toArray.size+k - k=i by simp;lia];exact eX
 self:=fun A i s Q E st h=>by
  obtain⟨⟨old,jx⟩,_⟩:=st;exact av8 jx h
end
section
variable{X:Cx}{tg:Expr}{a b:Expr}{ta tb:TE}{pos:Pos}
def Pn(K:PySem.W.Frag)(k:Nat)(ta:TA):TI:=fun σ H R=>ta σ H fun vs H1=> ∃a,vs= [.ref a]/\(∃xs,dF K H1 a xs)/\R (Nd K a k) H1
def Lw(K:PySem.W.Frag)(ta:TA):TI:=fun σ H R=>ta σ H fun vs H1=> ∃a,vs= [.ref a,.int 1]/\(∃xs,dF K H1 a xs)/\R (Nd K a 1) H1
def Lu(K:PySem.W.Frag)(ta:TA)(tk:TA):TI:=fun σ H R=>ta σ H fun vs H1=>tk σ H1 fun zs H2=> ∃a,vs= [.ref a]/\zs= [.int 1]/\(∃xs,dF K H2 a xs)/\R (Nd K a 1) H2
theorem iq{x1}{k:Nat}(I:Inv X pins σ H s)(q:R (Nd X.K p k) H):
  wpAny 106 X.A (pyIter (.ref (212).objs.size)) (Q4 X pins σ 171 R) E {s with heap:=jY s.heap p k,toks:=tk}:=by
 have z:(212).objs.size=s.heap.objs.size+1:=ai4 ..;have he:IsEnum (jY s.heap p k) 143 s.heap.objs.size k .none:=by
  have:=ab4 212 (o:={cls:= .type "enumerate",data:= .fields #[.none,.bool false,.ref s.heap.objs.size,rawInt k,.none,.none]}) rfl;rw[z] at this;exact this
 have hi:(jY s.heap p k).IsTupleIter s.heap.objs.size p 0:=⟨_,aa3 _ 388,rfl,rfl⟩
 rw[z];refine av8 he ?_;refine⟨s.heap.objs.size+1,[s.heap.objs.size+1,s.heap.objs.size],_,Nd X.K p k,H,rfl,I.kept fun c o e=>aa3 _ (aa3 _ e),zC p _ _ k (Nat.succ_ne_self _),⟨⟨.none,?_⟩,hi⟩,fun c hc=>?_,q⟩
 . rw[aq6];exact he
 . have hle : s.heap.objs.size <= c := by
     rcases ad1.mp hc with q | q
     . rw[q];exact ap1 _
     . have q:c=s.heap.objs.size:=by simpa using q
       rw[q];exact aa4 _
   exact I.iO hle (I.aQ.fresh hle)
theorem CJ{x1}(hg:Gl X "enumerate")(hm:X.mg "enumerate"=none)(ha:PA X [e] t)(hs:starEach [e] X.env= [(false,eval e X.env)]:=by rfl):
  PI X 171 (.Call 241 [e] [] pos) (Pn X.K 0 t):=by
 intro pins s σ H R I h;refine Call_ (bV I hg hm boot_enumerate (ag7 (aU 156 fun us s1 cK=>?_) hs rfl));obtain⟨vs,H1,I1,r1,q1⟩:=cK;obtain⟨p,rfl,⟨xs,hq⟩,q⟩:=q1;obtain⟨u,rfl,ru⟩:=vals1 r1;cases ru;obtain⟨ai,rv,pt,hz⟩:=I1.tuple hq;exact iy au7 105 (F.typeCall_enumerate_1 _) (F.newCall_enumerate_1 _) (fun obj=>F.args_object_init_2 obj _) at0 (Ei p) ⟨⟨_,pt⟩,⟨_,ab4 _ rfl,rfl⟩,iq (k:=0) I1 q⟩
theorem AH(a b:Value):checkTypeCall "enumerate" ⟨[a,b],[]⟩=pure ():=by kernel_rfl
theorem AK(a b:Value):checkBuiltinCall "enumerate.__new__" ⟨[.type "enumerate",a,b],[]⟩=pure ():=by kernel_rfl
theorem AG(a b:Value):checkTypeCall "enumerate" ⟨[a],[("start",b)]⟩=pure ():=by kernel_rfl
theorem AJ(a b:Value):checkBuiltinCall "enumerate.__new__" ⟨[.type "enumerate",a],[("start",b)]⟩=pure ():=by kernel_rfl
theorem C9(a b c:Value):argsOk "object.__init__" ⟨[a,b,c],[]⟩:=by unfold argsOk;kernel_rfl
theorem C8(a b c:Value):argsOk "object.__init__" ⟨[a,b],[("start",c)]⟩:=by unfold argsOk;kernel_rfl
theorem CI{x1}(hg:Gl X "enumerate")(hm:X.mg "enumerate"=none)(ha:PA X [e,f] t)(hs:starEach [e,f] X.env= [(false,eval e X.env),(false,eval f X.env)]:=by rfl)(gL:starEach [f] X.env= [(false,eval f X.env)]:=by rfl):
  PI X 171 (.Call 241 [e,f] [] pos) (Lw X.K t):=by
 intro pins s σ H R I h;refine Call_ (bV I hg hm boot_enumerate (ag7 (aU 156 fun us s1 eU=>?_) (by rw[hs,gL]) (by rw[gL];rfl)));obtain⟨vs,H1,I1,r1,q1⟩:=eU;obtain⟨p,rfl,⟨xs,hq⟩,q⟩:=q1;obtain⟨u,u2,rfl,ru,⟨tk,rfl⟩⟩:=vals2 r1;cases ru;obtain⟨ai,rv,pt,hz⟩:=I1.tuple hq;exact iy au7 105 (AH _ _) (AK _ _) (fun obj=>C9 obj _ _) at0 (Eh p tk) ⟨⟨_,pt⟩,⟨_,ab4 _ rfl,rfl⟩,iq (k:=1) I1 q⟩
theorem ph{M:Model}{A:Around}{E:Value->Shared->Prop}{s:Shared}{env:Env}{pos:Pos}{T:String}{Q:Value->Shared->Prop}{e:Expr}{rest:List Expr}(h:wpAny M A (spliced 294) (fun vs z=>wpAny M A (evalAll ((211).map (·.2))) (fun ks z2=>wpAny M A (call 397 vs (((211).filterMap (·.1)).zip ks)) Q E z2) E z) E s)(k1:backTo pos (starEach (e::rest) env)=(false,eval e env)::backTo pos (starEach rest env):=by rfl)(k2:(294).any (·.1)=false:=by rfl)(k3:(211).all 393=true:=by rfl)(k4:(211).any 394=false:=by rfl):
  wpAny M A (callWith pos 397 [] 294 211) Q E s:=by
 have g:wpAny M A (evalArgs 397 true 294 211) (fun a z=>wpAny M A (call 397 ([]++a.pos) a.kw) Q E z) E s:=by
  rw[k1] at h ⊢;exact evalArgs_kwB k3 h
 unfold callWith;refine aa0 (ag2 (ae0 g (fun a z gz=>aa0 (ak4 ?_)) fun _ _ x=>x));simp only [k2,k4,Bool.or_false];exact aa0 (aa7 (aa0 (ae0 gz (fun r z2 hr=>aa0 (ag2 (wpAny_point (aa7 hr)))) fun _ _ x=>x)))
theorem CH{x1}(hg:Gl X "enumerate")(hm:X.mg "enumerate"=none)(ha:PA X [e] t)(hk:PK X iV tk)(As:(116).filterMap (·.1)=(["start"]:List Str):=by rfl)(k1:backTo pos 142=(false,eval e X.env)::backTo pos 122:=by rfl)(k2:(backTo pos 142).any (·.1)=false:=by rfl)(k3:(116).all 393=true:=by rfl)(k4:(116).any 394=false:=by rfl):
  PI X 171 (.Call 241 [e] iV pos) (Lu X.K t tk):=by
 intro pins s σ H R I h;refine al7 (bV I hg hm boot_enumerate (ph (aU 156 fun us s1 gk=>?_) k1 k2 k3 k4));obtain⟨vs,H1,I1,r1,q1⟩:=gk;refine aU (hk pos pins s1 σ H1 _ I1 q1) fun ws s2 fG=>?_;obtain⟨zs,H2,I2,rz,q2⟩:=fG;obtain⟨p,rfl,rfl,⟨xs,hq⟩,q⟩:=q2;obtain⟨u,rfl,ru⟩:=vals1 r1;cases ru;obtain⟨u2,rfl,⟨tO,rfl⟩⟩:=vals1 rz;obtain⟨ai,rv,pt,hz⟩:=I2.tuple hq;rw[As];exact iy au7 105 (AG _ _) (AJ _ _) (fun obj=>C8 obj _ _) at0 (Eg p tO) ⟨⟨_,pt⟩,⟨_,ab4 _ rfl,rfl⟩,iq (k:=1) I2 q⟩
def yk(K:PySem.W.Frag):R2:=fun x y H Q=> ∃p q xs,x= .ref p/\y= .ref q/\bL K H p xs/\bL K H q []/\Q (.bl xs.isEmpty) H
def yj(K:PySem.W.Frag):R2:=fun x y H Q=> ∃p q xs,x= .ref p/\y= .ref q/\bL K H p xs/\bL K H q []/\Q (.bl (!xs.isEmpty)) H
theorem zU(hu:X.A.units < cLine):lu X (compareOp .Eq) (yk X.K):=by
 intro pins s σ H x y v u Q I rx ry h;obtain⟨p,q,xs,rfl,rfl,h1,h2,hq⟩:=h;cases rx;cases ry;obtain⟨ai,rv,pl,_⟩:=I.list h1;obtain⟨b9,mC,Bo,_⟩:=I.list h2;cases mC;cases rv with
 | nil=>exact SeqAt.eq_listAt (e:=fun _=>true) pl.isList Bo.isList rfl hu (fun j h1 _=>absurd h1 112) ⟨.bl true,H,I,rfl,hq⟩
 | cons r rr=>exact SeqAt.eq_list_lengthsAt pl.isList Bo.isList 112 hu ⟨.bl false,H,I,rfl,hq⟩
def Rp(i j:Int):Prop:=0 < j/\j < 2^64
theorem Ti(h1:0 < j)(h2:j < 2^64):Builtin.divisionGoesByPylong i j=false:=by
 have e:j.natAbs < 2^64:=by lia
 have l:j.natAbs.log2 < 64:=by
  rw[Nat.log2_lt 101];exact e
 unfold Builtin.divisionGoesByPylong;have: ¬(if (j==0)=true then 0 else j.natAbs.log2 / 30+1) > 300:=by
  split <;> lia
 simp only [ad4 this,av5]
theorem sO:dJ X (.builtin "divmod") (fun xs H Q=> ∃i j,xs= [.int i,.int j]/\Rp i j/\ ∀p,H p=none->Q 379 (upd H p (.tup [.int (i / j),.int (i % j)]))):=by
 intro pins s σ H xs us Q I r h;obtain⟨i,j,rfl,⟨h1,h2⟩,q⟩:=h;obtain⟨u,u2,rfl,⟨t,rfl⟩,⟨t',rfl⟩⟩:=vals2 r;refine divmod_int 101 ?_ (.inl (Ti h1 h2));rw[Int.fdiv_eq_ediv_of_nonneg i 101,Int.fmod_eq_emod_of_nonneg i 101];refine⟨.ref s.heap.objs.size,_,I.laid (o:= .tup [.int (i / j),.int (i % j)]) (fun b o e=>aa3 _ e) (aa4 _) ⟨by show 2<=sizeLine;decide,[.int (i / j) s.toks,.int (i % j) (s.toks+1)],.cons ⟨_,rfl⟩ (.cons ⟨_,rfl⟩ .nil),_,ab4 s.heap rfl,rfl,rfl,0,rfl⟩,rfl,q _ (I.aQ.fresh (aa4 _))⟩
def uM(T:String)(H:Hp):V->Option Bool
 | .aC=>some false
 | .bl _=>some (T=="bool" || T=="int")
 | .int _=>some (T=="int")
 | .str _=>some (T=="str")
 | .ref a=>match H a with
  | some (.lst _)=>some (T=="list")
  | some (.tup _)=>some (T=="tuple")
  | _=>none
 | _=>none
theorem Lp(hT:T="int"\/T="bool"\/T="tuple"\/T="list"\/T="str"):dJ X (.builtin "isinstance") (fun xs H Q=> ∃x b,xs= [x,.ty T]/\uM T H x=some b/\Q (.bl b) H):=by
 intro pins s σ H xs us Q I r h;obtain⟨x,b,rfl,e,q⟩:=h;obtain⟨u,u2,rfl,ru,Oo⟩:=vals2 r;cases (show u2=Value.type T from Oo);have fin: ∀tk:Nat,EP X pins σ Q (.bool b) {s with toks:=tk}:=fun tk=>⟨.bl b,H,I.tok _,rfl,q⟩
 cases x with
 | aC=>cases e;rcases hT with rfl | rfl | rfl | rfl | rfl <;> exact eh I ru .aC rfl fin
 | bl y=>cases e;rcases hT with rfl | rfl | rfl | rfl | rfl <;> exact eh I ru (.bl y) rfl fin
 | int y=>cases e;rcases hT with rfl | rfl | rfl | rfl | rfl <;> exact eh I ru (.int y) rfl fin
 | str y=>cases e;rcases hT with rfl | rfl | rfl | rfl | rfl <;> exact eh I ru (.str y) rfl fin
 | ref a=>
  cases ha:H a with
  | none=>simp only [uM,ha] at e;cases e
  | some o=>
   cases o with
   | lst xs=>simp only [uM,ha] at e;cases e;rcases hT with rfl | rfl | rfl | rfl | rfl <;> exact eh I ru (.lst ha) rfl fin
   | tup xs=>simp only [uM,ha] at e;cases e;rcases hT with rfl | rfl | rfl | rfl | rfl <;> exact eh I ru (.tup ha) rfl fin
   | _=>simp only [uM,ha] at e;cases e
 | _=>cases e
end
inductive gD:List Value->List Bool->Prop
 | nil:gD [] []
 | cons (b:Bool) {vs:List Value} {bs:List Bool}:gD vs bs->gD (.bool b::vs) (b::bs)
theorem gD.of: ∀{bs:List Bool} {us:List Value},Vals (bs.map V.bl) us->gD us bs
 | [],_,.nil=> .nil
 | b::bs,_,.cons r rr=>by
  cases (show _=Value.bool b from r);exact .cons b (gD.of rr)
theorem gD.get(h:gD vs bs): ∀(i:Nat) (v:Value),vs[i]?=some v-> ∃b,bs[i]?=some b/\v= .bool b:=by
 induction h with
 | nil=>intro i v e;simp at e
 | cons b _ ih=>
  intro i v e;cases i with
  | zero=>simp at e;subst e;exact⟨b,rfl,rfl⟩
  | succ i=>simpa using ih i v (by simpa using e)
theorem Cv(bs:List Bool):((List.range bs.length).all fun i=>(bs[i]?).getD true)=bs.all id:=by
 rw[ak9,ah9,ah9];constructor
 . intro h b hb;obtain⟨i,hi,e⟩:=ah2 hb;have:=h i (af8.mpr hi);simp only [aa1 hi,Option.getD_some,e] at this;exact this
 . intro h i hi;have oJ:=af8.mp hi;simp only [aa1 oJ,Option.getD_some];exact h _ (ag9 oJ)
theorem EZ{X:Cx}(hc:X.calm=true):dJ X (.builtin "all") (fun xs H Q=> ∃a bs,xs= [.ref a]/\bL X.K H a (List.map V.bl bs)/\Q (.bl (bs.all id)) H):=by
 intro pins s σ H xs us Q I r h;obtain⟨a,bs,rfl,hq,q⟩:=h;obtain⟨u,rfl,ru⟩:=vals1 r;cases ru;obtain⟨ai,rv,pl,_⟩:=I.list hq;have hl:=pl.isList;have hb:=gD.of rv;have hlen:ai.length=bs.length:=by rw[<-rv.length,aa2]
 have dQ:a < s.heap.objs.size:=by obtain⟨_,e,_⟩:=hl;exact ad0 e
 refine call_all_walk (ai8 hl ?_);refine⟨s.heap.objs.size,[s.heap.objs.size,a],[s.heap.objs.size],ai.toArray.size,_,_,fun i=>(bs[i]?).getD true,rfl,Walks.list (A:=X.A.in1) 288 _ a (af0 dQ) ai.toArray,
  ⟨⟨_,ab4 _ rfl,rfl,rfl⟩,hl.push _⟩,fun i v s' Q' E' hP hQ=>?_,fun h' tk hk=>?_⟩
 . obtain⟨b,e,rfl⟩:=hb.get i v (by simpa using hP);simp only [e,Option.getD_some] at hQ;exact ai7 hQ
 . have e : ((List.range ai.toArray.size).all fun i => (bs[i]?).getD true) = bs.all id := by
     rw[ab5,hlen];exact Cv bs
   rw[e];exact⟨.bl (bs.all id),H,I.kept fun b x e=>hk b x (fun hm=>by rw[aa9.mp hm] at e;exact af2 _ (ad0 e)) (aa3 _ e),rfl,q⟩
end L2
namespace L2
open PySem PySem.Spec PyProof.Rows HT
def xG(H:Hp)(zs:List V)(p:Addr)(H':Hp):Prop:=(H'=H/\H p=some (.tup zs))\/(H p=none/\H'=upd H p (.tup zs))
theorem xG.at(h:xG H zs p H'):H' p=some (.tup zs):=by
 rcases h with ⟨rfl,h⟩ | ⟨_,rfl⟩
 . exact h
 . exact ae
theorem xG.keep(h:xG H zs p H'):aq H H':=by
 rcases h with ⟨rfl,h⟩ | ⟨h,rfl⟩
 . exact fun _ _ e=>e
 . exact fun b o e=>by rw[ah (az e h)];exact e
theorem EX{vs ws:List Value}(ht:IsTup s.heap t vs.toArray)(hb:IsTup s.heap b ws.toArray)(hv:vs= [])(h:Q (.ref b) s):wpAny 110 A (binaryOp .Add (.ref t) (.ref b)) Q E s:=by
 obtain⟨⟨c1,d1,t1,l1⟩,a1,a2,n1,a3⟩:=id ht;obtain⟨⟨c2,d2,t2,l2⟩,b1,b2,n2,b3⟩:=id hb;simp only at a2 a3 b2 b3;subst a2 a3 b2 b3;exact concat_meets ⟨_,a1,rfl⟩ ⟨_,b1,rfl⟩ noFill_tuple_add seq_tuple_add PySem.F.slot_tuple_add av6 (av0 _ _) (tuple_addW0 t b vs.toArray ws.toArray n1 n2 d1 d2 l1 l2 (by simp [hv])) ⟨a1,b1,h⟩
theorem jW{t sl:Addr}{items:Array Value}{vl vu:Value}{lo hi:Option Int}(ht:IsTup s.heap t items)(hs:s.heap.IsSliceOf sl vl vu .none)(pl:IsPart vl lo)(pu:IsPart vu hi)(hw:cT items.size 0 lo=0/\cT items.size items.size hi=items.size)(h:Q (.ref t) s):wpAny 110 A (getItem (.ref t) (.ref sl)) Q E s:=by
 obtain⟨os,Lz,RL,PU⟩:=id hs;have UE:s.TypeIs (.ref sl) "slice":=⟨os,Lz,RL⟩
 unfold getItem;try with_reducible refine ag2 ?_
 first | refine aa0 357 | skip
 refine aa0 (wpAny_sequenceKey ht.typeIs 105 ?_);refine aa0 (am1 (name:=Str.ofString "__getitem__") ht.typeIs an6
  (ao8 an6 ht.typeIs entry_tuple_getitem ?_ (args_tuple_getitem _ _)))
 show wpAny _ _ (Builtin.Tuple.tupleItemsOf (.ref t) >>=_) _ _ s;refine aa0 (tupleItemsOf_ ht ?_);refine aa0 (wpAny_typeOf UE ?_);rw[if_pos 105];refine aa0 (fK hs pl pu ?_);rw[hw.1,hw.2];obtain⟨ob,k1,k2,k3⟩:=id ht;show wpAny _ _ (if (375==0 && (1:Int)==1 && (items.size - 0)==items.size)=true then _ else _) _ _ s;rw[if_pos 112];wp_walk using AutoSeq1.wpAny_loadPart' k1
 all_goals exact⟨_,rfl,aa7 h⟩
section
variable{X:Cx}{e:Expr}{te:TE}{pos p2:Pos}
def Iz:R2:=fun x y H Q=> ∃a b xs ys,x= .ref a/\y= .ref b/\H a=some 203/\H b=some 412/\xs.length+ys.length<=sizeLine/\ ∀p H',xG H (xs++ys) p H'->Q 379 H'
theorem GJ:lu X (binaryOp .Add) Iz:=by
 intro pins s σ H x y v u Q I rx ry h;obtain⟨a,b,xs,ys,rfl,rfl,h1,h2,hz,q⟩:=h;cases rx;cases ry;obtain⟨ai,r1,p1,_⟩:=I.tuple (dF.of h1);obtain⟨b9,r2,p2,_⟩:=I.tuple (dF.of h2);by_cases e1:ai= []
 . have ex:xs= []:=r1.yC.mp e1;refine EX p1 p2 e1 ⟨.ref b,H,I,rfl,q b H (.inl ⟨rfl,?_⟩)⟩;rw[ex];exact h2
 . refine HI p1 p2 e1 (fun e2=>⟨.ref a,H,I,rfl,q a H (.inl ⟨rfl,?_⟩)⟩) (fun e2=>?_) (by rw[<-r1.length,<-r2.length];exact hz)
   . have ey:ys= []:=r2.yC.mp e2;rw[ey,ah8];exact h1
   . refine⟨.ref s.heap.objs.size,_,I.laid (t':=s.toks) (o:= .tup (xs++ys)) (fun b ob q=>aa3 _ q) (aa4 _) ⟨by rw[ab8];exact hz,_,r1.append r2,pE.new _ _⟩,rfl,q _ _ (.inr ⟨I.aQ.fresh (aa4 _),rfl⟩)⟩
def S6:V->Option Int->Option Int->Hp->VK->Prop:=fun x lo hi H Q=> ∃a xs,x= .ref a/\H a=some 203/\ ∀p H',xG H (l9 xs lo hi) p H'->Q 379 H'
theorem F6:tj X S6:=by
 intro pins s σ H x v vl vu lo hi sl Q I rx hs pl pu h;obtain⟨a,xs,rfl,hx,q⟩:=h;cases rx;obtain⟨ai,r,ht,hz⟩:=I.tuple (dF.of hx);have hlen:ai.toArray.size=xs.length:=by rw[ab5];exact r.length.symm
 refine⟨"tuple",_,PyProof.Rows.slot_tuple_getitem.lookup,ht.typeIs,?_⟩;by_cases hw:cT xs.length 0 lo=0/\cT xs.length xs.length hi=xs.length
 . refine jW ht hs pl pu (by rw[hlen];exact hw) ⟨.ref a,H,I,rfl,q a H (.inl ⟨rfl,?_⟩)⟩;unfold l9;rw[hw.1,hw.2,List.drop_zero,au3,ak2];exact hx
 . refine HT.jV ht hs pl pu (by rw[hlen];exact hw) ?_ (by rw[hlen];exact hz);rw[hlen];refine⟨.ref s.heap.objs.size,_,I.laid (t':=s.toks) (o:= .tup (l9 xs lo hi)) (fun b ob q=>aa3 _ q) (aa4 _) ?_,rfl,q _ _ (.inr ⟨I.aQ.fresh (aa4 _),rfl⟩)⟩;exact⟨ac6 (lY xs lo hi) hz,_,(r.drop (HT.cT xs.length 0 lo)).take 296,pE.new _ _⟩
end
end L2
namespace L2
open PySem PySem.Spec PyProof.Rows
theorem HN(h:0<=i)(e:xs[i.toNat]?=some v):ke xs i=some v:=by
 have:i=((i.toNat:Nat):Int):=by lia
 rw[this];exact aI e
theorem GZ{n:Nat}{i:Int}(h:0<=i)(hl:i < n):uK n i=some i.toNat:=by
 unfold uK;rw[if_pos h,if_pos hl]
def iL(P:Program)(w:World)(K:PySem.W.Frag)(mg:Str->Option Value)(base:Heap)(x:Str)(k:Nat)(ps:List Str)(sp:Sp):Prop:=
 ∃f fd,mg x=some 399/\PySem.W.keepIn K 399=true/\Binds K fd ps []/\bh P w K mg base dY k f fd ps sp
theorem nB{X:Cx}(h:iL X.prog X.w X.K X.mg X.base x k ps sp)(hr:ck k X.A)(hg:Gl X x)(ha:PA X (e::es) t)(oK:146=false:=by decide)(he:starEach (e::es) X.env=(false,eval e X.env)::starEach es X.env:=by rfl)(dM:(151).any (·.1)=false:=by rfl):
  PE X 189 (B9 sp [] E0 t):=by
 obtain⟨f,fd,h1,h2,h3,h4⟩:=h;exact GC h4 hr hg h1 h2 h3 .nil OM ha oK he dM
end L2
namespace LB
open PySem L2 PyProof.Rows
theorem lq:bootBuiltins "int"=some (.type "int"):=by decide+kernel
theorem cE:bootBuiltins "tuple"=some (.type "tuple"):=by decide+kernel
theorem dA:bootBuiltins "bool"=some (.type "bool"):=by decide+kernel
theorem fW:bootBuiltins "str"=some (.type "str"):=by decide+kernel
theorem A6:bootBuiltins "sum"=some (.builtin "sum"):=by decide+kernel
theorem cW:bootBuiltins "list"=some (.type "list"):=by decide+kernel
theorem sP:bootBuiltins "divmod"=some (.builtin "divmod"):=by decide+kernel
theorem Tt: ¬(("cells":Str)="turn"):=by decide+kernel
def bx(c:Addr)(t:Int):List 264:= [(Sum.inr "cells",.ref c),(Sum.inr "turn",.int t)]
theorem vf(c:Addr)(t:Int):gO (bx c t) (Sum.inr "cells":Key)=some (.ref c):=by
 simp [gO,bx]
theorem HJ(c:Addr)(t:Int):gO (bx c t) (Sum.inr "turn":Key)=some (.int t):=by
 simp [gO,bx,Tt]
theorem MW(c:Addr)(t u:Int):putK (bx c t) (Sum.inr "turn":Key) (.int u)=bx c u:=by
 simp [putK,bx,Tt]
structure xP(H:Hp)(d c:Addr)(t:Int):Prop where
 dc:H d=some (.dK (bx c t))
 cs: ∃ns:List Int,H c=some (.lst 131)/\0 < ns.length/\ns.length<=63
 t0:0<=t
 t1:t<=1000000
theorem xP.ne(b:xP H d c t):d≠c:=let ⟨_,h,_⟩:=b.cs;Dh b.dc h (by intro z;cases z)
def Kp(d c:Addr)(H H':Hp):Prop:= ∀b o,H b=some o->b≠d->b≠c->H' b=some o
theorem xP.same(b:xP H d c t)(s:aq H H'):xP H' d c t:=⟨s _ _ b.dc,let ⟨ns,h,r⟩:=b.cs;⟨ns,s _ _ h,r⟩,b.t0,b.t1⟩
def Cc:Sp:=fun vs H Q _=> ∃(d c:Addr) (t m:Int),vs= [.ref d,.int m]/\xP H d c t/\t < 1000000/\0 < m/\m < 2^64/\ ∀(r:Int) (H':Hp),0<=r->r < m->xP H' d c (t+1)->Kp d c H H'->Q (.int r) H'
def rg(K:PySem.W.Frag):Sp:=fun vs H Q _=> ∃(a:Addr) (ns:List Int),vs= [.ref a]/\bL K H a 131/\ns.length<=63/\ ∀(d c:Addr) (H':Hp),xP H' d c 0->aq H H'->Q (.ref d) H'
theorem aq.new(h:H p=none):aq H (upd H p o):=fun b u e=>by rw[ah (az e h)];exact e
theorem aq.tr(a:aq H H1)(b:aq H1 H2):aq H H2:=fun x o e=>b x o (a x o e)
end LB
namespace L2
open PySem PySem.Spec PyProof.Rows
theorem EY(hc:X.calm=true):dJ X (.builtin "sum") (fun xs H Q=> ∃a ns,xs= [.ref a]/\bL X.K H a (List.map V.int ns)/\Q (.int ns.sum) H):=by
 intro pins s σ H xs us Q I r h;obtain⟨a,ns,rfl,hq,q⟩:=h;obtain⟨u,rfl,ru⟩:=vals1 r;cases ru;obtain⟨ai,rv,pl,_⟩:=I.list hq;have hi:=intsAre_of rv;obtain⟨xs,hx⟩:=hi.allInts.items;have IQ:s.heap.IsList a 374:=hx▸pl.isList;refine sum_intListG 288 IQ fun h' tk t' hk=>?_;have e1:ns=xs.toList.map (·.1):=by
  rw[<-nums_intItems,<-hx];exact(317).symm
 have e2:preSum (numAt xs) xs.size=ns.sum:=by
  rw[preSum_eq,List.take_of_length_le 112,e1]
 rw[e2];exact⟨.int ns.sum,H,I.kept hk,⟨_,rfl⟩,q⟩
theorem zS(hu:X.A.units < cLine):lu X (compareOp .NotEq) (yj X.K):=by
 intro pins s σ H x y v u Q I rx ry h;obtain⟨p,q,xs,rfl,rfl,h1,h2,hq⟩:=h;cases rx;cases ry;obtain⟨ai,rv,pl,_⟩:=I.list h1;obtain⟨b9,mC,Bo,_⟩:=I.list h2;cases mC;cases rv with
 | nil=>exact SeqAt.RcNeAt.lists (e:=fun _=>true) pl.isList Bo.isList rfl hu (fun j h1 _=>absurd h1 112) _ _ _ _ ⟨.bl false,H,I,rfl,hq⟩
 | cons r rr=>exact SeqAt.RcNeAt.lists_lengths pl.isList Bo.isList 112 hu _ _ _ _ ⟨.bl true,H,I,rfl,hq⟩
def oA(h:Heap)(it a:Addr)(xs:Array Value)(k:Nat):Prop:=(h.IsListIter it a k/\h.IsList a xs)\/(h.IsTupleIter it a k/\h.IsTuple a xs)
theorem oA.ext{h h':Heap}(z:oA h it a xs k)(e1: ∀o,h.get? it=some o->h'.get? it=some o)(e2: ∀o,h.get? a=some o->h'.get? a=some o):oA h' it a xs k:=by
 rcases z with ⟨z1,z2⟩ | ⟨z1,z2⟩
 . exact .inl ⟨let ⟨o,q,r⟩:=z1;⟨o,e1 o q,r⟩,let ⟨o,q,r⟩:=z2;⟨o,e2 o q,r⟩⟩
 . exact .inr ⟨let ⟨o,q,r⟩:=z1;⟨o,e1 o q,r⟩,let ⟨o,q,r⟩:=z2;⟨o,e2 o q,r⟩⟩
theorem wq(z:oA s.heap it a xs k)(qe:a≠it)(hy:xs[k]?=some y)(hQ: ∀h',oA h' it a xs (k+1)->Heap.SameBut it s.heap h'->Q y {s with heap:=h'}):wpAny 110 A 297 Q E s:=by
 rcases z with ⟨z1,z2⟩ | ⟨z1,z2⟩
 . exact wpAny_nextOf_list_item z1 z2 hy fun h' q sb=>hQ h' (.inl ⟨q,let ⟨o,e,r⟩:=z2;⟨o,(sb.2 a qe).trans e,r⟩⟩) sb
 . exact tL z1 z2 hy fun h' q sb=>hQ h' (.inr ⟨q,let ⟨o,e,r⟩:=z2;⟨o,(sb.2 a qe).trans e,r⟩⟩) sb
theorem Dg(hh:A.handled=none)(z:oA s.heap it a xs k)(hy:xs[k]?=none)(hE: ∀h' e,Heap.ExtBut it s.heap h'->291->E (.ref e) {s with heap:=h'}):wpAny 110 A 297 Q E s:=by
 rcases z with ⟨z1,z2⟩ | ⟨z1,z2⟩
 . exact wpAny_nextOf_list_end hh z1 z2 hy hE
 . exact tM hh z1 z2 hy hE
theorem zv{z TI TO i1 i2 l1 l2:Addr}{k1 k2:Nat}{xs ys:Array Value}{x y a b:Value}{Q:Value->Shared->Prop}(D:ZipApart z TI TO i1 i2 l1 l2)(hz:IsZip s.heap z TI TO .none)(Ha:IsPair s.heap TI (.ref i1) (.ref i2))(LR:IsPair s.heap TO a b)
  (h1:oA s.heap i1 l1 xs k1) (h2:oA s.heap i2 l2 ys k2) (hx:xs[k1]?=some x) (hy:ys[k2]?=some y)
  (hQ: ∀h',IsZip h' z TI TO (rawInt s.heap.objs.size)->IsPair h' TO x y->oA h' i1 l1 xs (k1+1)->oA h' i2 l2 ys (k2+1)->IsPair h' s.heap.objs.size x y->h'.objs.size=s.heap.objs.size+1->
   (∀c o,c≠z->c≠TO->c≠i1->c≠i2->s.heap.get? c=some o->h'.get? c=some o)->Q 126 {s with heap:=h'}):wpAny 110 A (Builtin.«zip.__next__» ⟨[.ref z],[]⟩) (fun fin s'=> ∃v,fin= .done (.ret v)/\Q v s') E s:=by
 show wpAny _ _ (field (.ref z) 2 >>=_) _ _ _;refine aa0 (aj9 hz rfl (x:= .bool false) rfl ?_);show wpAny _ _ (field (.ref z) 3 >>=_) _ _ _;refine aa0 (aj9 hz rfl (x:= .ref TI) rfl ?_);refine aa0 (ah7 Ha rfl ?_);show wpAny _ _ (Builtin.SmallTypes.ownedTupleIsFree (.ref z) >>=_) _ _ _;refine aa0 ?_;unfold Builtin.SmallTypes.ownedTupleIsFree;refine aa0 (aj9 hz rfl (x:= .none) rfl 357);simp only [if_true];refine aa0 (aj5 ?_);refine aa0 (aj9 hz rfl (x:= .ref TO) rfl ?_);refine aa0 (ap2 hz 112 fun h₁ lL ik=>?_);replace lL:IsZip h₁ z TI TO .ellipsis:=lL;refine aa0 ?_;simp only [List.zipIdx_cons,List.zipIdx_nil,List.forIn_cons,List.forIn_nil]
 refine aa0 (aa0 (wpAny_onRaise ?_));show wpAny _ _ (Builtin.SmallTypes.nextOf (.ref i1) >>=_) _ _ _;refine aa0 (wq (h1.ext (fun o e=>ik.extBut _ _ D.i1z e) fun o e=>ik.extBut _ _ D.l1z e) D.l1i1 hx fun h₂ IX ig=>aa7 ?_);have n9:IsPair h₂ TO a b:=ig.extBut _ _ D.TOi1 (ik.extBut _ _ D.TOz LR);refine aa0 (ah7 n9 rfl ?_);refine aa0 (wpAny_updateSeq_pair n9 fun h₃ sf ie=>?_);replace sf:IsPair h₃ TO x b:=sf;refine aa0 (aj8 357);refine aa0 (aa0 (wpAny_onRaise ?_));show wpAny _ _ (Builtin.SmallTypes.nextOf (.ref i2) >>=_) _ _ _;have k3: ∀c o,c≠z->c≠i1->c≠TO->s.heap.get? c=some o->h₃.get? c=some o:=fun c o c1 c2 c3 e=>ie.extBut _ _ c3 (ig.extBut _ _ c2 (ik.extBut _ _ c1 e));refine aa0 (wq 311 D.l2i2 hy fun h₄ P6 jU=>aa7 ?_);have D0:IsPair h₄ TO x b:=jU.extBut _ _ D.TOi2 sf;refine aa0 (ah7 D0 rfl ?_);refine aa0 (wpAny_updateSeq_pair D0 fun h₅ se iX=>?_);replace se:IsPair h₅ TO x y:=se;refine aa0 (aj8 (aa7 357));refine aa0 (ah7 se rfl ?_);refine aa0 (wpAny_newTuple ?_);have hsz:h₅.objs.size=s.heap.objs.size:=by rw[iX.1,jU.1,ie.1,ig.1,ik.1]
 have k5: ∀c o,c≠z->c≠TO->c≠i1->c≠i2->s.heap.get? c=some o->h₅.get? c=some o:=fun c o c1 c2 c3 c4 e=>iX.extBut _ _ c2 (jU.extBut _ _ c4 (k3 c o c1 c3 c2 e));have IH:IsZip h₅ z TI TO .ellipsis:=iX.extBut _ _ D.TOz.symm (jU.extBut _ _ D.i2z.symm (ie.extBut _ _ D.TOz.symm (ig.extBut _ _ D.i1z.symm lL)));have f1:oA h₅ i1 l1 xs (k1+1):=IX.ext (fun o e=>iX.extBut _ _ D.TOi1.symm (jU.extBut _ _ D.i12 (ie.extBut _ _ D.TOi1.symm e))) fun o e=>iX.extBut _ _ D.l1TO (jU.extBut _ _ D.l1i2 (ie.extBut _ _ D.l1TO e));have f2:oA h₅ i2 l2 ys (k2+1):=P6.ext (fun o e=>iX.extBut _ _ D.TOi2.symm e) fun o e=>iX.extBut _ _ D.l2TO e;have NP:z < h₅.objs.size:=ad0 IH;show wpAny _ _ (Builtin.SmallTypes.ownedTupleHandOut (.ref z) (.ref h₅.objs.size) >>=_) _ _ _;refine aa0 ?_;unfold Builtin.SmallTypes.ownedTupleHandOut;have Po:IsZip (h₅.push {cls:= .type "tuple",data:= .seq #[x,y]}) z TI TO .ellipsis:=aa3 _ IH;refine aa0 (ap2 Po 112 fun h₇ DH DJ=>?_);replace DH:IsZip h₇ z TI TO (rawInt h₅.objs.size):=DH;refine ap2 DH 112 fun h₈ yN DI=>?_
 replace yN:IsZip h₈ z TI TO (rawInt h₅.objs.size):=yN
 have up: ∀c o,c≠z->h₅.get? c=some o->h₈.get? c=some o:=fun c o c1 e=>DI.extBut _ _ c1 (DJ.extBut _ _ c1 (aa3 _ e));have pT:IsPair h₈ h₅.objs.size x y:=DI.extBut _ _ (an7 NP) (DJ.extBut _ _ (an7 NP) 388);have s8:h₈.objs.size=h₅.objs.size+1:=by rw[DI.1,DJ.1,ai4]
 rw[hsz] at yN pT s8;refine aa7 376;show Q (.ref h₅.objs.size) _;rw[hsz];exact hQ h₈ yN (up _ _ D.TOz se) (f1.ext (fun o e=>up _ o D.i1z e) fun o e=>up _ o D.l1z e) (f2.ext (fun o e=>up _ o D.i2z e) fun o e=>up _ o D.l2z e) pT s8 fun c o c1 c2 c3 c4 e=>up c o c1 (k5 c o c1 c2 c3 c4 e)
theorem zt{z TI TO i1 i2 l1 l2:Addr}{k1 k2:Nat}(hh:A.handled=none)(D:ZipApart z TI TO i1 i2 l1 l2)(hz:IsZip s.heap z TI TO .none)(Ha:IsPair s.heap TI (.ref i1) (.ref i2))(LR:IsPair s.heap TO a b)(h1:oA s.heap i1 l1 xs k1)(h2:oA s.heap i2 l2 ys k2)(LL:xs[k1]?=none\/ys[k2]?=none)(hE: ∀h' e,(∀c o,c≠z->c≠TO->c≠i1->c≠i2->s.heap.get? c=some o->h'.get? c=some o)->291->E (.ref e) {s with heap:=h'}):wpAny 110 A (Builtin.«zip.__next__» ⟨[.ref z],[]⟩) Q E s:=by
 show wpAny _ _ (field (.ref z) 2 >>=_) _ _ _;refine aa0 (aj9 hz rfl (x:= .bool false) rfl ?_);show wpAny _ _ (field (.ref z) 3 >>=_) _ _ _;refine aa0 (aj9 hz rfl (x:= .ref TI) rfl ?_);refine aa0 (ah7 Ha rfl ?_);show wpAny _ _ (Builtin.SmallTypes.ownedTupleIsFree (.ref z) >>=_) _ _ _;refine aa0 ?_;unfold Builtin.SmallTypes.ownedTupleIsFree;refine aa0 (aj9 hz rfl (x:= .none) rfl 357);simp only [if_true];refine aa0 (aj5 ?_);refine aa0 (aj9 hz rfl (x:= .ref TO) rfl ?_);refine aa0 (ap2 hz 112 fun h₁ lL ik=>?_);replace lL:IsZip h₁ z TI TO .ellipsis:=lL;refine aa0 ?_;simp only [List.zipIdx_cons,List.zipIdx_nil,List.forIn_cons,List.forIn_nil]
 refine aa0 (aa0 (wpAny_onRaise ?_));show wpAny _ _ (Builtin.SmallTypes.nextOf (.ref i1) >>=_) _ _ _;have g1:oA h₁ i1 l1 xs k1:=h1.ext (fun o e=>ik.extBut _ _ D.i1z e) fun o e=>ik.extBut _ _ D.l1z e;cases hx:xs[k1]? with
 | none=>
  refine aa0 (Dg hh g1 hx fun h₂ e ig he=>?_);obtain⟨oe,LA,PY⟩:=he;have IJ:IsZip h₂ z TI TO .ellipsis:=ig _ _ D.i1z.symm lL;have Uv:e≠z:=fun y=>by subst y;rw[IJ] at LA;cases LA;simp at PY
  exact ap2 IJ 112 fun h₃ _ ie=>hE h₃ e (fun c o c1 _ c3 _ y=>ie.extBut _ _ c1 (ig _ _ c3 (ik.extBut _ _ c1 y))) ⟨oe,ie.extBut _ _ Uv LA,PY⟩
 | some x=>
  have hy:ys[k2]?=none:=LL.resolve_left fun q=>by rw[hx] at q;cases q
  refine aa0 (wq g1 D.l1i1 hx fun h₂ IX ig=>aa7 ?_);have n9:IsPair h₂ TO a b:=ig.extBut _ _ D.TOi1 (ik.extBut _ _ D.TOz LR);refine aa0 (ah7 n9 rfl ?_);refine aa0 (wpAny_updateSeq_pair n9 fun h₃ sf ie=>?_);refine aa0 (aj8 357);refine aa0 (aa0 (wpAny_onRaise ?_));show wpAny _ _ (Builtin.SmallTypes.nextOf (.ref i2) >>=_) _ _ _;have k3: ∀c o,c≠z->c≠i1->c≠TO->s.heap.get? c=some o->h₃.get? c=some o:=fun c o c1 c2 c3 e=>ie.extBut _ _ c3 (ig.extBut _ _ c2 (ik.extBut _ _ c1 e));refine aa0 (Dg hh 311 hy fun h₄ e jU he=>?_);obtain⟨oe,LA,PY⟩:=he;have II:IsZip h₄ z TI TO .ellipsis:=jU _ _ D.i2z.symm (ie.extBut _ _ D.TOz.symm (ig.extBut _ _ D.i1z.symm lL));have Uv:e≠z:=fun y=>by subst y;rw[II] at LA;cases LA;simp at PY
  exact ap2 II 112 fun h₅ _ iX=>hE h₅ e (fun c o c1 c2 c3 c4 y=>iX.extBut _ _ c1 (jU _ _ c4 (k3 c o c1 c3 c2 y))) ⟨oe,iX.extBut _ _ Uv LA,PY⟩
theorem zu {z TI TO i1 i2 l1 l2 : Addr} {k1 k2 : Nat} (D : ZipApart z TI TO i1 i2 l1 l2) (hz : IsZip s.heap z TI TO .none) (Ha : IsPair s.heap TI (.ref i1) (.ref i2)) (LR : IsPair s.heap TO a b) (h1 : oA s.heap i1 l1 xs k1) (h2 : oA s.heap i2 l2 ys k2) (hx : xs[k1]? = some x) (hy : ys[k2]? = some y) (hQ : ∀ h', IsZip h' z TI TO (rawInt s.heap.objs.size) -> IsPair h' TO x y -> oA h' i1 l1 xs (k1 + 1) -> oA h' i2 l2 ys (k2 + 1) -> IsPair h' s.heap.objs.size x y -> h'.objs.size = s.heap.objs.size + 1 ->
   (∀c o,c≠z->c≠TO->c≠i1->c≠i2->s.heap.get? c=some o->h'.get? c=some o)->Q (some 126) {s with heap:=h'}):wpAny 110 A (pyNext (.ref z)) Q E s:=by
 have hT:s.TypeIs (.ref z) "zip":=⟨_,hz,rfl⟩;unfold pyNext;exact aa0 (wpAny_attempt (am1 (name:=Str.ofString "__next__") hT F.slot_zip_next (ao8 F.slot_zip_next hT F.entry_zip_next
   (zv D hz Ha LR h1 h2 hx hy fun h' a1 a2 a3 a4 a5 a6 a7=>aa7 (hQ h' a1 a2 a3 a4 a5 a6 a7)) (F.args_zip_next_1 _))))
theorem BE{z TI TO i1 i2 l1 l2:Addr}{k1 k2:Nat}(hh:A.handled=none)(D:ZipApart z TI TO i1 i2 l1 l2)(hz:IsZip s.heap z TI TO .none)(Ha:IsPair s.heap TI (.ref i1) (.ref i2))(LR:IsPair s.heap TO a b)(h1:oA s.heap i1 l1 xs k1)(h2:oA s.heap i2 l2 ys k2)(LL:xs[k1]?=none\/ys[k2]?=none)(hQ: ∀h',(∀c o,c≠z->c≠TO->c≠i1->c≠i2->s.heap.get? c=some o->h'.get? c=some o)->Q none {s with heap:=h'}):wpAny 110 A (pyNext (.ref z)) Q E s:=by
 have hT:s.TypeIs (.ref z) "zip":=⟨_,hz,rfl⟩;unfold pyNext;refine aa0 (wpAny_attempt (am1 (name:=Str.ofString "__next__") hT F.slot_zip_next (ao8 F.slot_zip_next hT F.entry_zip_next (zt hh D hz Ha LR h1 h2 LL fun h' e hk he=>?_) (F.args_zip_next_1 _))));obtain⟨o,ho,hc⟩:=he;refine aa0 (wpAny_isInstance (T:="StopIteration") (b:=true) ⟨o,ho,hc⟩ isSubtype_stop ?_);exact aa7 (hQ _ hk)
open AutoSeq1 (wpAny_loadPart')
def Ao(b:Bool)(a:Addr):Obj:={cls:= .type (if b then "tuple_iterator" else "list_iterator"),data:= .fields #[.ref a,.int 0 0]}
def xJ(b:Bool)(h:Heap)(a:Addr)(xs:Array Value):Prop:=match b with
 | true=>h.IsTuple a xs
 | false=>h.IsList a xs
def fH(h:Heap)(b1 b2:Bool)(a1 a2:Addr):Heap:=(h.push (Ao b1 a1)).push (Ao b2 a2)
def gM(h:Heap)(b1 b2:Bool)(a1 a2:Addr):Heap:=(268).push {cls:= .type "tuple",data:= .seq #[.none,.none]}
def dG(h:Heap)(b1 b2:Bool)(a1 a2:Addr):Heap:=
 (gM h b1 b2 a1 a2).push {cls:= .type "zip",data:= .fields #[.none,.bool false,.bool false,.ref (fH h b1 b2 a1 a2).objs.size,.ref (268).objs.size]}
theorem JM(b1 b2:Bool)(a1 a2:Addr)(xs ys:Array Value):
  Meets (Builtin.«zip.__new__» ⟨[.type "zip",.ref a1,.ref a2],[]⟩) (fun _ R s=>xJ b1 s.heap a1 xs/\xJ b2 s.heap a2 ys/\R (.ok (.ret (.ref (gM s.heap b1 b2 a1 a2).objs.size))) {s with heap:=dG s.heap b1 b2 a1 a2}):=
 .of_wp fun prog w A R s h=>by
  obtain⟨hp,g,d,tk,os⟩:=s;obtain⟨h1,h2,h⟩:=h;have Aq:=sub_zip;cases b1 <;> cases b2
  . have q1:Heap.IsList 339 a1 xs:=h1;have q2:Heap.IsList (Shared.heap ⟨hp.push {cls:= .type "list_iterator",data:= .fields #[.ref a1, .int 0 0]},g,d,tk,os⟩) a2 ys:=Heap.IsList.push h2 _;wp_walk using ai8 q1,ai8 q2
    exact⟨_,rfl,h⟩
  . have q1:Heap.IsList 339 a1 xs:=h1;have q2:Heap.IsTuple (Shared.heap ⟨hp.push {cls:= .type "list_iterator",data:= .fields #[.ref a1, .int 0 0]},g,d,tk,os⟩) a2 ys:=let ⟨o,e,r⟩:=h2;⟨o,aa3 _ e,r⟩;wp_walk using ai8 q1,ai2 q2
    exact⟨_,rfl,h⟩
  . have q1:Heap.IsTuple 339 a1 xs:=h1;have q2:Heap.IsList (Shared.heap ⟨hp.push {cls:= .type "tuple_iterator",data:= .fields #[.ref a1, .int 0 0]},g,d,tk,os⟩) a2 ys:=Heap.IsList.push h2 _;wp_walk using ai2 q1,ai8 q2
    exact⟨_,rfl,h⟩
  . have q1:Heap.IsTuple 339 a1 xs:=h1;have q2:Heap.IsTuple (Shared.heap ⟨hp.push {cls:= .type "tuple_iterator",data:= .fields #[.ref a1, .int 0 0]},g,d,tk,os⟩) a2 ys:=let ⟨o,e,r⟩:=h2;⟨o,aa3 _ e,r⟩;wp_walk using ai2 q1,ai2 q2
    exact⟨_,rfl,h⟩
def pA(b:Bool)(H:Hp)(a:Addr)(xs:List V):Prop:=match b with
 | true=>H a=some 203
 | false=>H a=some 159
theorem pA.inj(h:pA b H a xs)(k:pA b H a ys):xs=ys:=by
 cases b
 . have h:H a=some 159:=h;have k:H a=some (.lst ys):=k;rw[h] at k;cases k;rfl
 . have h:H a=some 203:=h;have k:H a=some 412:=k;rw[h] at k;cases k;rfl
theorem pA.some{b:Bool}{H:Hp}{a:Addr}{xs:List V}(h:pA b H a xs): ∃o,H a=some o:=by
 cases b
 . exact⟨_,h⟩
 . exact⟨_,h⟩
def Bv(b:Bool)(h:Heap)(it a:Addr)(k:Nat):Prop:=match b with
 | true=>h.IsTupleIter it a k
 | false=>h.IsListIter it a k
theorem Bv.obj(z:Bv b h it a k): ∃o,h.get? it=Option.some o/\ ∀v,o.data≠ .cell v:=by
 cases b
 . obtain⟨o,q,_,d⟩:=(show h.IsListIter it a k from z);exact⟨o,q,fun v y=>by rw[d] at y;cases y⟩
 . obtain⟨o,q,_,d⟩:=(show h.IsTupleIter it a k from z);exact⟨o,q,fun v y=>by rw[d] at y;cases y⟩
theorem Bv.keep{h h':Heap}(z:Bv b h it a k)(e: ∀o,h.get? it=Option.some o->h'.get? it=Option.some o):Bv b h' it a k:=by
 cases b
 . obtain⟨o,q,r⟩:=(show h.IsListIter it a k from z);exact(show h'.IsListIter it a k from⟨o,e o q,r⟩)
 . obtain⟨o,q,r⟩:=(show h.IsTupleIter it a k from z);exact(show h'.IsTupleIter it a k from⟨o,e o q,r⟩)
theorem Bv.Rw(z:Bv b h it a k)(q:xJ b h a xs):oA h it a xs k:=by
 cases b
 . exact .inl ⟨z,q⟩
 . exact .inr ⟨z,q⟩
theorem DA(z:oA h it a xs k)(q:xJ b h a xs):Bv b h it a k:=by
 cases b
 . rcases z with ⟨z1,_⟩ | ⟨_,o,e1,e2,_⟩
   . exact z1
   . obtain⟨o',f1,f2,_⟩:=(show h.IsList a xs from q)
     rw[f1] at e1;cases e1;rw[f2] at e2;injection e2 with y;exact absurd y 105
 . rcases z with ⟨_,o,e1,e2,_⟩ | ⟨z1,_⟩
   . obtain⟨o',f1,f2,_⟩:=(show h.IsTuple a xs from q)
     rw[f1] at e1;cases e1;rw[f2] at e2;injection e2 with y;exact absurd y 105
   . exact z1
theorem Inv.Nn(I:Inv X pins σ H s)(h:pA b H a xs): ∃ai:List Value,Vals xs ai/\xJ b s.heap a ai.toArray:=by
 cases b
 . obtain⟨ai,rv,pl,_⟩:=I.list (bL.of (show H a=Option.some 159 from h));exact⟨ai,rv,pl.isList⟩
 . obtain⟨ai,rv,pl,_⟩:=I.tuple (dF.of (show H a=Option.some 203 from h));exact⟨ai,rv,pl⟩
theorem Inv.zA{h':Heap}{t':Nat}{ch:List Addr}(I:Inv X pins σ H s)(hc: ∀b∈ch,eZ X pins H b)(k: ∀b u,b∉ch->s.heap.get? b=some u->h'.get? b=some u):Inv X pins σ H {s with heap:=h',toks:=t'}:=by
 have FI: ∀b u,H b=some u->b∉ch:=fun b u e z=>by rw[(hc b z).1] at e;cases e
 refine I.step (g':=s.gens) (d':=s.drawn) (ch:=ch) (fun b hb=>?_) (fun b u _ _ hn e _=>k b u hn e) (fun b u _ _ hn e _=>⟨u.slots,k b u hn e⟩) (fun _ _ _ _ n=>n)
  (fun b u hn e=>⟨u,k b u hn e⟩) (fun _ _ e=>e) (fun _ _ _ e=>e) (fun b ps e=>⟨#[],by rw[e];simp⟩) (fun m hm=>?_) (fun b u e=>?_) I.bare
 . obtain⟨f0,f1,f2,f3,f4,f5⟩:=hc b hb;exact⟨f3,f1,f4,f5⟩
 . obtain⟨ob,es,ep,ho,r⟩:=hm;exact⟨ob,es,ep,k _ ob (fun z=>(hc _ z).2.1 rfl) ho,r⟩
 . refine(I.aQ b u e).tS (fun c v IV q=>k c v ?_ q) (fun c q=>q) fun c xs q=>q;rcases IV with z | z
   . rw[z];exact FI b u e
   . exact FI c _ z
structure Z5(n:Nat):Prop where
 a:n+2≠n+4
 b:n+3≠n+4
 c:n≠n+4
 d:n+1≠n+4
 e:n+2≠n+3
 f:n+2≠n
 g:n+2≠n+1
 h:n+3≠n
 i:n+3≠n+1
 j:n≠n+1
theorem bC(n:Nat):Z5 n:=⟨by lia,by lia,by lia,by lia,by lia,by lia,by lia,by lia,by lia,by lia⟩
def Q8(b1 b2:Bool)(a1 a2:Addr):It:=
 ⟨fun i H=> ∃xs x ys y,pA b1 H a1 xs/\xs[i]?=some x/\pA b2 H a2 ys/\ys[i]?=some y,
  fun i H v H'=> ∃p x y,v= .ref p/\H p=none/\H'=upd H p (.tup [x,y])/\(∀xs,pA b1 H a1 xs->xs[i]?=some x)/\ ∀ys,pA b2 H a2 ys->ys[i]?=some y,
  fun i H=> ∃xs ys,pA b1 H a1 xs/\pA b2 H a2 ys/\(xs.length<=i\/ys.length<=i)⟩
theorem BR{P:Program}{w:World}{K:PySem.W.Frag}{es:List Expr}{x1}{tp:Pos}(b1 b2:Bool)(a1 a2:Addr)(n:Nat):
  Turn P w K 171 (Q8 b1 b2 a1 a2) [n+4,n+2,n+3,n,n+1] (n+4) (fun i h=>IsZip h (n+4) (n+2) (n+3) .none/\IsPair h (n+2) (.ref n) (.ref (n+1))/\(∃a b,IsPair h (n+3) a b)/\Bv b1 h n a1 i/\Bv b2 h (n+1) a2 i) where
 mem:=by simp
 obj:=fun i h st b hb=>by
  obtain⟨z1,z2,⟨u,v,z3⟩,z4,z5⟩:=st;simp only [ad1,aa8,or_false] at hb;rcases hb with rfl | rfl | rfl | rfl | rfl
  . exact⟨_,z1,fun v y=>nomatch (show Data.fields _=Data.cell v from y)⟩
  . exact⟨_,z2,fun v y=>nomatch (show Data.seq _ _=Data.cell v from y)⟩
  . exact⟨_,z3,fun v y=>nomatch (show Data.seq _ _=Data.cell v from y)⟩
  . exact z4.obj
  . exact z5.obj
 keep:=fun i h h' st kk=>by
  obtain⟨z1,z2,⟨u,v,z3⟩,z4,z5⟩:=st;exact⟨kk _ 112 _ z1,kk _ 112 _ z2,⟨u,v,kk _ 112 _ z3⟩,z4.keep fun o q=>kk _ 112 o q,z5.keep fun o q=>kk _ 112 o q⟩
 item:=by
  intro X hP hw hK hc i pins s σ H E I hf st hg;subst hP hw hK;obtain⟨xs,x,ys,y,q1,hx,q2,hy⟩:=hg;obtain⟨ai,rv,p1⟩:=I.Nn q1;obtain⟨b9,mC,p2⟩:=I.Nn q2;obtain⟨u,hu,ru⟩:=rv.get hx;obtain⟨u2,YD,Oo⟩:=mC.get hy;obtain⟨z1,z2,⟨c1,c2,z3⟩,z4,z5⟩:=st;have ap: ∀{b:Bool} {a:Addr} {zs:List V},pA b H a zs-> ∀f∈ [n+4,n+2,n+3,n,n+1],a≠f:=fun hq f G7 e=>by
   obtain⟨o,q⟩:=hq.some;have:=(hf f G7).1;rw[<-e,q] at this;cases this
  have D:ZipApart (n+4) (n+2) (n+3) n (n+1) a1 a2:=⟨(bC n).a,(bC n).b,(bC n).c,(bC n).d,(bC n).e,(bC n).f,(bC n).g,(bC n).h,(bC n).i,(bC n).j,ap q1 _ 112,ap q1 _ 112,ap q1 _ 112,ap q1 _ 112,ap q2 _ 112,ap q2 _ 112,ap q2 _ 112,ap q2 _ 112⟩
  refine zu D z1 z2 z3 (z4.Rw p1) (z5.Rw p2) (x:=u) (y:=u2) (by simpa using hu) (by simpa using YD) fun h' e1 e2 e3 e4 e5 e6 e7=>376
  refine wpAny_letOwnedTupleGo_zip e1 fun h2 g1 sb=>?_;have NP:n+4 < s.heap.objs.size:=ad0 z1;have I1:Inv X pins σ (upd H s.heap.objs.size (.tup [x,y])) {s with heap:=h2,toks:=s.toks}:=by
   refine I.kz (ch:= [n+4,n+2,n+3,n,n+1]) hf (aa4 _) (fun b o hb q=>?_) ⟨by show 2<=sizeLine;decide,[u,u2],.cons ru (.cons Oo .nil),?_⟩
   . have m: ∀f,f∈ [n+4,n+2,n+3,n,n+1]->b≠f:=fun f G7 e=>hb (e▸G7);exact(sb.2 b (m _ 112)).trans (e7 b o (m _ 112) (m _ 112) (m _ 112) (m _ 112) q)
   . exact⟨_,(sb.2 _ (an7 NP)).trans e5,rfl,rfl,_,rfl⟩
  have up: ∀b o,b≠n+4->h'.get? b=some o->h2.get? b=some o:=fun b o hb q=>(sb.2 b hb).trans q;have IG: ∀{b:Bool} {a:Addr} {zs:Array Value} {ws:List V},pA b H a ws->xJ b s.heap a zs->xJ b h' a zs:=fun{b a zs ws} hq hs=>by
   have k: ∀o,s.heap.get? a=some o->h'.get? a=some o:=fun o q=>e7 a o (ap hq _ 112) (ap hq _ 112) (ap hq _ 112) (ap hq _ 112) q;cases b
   . obtain⟨o,f1,f2⟩:=(show s.heap.IsList a zs from hs);exact(show h'.IsList a zs from⟨o,k o f1,f2⟩)
   . obtain⟨o,f1,f2⟩:=(show s.heap.IsTuple a zs from hs);exact(show h'.IsTuple a zs from⟨o,k o f1,f2⟩)
  refine⟨.ref s.heap.objs.size,_,I1,rfl,⟨_,x,y,rfl,I.aQ.fresh (aa4 _),rfl,fun zs hz=>by rw[hz.inj q1];exact hx,fun zs hz=>by rw[hz.inj q2];exact hy⟩,⟨g1,?_,⟨u,u2,up _ _ (bC n).b e2⟩,?_,?_⟩,fun b hb=>?_⟩
  . exact up _ _ (bC n).a (e7 _ _ (bC n).a (bC n).e (bC n).f (bC n).g z2)
  . exact(DA e3 (IG q1 p1)).keep fun o q=>up _ o (bC n).c q
  . exact(DA e4 (IG q2 p2)).keep fun o q=>up _ o (bC n).d q
  . rw[ah (fun z=>?_)]
    . exact(411).1
    . have Xv:n+4 < s.heap.objs.size:=NP;have: ∀f:Nat,f∈ [n+4,n+2,n+3,n,n+1]->f < s.heap.objs.size:=fun f G7=>by
       simp only [ad1,aa8,or_false] at G7;lia
      exact absurd (z▸this b hb) (af2 _)
 done:=by
  intro X hP hw hK hc i pins s σ H E I hf st hg;subst hP hw hK;obtain⟨xs,ys,q1,q2,hx⟩:=hg;obtain⟨ai,rv,p1⟩:=I.Nn q1;obtain⟨b9,mC,p2⟩:=I.Nn q2;have l1:=rv.length;have l2:=mC.length;obtain⟨z1,z2,⟨c1,c2,z3⟩,z4,z5⟩:=st;have ap: ∀{b:Bool} {a:Addr} {zs:List V},pA b H a zs-> ∀f∈ [n+4,n+2,n+3,n,n+1],a≠f:=fun hq f G7 e=>by
   obtain⟨o,q⟩:=hq.some;have:=(hf f G7).1;rw[<-e,q] at this;cases this
  have D:ZipApart (n+4) (n+2) (n+3) n (n+1) a1 a2:=⟨(bC n).a,(bC n).b,(bC n).c,(bC n).d,(bC n).e,(bC n).f,(bC n).g,(bC n).h,(bC n).i,(bC n).j,ap q1 _ 112,ap q1 _ 112,ap q1 _ 112,ap q1 _ 112,ap q2 _ 112,ap q2 _ 112,ap q2 _ 112,ap q2 _ 112⟩
  refine BE 288 D z1 z2 z3 (z4.Rw p1) (z5.Rw p2) (hx.elim (fun h=> .inl (by rw[List.getElem?_toArray];exact ad9 101)) fun h=> .inr (by rw[List.getElem?_toArray];exact ad9 101)) fun h' kk=>⟨rfl,?_⟩
  refine I.zA (ch:= [n+4,n+2,n+3,n,n+1]) hf fun b o hb q=>?_;have m: ∀f,f∈ [n+4,n+2,n+3,n,n+1]->b≠f:=fun f G7 e=>hb (e▸G7);exact kk b o (m _ 112) (m _ 112) (m _ 112) (m _ 112) q
 self:=fun A i s Q E st h=>wpAny_pyIter_zip st.1 h
theorem A5:bootBuiltins "zip"=some (.type "zip"):=by decide+kernel
def Pg(ta:TA):TI:=fun σ H R=>ta σ H fun vs H1=> ∃b1 b2 a1 a2 xs ys,vs= [.ref a1,.ref a2]/\pA b1 H1 a1 xs/\pA b2 H1 a2 ys/\R (Q8 b1 b2 a1 a2) H1
theorem vG{x1}(I:Inv X pins σ H s)(q:R (Q8 b1 b2 a1 a2) H):
  wpAny 106 X.A (pyIter (.ref (gM s.heap b1 b2 a1 a2).objs.size)) (Q4 X pins σ 171 R) E {s with heap:=dG s.heap b1 b2 a1 a2,toks:=tk}:=by
 have z1:(s.heap.push (Ao b1 a1)).objs.size=s.heap.objs.size+1:=ai4 ..;have z2:(fH s.heap b1 b2 a1 a2).objs.size=s.heap.objs.size+2:=by unfold fH;rw[ai4,z1]
 have z3:(147).objs.size=s.heap.objs.size+3:=by rw[ai4,z2]
 have z4:(gM s.heap b1 b2 a1 a2).objs.size=s.heap.objs.size+4:=by unfold gM;rw[ai4,z3]
 have keep: ∀c o,s.heap.get? c=some o->(220).get? c=some o:=fun c o e=>by
  unfold dG gM fH;exact aa3 _ (aa3 _ (aa3 _ (aa3 _ (aa3 _ e))))
 have g5:IsZip 220 (s.heap.objs.size+4) (s.heap.objs.size+2) (s.heap.objs.size+3) .none:=by
  have:=ab4 (gM s.heap b1 b2 a1 a2) (o:={cls:= .type "zip",data:= .fields #[.none,.bool false,.bool false,.ref (fH s.heap b1 b2 a1 a2).objs.size,.ref (147).objs.size]}) rfl;rw[z4,z2,z3] at this;unfold dG;rw[z2,z3];exact this
 have g3:IsPair 220 (s.heap.objs.size+2) 126 (.ref 143):=by
  have:=ab4 (fH s.heap b1 b2 a1 a2) (o:={cls:= .type "tuple",data:= .seq #[.ref s.heap.objs.size,.ref (s.heap.push (Ao b1 a1)).objs.size]}) rfl;rw[z2] at this;have h2:(220).get? (s.heap.objs.size+2)=some {cls:= .type "tuple",data:= .seq #[.ref s.heap.objs.size,.ref (s.heap.push (Ao b1 a1)).objs.size]}:=by
   unfold dG gM;exact aa3 _ (aa3 _ this)
  rw[z1] at h2;exact h2
 have g4:IsPair 220 (s.heap.objs.size+3) .none .none:=by
  have:=ab4 147 (o:={cls:= .type "tuple",data:= .seq #[.none,.none]}) rfl;rw[z3] at this;unfold dG gM;exact aa3 _ this
 have i1:Bv b1 220 s.heap.objs.size a1 0:=by
  have h:(220).get? s.heap.objs.size=some (Ao b1 a1):=by
   unfold dG gM fH;refine aa3 _ (aa3 _ (aa3 _ (aa3 _ (ab4 _ ?_))));cases b1 <;> rfl
  cases b1
  . exact(show Heap.IsListIter _ _ _ _ from⟨_,h,rfl,rfl⟩)
  . exact(show Heap.IsTupleIter _ _ _ _ from⟨_,h,rfl,rfl⟩)
 have i2:Bv b2 220 143 a2 0:=by
  have h:(220).get? (s.heap.push (Ao b1 a1)).objs.size=some (Ao b2 a2):=by
   unfold dG gM fH;refine aa3 _ (aa3 _ (aa3 _ (ab4 _ ?_)));cases b2 <;> rfl
  rw[z1] at h;cases b2
  . exact(show Heap.IsListIter _ _ _ _ from⟨_,h,rfl,rfl⟩)
  . exact(show Heap.IsTupleIter _ _ _ _ from⟨_,h,rfl,rfl⟩)
 rw[z4];refine wpAny_pyIter_zip g5 ?_;refine⟨s.heap.objs.size+4,_,_,Q8 b1 b2 a1 a2,H,rfl,I.kept keep,BR b1 b2 a1 a2 s.heap.objs.size,⟨g5,g3,⟨_,_,g4⟩,i1,i2⟩,fun c hc=>?_,q⟩;have hle:s.heap.objs.size<=c:=by
  have: ∀n f:Nat,f∈ [n+4,n+2,n+3,n,n+1]->n<=f:=fun n f hf=>by
   simp only [ad1,aa8,or_false] at hf;omega
  exact this _ _ hc
 exact I.iO hle (I.aQ.fresh hle)
theorem rM{x1}(hg:Gl X "zip")(hm:X.mg "zip"=none)(ha:PA X [e,f] t)(hs:starEach [e,f] X.env= [(false,eval e X.env),(false,eval f X.env)]:=by rfl)(gL:starEach [f] X.env= [(false,eval f X.env)]:=by rfl):
  PI X 171 (.Call (.Name "zip" p) [e,f] [] pos) (Pg t):=by
 intro pins s σ H R I h;refine Call_ (bV I hg hm A5 (ag7 (aU 156 fun us s1 cK=>?_) (by rw[hs,gL]) (by rw[gL];rfl)));obtain⟨vs,H1,I1,r1,q1⟩:=cK;obtain⟨b1,b2,a1,a2,xs,ys,rfl,k1,k2,q⟩:=q1;obtain⟨u,u2,rfl,ru,Oo⟩:=vals2 r1;cases ru;cases Oo;obtain⟨ai,rv,p1⟩:=I1.Nn k1;obtain⟨b9,mC,p2⟩:=I1.Nn k2;exact iy F.called_zip 105 (F.typeCall_zip_2 _ _) (F.newCall_zip_2 _ _) (fun obj=>F.args_object_init_3 obj _ _) F.entry_zip_new (JM b1 b2 a1 a2 ai.toArray b9.toArray) ⟨p1,p2,⟨_,ab4 _ rfl,rfl⟩,vG I1 q⟩
end L2
namespace LW
open PySem PySem.Spec PyProof.Rows HT L2
def Rq:V->Prop
 | .aC=>True
 | .bl _=>True
 | .int i=>i.natAbs < 2^140
 | .str x=>x.length<=15/\ ∀c∈x.cps.toList,c < 16^8
 | _=>False
def Td(c:Addr->Prop)(H:Hp):Nat->V->Prop
 | 0,v=>Rq v
 | k+1,v=>Td c H k v\/ ∃a xs,v= .ref a/\((H a=some 159/\c a)\/H a=some 203)/\ ∀x∈xs,Td c H k x
theorem Td.tup{c:Addr->Prop}{a:Addr}{H:Hp}{xs:List V}{k:Nat}(h:H a=some 203)(e: ∀x∈xs,Td c H k x):Td c H (k+1) 226:= .inr ⟨a,xs,rfl,.inr h,e⟩
theorem Td.lst{c:Addr->Prop}{a:Addr}{H:Hp}{xs:List V}{k:Nat}(h:H a=some 159)(n:c a)(e: ∀x∈xs,Td c H k x):Td c H (k+1) 226:= .inr ⟨a,xs,rfl,.inl ⟨h,n⟩,e⟩
theorem Td.kind: ∀{k:Nat},Td c H k v->Rq v\/ ∃a xs,v= .ref a/\((H a=some 159/\c a)\/H a=some 203)
 | 0,h=> .inl h
 | k+1,h=>by
  rcases h with h | ⟨a,xs,e,q,_⟩
  . exact h.kind
  . exact .inr ⟨a,xs,e,q⟩
def dat(H:Hp):Nat->V->PyData
 | _,.aC=> .none
 | _,.bl b=> .bool b
 | _,.int i=> .int i
 | _,.str x=> .str x
 | m+1,.ref a=>match H a with
  | some 159=> .list 370
  | some 203=> .tuple 370
  | _=> .none
 | _,_=> .none
def wt(H:Hp):Nat->V->Nat
 | m+1,.ref a=>match H a with
  | some 159=>3+(377).sum
  | some 203=>3+(377).sum
  | _=>200
 | _,_=>200
theorem BI(h:Rq v):wt H m v=200:=by
 cases v <;> first | (cases m <;> rfl) | exact h.elim
theorem BH(h:H a=some 159):wt H (m+1) 226=3+(377).sum:=by
 simp only [wt,h]
theorem BG(h:H a=some 203):wt H (m+1) 226=3+(377).sum:=by
 simp only [wt,h]
theorem sG(h:H a=some 159):dat H (m+1) 226= .list 370:=by
 simp only [dat,h]
theorem sF(h:H a=some 203):dat H (m+1) 226= .tuple 370:=by
 simp only [dat,h]
structure FT(k n:Nat)(d:PyData):Prop where
 ok:d.showable=true
 nd:d.hasDict=false
 dp:d.depth<=k
 len:d.shown.length<=n
theorem FT.up(h:FT k n d)(e:k<=m):FT m n d:=⟨h.ok,h.nd,ac6 h.dp e,h.len⟩
theorem sT: ∀{ds:List PyData},(∀d∈ds,d.showable=true)->PyData.showableAll ds=true
 | [],_=>rfl
 | d::r,h=>by
  rw[PyData.showableAll,h d ac4,sT fun x hx=>h x (ab6 _ hx)];rfl
theorem lr: ∀{ds:List PyData},(∀d∈ds,d.hasDict=false)->PyData.hasDictAll ds=false
 | [],_=>rfl
 | d::r,h=>by
  rw[PyData.hasDictAll,h d ac4,lr fun x hx=>h x (ab6 _ hx)];rfl
theorem oz: ∀{ds:List PyData},(∀d∈ds,d.depth<=k)->PyData.depthAll ds<=k
 | [],_=>ae3 _
 | d::r,h=>by
  rw[PyData.depthAll];exact Nat.max_le.mpr ⟨h d ac4,oz fun x hx=>h x (ab6 _ hx)⟩
theorem Fi{f:V->PyData}{g:V->Nat}: ∀{xs:List V},(∀x∈xs,(f x).shown.length<=g x)->((PyData.shownAll (xs.map f)).map (·.length)).sum+2*(PyData.shownAll (xs.map f)).length<=(xs.map fun x=>g x+2).sum
 | [],_=>by simp [PyData.shownAll]
 | x::r,h=>by
  have ih:=Fi (f:=f) (g:=g) (xs:=r) fun y hy=>h y (ab6 _ hy);have:=h x ac4;rw[ac2,PyData.shownAll,ac2,ak5,ac1,ac2,ak5];omega
theorem Td.S1: ∀{k m:Nat} {v:V},Td c H k v->k<=m->FT k (wt H m v) (dat H m v)
 | 0,m,v,h,_=>by
  rw[BI h];cases v with
  | aC=>
   have q:FT 0 200 .none:=⟨rfl,rfl,aa4 _,by decide+kernel⟩
   cases m <;> exact q
  | bl b=>
   have q:FT 0 200 (.bool b):=by cases b <;> exact⟨rfl,rfl,aa4 _,by decide+kernel⟩
   cases m <;> exact q
  | int i=>
   have h:i.natAbs < 2^140:=h;have hl:i.natAbs.log2 < 1920:=by
    by_cases z:i.natAbs=0
    . rw[z];decide
    . rw[Nat.log2_lt z];exact ac8 h (at6 105 105)
   have q:FT 0 200 392:=⟨by show decide (i.natAbs.log2 < 1920)=true;exact ad3 hl,rfl,aa4 _,by
    have e:=int_text_length_le10 (a:=i) (k:=60) 105 (ac8 h 105);show(Str.ofString (toString i)).length<=200;rw[PySem.ofString_length];omega⟩
   cases m <;> exact q
  | str x=>
   have q:FT 0 200 (.str x):=⟨rfl,rfl,aa4 _,by
    have:=StrLaws.reprText_len x h.2;have:=h.1;show(reprText x).length<=_;omega⟩
   cases m <;> exact q
  | _=>exact h.elim
 | k+1,0,_,_,hk=>absurd hk 149
 | k+1,m+1,v,h,hk=>by
  rcases h with h | ⟨a,xs,rfl,q,r⟩
  . exact(Td.S1 h 149).up (ap1 _)
  . have all: ∀x∈xs,FT k (wt H m x) (dat H m x):=fun x hx=>Td.S1 (r x hx) 149;have Bb: ∀d∈xs.map (dat H m),∃n,FT k n d:=fun d hd=>by
     obtain⟨x,hx,rfl⟩:=ac9.mp hd;exact⟨_,all x hx⟩
    have hlen:=Fi (f:=dat H m) (g:=wt H m) (xs:=xs) fun x hx=>(all x hx).len;rcases q with ⟨q,n⟩ | q
    . rw[sG q,BH q];exact⟨sT fun d hd=>(Bb d hd).elim fun _ z=>z.ok,lr fun d hd=>(Bb d hd).elim fun _ z=>z.nd,Nat.succ_le_succ (oz fun d hd=>(Bb d hd).elim fun _ z=>z.dp),by have:=listText_len_le (PyData.shownAll 370);exact ac6 this 149⟩
    . rw[sF q,BG q];exact⟨sT fun d hd=>(Bb d hd).elim fun _ z=>z.ok,lr fun d hd=>(Bb d hd).elim fun _ z=>z.nd,Nat.succ_le_succ (oz fun d hd=>(Bb d hd).elim fun _ z=>z.dp),by have:=tupleText_len_le (PyData.shownAll 370);exact ac6 this 149⟩
theorem Ct(a:Rq v)(r:RelV v u):Reads h u (dat H m v) []:=by
 cases v with
 | aC=>cases (show u=Value.none from r);cases m <;> exact .none
 | bl b=>cases (show u=Value.bool b from r);cases m <;> exact .bool b
 | int i=>obtain⟨t,rfl⟩:=(show∃t,u=Value.int i t from r);cases m <;> exact .int i t
 | str x=>obtain⟨t,rfl⟩:=(show∃t,u=Value.str x t from r);cases m <;> exact .str x t
 | _=>exact a.elim
theorem readsAll: ∀{xs:List V} {us:List Value},Vals xs us->(∀x∈xs,∀u,RelV x u-> ∃as,Reads h u (f x) as)-> ∃as,ReadsAll h us (xs.map f) as
 | _,_,.nil,_=>⟨[],.nil⟩
 | _,_,.cons r t,k=>by
  obtain⟨a1,r1⟩:=k _ ac4 _ r;obtain⟨a2,r2⟩:=readsAll t fun x hx=>k x (ab6 _ hx);exact⟨_,.cons r1 r2⟩
theorem Td.reads(ok:iA P w H h): ∀{k m:Nat} {v:V} {u:Value},Td c H k v->k<=m->RelV v u-> ∃as,Reads h u (dat H m v) as
 | 0,_,_,_,a,_,r=>⟨_,Ct a r⟩
 | k+1,0,_,_,_,hk,_=>absurd hk 149
 | k+1,m+1,v,u,a,hk,r=>by
  rcases a with a | ⟨p,xs,rfl,q,rr⟩
  . exact Td.reads ok a 149 r
  . cases (show u=Value.ref p from r);rcases q with ⟨q,n⟩ | q
    . obtain⟨_,ai,n',rv,e⟩:=(show aZ P w H h p 159 from ok p _ q)
      obtain⟨as,ra⟩:=readsAll (f:=dat H m) rv fun x hx u ru=>Td.reads ok (rr x hx) 149 ru;rw[sG q];exact⟨_,.list e rfl rfl (by simpa using ra)⟩
    . obtain⟨_,ai,rv,o,e1,e2,_,n',e3⟩:=(show aZ P w H h p 203 from ok p _ q)
      obtain⟨as,ra⟩:=readsAll (f:=dat H m) rv fun x hx u ru=>Td.reads ok (rr x hx) 149 ru;rw[sF q];exact⟨_,.tuple e1 e2 e3 (by simpa using ra)⟩
def Of(H:Hp):V->Str
 | .str x=>x
 | v=>(dat H 9 v).shown
theorem AZ(hr:ck k X.A):dJ X (.type "str") (fun xs H Q=> ∃x c,xs= [x]/\Td c H 9 x/\wt H 9 x<=sizeLine/\Q (.str (Of H x)) H):=by
 intro pins s σ H xs us Q I r h;obtain⟨x,c,rfl,td,hw,q⟩:=h;obtain⟨u,rfl,ru⟩:=vals1 r;have sh:=td.S1 (aa4 9);have hsz:(dat H 9 x).shown.length<=sizeLine:=ac6 sh.len hw;obtain⟨as,rd⟩:=td.reads I.aQ (aa4 9) ru;have un:=hr.un;cases x with
 | ref a=>
  cases (show u=Value.ref a from ru);exact str_of_reads rd sh.ok (fun z=>by rw[sh.nd] at z;cases z) hr.gd (by have:=sh.dp;omega) (fun _ _ e=>e) (fun h' u tk kk=>⟨.str _,H,I.kept kk,⟨_,rfl⟩,q⟩) hsz
 | aC=>cases (show u=Value.none from ru);exact PySem.P.str_of_none ⟨.str _,H,I.tok _,⟨_,rfl⟩,q⟩
 | bl b=>
  cases (show u=Value.bool b from ru);refine PySem.P.str_of_bool ⟨.str _,H,I.tok _,⟨_,rfl⟩,?_⟩;cases b <;> exact q
 | int i=>obtain⟨t,rfl⟩:=(show∃t,u=Value.int i t from ru);exact PySem.P.str_of_int (ad6 sh.ok) ⟨.str _,H,I.tok _,⟨_,rfl⟩,q⟩
 | str y=>obtain⟨t,rfl⟩:=(show∃t,u=Value.str y t from ru);exact PySem.P.str_of_str ⟨.str _,H,I,⟨_,rfl⟩,q⟩
 | _=>
  rcases td.kind with z | ⟨a,_,z,_⟩
  . exact z.elim
  . cases z
end LW
namespace LW
open PySem L2 LB PyProof.Rows
theorem aq.none{H H':Hp}{a:Addr}(s:aq H H')(h:H' a=none):H a=none:=by
 cases e:H a with
 | none=>rfl
 | some o=>rw[s _ _ e] at h;cases h
end LW
namespace L2
open PySem PySem.Spec PyProof.Rows
section
variable{X:Cx}
def Gn:V->List V->Hp->VK->Prop:=fun x vs H Q=> ∃a xs y,x= .ref a/\vs= [y]/\H a=some 203/\dm y=true/\xs.all dm=true/\Q (.int (xs.countP fun z=>o6 z y:Nat)) H
theorem L8(r:Vals xs ai)(ry:RelV y u)(fy:dm y=true)(fx:xs.all dm=true):
  ∃e:Value->Bool,(∀v∈ai,SeqAt.EqAt A s v u (e v))/\ ∀(i:Nat) x v,xs[i]?=some x->ai[i]?=some v->e v=o6 x y:=by
 refine⟨fun v=>match HQ v with | some x=>o6 x y | none=>false,fun v hv=>?_,fun i x v hx hv=>?_⟩
 . obtain⟨i,hi,e⟩:=ah2 hv;have hx:xs[i]?=some (xs[i]'(by rw[r.length];exact hi)):=aa1 _;obtain⟨w,hw,vw⟩:=r.get hx;rw[aa1 hi,e] at hw;cases hw;show SeqAt.EqAt A s v u (match HQ v with | some x=>o6 x y | none=>false);rw[vw.abs];exact w9 vw ry (ah9.mp fx _ (ac7 hx)) fy
 . obtain⟨w,hw,vw⟩:=r.get hx;rw[hv] at hw;cases hw;show(match HQ v with | some x=>o6 x y | none=>false)=_;rw[vw.abs]
theorem qv: ∀{xs:List V} {ai:List Value},Vals xs ai->(∀(i:Nat) x v,xs[i]?=some x->ai[i]?=some v->e v=o6 x y)->ai.countP e=xs.countP fun z=>o6 z y
 | _,_,.nil,_=>rfl
 | _,_,.cons r t,h=>by
  rw[List.countP_cons,List.countP_cons,qv t fun i x v h1 h2=>h (i+1) x v 245 244,h 0 _ _ rfl rfl]
theorem Aa:VL X "tuple.count" Gn:=by
 intro pins s σ H x xs v us Q I rx rs h;obtain⟨a,ys,y,rfl,rfl,ha,fy,fx,q⟩:=h;cases rx;obtain⟨u,rfl,ru⟩:=vals1 rs;obtain⟨ai,rv,pl,_⟩:=I.tuple (dF.of ha);obtain⟨⟨cls,dd,data,sl⟩,ho,hc,n,hd⟩:=(show s.heap.IsTuple a ai.toArray from pl)
 simp only at hc hd;subst hc hd;obtain⟨e,he,hv⟩:=L8 (A:=X.A.in1) (s:=s) rv ru fy fx;refine at1 PySem.F.slot_tuple_count ⟨_,ho,rfl⟩ PySem.F.entry_tuple_count (PySem.F.args_tuple_count_2 _ _) (SeqAt.tuple_countAt a ai.toArray n dd sl u e) ⟨ho,fun z hz=>he z (by simpa using hz),?_⟩;have:ai.toArray.toList.countP e=ys.countP fun z=>o6 z y:=by simpa using qv rv hv
 rw[this];exact⟨.int _,H,I.tok _,⟨_,rfl⟩,q⟩
theorem sN:dJ X (.builtin "sorted") (fun xs H Q=> ∃(a:Addr) (ns:List Int),xs= [.ref a]/\H a=some (.lst 131)/\ns.length < 64/\ ∀(p:Addr) (ms:List Int),H p=none->ms.Perm ns->ms.Pairwise (· <= ·)->Q 379 (upd H p 347)):=by
 intro pins s σ H xs us Q I r h;obtain⟨a,ns,rfl,hq,hl,q⟩:=h;obtain⟨u,rfl,ru⟩:=vals1 r;cases ru;obtain⟨ai,rv,pl,_⟩:=I.list (bL.of hq);have hi:=intsAre_of rv;have hlen:ai.length=ns.length:=by have:=rv.length;rw[aa2] at this;exact this.symm
 refine sorted_ints pl.isList hi 149 fun out Tf a1 a2 a3=>?_;obtain⟨e,he⟩:=sortedAll_at s.heap ai out;have hf:H 143=none:=I.aQ.fresh (ap1 _);refine⟨.ref 143,_,I.laid (t':=s.toks) (o:= .lst (Tf.map V.int)) (fun b o e=>sortedAll_old e) (ap1 _) ?_,rfl,q _ Tf hf a2 a3⟩;have PL:Tf.length < 64:=by rw[a2.length_eq];exact hl
 refine⟨by rw[aa2];exact al3 (Nat.lt_trans PL 105),out.toList,e,kx a1,?_⟩;rw[he]
end
end L2
namespace bW
open PySem PySem.W PyProof.Rows
section
variable{prog:Program}{w:World}{A:Around}{E:Value->Shared->Prop}{z:Shared}{K:Nat->Int}{vs:List Value}
structure Ask(prog:Program)(w:World)(A:Around)(vs:List Value)(K:Nat->Int)(z:Shared)(κ:SortKind):Prop where
 kind: ∀Q:SortKind->Shared->Prop,Q κ z->wpAny 110 A (keyKind' vs.toArray) Q 129 z
 ask:Xp vs.length K (kas_ask prog w A κ vs) z
def outs(vs:List Value)(p:Array Nat):Array Value:=List.toArray (p.toList.map fun i=>vs.getD i Value.none)
theorem nC(hp:Pm vs.length p):(outs vs p).size=vs.length:=by
 unfold outs;rw[ab5,aa2,ac5,hp.sz]
theorem GF:((175).map fun q:Keyed=>q.2)=outs vs (366).toArray:=by
 apply at5.mp;unfold outs;apply ao9
 . simp
 . intro i h1 h2;have hi:i < vs.length:=by simpa using h1
   simp [hi]
end
end bW
namespace bW
open PySem PySem.W PyProof.Rows fX
theorem nz{α β:Type}{f:α->β}{l k:List β}(h:l.Perm k): ∀{m:List α},k=m.map f-> ∃m':List α,m'.Perm m/\l=m'.map f:=by
 induction h with
 | nil=>
  intro m e;cases m with
  | nil=>exact⟨[],List.Perm.refl _,rfl⟩
  | cons a b=>cases e
 | cons x _ ih=>
  intro m e;cases m with
  | nil=>cases e
  | cons a m=>
   obtain⟨e1,e2⟩:=List.cons.inj e;obtain⟨m',p,e3⟩:=ih e2;exact⟨a::m',p.cons a,by rw[ac2,<-e3,e1]⟩
 | swap x y l=>
  intro m e;match m,e with
  | a::b::m,e=>
   obtain⟨e1,e2⟩:=List.cons.inj e;obtain⟨e3,e4⟩:=List.cons.inj e2;exact⟨b::a::m,List.Perm.swap _ _ _,by rw[ac2,ac2,e1,e3,e4]⟩
 | trans _ _ Yv TH=>
  intro m e;obtain⟨m',p,e1⟩:=TH e;obtain⟨m2,p2,e2⟩:=Yv e1;exact⟨m2,p2.trans p,e2⟩
open Classical in
noncomputable def FJ(a:Array Keyed)(x:Keyed):Nat:=if h: ∃i:Nat,a[i]?=some x then choose h else 0
theorem wK(h: ∃i:Nat,a[i]?=some x):a[FJ a x]?=some x:=by
 unfold FJ;rw[dif_pos h];exact Classical.choose_spec h
section
variable{prog:Program}{w:World}{A:Around}{E:Value->Shared->Prop}{z:Shared}{K:Nat->Int}{vs:List Value}
theorem Tp{a₀:Array Keyed}(hc:Xp vs.length K (kas_ask prog w A κ vs) z)(hs:a₀.size=vs.length)(ha: ∀(i:Nat) x,a₀[i]?=some x->x.1=vs.getD i Value.none):pC prog w A E z κ (fun x=>K (FJ a₀ x)) (fun x=> ∃i:Nat,a₀[i]?=some x):=by
 intro st x y Q hk hx hy q;have ex:=wK hx;have ey:=wK hy;have e1:=ha _ _ ex;have e2:=ha _ _ ey;have l1:FJ a₀ x < vs.length:=by rw[<-hs];exact(aq0.mp ex).1
 have l2:FJ a₀ y < vs.length:=by rw[<-hs];exact(aq0.mp ey).1
 obtain⟨x1,x2⟩:=x;obtain⟨y1,y2⟩:=y;rw[lt'_eq];refine ab0 (as6 ?_);rw[hk];dsimp only at e1 e2;have:=hc _ _ l1 l2 (fun b z'=>b=decide (K (FJ a₀ (x1,x2)) < K (FJ a₀ (y1,y2)))/\z'=z) ⟨rfl,rfl⟩;unfold kas_ask at this;rw[<-e1,<-e2] at this;refine ab0 (wpS_lift (wpAny_attempt (ae0 this (fun b z' hb=>?_) (fun _ _ f=>f.elim))));obtain⟨rfl,rfl⟩:=hb;exact⟨rfl,ab1 q⟩
theorem vU(ho:z.heap.get? a=some (seqObj "list" vs.toArray m))(hl:vs.length<=100000)(hK: ∀i j,i < vs.length->j < vs.length->vs.getD i Value.none=vs.getD j Value.none->K i=K j)(hk:2<=vs.length-> ∀h':Heap,(∀b o,b≠a->z.heap.get? b=some o->h'.get? b=some o)-> ∃κ,Ask prog w A vs K {z with heap:=h'} κ)(h: ∀p,Pm vs.length p->VX K p vs.length->P (.done (.ret .none)) {z with heap:=sortedHeap z.heap a vs (outs vs p)}):wpAny 110 A (Builtin.«list.sort» ⟨[.ref a],[]⟩) P E z:=by
 have la:a < z.heap.objs.size:=ad0 ho;let h1:Heap:=z.heap.update a (Obj.mapSeq fun _=> #[])
 let h3:Heap:=(h1.push (seqObj "tuple" vs.toArray 0)).push 343
 obtain⟨m1,o1⟩: ∃m1,h1.get? a=some (seqObj "list" #[] m1):=⟨_,get?_update_seq ho (fun _=> #[])⟩
 have s1:h1.objs.size=z.heap.objs.size:=Heap.size_update _ _ _;have o3:h3.get? a=some (seqObj "list" #[] m1):=by
  show((h1.push _).push _).get? a=_;rw[aq3 _ _ _ (by rw[size_push',s1];exact af0 (aq1 la)),aq3 _ _ _ (by rw[s1];exact af0 la)];exact o1
 have k3: ∀b o,b≠a->z.heap.get? b=some o->h3.get? b=some o:=fun b o hb q=>by
  have lb:=ad0 q;show((h1.push _).push _).get? b=_;rw[aq3 _ _ _ (by rw[size_push',s1];exact af0 (aq1 lb)),aq3 _ _ _ (by rw[s1];exact af0 lb)];show(z.heap.update a _).get? b=_;rw[Heap.get?_update_ne _ _ _ _ hb];exact q
 have fit: ∀p,Pm vs.length p->(outs vs p).size<=sizeLine+1:=fun p hp=>by rw[nC hp,ap0];lia
 rw[list_sort_plain];refine aa0 (listItems_at ho rfl (aa0 (listUpdate_at ho rfl (aa0 (seqEpoch_at o1 rfl ?_)) (by rw[ab5,ap0];lia) (ae3 _))));refine aa0 (wpAny_newTuple (aa0 (wpAny_newList (ag2 ?_) (ae3 _))) (by show vs.length<=_;rw[ap0];lia));show wpAny _ _ _ _ _ {z with heap:=h3};dsimp only;by_cases c2:vs.toArray.size < 2
 . rw[if_pos c2,if_pos c2];refine aa0 357;rw[StateT.run_pure];refine aa0 357;dsimp only;have pm:Pm vs.length (366).toArray:=⟨Array.Perm.refl _⟩
   have DO:=GF (vs:=vs);refine aa0 (seqEpoch_at o3 rfl (aa0 (listUpdate_at o3 rfl ?_ (ae3 _) (by show(Array.map _ 175).size<=_;rw[DO];exact fit _ pm))));simp only [bne_self_eq_false,au8,if_false];refine aa7 ?_;have:=h _ pm fun i j x y=>by
    have:i=j:=by rw[ab5] at c2;lia
    subst this;exact ae8 _
   rw[<-DO] at this;exact this
 . rw[if_neg c2,if_neg c2];have l2:2<=vs.length:=by rw[ab5] at c2;lia
   obtain⟨κ,ak⟩:=hk l2 h3 k3;refine aa0 (ae0 (ak.kind (fun κ' z'=>κ'=κ/\z'={z with heap:=h3}) ⟨rfl,rfl⟩) (fun κ' z' q=>?_) fun _ _ x=>x.elim);obtain⟨e1,e2⟩:=q;subst e1;subst e2;have zs:(175).size=vs.length:=by simp
   have zg: ∀(i:Nat) x,(175)[i]?=some x->i < vs.length/\x=(vs.getD i Value.none,vs.getD i Value.none):=fun i x e=>by
    obtain⟨hi,e⟩:=aq0.mp e;have oJ:i < vs.length:=by rw[zs] at hi;exact hi
    refine⟨oJ,?_⟩;rw[<-e,Array.getElem_zip];simp [List.getD,oJ]
   refine aa0 (ae0 (zx (st:=SortSt.mk' κ' 175 #[] 7 none) (a₀:=vs.toArray.zip vs.toArray)
    (Q:=fun _ st=>failedOf st=none/\(136).Perm 175/\bt (fun x=>K (FJ 175 x)) 136 0 (175).size)
    (Tp ak.ask zs fun i x e=>by rw[(zg i x e).2]) (fun x hx=>?_) ⟨Array.Perm.refl _,rfl,rfl,rfl,rfl⟩ (by rw[zs];lia) fun st x y u=>⟨y,x,u⟩) ?_ fun _ _ x=>x)
   . obtain⟨i,hi,e⟩:=ah2 hx;exact⟨i,by rw[<-ai6,aa1 hi,e]⟩
   rintro⟨⟨⟩,st⟩ z' ⟨e,hf,hp,hg⟩
   subst e;have dM:(136).toList.Perm ((366).map fun i=>(((vs.getD i Value.none,vs.getD i Value.none):Keyed))):=by
    have:=ak6.mp hp;refine this.trans ?_;have:(175).toList=(366).map fun i=>(((vs.getD i Value.none,vs.getD i Value.none):Keyed)):=by
     apply ao9
     . simp
     . intro i g1 g2;have hi:i < vs.length:=by simpa using g1
       simp [hi]
    rw[this]
   obtain⟨m',S9,em⟩:=nz dM rfl;have pp:Pm vs.length m'.toArray:=⟨ak6.mpr (by simpa using S9)⟩
   have lm:m'.length=vs.length:=by have:=S9.length_eq;rw[ac0] at this;exact this
   have DO:(136).map (·.2)=outs vs m'.toArray:=by
    apply at5.mp;unfold outs;rw[Array.toList_map,em,ae1];rfl
   have asc:VX K m'.toArray vs.length:=fun i j ij jl=>by
    have at': ∀i,i < vs.length->kp K m'.toArray i=rk (fun x=>K (FJ 175 x)) 136 i:=fun i hi=>by
     have im:i < m'.length:=by rw[lm];exact hi
     have e1:(136)[i]?=some (((vs.getD m'[i] Value.none,vs.getD m'[i] Value.none)):Keyed):=by
      rw[<-ai6,em,aa6,aa1 im];rfl
     have ml:m'[i] < vs.length:=by have:=S9.mem_iff.mp (ag9 im);simpa using this
     unfold kp rk;rw[e1];show K (m'.toArray.getD i 0)=K (FJ _ _);have e2:m'.toArray.getD i 0=m'[i]:=by simp [Array.getD,im]
     rw[e2];have e3:=wK (a:=vs.toArray.zip vs.toArray) (x:=((vs.getD m'[i] Value.none,vs.getD m'[i] Value.none))) ⟨m'[i],by
      rw[aj4 (by rw[zs];exact ml),Array.getElem_zip];simp [List.getD,ml]⟩
     obtain⟨g1,g2⟩:=zg _ _ e3;exact hK _ _ ml g1 (ai5 Prod.fst g2)
    rw[at' i 101,at' j jl];exact hg i j (ae3 _) ij (by rw[zs];exact jl)
   dsimp only;refine aa0 (seqEpoch_at o3 rfl (aa0 (listUpdate_at o3 rfl ?_ (ae3 _) (by rw[DO];exact fit _ pp))));rw[hf,DO];simp only [bne_self_eq_false,au8,if_false];exact aa7 (h _ pp asc)
end
end bW
namespace bW
open PySem PySem.W PyProof.Rows
def enc(B:Int)(q:Int × Int):Int:=q.1*B+q.2
theorem Mh(hp:0<=p.2/\p.2 < B)(hq:0<=q.2/\q.2 < B):decide (enc B p < enc B q)=(if (p.1==q.1)=true then(if (p.2==q.2)=true then false else decide (p.2 < q.2)) else decide (p.1 < q.1)):=by
 obtain⟨a,b⟩:=p;obtain⟨c,d⟩:=q;unfold enc;simp only at hp hq ⊢;by_cases h1:a=c
 . subst h1;rw[if_pos (by rw[ab9])];by_cases h2:b=d
   . subst h2;rw[if_pos (by rw[ab9])];rw[am2];lia
   . rw[if_neg (by rw[ab9];exact h2)];exact ak1.mpr ⟨fun h=>by lia,fun h=>by lia⟩
 . rw[if_neg (by rw[ab9];exact h1)];refine ak1.mpr ⟨fun h=>?_,fun h=>?_⟩
   . refine Int.lt_of_not_ge fun z=>?_;have:(c+1)*B<=a*B:=ah0 101 101;rw[aq5] at this;lia
   . have:(a+1)*B<=c*B:=ah0 101 101;rw[aq5] at this;lia
end bW
namespace LD
open PySem PySem.Spec L2 LB PyProof.Rows
inductive Dt where
 | aC | bl (b:Bool) | int (i:Int) | str (x:Str) | lst (ds:List Dt) | tup (ds:List Dt) | jn (ks:List Key) (ds:List Dt) | vz (ks:List (List Key)) (ds:List Dt)
def Dt.TF:Dt->Bool
 | .aC=>true
 | _=>false
inductive Rep(M:Addr->Prop)(H:Hp):V->Dt->Prop where
 | aC:Rep M H .aC .aC
 | bl (b:Bool):Rep M H (.bl b) (.bl b)
 | int (i:Int):Rep M H 392 392
 | str (x:Str):Rep M H (.str x) (.str x)
 | lst {a:Addr} {xs:List V} {ds:List Dt}:H a=some 159-> ¬M a->xs.length=ds.length->(∀(i:Nat) x d,xs[i]?=some x->ds[i]?=some d->Rep M H x d)->Rep M H 226 (.lst ds)
 | tup {a:Addr} {xs:List V} {ds:List Dt}:H a=some 203-> ¬M a->xs.length=ds.length->(∀(i:Nat) x d,xs[i]?=some x->ds[i]?=some d->Rep M H x d)->Rep M H 226 (.tup ds)
 | jn {a:Addr} {vs:List 264} {ks:List Key} {ds:List Dt}:H a=some (.dK vs)-> ¬M a->vs.map (·.1)=ks->(277).length=ds.length->(∀(i:Nat) x d,(277)[i]?=some x->ds[i]?=some d->Rep M H x d)->Rep M H 226 (.jn ks ds)
 | vz {a:Addr} {vs:List (List Key × V)} {ks:List (List Key)} {ds:List Dt}:H a=some (.dT vs)-> ¬M a->vs.map (·.1)=ks->(277).length=ds.length->(∀(i:Nat) x d,(277)[i]?=some x->ds[i]?=some d->Rep M H x d)->Rep M H 226 (.vz ks ds)
def ay(M:Addr->Prop)(H:Hp)(xs:List V)(ds:List Dt):Prop:=xs.length=ds.length/\ ∀(i:Nat) x d,xs[i]?=some x->ds[i]?=some d->Rep M H x d
theorem Rep.mono(h:Rep M H v d)(m: ∀a o,H a=some o-> ¬M a->H' a=some o/\ ¬M' a):Rep M' H' v d:=by
 induction h with
 | aC=>exact .aC
 | bl b=>exact .bl b
 | int i=>exact .int i
 | str x=>exact .str x
 | lst h n l r ih=>exact .lst (m _ _ h n).1 (m _ _ h n).2 l ih
 | tup h n l r ih=>exact .tup (m _ _ h n).1 (m _ _ h n).2 l ih
 | jn h n e l r ih=>exact .jn (m _ _ h n).1 (m _ _ h n).2 e l ih
 | vz h n e l r ih=>exact .vz (m _ _ h n).1 (m _ _ h n).2 e l ih
theorem ay.mono(h:ay M H xs ds)(m: ∀a o,H a=some o-> ¬M a->H' a=some o/\ ¬M' a):ay M' H' xs ds:=⟨h.1,fun i x d h1 h2=>(h.2 i x d h1 h2).mono m⟩
theorem Rep.same(h:Rep M H v d)(s:aq H H'):Rep M H' v d:=h.mono fun a o e n=>⟨s _ _ e,n⟩
theorem ay.same(h:ay M H xs ds)(s:aq H H'):ay M H' xs ds:=h.mono fun a o e n=>⟨s _ _ e,n⟩
theorem ay.nil:ay M H [] []:=⟨rfl,fun i x d h=>by simp at h⟩
theorem ay.cons{M:Addr->Prop}{H:Hp}{x:V}{d:Dt}{xs:List V}{ds:List Dt}(h:Rep M H x d)(r:ay M H xs ds):ay M H (x::xs) (d::ds):=
 ⟨by rw[ac1,ac1,r.1],fun i y e h1 h2=>by
  cases i with
  | zero=>cases h1;cases h2;exact h
  | succ j=>exact r.2 j y e 245 244⟩
theorem ay.append(h:ay M H xs ds)(r:ay M H ys es):ay M H (xs++ys) (ds++es):=
 ⟨by rw[ab8,ab8,h.1,r.1],fun i y e h1 h2=>by
  by_cases hi:i < xs.length
  . rw[ad7 hi] at h1;rw[ad7 (by rw[<-h.1];exact hi)] at h2;exact h.2 i y e h1 h2
  . rw[ae7 149] at h1;rw[ae7 (by have:=h.1;omega),<-h.1] at h2;exact r.2 _ y e h1 h2⟩
theorem ay.one(h:Rep M H x d):ay M H [x] [d]:= .cons h .nil
theorem ay.get(h:ay M H xs ds){i:Nat}(e:ds[i]?=some d): ∃x,xs[i]?=some x/\Rep M H x d:=by
 have hi:=(aa5.mp e).1;have hx:xs[i]?=some (xs[i]'(by rw[h.1];exact hi)):=aa1 _;exact⟨_,hx,h.2 i _ _ hx e⟩
theorem ay.take(h:ay M H xs ds)(n:Nat):ay M H (xs.take n) (ds.take n):=
 ⟨by rw[al6,al6,h.1],fun i y e h1 h2=>by
  rw[List.getElem?_take] at h1 h2;split at h1
  . rename_i hi;rw[if_pos hi] at h2;exact h.2 i y e h1 h2
  . cases h1⟩
theorem ay.drop(h:ay M H xs ds)(n:Nat):ay M H (xs.drop n) (ds.drop n):=
 ⟨by rw[at4,at4,h.1],fun i y e h1 h2=>by
  rw[List.getElem?_drop] at h1 h2;exact h.2 _ y e h1 h2⟩
theorem ay.set(h:ay M H xs ds)(r:Rep M H x d)(n:Nat):ay M H (xs.set n x) (ds.set n d):=
 ⟨by rw[ad5,ad5,h.1],fun i y e h1 h2=>by
  rw[aw0] at h1 h2;split at h1
  . rename_i hi;rw[if_pos hi] at h2;subst hi;by_cases hl:n < xs.length
    . rw[if_pos hl] at h1;rw[if_pos (by rw[<-h.1];exact hl)] at h2;cases h1;cases h2;exact r
    . rw[if_neg hl] at h1;cases h1
  . rename_i hi;rw[if_neg hi] at h2;exact h.2 i y e h1 h2⟩
theorem ay.aO(h:ay M H xs (d::ds)): ∃x ys,xs=x::ys/\Rep M H x d/\ay M H ys ds:=by
 cases xs with
 | nil=>have:=h.1;simp at this
 | cons x ys=>exact⟨x,ys,rfl,h.2 0 x d rfl rfl,⟨by have:=h.1;simpa using this,fun i y e h1 h2=>h.2 (i+1) y e 245 244⟩⟩
theorem ay.eA(h:ay M H xs []):xs= []:=ao4.mp (by rw[h.1];rfl)
theorem Rep.pK(h:H a=some 159)(n: ¬M a)(r:ay M H xs ds):Rep M H 226 (.lst ds):= .lst h n r.1 r.2
theorem Rep.lz(h:H a=some 203)(n: ¬M a)(r:ay M H xs ds):Rep M H 226 (.tup ds):= .tup h n r.1 r.2
theorem Rep.bO(h:Rep M H v (.lst ds)): ∃a xs,v= .ref a/\H a=some 159/\ ¬M a/\ay M H xs ds:=by
 cases h with
 | lst h n l r=>exact⟨_,_,rfl,h,n,l,r⟩
theorem Rep.bN(h:Rep M H v (.tup ds)): ∃a xs,v= .ref a/\H a=some 203/\ ¬M a/\ay M H xs ds:=by
 cases h with
 | tup h n l r=>exact⟨_,_,rfl,h,n,l,r⟩
theorem Rep.C7(h:Rep M H v (.jn ks ds)): ∃a vs,v= .ref a/\H a=some (.dK vs)/\ ¬M a/\vs.map (·.1)=ks/\ay M H 277 ds:=by
 cases h with
 | jn h n e l r=>exact⟨_,_,rfl,h,n,e,l,r⟩
theorem Rep.ofInt(h:Rep M H v 392):v= .int i:=by cases h;rfl
theorem Rep.uj(h:Rep M H v (.bl i)):v= .bl i:=by cases h;rfl
structure Xl where
 rel:(Addr->Prop)->Hp->V->List Addr->Prop
 st: ∀{M M':Addr->Prop} {H H':Hp} {v:V} {as:List Addr},rel M H v as->(∀a∈as,∀o,H a=some o->H' a=some o)->(∀a o,H a=some o-> ¬M a->H' a=some o/\ ¬M' a)->rel M' H' v as
inductive Sl where
 | no | im (d:Dt) | ow (ds:List Dt) | bx (t:Int) | dk (ks:List Key) (ds:List Dt) | ob (R:Xl) | fn (f:Addr)
def tj(M:Addr->Prop)(H:Hp)(o:Option V):Sl->List Addr->Prop
 | .no,as=>as= []
 | .im d,as=>as= []/\ ∃v,o=some v/\Rep M H v d
 | .ow ds,as=> ∃a xs,as= [a]/\o=some 226/\H a=some 159/\ay M H xs ds
 | .bx t,as=> ∃d c,as= [d,c]/\o=some (.ref d)/\xP H d c t
 | .dk ks ds,as=> ∃a vs,as= [a]/\o=some 226/\H a=some (.dK vs)/\vs.map (·.1)=ks/\ay M H 277 ds
 | .ob R,as=> ∃v,o=some v/\R.rel M H v as
 | .fn f,as=>as= []/\o=some 399
structure Wd where
 H0:Hp
 A0:Addr->Prop
 M0:Addr->Prop
 M1:Addr->Prop
 box:Option (Addr × Addr)
def Sl.bo:Sl->Bool
 | .bx _=>true
 | _=>false
structure Xj(W:Wd)(M:Addr->Prop)(α:List 225)(H:Hp)(δ:List Sl):Prop where
 bs: ∀b o,W.H0 b=some o-> ¬W.A0 b->H b=some o
 ex: ∀b,W.H0 b≠none->H b≠none
 fr: ∀a∈α.flatten,W.A0 a\/W.H0 a=none
 m0: ∀a,W.M0 a->M a
 m1: ∀a,M a->W.M1 a\/W.H0 a=none
 bx: ∀d c,W.box=some (d,c)-> ∃t,δ[0]?=some (.bx t)/\α[0]?=some [d,c]
 fz: ∀(i:Nat) s as,δ[i]?=some s->α[i]?=some as->s.bo=false-> ∀a∈as,¬W.M0 a
def kh(M:Addr->Prop)(H:Hp):Prop:= ∀a,M a-> ∃o,H a=some o/\ ∀xs,o≠ .tup xs
structure aB(Ws:List Wd)(M:Addr->Prop)(α:List 225)(H:Hp)(σ:L2.St)(δ:List Sl):Prop where
 ls:σ.length=δ.length
 la:α.length=δ.length
 sl: ∀(i:Nat) (s:Sl),δ[i]?=some s-> ∃o as,σ[i]?=some o/\α[i]?=some as/\tj M H o s as
 nd:α.flatten.Nodup
 mu: ∀a∈α.flatten,M a
 al:kh M H
 w: ∀W∈Ws,Xj W M α H δ
def dS(α:List 225)(H H':Hp):Prop:= ∀b o,H b=some o->b∉α.flatten->H' b=some o
theorem dS.rf:dS α H H:=fun _ _ e _=>e
theorem dS.tr(a:dS α H H1)(b:dS α H1 H2):dS α H H2:=fun x o e n=>b _ _ (a _ _ e n) n
theorem dS.of{α:List 225}{H H':Hp}(s:aq H H'):dS α H H':=fun x o e _=>s _ _ e
theorem Rep.chg(h:Rep M H v d)(E:aB W M α H σ δ)(c:dS α H H'):Rep M H' v d:=h.mono fun a o e n=>⟨c _ _ e fun z=>n (E.mu a z),n⟩
theorem ay.chg(h:ay M H v d)(E:aB W M α H σ δ)(c:dS α H H'):ay M H' v d:=h.mono fun a o e n=>⟨c _ _ e fun z=>n (E.mu a z),n⟩
theorem tj.same(h:tj M H o s as)(z:aq H H'):tj M H' o s as:=by
 cases s with
 | no=>exact h
 | im d=>exact⟨h.1,let ⟨v,e,r⟩:=h.2;⟨v,e,r.same z⟩⟩
 | ow ds=>obtain⟨a,xs,e1,e2,e3,r⟩:=h;exact⟨a,xs,e1,e2,z _ _ e3,r.same z⟩
 | bx t=>obtain⟨d,c,e1,e2,r⟩:=h;exact⟨d,c,e1,e2,r.same z⟩
 | dk ks ds=>obtain⟨a,vs,e1,e2,e3,e4,r⟩:=h;exact⟨a,vs,e1,e2,z _ _ e3,e4,r.same z⟩
 | ob R=>obtain⟨v,e,r⟩:=h;exact⟨v,e,R.st r (fun a _ o q=>z _ _ q) fun a o q n=>⟨z _ _ q,n⟩⟩
 | fn f=>exact h
theorem aB.same(E:aB W M α H σ δ)(z:aq H H'):aB W M α H' σ δ:=by
 refine⟨E.ls,E.la,fun i s h=>?_,E.nd,E.mu,fun a h=>?_,fun W hW=>let k:=E.w W hW;⟨fun b o e n=>z _ _ (k.bs b o e n),fun b n y=>k.ex b n (LW.aq.none z y),k.fr,k.m0,k.m1,k.bx,k.fz⟩⟩
 . obtain⟨o,as,h1,h2,h3⟩:=E.sl i s h;exact⟨o,as,h1,h2,h3.same z⟩
 . obtain⟨o,e,n⟩:=E.al a h;exact⟨o,z _ _ e,n⟩
theorem aB.fresh(E:aB W M α H σ δ)(h:H p=none): ¬M p:=fun z=>let ⟨_,e,_⟩:=E.al p z;by rw[h] at e;cases e
theorem kh.fresh(h:kh M H)(e:H p=none): ¬M p:=fun z=>let ⟨_,e',_⟩:=h p z;by rw[e] at e';cases e'
theorem kh.tup{M:Addr->Prop}{H:Hp}(h:kh M H){p:Addr}{xs:List V}(e:H p=some 203): ¬M p:=fun z=>let ⟨_,e',n⟩:=h p z;by rw[e] at e';cases e';exact n xs rfl
theorem kh.O0(h:kh M H)(n:xG H xs p H'): ¬M p:=by
 rcases n with ⟨_,e⟩ | ⟨e,_⟩
 . exact h.tup e
 . exact h.fresh e
abbrev ba:=List Sl->(Dt->List Sl->Prop)->Prop
abbrev oF:=List Sl->(Bool->List Sl->Prop)->Prop
abbrev fb:=List Sl->(List Dt->List Sl->Prop)->Prop
inductive lE(t:ba)(σ:L2.St)(H:Hp)(Q:VK):Prop
 | mk (W:List Wd) (M:Addr->Prop) (α:List 225) (δ:List Sl) (Qd:Dt->List Sl->Prop) (h1:aB W M α H σ δ) (h2:t δ Qd) (h3: ∀d δ' H' v,Qd d δ'->aB W M α H' σ δ'->dS α H H'->Rep M H' v d->Q v H')
inductive lT(t:oF)(σ:L2.St)(H:Hp)(Q:Bool->Hp->Prop):Prop
 | mk (W:List Wd) (M:Addr->Prop) (α:List 225) (δ:List Sl) (Qd:Bool->List Sl->Prop) (h1:aB W M α H σ δ) (h2:t δ Qd) (h3: ∀b δ' H',Qd b δ'->aB W M α H' σ δ'->dS α H H'->Q b H')
inductive lA(t:fb)(σ:L2.St)(H:Hp)(Q:List V->Hp->Prop):Prop
 | mk (W:List Wd) (M:Addr->Prop) (α:List 225) (δ:List Sl) (Qd:List Dt->List Sl->Prop) (h1:aB W M α H σ δ) (h2:t δ Qd) (h3: ∀ds δ' H' vs,Qd ds δ'->aB W M α H' σ δ'->dS α H H'->ay M H' vs ds->Q vs H')
abbrev xN:=List Sl->(List Dt->List Sl->Prop)->Prop
inductive lO(t:xN)(σ:L2.St)(H:Hp)(Q:VK):Prop
 | mk (W:List Wd) (M:Addr->Prop) (α:List 225) (δ:List Sl) (Qd:List Dt->List Sl->Prop) (h1:aB W M α H σ δ) (h2:t δ Qd) (h3: ∀ds δ' H1 xs a,Qd ds δ'->aB W M α H1 σ δ'->dS α H H1->ay M H1 xs ds->H1 a=none->Q 226 (upd H1 a 159))
theorem PE.imp(h:PE X e t)(i: ∀σ H Q,t' σ H Q->t σ H Q):PE X e t':=fun pins s σ H Q I q=>h pins s σ H Q I (i _ _ _ q)
theorem PT.imp(h:PT X e t)(i: ∀σ H Q,t' σ H Q->t σ H Q):PT X e t':=fun pins s σ H Q I q=>h pins s σ H Q I (i _ _ _ q)
theorem PW.imp(h:PW X e t)(i: ∀σ H Q,t' σ H Q->t σ H Q):PW X e t':=fun w pins s σ H Q I q=>h w pins s σ H Q I (i _ _ _ q)
theorem PA.imp(h:PA X e t)(i: ∀σ H Q,t' σ H Q->t σ H Q):PA X e t':=fun pos pins s σ H Q I q=>h pos pins s σ H Q I (i _ _ _ q)
theorem PS.imp(h:PS X e t)(i: ∀D σ H,t' D σ H->t D σ H):PS X e t':=fun pins s σ H D I q=>h pins s σ H D I (i _ _ _ q)
theorem qG.imp(h:qG X e t)(i: ∀D σ H,t' D σ H->t D σ H):qG X e t':=fun pins s σ H D I q=>h pins s σ H D I (i _ _ _ q)
abbrev Ev(X:Cx)(e:Expr)(t:ba):Prop:=PE X e (lE t)
abbrev Tv(X:Cx)(e:Expr)(t:oF):Prop:=PT X e (lT t)
abbrev Av(X:Cx)(es:List Expr)(t:fb):Prop:=PA X es (lA t)
abbrev Ov(X:Cx)(e:Expr)(t:xN):Prop:=PE X e (lO t)
section
variable{X:Cx}{a b c e:Expr}{es:List Expr}{ta tb t:ba}{pos:Pos}
inductive AV(i:Nat)(δ:List Sl)(Q:Dt->List Sl->Prop):Prop
 | mk (d:_) (h1:δ[i]?=some (.im d)) (h2:Q d δ)
theorem aB.im(E:aB W M α H σ δ){i:Nat}(h:δ[i]?=some (.im d)): ∃v,σ[i]?=some 356/\Rep M H v d:=by
 obtain⟨o,as,h1,_,_,v,rfl,r⟩:=E.sl i _ h;exact⟨v,h1,r⟩
theorem aB.ow(E:aB W M α H σ δ){i:Nat}(h:δ[i]?=some 405): ∃a xs,σ[i]?=some (some 226)/\α[i]?=some [a]/\H a=some 159/\ay M H xs ds:=by
 obtain⟨o,as,h1,h2,a,xs,rfl,rfl,e,r⟩:=E.sl i _ h;exact⟨a,xs,h1,h2,e,r⟩
theorem L7(i:Nat)(h:PE X 362 (fu i)):Ev X 362 (AV i):=PE.imp h fun σ H Q cK=>(by obtain⟨W,M,α,δ,Qd,E,⟨d,hd,q⟩,k⟩:=cK;exact(by
 obtain⟨v,h1,r⟩:=E.im hd;exact⟨v,h1,k _ _ _ _ q E dS.rf r⟩))
theorem dv(i:Nat)(hN:X.N[i]?=some x:=by rfl)(hv:RQ X.env.scope x:=by first | exact Or.inl rfl | exact Or.inr 401 | exact Or.inr (Or.inr rfl))(hd:146=false:=by decide)(tf:(x==("__classdict__":Str))=false:=by decide):Ev X 362 (AV i):=L7 i (CK hN hv hd tf)
def dC(d:Dt):ba:=fun δ Q=>Q d δ
theorem ao{i j pos}:Ev X (.Constant 392 j pos) (dC 392):=PE.imp bq fun σ H Q eU=>(by obtain⟨W,M,α,δ,Qd,E,q,k⟩:=eU;exact(k _ _ _ _ q E dS.rf 392))
theorem xt{i j pos}:Ev X (.Constant (.bool i) j pos) (dC (.bl i)):=PE.imp OL fun σ H Q gk=>(by obtain⟨W,M,α,δ,Qd,E,q,k⟩:=gk;exact(k _ _ _ _ q E dS.rf (.bl i)))
theorem fU{j pos}:Ev X (.Constant .none j pos) (dC .aC):=PE.imp KG fun σ H Q fG=>(by obtain⟨W,M,α,δ,Qd,E,q,k⟩:=fG;exact(k _ _ _ _ q E dS.rf .aC))
def dO(t:xN):ba:=fun δ Q=>t δ fun ds δ'=>Q (.lst ds) δ'
theorem Ov.ev{t:xN}(h:Ov X e t):Ev X e (dO t):=PE.imp h fun σ H Q cK=>(by obtain⟨W,M,α,δ,Qd,E,q,k⟩:=cK;exact(by
 refine⟨W,M,α,δ,_,E,q,fun ds δ' H1 xs a q1 E1 c1 r1 h1=>?_⟩;have s:aq H1 (upd H1 a 159):=aq.new h1;exact k _ _ _ _ q1 (E1.same s) (c1.tr (dS.of s)) (Rep.pK ae (E1.fresh h1) (r1.same s))))
abbrev D2:=Dt->Dt->(Dt->Prop)->Prop
def Bx(r:R2)(R:D2):Prop:= ∀(M:Addr->Prop) (H:Hp) (x y:V) (d1 d2:Dt) (Qd:Dt->Prop) (Q:VK),kh M H->Rep M H x d1->Rep M H y d2->R d1 d2 Qd->328->r x y H Q
def qo(R:D2)(ta tb:ba):ba:=fun δ Q=>ta δ fun d1 δ1=>tb δ1 fun d2 δ2=>R d1 d2 fun d=>Q d δ2
theorem mE(hd:Bx r R): ∀σ H Q,lE (qo R ta tb) σ H Q->JY r (lE ta) (lE tb) σ H Q:=fun σ H Q oO=>(by obtain⟨W,M,α,δ,Qd,E,q,k⟩:=oO;exact(
 ⟨W,M,α,δ,_,E,q,fun d1 δ1 H1 x q1 E1 c1 r1=>⟨W,M,α,δ1,_,E1,q1,fun d2 δ2 H2 y q2 E2 c2 r2=>hd M H2 x y d1 d2 _ _ E2.al 336 r2 q2 fun H' v d q3 s r3=>k _ _ _ _ q3 (E2.same s) ((314).tr (dS.of s)) r3⟩⟩))
theorem AS(ho:lu X (binaryOp op) r)(hd:Bx r R)(ha:Ev X a ta)(hb:Ev X b tb):Ev X (.BinOp a op b pos) (qo R ta tb):=PE.imp (bM ho ha hb) (mE hd)
theorem Ji(ho:lu X (compareOp op) r)(hd:Bx r R)(ha:Ev X a ta)(hb:Ev X b tb)(hm:behindInMarks op b=false):Ev X 283 (qo R ta tb):=PE.imp (yA ho ha hb hm) (mE hd)
inductive Va(Q:Bool->List Sl->Prop)(d:Dt)(δ':List Sl):Prop
 | mk (c:_) (h1:d= .bl c) (h2:Q c δ')
def dT(t:ba):oF:=fun δ Q=>t δ fun d δ'=>Va Q d δ'
theorem cF: ∀σ H (Q:Bool->Hp->Prop),lT (dT t) σ H Q->lE t σ H fun x H1=> ∃c,x= .bl c/\Q c H1:=fun σ H Q qJ=>(by obtain⟨W,M,α,δ,Qd,E,q,k⟩:=qJ;exact(
 ⟨W,M,α,δ,_,E,q,fun d δ' H' v mQ E1 c1 r1=>(by obtain⟨c,e,q1⟩:=mQ;exact(⟨c,by subst e;exact r1.uj,k _ _ _ q1 E1 c1⟩))⟩))
theorem kY(ho:lu X (compareOp op) r)(hd:Bx r R)(ha:Ev X a ta)(hb:Ev X b tb)(hm:behindInMarks op b=false):Tv X 283 (dT (qo R ta tb)):=
 PT.imp (jD ho ha hb hm) fun σ H Q h=>mE hd _ _ _ (cF _ _ _ h |> fun gm=>(by obtain⟨W,M,α,δ,Qd,E,q,k⟩:=gm;exact(⟨W,M,α,δ,Qd,E,q,k⟩)))
theorem jZ(h:Ev X e t)(he: ∀whole,isTrue e X.env whole=287:=by intro _;rfl):Tv X e (dT t):=PT.imp (Kq h he) fun σ H Q h=>cF _ _ _ h
def ML(ta:ba):ba:=fun δ Q=>ta δ fun d δ'=>Q (.bl d.TF) δ'
def Jm(ta:ba):ba:=fun δ Q=>ta δ fun d δ'=>Q (.bl (!d.TF)) δ'
theorem DC(r:Rep M H v d):decide (v= .aC)=d.TF:=by cases r <;> rfl
theorem uL: ∀σ H Q,lE (ML ta) σ H Q->Oa (lE ta) σ H Q:=fun σ H Q i7=>(by obtain⟨W,M,α,δ,Qd,E,q,k⟩:=i7;exact(
 ⟨W,M,α,δ,_,E,q,fun d δ' H' v q1 E1 c1 r1=>by show Q (V.bl (decide (v=V.aC))) H';rw[DC r1];exact k _ _ _ _ q1 E1 c1 (.bl _)⟩))
theorem zY: ∀σ H Q,lE (Jm ta) σ H Q->Il (lE ta) σ H Q:=fun σ H Q mS=>(by obtain⟨W,M,α,δ,Qd,E,q,k⟩:=mS;exact(
 ⟨W,M,α,δ,_,E,q,fun d δ' H' v q1 E1 c1 r1=>by show Q (V.bl !decide (v=V.aC)) H';rw[DC r1];exact k _ _ _ _ q1 E1 c1 (.bl _)⟩))
theorem Jh{j pos'}(ha:Ev X a ta):Ev X (.Compare a [.Is] [.Constant .none j pos'] pos) (ML ta):=PE.imp (KH (CM ha)) uL
theorem lB{j pos'}(ha:Ev X a ta):Tv X (.Compare a [.Is] [.Constant .none j pos'] pos) (dT (ML ta)):=PT.imp (rH (CM ha)) fun σ H Q h=>uL _ _ _ (cF _ _ _ h)
theorem qU{j pos'}(ha:Ev X a ta):Tv X (.Compare a [.IsNot] [.Constant .none j pos'] pos) (dT (Jm ta)):=PT.imp (rH (GD ha)) fun σ H Q h=>zY _ _ _ (cF _ _ _ h)
end
section
variable{X:Cx}{a b c e:Expr}{es rest:List Expr}{ta tb t:ba}{u v:oF}{pos:Pos}
def Vq(t u:oF):oF:=fun δ Q=>t δ fun c δ1=>if c=true then u δ1 Q else Q false δ1
def Z4(t u:oF):oF:=fun δ Q=>t δ fun c δ1=>if c=true then Q true δ1 else u δ1 Q
def Vf(t:oF):oF:=fun δ Q=>t δ fun c δ1=>Q (!c) δ1
theorem qR(h:Tv X a u):PW X (.BoolOp .And [a] pos) (lT u):=pw_and1 h
theorem xW(h:Tv X a u):PW X (.BoolOp .Or [a] pos) (lT u):=pw_or1 h
theorem w_and(ha:Tv X a u)(hb:PW X 365 (lT v)):PW X 349 (lT (Vq u v)):=PW.imp (pw_and ha hb) fun σ H Q qM=>(by obtain⟨W,M,α,δ,Qd,E,q,k⟩:=qM;exact(
 ⟨W,M,α,δ,_,E,q,fun c δ1 H1 q1 E1 c1=>by
  cases c with
  | true=>rw[if_pos rfl] at q1 ⊢;exact⟨W,M,α,δ1,_,E1,q1,fun c2 δ2 H2 q2 E2 Jw=>k _ _ _ q2 E2 (c1.tr Jw)⟩
  | false=>rw[if_neg ab3] at q1 ⊢;exact k _ _ _ q1 E1 c1⟩))
theorem w_or(ha:Tv X a u)(hb:PW X 368 (lT v)):PW X 355 (lT (Z4 u v)):=PW.imp (pw_or ha hb) fun σ H Q vF=>(by obtain⟨W,M,α,δ,Qd,E,q,k⟩:=vF;exact(
 ⟨W,M,α,δ,_,E,q,fun c δ1 H1 q1 E1 c1=>by
  cases c with
  | false=>rw[if_neg ab3] at q1 ⊢;exact⟨W,M,α,δ1,_,E1,q1,fun c2 δ2 H2 q2 E2 Jw=>k _ _ _ q2 E2 (c1.tr Jw)⟩
  | true=>rw[if_pos rfl] at q1 ⊢;exact k _ _ _ q1 E1 c1⟩))
theorem NZ(ha:Tv X a u):Tv X (.UnaryOp .Not a pos) (Vf u):=PT.imp (Kr ha) fun σ H Q mR=>(by obtain⟨W,M,α,δ,Qd,E,q,k⟩:=mR;exact(⟨W,M,α,δ,_,E,q,fun c δ1 H1 q1 E1 c1=>k _ _ _ q1 E1 c1⟩))
inductive HH(tb:ba)(Q:Dt->List Sl->Prop)(d:Dt)(δ1:List Sl):Prop
 | mk (c:_) (h1:d= .bl c) (h2:if c=true then tb δ1 Q else Q (.bl false) δ1)
def QP(ta tb:ba):ba:=fun δ Q=>ta δ fun d δ1=>HH tb Q d δ1
inductive MA(tb:ba)(Q:Dt->List Sl->Prop)(d:Dt)(δ1:List Sl):Prop
 | mk (c:_) (h1:d= .bl c) (h2:if c=true then Q (.bl true) δ1 else tb δ1 Q)
def Ve(ta tb:ba):ba:=fun δ Q=>ta δ fun d δ1=>MA tb Q d δ1
inductive Hu(Q:Dt->List Sl->Prop)(d:Dt)(δ1:List Sl):Prop
 | mk (c:_) (h1:d= .bl c) (h2:Q (.bl (!c)) δ1)
def Qz(ta:ba):ba:=fun δ Q=>ta δ fun d δ1=>Hu Q d δ1
theorem i0{op}(h:Ev X a t):Ev X (.BoolOp op [a] pos) t:=KC h
theorem iw(ha:Ev X a ta)(hb:Ev X 365 tb):Ev X 349 (QP ta tb):=PE.imp (KJ ha hb) fun σ H Q BC=>(by obtain⟨W,M,α,δ,Qd,E,q,k⟩:=BC;exact(
 ⟨W,M,α,δ,_,E,q,fun d δ1 H1 x BB E1 c1 r1=>(by obtain⟨c,e,q1⟩:=BB;exact(⟨c,by subst e;exact r1.uj,by
  cases c with
  | true=>rw[if_pos rfl] at q1 ⊢;exact 155
  | false=>rw[if_neg ab3] at q1 ⊢;exact k _ _ _ _ q1 E1 c1 (.bl _)⟩))⟩))
theorem U3(ha:Ev X a ta)(hb:Ev X 368 tb):Ev X 355 (Ve ta tb):=PE.imp (OK ha hb) fun σ H Q qL=>(by obtain⟨W,M,α,δ,Qd,E,q,k⟩:=qL;exact(
 ⟨W,M,α,δ,_,E,q,fun d δ1 H1 x qK E1 c1 r1=>(by obtain⟨c,e,q1⟩:=qK;exact(⟨c,by subst e;exact r1.uj,by
  cases c with
  | false=>rw[if_neg ab3] at q1 ⊢;exact 155
  | true=>rw[if_pos rfl] at q1 ⊢;exact k _ _ _ _ q1 E1 c1 (.bl _)⟩))⟩))
theorem Jg(ha:Ev X a ta):Ev X (.UnaryOp .Not a pos) (Qz ta):=PE.imp (KD ha) fun σ H Q vE=>(by obtain⟨W,M,α,δ,Qd,E,q,k⟩:=vE;exact(
 ⟨W,M,α,δ,_,E,q,fun d δ1 H1 x vD E1 c1 r1=>(by obtain⟨c,e,q1⟩:=vD;exact(⟨c,by subst e;exact r1.uj,k _ _ _ _ q1 E1 c1 (.bl _)⟩))⟩))
def WX(t:oF)(ta tb:ba):ba:=fun δ Q=>t δ fun c δ1=>if c=true then ta δ1 Q else tb δ1 Q
theorem gy(hc:Tv X c u)(ha:Ev X a ta)(hb:Ev X b tb):Ev X (.IfExp c a b pos) (WX u ta tb):=PE.imp (CL hc ha hb) fun σ H Q BA=>(by obtain⟨W,M,α,δ,Qd,E,q,k⟩:=BA;exact(
 ⟨W,M,α,δ,_,E,q,fun c δ1 H1 q1 E1 c1=>by
  cases c with
  | true=>rw[if_pos rfl] at q1 ⊢;exact 155
  | false=>rw[if_neg ab3] at q1 ⊢;exact 155⟩))
def xu:fb:=fun δ Q=>Q [] δ
def oj(ta:ba)(tr:fb):fb:=fun δ Q=>ta δ fun d δ1=>tr δ1 fun ds δ2=>Q (d::ds) δ2
theorem af:Av X [] xu:=PA.imp aK fun σ H Q JK=>(by obtain⟨W,M,α,δ,Qd,E,q,k⟩:=JK;exact(k _ _ _ _ q E dS.rf .nil))
theorem aa{tr:fb}(ha:Ev X e ta)(hr:Av X es tr)(hs:starEach (e::es) X.env=(false,eval e X.env)::starEach es X.env:=by rfl):Av X (e::es) (oj ta tr):=PA.imp (aj ha hr hs) fun σ H Q JJ=>(by obtain⟨W,M,α,δ,Qd,E,q,k⟩:=JJ;exact(
 ⟨W,M,α,δ,_,E,q,fun d δ1 H1 x q1 E1 c1 r1=>⟨W,M,α,δ1,_,E1,q1,fun ds δ2 H2 xs q2 E2 c2 r2=>k _ _ _ _ q2 E2 314 (.cons 336 r2)⟩⟩))
def U8(t:fb):ba:=fun δ Q=>t δ fun ds δ'=>ds.length<=sizeLine/\Q (.tup ds) δ'
def MB(t:fb):xN:=fun δ Q=>t δ fun ds δ'=>ds.length<=sizeLine/\Q ds δ'
theorem iu{x1}{t:fb}(h:Av X es t):Ev X (.Tuple es x1 pos) (U8 t):=PE.imp (KA h) fun σ H Q Bz=>(by obtain⟨W,M,α,δ,Qd,E,q,k⟩:=Bz;exact(
 ⟨W,M,α,δ,_,E,q,fun ds δ1 H1 xs JI E1 c1 r1=>(by obtain⟨l,q1⟩:=JI;exact(⟨by rw[r1.1];exact l,fun p hp=>by
  have s:aq H1 (upd H1 p 203):=aq.new hp;exact k _ _ _ _ q1 (E1.same s) (c1.tr (dS.of s)) (Rep.lz ae (E1.fresh hp) (r1.same s))⟩))⟩))
theorem g9{t:fb}(h:Av X es t):Ov X (.List es pos) (MB t):=PE.imp (rN h) fun σ H Q By=>(by obtain⟨W,M,α,δ,Qd,E,q,k⟩:=By;exact(
 ⟨W,M,α,δ,_,E,q,fun ds δ1 H1 xs Sy E1 c1 r1=>(by obtain⟨l,q1⟩:=Sy;exact(⟨by rw[r1.1];exact l,fun p hp=>k _ _ _ _ _ q1 E1 c1 r1 hp⟩))⟩))
theorem lX{t:fb}(h:Av X es t):Ev X (.List es pos) (dO (MB t)):=Ov.ev (g9 h)
abbrev DN:=List Dt->(Dt->Prop)->Prop
def Ro(r:List V->Hp->VK->Prop)(R:DN):Prop:= ∀(M:Addr->Prop) (H:Hp) (xs:List V) (ds:List Dt) (Qd:Dt->Prop) (Q:VK),kh M H->ay M H xs ds->R ds Qd->328->r xs H Q
def AW(R:DN)(t:fb):ba:=fun δ Q=>t δ fun ds δ'=>R ds fun d=>Q d δ'
theorem qy{r:List V->Hp->VK->Prop}{R:DN}{t:fb}(hd:Ro r R): ∀σ H Q,lE (AW R t) σ H Q->SW r (lA t) σ H Q:=fun σ H Q JH=>(by obtain⟨W,M,α,δ,Qd,E,q,k⟩:=JH;exact(
 ⟨W,M,α,δ,_,E,q,fun ds δ1 H1 xs q1 E1 c1 r1=>hd M H1 xs ds _ _ E1.al r1 q1 fun H' v d q3 s r3=>k _ _ _ _ q3 (E1.same s) (c1.tr (dS.of s)) r3⟩))
theorem j7{id:String}{x:Str}{p:Pos}{r:List V->Hp->VK->Prop}{R:DN}{t:fb}(hc:dJ X 361 r)(hd:Ro r R)(hg:Gl X x)(hm:X.mg x=none)(hv:bootBuiltins x=some 361)(ha:Av X (e::es) t)(hn:x≠"__name__":=by decide)(oK:146=false:=by decide)
  (he:starEach (e::es) X.env=(false,eval e X.env)::starEach es X.env:=by rfl) (dM:(151).any (·.1)=false:=by rfl):Ev X 189 (AW R t):=
 PE.imp (eI hc hg hm hv ha hn oK he dM) (qy hd)
theorem va{T:String}{x:Str}{p:Pos}{r:List V->Hp->VK->Prop}{R:DN}{t:fb}(hc:dJ X 397 r)(hd:Ro r R)(hg:Gl X x)(hm:X.mg x=none)(hv:bootBuiltins x=some 397)(ha:Av X (e::es) t)(hn:x≠"__name__":=by decide)(oK:146=false:=by decide)
  (he:starEach (e::es) X.env=(false,eval e X.env)::starEach es X.env:=by rfl) (dM:(151).any (·.1)=false:=by rfl):Ev X 189 (AW R t):=
 PE.imp (eg hc hg hm hv ha hn oK he dM) (qy hd)
end
inductive Rk(g:Int->Int->Dt)(d1:Dt)(d2:Dt)(Q:Dt->Prop):Prop
 | mk (i j:_) (h1:d1= .int i) (h2:d2= .int j) (h3:Q (g i j))
inductive Nk(C:Int->Int->Prop)(g:Int->Int->Dt)(d1:Dt)(d2:Dt)(Q:Dt->Prop):Prop
 | mk (i j:_) (h1:d1= .int i) (h2:d2= .int j) (h3:C i j) (h4:Q (g i j))
theorem Eo(h: ∀M H i j,Rep M H (g i j) (gd i j)):Bx (Iy g) (Rk gd):=fun M H x y d1 d2 Qd Q al r1 r2 cK k=>(by obtain⟨i,j,e1,e2,q⟩:=cK;exact(by
 subst e1;subst e2;exact⟨i,j,r1.ofInt,r2.ofInt,k H _ _ q 231 (h M H i j)⟩))
theorem Jd(h: ∀M H i j,Rep M H (g i j) (gd i j)):Bx (rI C g) (Nk C gd):=fun M H x y d1 d2 Qd Q al r1 r2 eU k=>(by obtain⟨i,j,e1,e2,c,q⟩:=eU;exact(by
 subst e1;subst e2;exact⟨i,j,r1.ofInt,r2.ofInt,c,k H _ _ q 231 (h M H i j)⟩))
section
variable{X:Cx}{a b c e:Expr}{es rest:List Expr}{ta tb tc t:ba}{pos:Pos}
abbrev Vr(ta tb:ba):ba:=qo (Rk fun i j=> .int (i+j)) ta tb
abbrev Vb(ta tb:ba):ba:=qo (Rk fun i j=> .int (i - j)) ta tb
theorem i4(ha:Ev X a ta)(hb:Ev X b tb):Ev X (.BinOp a .Add b pos) (Vr ta tb):=AS jj (Eo fun _ _ _ _=> .int _) ha hb
theorem dw(ha:Ev X a ta)(hb:Ev X b tb):Ev X (.BinOp a .Sub b pos) (Vb ta tb):=AS KN (Eo fun _ _ _ _=> .int _) ha hb
theorem u6(ha:Ev X a ta)(hb:Ev X b tb):Ev X (.BinOp a .Mult b pos) (qo (Nk Bk fun i j=> .int (i*j)) ta tb):=AS g6 (Jd fun _ _ _ _=> .int _) ha hb
theorem u5(ha:Ev X a ta)(hb:Ev X b tb):Ev X (.BinOp a .Pow b pos) (qo (Nk FH fun i j=> .int (i^j.toNat)) ta tb):=AS CP (Jd fun _ _ _ _=> .int _) ha hb
abbrev VS:D2:=Rk fun i j=> .bl (decide (i < j))
abbrev Rl:D2:=Rk fun i j=> .bl (decide (j < i))
theorem U5(ha:Ev X a ta)(hb:Ev X b tb):Ev X (.Compare a [.Gt] [b] pos) (qo Rl ta tb):=Ji IB (Eo fun _ _ _ _=> .bl _) ha hb (fB _)
theorem SJ(ha:Ev X a ta)(hb:Ev X b tb):Tv X (.Compare a [.Lt] [b] pos) (dT (qo VS ta tb)):=kY OP (Eo fun _ _ _ _=> .bl _) ha hb (fB _)
theorem SK(ha:Ev X a ta)(hb:Ev X b tb):Tv X (.Compare a [.Gt] [b] pos) (dT (qo Rl ta tb)):=kY IB (Eo fun _ _ _ _=> .bl _) ha hb (fB _)
def eq2:Dt->Dt->Option Bool
 | .aC,.aC=>some true | .aC,.int _=>some false | .int _,.aC=>some false | .aC,.bl _=>some false | .bl _,.aC=>some false | .aC,.str _=>some false | .str _,.aC=>some false
 | .int i,.int j=>some (decide (i=j)) | .bl i,.bl j=>some (decide (i=j)) | .str i,.str j=>some (decide (i=j))
 | .int _,.str _=>some false | .str _,.int _=>some false | .bl _,.str _=>some false | .str _,.bl _=>some false
 | _,_=>none
inductive Nl(d1:Dt)(d2:Dt)(Q:Dt->Prop):Prop
 | mk (b:_) (h1:eq2 d1 d2=some b) (h2:Q (.bl b))
inductive Ri(d1:Dt)(d2:Dt)(Q:Dt->Prop):Prop
 | mk (b:_) (h1:eq2 d1 d2=some b) (h2:Q (.bl (!b)))
def L5:Dt->Option V
 | .aC=>some .aC | .bl b=>some (.bl b) | .int i=>some 392 | .str x=>some (.str x) | _=>none
theorem Rep.fl(r:Rep M H v d)(h:L5 d=some u):v=u:=by
 cases r <;> cases h <;> rfl
theorem Z0:decide (V.int i=V.int j)=decide (i=j):=by simp
theorem Z1:decide (V.bl i=V.bl j)=decide (i=j):=by simp
theorem ZZ:decide (V.str i=V.str j)=decide (i=j):=by simp
inductive E2(d1 d2:Dt)(b:Bool):Prop
 | mk (u1 u2:V) (h1:L5 d1=some u1) (h2:L5 d2=some u2) (h3:F7 u1 u2=true/\decide (u1=u2)=b)
def Xn(d1 d2:Dt):Option Bool->Prop
 | none=>True
 | some b=>E2 d1 d2 b
theorem Mb:Xn d1 d2 (eq2 d1 d2):=by
 cases d1 with
 | lst _=>trivial
 | tup _=>trivial
 | jn _ _=>trivial
 | vz _ _=>trivial
 | _=>cases d2 with
  | lst _=>trivial
  | tup _=>trivial
  | jn _ _=>trivial
  | vz _ _=>trivial
  | _=>first | trivial | exact⟨_,_,rfl,rfl,rfl,rfl⟩ | exact⟨_,_,rfl,rfl,rfl,Z0⟩ | exact⟨_,_,rfl,rfl,rfl,Z1⟩ | exact⟨_,_,rfl,rfl,rfl,ZZ⟩
theorem Ef{b:Bool}(r1:Rep M H x d1)(r2:Rep M H y d2)(h:eq2 d1 d2=some b):F7 x y=true/\decide (x=y)=b:=by
 have z:Xn d1 d2 (some b):=h▸Mb;obtain⟨u1,u2,e1,e2,q⟩:=z;rw[r1.fl e1,r2.fl e2];exact q
theorem Je:Bx Wc Nl:=fun M H x y d1 d2 Qd Q al r1 r2 gk k=>(by obtain⟨b,e,q⟩:=gk;exact(by
 obtain⟨h1,h2⟩:=Ef r1 r2 e;exact⟨h1,by rw[h2];exact k H _ _ q 231 (.bl b)⟩))
theorem Qj:Bx Wa Ri:=fun M H x y d1 d2 Qd Q al r1 r2 fG k=>(by obtain⟨b,e,q⟩:=fG;exact(by
 obtain⟨h1,h2⟩:=Ef r1 r2 e;exact⟨h1,by rw[h2];exact k H _ _ q 231 (.bl _)⟩))
theorem l7(ha:Ev X a ta)(hb:Ev X b tb):Ev X (.Compare a [.Eq] [b] pos) (qo Nl ta tb):=Ji CQ Je ha hb (fB _)
theorem qW(ha:Ev X a ta)(hb:Ev X b tb):Tv X (.Compare a [.Eq] [b] pos) (dT (qo Nl ta tb)):=kY CQ Je ha hb (fB _)
theorem qV(ha:Ev X a ta)(hb:Ev X b tb):Tv X (.Compare a [.NotEq] [b] pos) (dT (qo Ri ta tb)):=kY OO Qj ha hb (fB _)
inductive Rf(g:Int->Dt)(Q:Dt->List Sl->Prop)(d:Dt)(δ':List Sl):Prop
 | mk (i:_) (h1:d= .int i) (h2:Q (g i) δ')
def D_u(g:Int->Dt)(ta:ba):ba:=fun δ Q=>ta δ fun d δ'=>Rf g Q d δ'
theorem Qo(ha:Ev X a ta):Ev X (.UnaryOp .USub a pos) (D_u (fun i=> .int (-i)) ta):=PE.imp (OJ JQ ha) fun σ H Q i6=>(by obtain⟨W,M,α,δ,Qd,E,q,k⟩:=i6;exact(
 ⟨W,M,α,δ,_,E,q,fun d δ1 H1 x kq E1 c1 r1=>(by obtain⟨i,e,q1⟩:=kq;exact(⟨i,by subst e;exact r1.ofInt,k _ _ _ _ q1 E1 c1 (.int _)⟩))⟩))
theorem mN(r:ay M H xs ds)(h:ke ds i=some d): ∃x,ke xs i=some x/\Rep M H x d:=by
 unfold ke at h ⊢;rw[r.1];cases hn:uK ds.length i with
 | none=>rw[hn] at h;cases h
 | some j=>rw[hn] at h;exact r.get h
inductive Rj(d1:Dt)(d2:Dt)(Q:Dt->Prop):Prop
 | mk (ds i d:_) (h1:(d1= .lst ds\/d1= .tup ds)) (h2:d2= .int i) (h3:ke ds i=some d) (h4:Q d)
theorem Qk{K:PySem.W.Frag}:Bx (Wb K) Rj:=fun M H x y d1 d2 Qd Q al r1 r2 oO k=>(by obtain⟨ds,i,d,e1,e2,h,q⟩:=oO;exact(by
 subst e2;rcases e1 with e1 | e1
 . subst e1;obtain⟨a,xs,rfl,ha,n,rr⟩:=r1.bO;obtain⟨v,hv,rv⟩:=mN rr h;exact .inl ⟨a,xs,i,v,rfl,r2.ofInt,bL.of ha,hv,k H _ _ q 231 rv⟩
 . subst e1;obtain⟨a,xs,rfl,ha,n,rr⟩:=r1.bN;obtain⟨v,hv,rv⟩:=mN rr h;exact .inr (.inl ⟨a,xs,i,v,rfl,r2.ofInt,dF.of ha,hv,k H _ _ q 231 rv⟩)))
theorem de(ha:Ev X a ta)(hb:Ev X b tb)(hs:mP b:=by exact fun _ _=>rfl):Ev X (.Subscript a b pos) (qo Rj ta tb):=PE.imp (yy Lm ha hb hs) (mE Qk)
def cutD(ds:List Dt)(lo hi:Option Int):List Dt:=(ds.drop (HT.cT ds.length 0 lo)).take (HT.cT ds.length ds.length hi - HT.cT ds.length 0 lo)
theorem ay.cut(r:ay M H xs ds)(lo hi:Option Int):ay M H (l9 xs lo hi) (cutD ds lo hi):=by
 unfold l9 cutD;rw[r.1];exact(r.drop _).take _
abbrev NJ:=List Sl->(Option Int->List Sl->Prop)->Prop
inductive lP(t:NJ)(σ:L2.St)(H:Hp)(Q:Option Int->Hp->Prop):Prop
 | mk (W:List Wd) (M:Addr->Prop) (α:List 225) (δ:List Sl) (Qd:Option Int->List Sl->Prop) (h1:aB W M α H σ δ) (h2:t δ Qd) (h3: ∀o δ' H',Qd o δ'->aB W M α H' σ δ'->dS α H H'->Q o H')
def QA:NJ:=fun δ Q=>Q none δ
inductive Hs(Q:Option Int->List Sl->Prop)(d:Dt)(δ':List Sl):Prop
 | mk (i:_) (h1:d= .int i) (h2:Q (some i) δ')
def Jl(t:ba):NJ:=fun δ Q=>t δ fun d δ'=>Hs Q d δ'
abbrev Pv(X:Cx)(o:Option Expr)(t:NJ):Prop:=PO X o (lP t)
theorem PO.imp{X:Cx}{e:Option Expr}{t t':L2.TO}(h:PO X e t)(i: ∀σ H Q,t' σ H Q->t σ H Q):PO X e t':=fun pins s σ H Q I q=>h pins s σ H Q I (i _ _ _ q)
theorem CO:Pv X none QA:=PO.imp yw fun σ H Q qJ=>(by obtain⟨W,M,α,δ,Qd,E,q,k⟩:=qJ;exact(k _ _ _ q E dS.rf))
theorem CN(h:Ev X e t):Pv X (some e) (Jl t):=PO.imp (yv h) fun σ H Q mQ=>(by obtain⟨W,M,α,δ,Qd,E,q,k⟩:=mQ;exact(
 ⟨W,M,α,δ,_,E,q,fun d δ1 H1 x gm E1 c1 r1=>(by obtain⟨i,e,q1⟩:=gm;exact(⟨i,by subst e;exact r1.ofInt,k _ _ _ q1 E1 c1⟩))⟩))
inductive Mx(Q:Dt->List Sl->Prop)(d:Dt)(lo:Option Int)(hi:Option Int)(δ3:List Sl):Prop
 | mk (ds:_) (h1:d= .tup ds) (h2:Q (.tup (cutD ds lo hi)) δ3)
def Qs(ta:ba)(tl th:NJ):ba:=fun δ Q=>ta δ fun d δ1=>tl δ1 fun lo δ2=>th δ2 fun hi δ3=>Mx Q d lo hi δ3
inductive My(Q:Dt->List Sl->Prop)(d:Dt)(lo:Option Int)(hi:Option Int)(δ3:List Sl):Prop
 | mk (ds:_) (h1:d= .lst ds) (h2:Q (.lst (cutD ds lo hi)) δ3)
def Vc(ta:ba)(tl th:NJ):ba:=fun δ Q=>ta δ fun d δ1=>tl δ1 fun lo δ2=>th δ2 fun hi δ3=>My Q d lo hi δ3
theorem Qm{lo hi:Option Expr}(ha:Ev X a ta)(hl:Pv X lo tl)(hh:Pv X hi th):Ev X (.Subscript a (.Slice lo hi none p2) pos) (Qs ta tl th):=PE.imp (nA F6 ha hl hh) fun σ H Q cK=>(by obtain⟨W,M,α,δ,Qd,E,q,k⟩:=cK;exact(
 ⟨W,M,α,δ,_,E,q,fun d δ1 H1 x q1 E1 c1 r1=>⟨W,M,α,δ1,_,E1,q1,fun o2 δ2 H2 q2 E2 c2=>⟨W,M,α,δ2,_,E2,q2,fun o3 δ3 H3 eU E3 c3=>(by obtain⟨ds,e,q3⟩:=eU;exact(by
  subst e;obtain⟨a,xs,rfl,ha,n,rr⟩:=((336).chg E2 c3).bN;refine⟨a,xs,rfl,ha,fun p H' nt=>?_⟩;have s:aq H3 H':=nt.keep;exact k _ _ _ _ q3 (E3.same s) (((314).tr c3).tr (dS.of s)) (Rep.lz nt.at (E3.al.O0 nt) ((rr.cut _ _).same s))))⟩⟩⟩))
theorem Qn{lo hi:Option Expr}(ha:Ev X a ta)(hl:Pv X lo tl)(hh:Pv X hi th):Ev X (.Subscript a (.Slice lo hi none p2) pos) (Vc ta tl th):=PE.imp (nA ya ha hl hh) fun σ H Q gk=>(by obtain⟨W,M,α,δ,Qd,E,q,k⟩:=gk;exact(
 ⟨W,M,α,δ,_,E,q,fun d δ1 H1 x q1 E1 c1 r1=>⟨W,M,α,δ1,_,E1,q1,fun o2 δ2 H2 q2 E2 c2=>⟨W,M,α,δ2,_,E2,q2,fun o3 δ3 H3 fG E3 c3=>(by obtain⟨ds,e,q3⟩:=fG;exact(by
  subst e;obtain⟨a,xs,rfl,ha,n,rr⟩:=((336).chg E2 c3).bO;refine⟨a,xs,rfl,bL.of ha,fun p hp=>?_⟩;have s:aq H3 (upd H3 p (.lst (l9 xs o2 o3))):=aq.new hp;exact k _ _ _ _ q3 (E3.same s) (((314).tr c3).tr (dS.of s)) (Rep.pK ae (E3.fresh hp) ((rr.cut _ _).same s))))⟩⟩⟩))
inductive FF(d1:Dt)(d2:Dt)(Q:Dt->Prop):Prop
 | mk (ds es:_) (h1:d1= .tup ds) (h2:d2= .tup es) (h3:ds.length+es.length<=sizeLine) (h4:Q (.tup (ds++es)))
inductive xM(d1:Dt)(d2:Dt)(Q:Dt->Prop):Prop
 | mk (ds es:_) (h1:d1= .lst ds) (h2:d2= .lst es) (h3:ds.length+es.length<=sizeLine) (h4:Q (.lst (ds++es)))
theorem Hh:Bx Iz FF:=fun M H x y d1 d2 Qd Q al r1 r2 mR k=>(by obtain⟨ds,es,e1,e2,l,q⟩:=mR;exact(by
 subst e1;subst e2;obtain⟨a,xs,rfl,ha,n,rr⟩:=r1.bN;obtain⟨b,ys,rfl,hb,n2,oX⟩:=r2.bN;exact⟨a,b,xs,ys,rfl,rfl,ha,hb,by rw[rr.1,oX.1];exact l,fun p H' nt=>k H' _ _ q nt.keep (Rep.lz nt.at (al.O0 nt) ((rr.append oX).same nt.keep))⟩))
theorem Hj:Bx Kn xM:=fun M H x y d1 d2 Qd Q al r1 r2 i6 k=>(by obtain⟨ds,es,e1,e2,l,q⟩:=i6;exact(by
 subst e1;subst e2;obtain⟨a,xs,rfl,ha,n,rr⟩:=r1.bO;obtain⟨b,ys,rfl,hb,n2,oX⟩:=r2.bO;refine⟨a,b,xs,ys,rfl,rfl,ha,hb,by rw[rr.1,oX.1];exact l,fun p hp=>?_⟩;have s:aq H (upd H p (.lst (xs++ys))):=aq.new hp;exact k _ _ _ q s (Rep.pK ae (al.fresh hp) ((rr.append oX).same s))))
theorem Mt(ha:Ev X a ta)(hb:Ev X b tb):Ev X (.BinOp a .Add b pos) (qo FF ta tb):=AS GJ Hh ha hb
theorem Mu(ha:Ev X a ta)(hb:Ev X b tb):Ev X (.BinOp a .Add b pos) (qo xM ta tb):=AS CS Hj ha hb
def cC:Dt->Bool
 | .lst _=>false
 | .tup _=>false
 | .jn _ _=>false
 | .vz _ _=>false
 | _=>true
def Ee:Dt->Dt->Bool
 | .aC,.aC=>true
 | .bl a,.bl b=>a==b
 | .bl a,.int b=>(if a then 1 else 0)==b
 | .int a,.bl b=>a==(if b then 1 else 0)
 | .int a,.int b=>a==b
 | .str a,.str b=>a==b
 | _,_=>false
def inD(d:Dt)(ds:List Dt):Bool:=ds.any fun e=>Ee e d
theorem fS(r:Rep M H v d)(h:cC d=true):dm v=true:=by cases r <;> first | rfl | cases h
def EVo(d e:Dt):Option V->Option V->Prop
 | some u,some v=>o6 u v=Ee d e
 | _,_=>False
theorem L9{d e:Dt}(h:cC d=true)(h2:cC e=true):EVo d e (L5 d) (L5 e):=by
 cases d with
 | lst _=>cases h
 | tup _=>cases h
 | jn _ _=>cases h
 | vz _ _=>cases h
 | _=>cases e with
  | lst _=>cases h2
  | tup _=>cases h2
  | jn _ _=>cases h2
  | vz _ _=>cases h2
  | _=>exact(rfl:_=_)
theorem sA{M:Addr->Prop}{H:Hp}{v w:V}{d e:Dt}(r:Rep M H v d)(r2:Rep M H w e)(h:cC d=true)(h2:cC e=true):o6 v w=Ee d e:=by
 have z:=L9 h h2;cases e1:L5 d with
 | none=>rw[e1] at z;exact z.elim
 | some u=>
  cases e2:L5 e with
  | none=>rw[e1,e2] at z;exact z.elim
  | some u2=>
   rw[e1,e2] at z;rw[r.fl e1,r2.fl e2];exact z
theorem kU(r:ay M H xs ds)(h:ds.all cC=true):xs.all dm=true:=ah9.mpr fun x hx=>by
 obtain⟨i,hi,e⟩:=ah2 hx;have h1:xs[i]?=some x:=by rw[aa1 hi,e]
 have h2:ds[i]?=some (ds[i]'(by rw[<-r.1];exact hi)):=aa1 _;exact fS (r.2 i _ _ h1 h2) (ah9.mp h _ (ac7 h2))
theorem rX(r:Rep M H v d)(hd:cC d=true): ∀{xs:List V} {ds:List Dt},ay M H xs ds->ds.all cC=true->Nu v xs=inD d ds
 | [],[],_,_=>rfl
 | [],_::_,h,_=>by have:=h.1;simp at this
 | _::_,[],h,_=>by have:=h.1;simp at this
 | x::xs,e::ds,h,hf=>by
  obtain⟨y,ys,e1,e2,e3⟩:=h.aO;cases e1;rw[aw3,ak3] at hf;have ih:=rX r hd e3 hf.2;unfold Nu inD at ih ⊢;rw[ao3,ao3,ih,sA e2 r hf.1 hd]
inductive Nj(neg:Bool)(d1:Dt)(d2:Dt)(Q:Dt->Prop):Prop
 | mk (ds:_) (h1:(d2= .lst ds\/d2= .tup ds)) (h2:cC d1=true) (h3:ds.all cC=true) (h4:Q (.bl (if neg then !inD d1 ds else inD d1 ds)))
theorem Jc{K:PySem.W.Frag}{neg:Bool}:Bx (Rz K neg) (Nj neg):=fun M H x y d1 d2 Qd Q al r1 r2 qK k=>(by obtain⟨ds,e2,f1,f2,q⟩:=qK;exact(by
 have fin: ∀xs,ay M H xs ds->dm x=true/\xs.all dm=true/\Q (.bl (if neg then !Nu x xs else Nu x xs)) H:=fun xs rr=>⟨fS r1 f1,kU rr f2,by rw[rX r1 f1 rr f2];exact k H _ _ q 231 (.bl _)⟩
 rcases e2 with e2 | e2
 . subst e2;obtain⟨a,xs,rfl,ha,n,rr⟩:=r2.bO;exact⟨a,xs,rfl,.inl (bL.of ha),fin xs rr⟩
 . subst e2;obtain⟨a,xs,rfl,ha,n,rr⟩:=r2.bN;exact⟨a,xs,rfl,.inr (dF.of ha),fin xs rr⟩))
theorem B4(ha:Ev X a ta)(hb:Ev X b tb)(hm:behindInMarks .In b=false:=by rfl):Tv X (.Compare a [.In] [b] pos) (dT (qo (Nj false) ta tb)):=kY zT Jc ha hb hm
theorem F2(ha:Ev X a ta)(hb:Ev X b tb)(hm:behindInMarks .NotIn b=false:=by rfl):Tv X (.Compare a [.NotIn] [b] pos) (dT (qo (Nj true) ta tb)):=kY jM Jc ha hb hm
inductive JC(ds:List Dt)(Q:Dt->Prop):Prop
 | mk (es:_) (h1:(ds= [.lst es]\/ds= [.tup es])) (h2:Q (.int es.length))
theorem Mo{K:PySem.W.Frag}:Ro (fun xs H Q=> ∃p ys,xs= [.ref p]/\(bL K H p ys\/dF K H p ys)/\Q (.int ys.length) H) JC:=fun M H xs ds Qd Q al r vE k=>(by obtain⟨es,e,q⟩:=vE;exact(by
 rcases e with e | e <;> subst e <;> obtain⟨x,ys,rfl,r1,r2⟩:=r.aO <;> cases r2.eA
 . obtain⟨a,zs,rfl,ha,n,rr⟩:=r1.bO;exact⟨a,zs,rfl,.inl (bL.of ha),by rw[rr.1];exact k H _ _ q 231 (.int _)⟩
 . obtain⟨a,zs,rfl,ha,n,rr⟩:=r1.bN;exact⟨a,zs,rfl,.inr (dF.of ha),by rw[rr.1];exact k H _ _ q 231 (.int _)⟩))
theorem eR(hm:X.mg "len"=none)(ha:Av X [e] tA)(hg:Gl X "len":=by rfl)(he:starEach [e] X.env=(false,eval e X.env)::starEach [] X.env:=by rfl)(dM:(backTo pos 122).any (·.1)=false:=by rfl):
  Ev X (.Call (.Name "len" p) [e] [] pos) (AW JC tA):=j7 dX Mo hg hm av4 ha 105 105 he dM
inductive zq(ds:List Dt)(Q:Dt->Prop):Prop
 | mk (es:_) (h1:(ds= [.lst es]\/ds= [.tup es])) (h2:Q (.tup es))
theorem EA{K:PySem.W.Frag}:Ro (fun xs H Q=> ∃p ys,xs= [.ref p]/\((bL K H p ys/\ ∀l,H l=none->Q (.ref l) (upd H l 412))\/(dF K H p ys/\Q 379 H))) zq:=fun M H xs ds Qd Q al r oO k=>(by obtain⟨es,e,q⟩:=oO;exact(by
 rcases e with e | e <;> subst e <;> obtain⟨x,ys,rfl,r1,r2⟩:=r.aO <;> cases r2.eA
 . obtain⟨a,zs,rfl,ha,n,rr⟩:=r1.bO;refine⟨a,zs,rfl,.inl ⟨bL.of ha,fun l hl=>?_⟩⟩;have s:aq H (upd H l (.tup zs)):=aq.new hl;exact k _ _ _ q s (Rep.lz ae (al.fresh hl) (rr.same s))
 . obtain⟨a,zs,rfl,ha,n,rr⟩:=r1.bN;exact⟨a,zs,rfl,.inr ⟨dF.of ha,k H _ _ q 231 r1⟩⟩))
theorem mM(hm:X.mg "tuple"=none)(ha:Av X [e] tA)(hg:Gl X "tuple":=by rfl)(he:starEach [e] X.env=(false,eval e X.env)::starEach [] X.env:=by rfl)(dM:(backTo pos 122).any (·.1)=false:=by rfl):
  Ev X (.Call (.Name "tuple" p) [e] [] pos) (AW zq tA):=va i5 EA hg hm cE ha 105 105 he dM
end
theorem bJ{α:List 225}(h:x∈(α.set i as).flatten):x∈α.flatten\/x∈as:=by
 obtain⟨l,hl,hx⟩:=aq7.mp h;rcases List.mem_or_eq_of_mem_set hl with y | y
 . exact .inl (aq7.mpr ⟨l,y,hx⟩)
 . exact .inr (y▸hx)
theorem aV{α:List 225}{i:Nat}(h:α[i]?=some as)(hx:x∈as):x∈α.flatten:=aq7.mpr ⟨as,ac7 h,hx⟩
theorem cB: ∀{α:List 225} {i:Nat} {as:List Addr},α.flatten.Nodup->as.Nodup->(∀x∈as,x∉α.flatten)->(α.set i as).flatten.Nodup
 | [],_,_,_,_,_=>by simp
 | l::r,0,as,h,ha,hx=>by
  rw[List.set_cons_zero,ag5];rw[ag5] at h;refine ao2.mpr ⟨ha,(ao2.mp h).2.1,fun x h1 y h2 e=>?_⟩;subst e;exact hx x h1 (by rw[ag5];exact ad8 _ h2)
 | l::r,i+1,as,h,ha,hx=>by
  rw[List.set_cons_succ,ag5];rw[ag5] at h;obtain⟨h1,h2,h3⟩:=ao2.mp h;refine ao2.mpr ⟨h1,cB h2 ha fun x z y=>hx x z (by rw[ag5];exact ad8 _ y),fun x z y w e=>?_⟩;subst e;rcases bJ w with q | q
  . exact h3 x z x q rfl
  . exact hx x q (by rw[ag5];exact List.mem_append_left _ z)
theorem eQ: ∀{α:List 225} {i j:Nat} {as bs:List Addr} {x:Addr},α.flatten.Nodup->α[i]?=some as->α[j]?=some bs->i≠j->x∈as->x∉bs
 | [],i,j,as,bs,x,_,h1,_,_,_=>by simp at h1
 | l::r,i,j,as,bs,x,h,h1,h2,bE,hx=>by
  rw[ag5] at h;obtain⟨n1,n2,n3⟩:=ao2.mp h;cases i with
  | zero=>
   cases j with
   | zero=>exact absurd rfl bE
   | succ j=>
    simp at h1 h2;subst h1;exact fun y=>n3 x hx x (aV h2 y) rfl
  | succ i=>
   cases j with
   | zero=>
    simp at h1 h2;subst h2;exact fun y=>n3 x y x (aV h1 hx) rfl
   | succ j=>exact eQ n2 245 244 101 hx
section
variable{Ws:List Wd}{M:Addr->Prop}{α:List 225}{H H':Hp}{σ:L2.St}{δ:List Sl}{i:Nat}{v:V}{d:Dt}{s:Sl}
def du(δ:List Sl)(i:Nat):Prop:= ∃s,δ[i]?=some s/\s.bo=false
theorem du.lt(h:du δ i):i < δ.length:=let ⟨s,e,_⟩:=h;(aa5.mp e).1
theorem aB.lC(E:aB Ws M α H σ δ)(r:Rep M H v d)(ok:du δ i):aB Ws M 342 H 329 (δ.set i (.im d)):=by
 have hi:=ok.lt;obtain⟨s0,DM,nb⟩:=ok;refine⟨by rw[ad5,ad5,E.ls],by rw[ad5,ad5,E.la],fun j s hj=>?_,cB E.nd ao7 (fun x hx=>absurd hx aa8),fun a ha=>(bJ ha).elim (E.mu a) fun z=>absurd z aa8,E.al,fun W hW=>?_⟩
 . by_cases bE:i=j
   . subst bE;rw[ac3 hi] at hj;cases hj;exact⟨some v,[],by rw[ac3 (by rw[E.ls];exact hi)],by rw[ac3 326],rfl,v,rfl,r⟩
   . rw[ab2 bE] at hj;obtain⟨o,as,h1,h2,h3⟩:=E.sl j s hj;exact⟨o,as,by rw[ab2 bE];exact h1,by rw[ab2 bE];exact h2,h3⟩
 . have k:=E.w W hW;refine⟨k.bs,k.ex,fun a ha=>(bJ ha).elim (k.fr a) fun z=>absurd z aa8,k.m0,k.m1,fun d c e=>?_,fun j s as h1 h2 nb'=>?_⟩
   . obtain⟨t,e1,e2⟩:=k.bx d c e;have:i≠0:=fun z=>by subst z;rw[DM] at e1;cases e1;cases nb
     exact 145
   . by_cases bE:i=j
     . subst bE;rw[ac3 326] at h2;cases h2;exact fun a ha=>absurd ha aa8
     . rw[ab2 bE] at h1 h2;exact k.fz j s as h1 h2 nb'
theorem ay.grow(r:ay M H xs ds)(hp:H p=none):ay 254 (upd H p o) xs ds:=r.mono fun a u e n=>⟨by rw[ah (az e hp)];exact e,fun z=>z.elim n (az e hp)⟩
theorem Rep.grow(r:Rep M H x d)(hp:H p=none):Rep 254 (upd H p o) x d:=r.mono fun a u e n=>⟨by rw[ah (az e hp)];exact e,fun z=>z.elim n (az e hp)⟩
theorem tj.grow(h:tj M H o s as)(hp:H p=none):tj 254 (upd H p u) o s as:=by
 have sm:aq H (upd H p u):=aq.new hp;cases s with
 | no=>exact h
 | im d=>exact⟨h.1,let ⟨v,e,r⟩:=h.2;⟨v,e,r.grow hp⟩⟩
 | ow ds=>obtain⟨a,xs,e1,e2,e3,r⟩:=h;exact⟨a,xs,e1,e2,sm _ _ e3,r.grow hp⟩
 | bx t=>obtain⟨d,c,e1,e2,r⟩:=h;exact⟨d,c,e1,e2,r.same sm⟩
 | dk ks ds=>obtain⟨a,vs,e1,e2,e3,e4,r⟩:=h;exact⟨a,vs,e1,e2,sm _ _ e3,e4,r.grow hp⟩
 | ob R=>obtain⟨v,e,r⟩:=h;exact⟨v,e,R.st r (fun a _ o q=>sm _ _ q) fun a u q n=>⟨sm _ _ q,fun z=>z.elim n (az q hp)⟩⟩
 | fn f=>exact h
theorem aB.m7(E:aB Ws M α H σ δ)(hp:H p=none)(hu: ∀xs,u≠ .tup xs)(ok:du δ i)(nb:s.bo=false)(hs:tj 254 (upd H p u) (some 379) s [p]):
  aB Ws 254 (α.set i [p]) (upd H p u) (σ.set i (some 379)) (δ.set i s):=by
 have hi:=ok.lt;have sm:aq H (upd H p u):=aq.new hp;have np:p∉α.flatten:=fun z=>E.fresh hp (E.mu p z);obtain⟨s0,DM,Yo⟩:=ok;refine⟨by rw[ad5,ad5,E.ls],by rw[ad5,ad5,E.la],fun j s' hj=>?_,cB E.nd 112 (fun x hx=>by rw[aa9.mp hx];exact np),fun a ha=>(bJ ha).elim (fun z=> .inl (E.mu a z)) fun z=> .inr (aa9.mp z),fun a ha=>?_,fun W hW=>?_⟩
 . by_cases bE:i=j
   . subst bE;rw[ac3 hi] at hj;cases hj;exact⟨_,_,by rw[ac3 (by rw[E.ls];exact hi)],by rw[ac3 326],hs⟩
   . rw[ab2 bE] at hj;obtain⟨o,as,h1,h2,h3⟩:=E.sl j s' hj;exact⟨o,as,by rw[ab2 bE];exact h1,by rw[ab2 bE];exact h2,h3.grow hp⟩
 . rcases ha with ha | ha
   . obtain⟨o,e,n⟩:=E.al a ha;exact⟨o,sm _ _ e,n⟩
   . subst ha;exact⟨u,ae,hu⟩
 . have k:=E.w W hW;have Zb:W.A0 p\/W.H0 p=none:=by
    by_cases z:W.A0 p
    . exact .inl z
    . right;cases e:W.H0 p with
      | none=>rfl
      | some o=>have:=k.bs p o e z;rw[hp] at this;cases this
   refine⟨fun b o e n=>sm _ _ (k.bs b o e n),fun b n y=>k.ex b n (LW.aq.none sm y),fun a ha=>(bJ ha).elim (k.fr a) fun z=>by rw[aa9.mp z];exact Zb,fun a h=> .inl (k.m0 a h),fun a h=>?_,fun d c e=>?_,fun j s' as h1 h2 nb'=>?_⟩
   . rcases h with h | h
     . exact k.m1 a h
     . subst h;by_cases z:W.H0 a=none
       . exact .inr z
       . exact absurd hp (k.ex a z)
   . obtain⟨t,e1,e2⟩:=k.bx d c e;have:i≠0:=fun z=>by subst z;rw[DM] at e1;cases e1;cases Yo
     exact 145
   . by_cases bE:i=j
     . subst bE;rw[ac3 326] at h2;cases h2;exact fun a ha z=>by rw[aa9.mp ha] at z;exact E.fresh hp (k.m0 _ z)
     . rw[ab2 bE] at h1 h2;exact k.fz j s' as h1 h2 nb'
theorem aB.mod(E:aB Ws M α H σ δ){s s':Sl}(hi:δ[i]?=some s)(ho:σ[i]?=some o)(ha:α[i]?=some as)(hb:s'.bo=s.bo)(hs:tj M H' o s' as)(keep: ∀b u,H b=some u->b∉as->H' b=some u)(ex: ∀a∈as,∃u,H' a=some u/\ ∀xs,u≠ .tup xs):aB Ws M α H' σ (δ.set i s')/\dS α H H':=by
 have dQ:=(348).1;have Vy: ∀a∈as,M a:=fun a h=>E.mu a (aV ha h);have rep: ∀{v:V} {d:Dt},Rep M H v d->Rep M H' v d:=fun r=>r.mono fun a u e n=>⟨keep a u e fun z=>n (Vy a z),n⟩
 have Ow: ∀{v:List V} {d:List Dt},ay M H v d->ay M H' v d:=fun r=>r.mono fun a u e n=>⟨keep a u e fun z=>n (Vy a z),n⟩
 refine⟨⟨by rw[ad5,E.ls],by rw[ad5,E.la],fun j s2 hj=>?_,E.nd,E.mu,fun a h=>?_,fun W hW=>?_⟩,fun b u e n=>keep b u e fun z=>n (aV ha z)⟩
 . by_cases bE:i=j
   . subst bE;rw[ac3 dQ] at hj;cases hj;exact⟨o,as,ho,ha,hs⟩
   . rw[ab2 bE] at hj;obtain⟨o2,xD,h1,h2,h3⟩:=E.sl j s2 hj;have ap: ∀x∈xD,x∉as:=fun x hx=>eQ E.nd h2 ha (Ne.symm bE) hx;refine⟨o2,xD,h1,h2,?_⟩;cases s2 with
     | no=>exact h3
     | im d=>exact⟨h3.1,let ⟨v,e,r⟩:=h3.2;⟨v,e,rep r⟩⟩
     | ow ds=>obtain⟨a,xs,e1,e2,e3,r⟩:=h3;subst e1;exact⟨a,xs,rfl,e2,keep _ _ e3 (ap a 112),Ow r⟩
     | bx t=>
      obtain⟨d,c,e1,e2,r⟩:=h3;subst e1;refine⟨d,c,rfl,e2,keep _ _ r.dc (ap d 112),?_,r.t0,r.t1⟩;obtain⟨ns,h,q⟩:=r.cs;exact⟨ns,keep _ _ h (ap c 112),q⟩
     | dk ks ds=>obtain⟨a,vs,e1,e2,e3,e4,r⟩:=h3;subst e1;exact⟨a,vs,rfl,e2,keep _ _ e3 (ap a 112),e4,Ow r⟩
     | ob R=>obtain⟨v,e,r⟩:=h3;exact⟨v,e,R.st r (fun a ha u q=>keep _ _ q (ap a ha)) fun a u q n=>⟨keep a u q fun z=>n (Vy a z),n⟩⟩
     | fn f=>exact h3
 . by_cases z:a∈as
   . exact ex a z
   . obtain⟨u,e,n⟩:=E.al a h;exact⟨u,keep _ _ e z,n⟩
 . have k:=E.w W hW;have Yu: ∀a∈as,W.A0 a\/W.H0 a=none:=fun a z=>k.fr a (aV ha z);refine⟨fun b u e n=>keep _ _ (k.bs b u e n) fun z=>?_,fun b n y=>?_,k.fr,k.m0,k.m1,fun d c e=>?_,fun j s2 xD h1 h2 nb=>?_⟩
   . rcases Yu b z with q | q
     . exact n q
     . rw[q] at e;cases e
   . by_cases z:b∈as
     . obtain⟨u,e,_⟩:=ex b z;rw[e] at y;cases y
     . cases e:H b with
       | none=>exact k.ex b n e
       | some u=>rw[keep _ _ e z] at y;cases y
   . obtain⟨t,e1,e2⟩:=k.bx d c e;by_cases bE:i=0
     . subst bE;rw[hi] at e1;cases e1;cases s' with
       | bx t'=>exact⟨t',by rw[ac3 dQ],e2⟩
       | _=>cases hb
     . exact⟨t,by rw[ab2 bE];exact e1,e2⟩
   . by_cases bE:i=j
     . subst bE;rw[ac3 dQ] at h1;cases h1;exact k.fz i s xD hi h2 (by rw[<-hb];exact nb)
     . rw[ab2 bE] at h1;exact k.fz j s2 xD h1 h2 nb
theorem aB.P9(E:aB Ws M α H σ δ)(hi:δ[i]?=some 405)(ha:α[i]?=some [a]):aB Ws 243 342 H σ (δ.set i (.im (.lst ds))):=by
 have dQ:=(348).1;obtain⟨a',xs,h1,h2,h3,r⟩:=E.ow hi;rw[ha] at h2;cases h2;have mono: ∀{v:V} {d:Dt},Rep M H v d->Rep 243 H v d:=fun r=>r.mono fun b u e n=>309
 have hG: ∀{v:List V} {d:List Dt},ay M H v d->ay 243 H v d:=fun r=>r.mono fun b u e n=>309
 refine 141
 . by_cases bE:i=j
   . subst bE;rw[ac3 dQ] at hj;cases hj;exact⟨some 226,[],h1,by rw[ac3 228],rfl,_,rfl,Rep.pK h3 (fun z=>z.2 rfl) (hG r)⟩
   . rw[ab2 bE] at hj;obtain⟨o2,xD,g1,g2,g3⟩:=E.sl j s hj;refine⟨o2,xD,g1,by rw[ab2 bE];exact g2,?_⟩;cases s with
     | no=>exact g3
     | im d=>exact⟨g3.1,let ⟨v,e,r⟩:=g3.2;⟨v,e,mono r⟩⟩
     | ow ds=>obtain⟨b,xs,e1,e2,e3,r⟩:=g3;exact⟨b,xs,e1,e2,e3,hG r⟩
     | bx t=>exact g3
     | dk ks ds=>obtain⟨b,vs,e1,e2,e3,e4,r⟩:=g3;exact⟨b,vs,e1,e2,e3,e4,hG r⟩
     | ob R=>obtain⟨v,e,r⟩:=g3;exact 248
     | fn f=>exact g3
 . obtain⟨l,hl,hx⟩:=aq7.mp hb;obtain⟨j,hj,e⟩:=ah2 hl;have ej:(342)[j]?=some l:=by rw[aa1 hj,e]
   by_cases bE:i=j
   . subst bE;rw[ac3 228] at ej;cases ej;exact absurd hx aa8
   . rw[ab2 bE] at ej;refine⟨E.mu b (aV ej hx),fun z=>?_⟩;subst z;exact eQ E.nd ej ha (Ne.symm bE) hx 112
 . have k:=E.w W hW;refine 133
   . subst y;exact k.fz i _ _ hi ha rfl b 112 z
   . obtain⟨t,e1,e2⟩:=k.bx d c e;have:i≠0:=fun z=>by subst z;rw[hi] at e1;cases e1
     exact 145
   . by_cases bE:i=j
     . subst bE;rw[ac3 228] at g2;cases g2;exact fun b hb=>absurd hb aa8
     . rw[ab2 bE] at g1 g2;exact k.fz j s as g1 g2 nb
theorem aB.lQ(E:aB Ws M α H σ δ){ds:List Dt}(hi:δ[i]?=some 405): ∃M' α',aB Ws M' α' H σ (δ.set i (.im (.lst ds)))/\ ∀a,M' a->M a:=by
 obtain⟨a,xs,h1,h2,h3,r⟩:=E.ow hi;exact⟨_,_,E.P9 hi h2,fun b z=>z.1⟩
theorem aB.drop(E:aB (W::Ws) M α H σ δ):aB Ws M α H σ δ:=⟨E.ls,E.la,E.sl,E.nd,E.mu,E.al,fun W' h=>E.w W' (ab6 _ h)⟩
theorem aB.loop(E:aB Ws M α H σ δ):aB (⟨H,M,fun _=>False,M,none⟩::Ws) M α H σ δ:=⟨E.ls,E.la,E.sl,E.nd,E.mu,E.al,fun W h=>by
 rcases ad1.mp h with e | e
 . subst e;exact⟨fun b o e _=>e,fun b n=>n,fun a h=> .inl (E.mu a h),fun a h=>h.elim,fun a h=> .inl h,fun d c e=>(by cases e),fun j s as _ _ _ a _ z=>z⟩
 . exact E.w W e⟩
end
structure dW where
 nx:List Sl->Prop
 rt:Dt->List Sl->Prop
 bk:List Sl->Prop:=fun _=>False
 ct:List Sl->Prop:=fun _=>False
abbrev jo:=dW->List Sl->Prop
structure Lk(Ws:List Wd)(D:Ends)(Δ:dW):Prop where
 nx: ∀M α H σ δ,aB Ws M α H σ δ->Δ.nx δ->D.nx σ H
 rt: ∀M α H σ δ v d,aB Ws M α H σ δ->Rep M H v d->Δ.rt d δ->D.rt v H
 bk: ∀M α H σ δ,aB Ws M α H σ δ->Δ.bk δ->D.bk σ H
 ct: ∀M α H σ δ,aB Ws M α H σ δ->Δ.ct δ->D.ct σ H
inductive lS(T:jo)(D:L2.Ends)(σ:L2.St)(H:Hp):Prop
 | mk (Ws:List Wd) (M:Addr->Prop) (α:List 225) (δ:List Sl) (Δ:dW) (h1:aB Ws M α H σ δ) (h2:Lk Ws D Δ) (h3:T Δ δ)
abbrev Ex(X:Cx)(s:Stmt)(T:jo):Prop:=PS X s (lS T)
abbrev zp(X:Cx)(s:List Stmt)(T:jo):Prop:=qG X s (lS T)
section
variable{X:Cx}{st:Stmt}{rest:List Stmt}{T U:jo}{e a b c:Expr}{es:List Expr}{t ta tb:ba}{u:oF}{pos:Pos}
def QB:jo:=fun Δ δ=>Δ.nx δ
def Qt(T U:jo):jo:=fun Δ δ=>T {Δ with nx:=U Δ} δ
theorem bF:zp X [] QB:=qG.imp yq fun D σ H cK=>(by obtain⟨Ws,M,α,δ,Δ,E,L,q⟩:=cK;exact(L.nx _ _ _ _ _ E q))
theorem ag(h1:Ex X st T)(h2:zp X rest U):zp X (st::rest) (Qt T U):=qG.imp (cQ h1 h2) fun D σ H eU=>(by obtain⟨Ws,M,α,δ,Δ,E,L,q⟩:=eU;exact(
 ⟨Ws,M,α,δ,{Δ with nx:=U Δ},E,⟨fun M α H σ δ E q=>⟨Ws,M,α,δ,Δ,E,L,q⟩,L.rt,L.bk,L.ct⟩,q⟩))
theorem aD(h1:Ex X st T):zp X [st] T:=mD h1
def Qx(t:ba):jo:=fun Δ δ=>t δ Δ.rt
theorem aL(h:Ev X e t):Ex X (.Return (some e) pos) (Qx t):=PS.imp (rJ h) fun D σ H fG=>(by obtain⟨Ws,M,α,δ,Δ,E,L,q⟩:=fG;exact(⟨Ws,M,α,δ,_,E,q,fun d δ' H' v q1 E1 c1 r1=>L.rt _ _ _ _ _ _ _ E1 r1 q1⟩))
def Vm(u:oF)(T U:jo):jo:=fun Δ δ=>u δ fun b δ'=>if b=true then T Δ δ' else U Δ δ'
theorem dy(hc:Tv X c u)(ha:zp X sa T)(hb:zp X sb U):Ex X (.If c sa sb pos) (Vm u T U):=PS.imp (IA hc ha hb) fun D σ H i6=>(by obtain⟨Ws,M,α,δ,Δ,E,L,q⟩:=i6;exact(
 ⟨Ws,M,α,δ,_,E,q,fun b δ' H' q1 E1 c1=>by
  cases b with
  | true=>rw[if_pos rfl] at q1 ⊢;exact⟨Ws,M,α,δ',Δ,E1,L,q1⟩
  | false=>rw[if_neg ab3] at q1 ⊢;exact⟨Ws,M,α,δ',Δ,E1,L,q1⟩⟩))
def Jp(t:ba):jo:=fun Δ δ=>t δ fun _ δ'=>Δ.nx δ'
theorem dz(h:Ev X e t)(hs:swapsWith e none pos.line X.env=pure false:=by rfl):Ex X (.Expr e pos) (Jp t):=PS.imp (Gu h hs) fun D σ H kq=>(by obtain⟨Ws,M,α,δ,Δ,E,L,q⟩:=kq;exact(⟨Ws,M,α,δ,_,E,q,fun d δ' H' v q1 E1 c1 r1=>L.nx _ _ _ _ _ E1 q1⟩))
def Vd(i:Nat)(t:ba):jo:=fun Δ δ=>t δ fun d δ'=>du δ' i/\Δ.nx (δ'.set i (.im d))
theorem cm(i:Nat){x:Str}{pos':Pos}(hN:X.N.Nodup)(he:Ev X e t)(hi:X.N[i]?=some x:=by rfl)(hx:Loc X.env.scope x:=by first | exact Or.inl rfl | exact Or.inr rfl)(hs:swapsWith e 373 pos.line X.env=pure false:=by rfl)(hf:X.fn x=true\/X.env.scope.names.lookup x=some .local:=by first | exact .inl rfl | exact .inr rfl | assumption):
  Ex X (.Assign [.Name x pos'] e pos) (Vd i t):=PS.imp (fA hN hi hx he hs hf) fun D σ H oO=>(by obtain⟨Ws,M,α,δ,Δ,E,L,q⟩:=oO;exact(⟨Ws,M,α,δ,_,E,q,fun d δ' H' v qJ E1 c1 r1=>(by obtain⟨ok,q1⟩:=qJ;exact(L.nx _ _ _ _ _ (E1.lC r1 ok) q1))⟩))
def EH(i:Nat)(t:xN):jo:=fun Δ δ=>t δ fun ds δ'=>du δ' i/\Δ.nx (δ'.set i 405)
theorem zG{i:Nat}{t:xN}: ∀D σ H,lS (EH i t) D σ H->zE (lO t) (cI i) D σ H:=fun D σ H mQ=>(by obtain⟨Ws,M,α,δ,Δ,E,L,q⟩:=mQ;exact(⟨Ws,M,α,δ,_,E,q,fun ds δ' H1 xs a gm E1 c1 r1 h1=>(by obtain⟨ok,q1⟩:=gm;exact(
 L.nx _ _ _ _ _ (E1.m7 (s:= .ow ds) h1 325 ok rfl ⟨a,xs,rfl,rfl,ae,r1.grow h1⟩) q1))⟩))
theorem eD(i:Nat){x:Str}{pos':Pos}{t:xN}(hN:X.N.Nodup)(he:Ov X e t)(hi:X.N[i]?=some x:=by rfl)(hx:Loc X.env.scope x:=by first | exact Or.inl rfl | exact Or.inr rfl)(hs:swapsWith e 373 pos.line X.env=pure false:=by rfl)(hf:X.fn x=true\/X.env.scope.names.lookup x=some .local:=by first | exact .inl rfl | exact .inr rfl | assumption):
  Ex X (.Assign [.Name x pos'] e pos) (EH i t):=PS.imp (fA hN hi hx he hs hf) zG
inductive QH(i:Nat)(T:jo)(Δ:dW)(δ:List Sl):Prop
 | mk (ds:_) (h1:δ[i]?=some 405) (h2:T Δ (δ.set i (.im (.lst ds))))
theorem D6: ∀D σ H,lS (QH i T) D σ H->lS T D σ H:=fun D σ H i7=>(by obtain⟨Ws,M,α,δ,Δ,E,L,ds,h,q⟩:=i7;exact(by
 obtain⟨M',α',E',_⟩:=E.lQ h;exact⟨Ws,M',α',_,Δ,E',L,q⟩))
theorem gR(i:Nat)(h:Ex X st T):Ex X st (QH i T):=PS.imp h D6
theorem jH{Ws:List Wd}{M:Addr->Prop}{α:List 225}{H:Hp}{σ:L2.St}{δ:List Sl}{i:Nat}{ds oN:List Dt}{a:Addr}(E:aB Ws M α H σ δ)(h:δ[i]?=some 405)(h1:σ[i]?=some (some 226))(h2:α[i]?=some [a])(r:ay M H vH oN):
  aB Ws M α (upd H a (.lst vH)) σ (δ.set i (.ow oN))/\dS α H (upd H a (.lst vH)):=
 E.mod h h1 h2 rfl ⟨a,vH,rfl,rfl,ae,r.mono fun b u e n=>⟨by rw[ah (fun z=>n (by rw[z];exact E.mu a (aV h2 112)))];exact e,n⟩⟩ 270 (fun b hb=>by rw[aa9.mp hb];exact 165)
inductive ER(i:Nat)(Q:Dt->List Sl->Prop)(es:List Dt)(δ':List Sl):Prop
 | mk (ds d:_) (h1:es= [d]) (h2:δ'[i]?=some 405) (h3:ds.length < sizeLine) (h4:Q .aC (δ'.set i (.ow (ds++ [d]))))
def QO(i:Nat)(t:fb):ba:=fun δ Q=>(∃lV,δ[i]?=some (.ow lV))/\t δ fun es δ'=>ER i Q es δ'
theorem eS(i:Nat){xp apos bp:Pos}(ho:PE X 124 (fu i))(ha:Av X [e] tA)(eP:attributeBase 124 "append" X.env (eval 124 X.env)=eval 124 X.env:=by rfl)(n8:108=true:=by rfl)(eM:246=true:=by rfl)(hs:starEach [e] X.env=(false,eval e X.env)::starEach [] X.env:=by rfl)(eL:(backTo bp 122).any (·.1)=false:=by rfl):
  Ev X (.Call (.Attribute 124 "append" apos) [e] [] bp) (QO i tA):=
 PE.imp (t9 ar4 PySem.F.slot_list_append PySem.F.type_list_append kN ho ha eP n8 eM hs eL) fun σ H Q cK=>(by obtain⟨W,M,α,δ,Qd,E,⟨⟨lV,h0⟩,q⟩,k⟩:=cK;exact(by
  obtain⟨a,NR,h1,h2,h3,r3⟩:=E.ow h0;refine⟨_,h1,.inl ⟨rfl,_,bL.of h3⟩,W,M,α,δ,_,E,q,fun es δ' H' vs qM E1 c1 r1=>?_⟩;obtain⟨ds,d,e,hd,l,q1⟩:=qM;subst e;obtain⟨y,ys,rfl,ry,rn⟩:=r1.aO;cases rn.eA;obtain⟨a',xs,iN,oa,si,oG⟩:=E1.ow hd;rw[h1] at iN;cases iN;refine⟨a,xs,y,rfl,rfl,si,by rw[oG.1];exact l,?_⟩;obtain⟨E2,c2⟩:=jH E1 hd h1 oa (oG.append (.one ry));exact k _ _ _ _ q1 E2 314 .aC))
inductive MD(i:Nat)(Q:Dt->List Sl->Prop)(d2:Dt)(δ':List Sl):Prop
 | mk (ds k d:_) (h1:δ'[i]?=some 405) (h2:d2= .int k) (h3:ke ds k=some d) (h4:Q d δ')
def Vg(i:Nat)(tb:ba):ba:=fun δ Q=>(∃lV,δ[i]?=some (.ow lV))/\tb δ fun d2 δ'=>MD i Q d2 δ'
theorem u7(i:Nat)(ho:PE X 124 (fu i))(hb:Ev X b tb)(hs:mP b:=by exact fun _ _=>rfl):Ev X (.Subscript 124 b pos) (Vg i tb):=
 PE.imp (yy mI ho hb hs) fun σ H Q fG=>(by obtain⟨W,M,α,δ,Qd,E,⟨⟨lV,h0⟩,q⟩,k⟩:=fG;exact(by
  obtain⟨a,NR,h1,h2,h3,r3⟩:=E.ow h0;refine⟨_,h1,W,M,α,δ,_,E,q,fun d2 δ' H' v qL E1 c1 r1=>?_⟩;obtain⟨ds,n,d,hd,e,hg,q1⟩:=qL;subst e;obtain⟨a',xs,iN,oa,si,oG⟩:=E1.ow hd;rw[h1] at iN;cases iN;obtain⟨y,hy,ry⟩:=mN oG hg;exact⟨a,xs,n,y,rfl,r1.ofInt,bL.of si,hy,k _ _ _ _ q1 E1 c1 ry⟩))
inductive QC(i:Nat)(δ:List Sl)(Q:Dt->List Sl->Prop):Prop
 | mk (ds:_) (h1:δ[i]?=some 405) (h2:Q (.int ds.length) δ)
theorem kZ(i:Nat)(hm:X.mg "len"=none)(ho:PE X 124 (fu i))(hg:Gl X "len":=by rfl)(he:starEach [.Name x xp] X.env=(false,eval 124 X.env)::starEach [] X.env:=by rfl)(dM:(backTo pos 122).any (·.1)=false:=by rfl):
  Ev X (.Call (.Name "len" p) [.Name x xp] [] pos) (QC i):=PE.imp (eI dX hg hm av4 (aj ho aK he) 105 105 he dM) fun σ H Q qK=>(by obtain⟨W,M,α,δ,Qd,E,⟨ds,hd,q⟩,k⟩:=qK;exact(by
  obtain⟨a,xs,h1,h2,h3,r3⟩:=E.ow hd;exact⟨_,h1,a,xs,rfl,.inl (bL.of h3),by rw[r3.1];exact k _ _ _ _ q E dS.rf (.int _)⟩))
inductive Qr(i:Nat)(δ:List Sl)(Q:Dt->List Sl->Prop):Prop
 | mk (ds:_) (h1:δ[i]?=some 405) (h2:Q (.tup ds) δ)
theorem xo(i:Nat)(hm:X.mg "tuple"=none)(ho:PE X 124 (fu i))(hg:Gl X "tuple":=by rfl)(he:starEach [.Name x xp] X.env=(false,eval 124 X.env)::starEach [] X.env:=by rfl)(dM:(backTo pos 122).any (·.1)=false:=by rfl):
  Ev X (.Call (.Name "tuple" p) [.Name x xp] [] pos) (Qr i):=PE.imp (eg i5 hg hm cE (aj ho aK he) 105 105 he dM) fun σ H Q i6=>(by obtain⟨W,M,α,δ,Qd,E,⟨ds,hd,q⟩,k⟩:=i6;exact(by
  obtain⟨a,xs,h1,h2,h3,r3⟩:=E.ow hd;refine⟨_,h1,a,xs,rfl,.inl ⟨bL.of h3,fun l hl=>?_⟩⟩;have s:aq H (upd H l 203):=aq.new hl;exact k _ _ _ _ q (E.same s) (dS.of s) (Rep.lz ae (E.fresh hl) (r3.same s))))
inductive Hy(Q:List Dt->List Sl->Prop)(ds:List Dt)(δ':List Sl):Prop
 | mk (es:_) (h1:(ds= [.lst es]\/ds= [.tup es])) (h2:Q es δ')
def dList(t:fb):xN:=fun δ Q=>t δ fun ds δ'=>Hy Q ds δ'
theorem Dc(hm:X.mg "list"=none)(ha:Av X [e] tA)(hg:Gl X "list":=by rfl)(he:starEach [e] X.env=(false,eval e X.env)::starEach [] X.env:=by rfl)(dM:(backTo pos 122).any (·.1)=false:=by rfl):
  Ov X (.Call (.Name "list" p) [e] [] pos) (dList tA):=PE.imp (eg kc hg hm cW ha 105 105 he dM) fun σ H Q vD=>(by obtain⟨W,M,α,δ,Qd,E,q,k⟩:=vD;exact(
 ⟨W,M,α,δ,_,E,q,fun ds δ1 H1 xs BA E1 c1 r0=>(by obtain⟨es,e,q1⟩:=BA;exact(by
  rcases e with e | e <;> subst e <;> obtain⟨x,ys,rfl,r1,r2⟩:=r0.aO <;> cases r2.eA
  . obtain⟨a,zs,rfl,ha,n,rr⟩:=r1.bO;exact⟨a,zs,rfl,.inl (bL.of ha),fun l hl=>k _ _ _ _ _ q1 E1 c1 rr hl⟩
  . obtain⟨a,zs,rfl,ha,n,rr⟩:=r1.bN;exact⟨a,zs,rfl,.inr (dF.of ha),fun l hl=>k _ _ _ _ _ q1 E1 c1 rr hl⟩))⟩))
inductive Hz(i:Nat)(Δ:dW)(d:Dt)(d2:Dt)(δ2:List Sl):Prop
 | mk (ds k j:_) (h1:δ2[i]?=some 405) (h2:d2= .int k) (h3:uK ds.length k=some j) (h4:Δ.nx (δ2.set i (.ow (ds.set j d))))
def QE(i:Nat)(tv tb:ba):jo:=fun Δ δ=>tv δ fun d δ1=>(∃lV,δ1[i]?=some (.ow lV))/\tb δ1 fun d2 δ2=>Hz i Δ d d2 δ2
theorem Cn (i : Nat) (hv : Ev X e tv) (ho : PE X 124 (fu i)) (hb : Ev X b tb) (ha : ∀ v, assign (.Subscript 124 b kA) X.env v = (do
   let ov<-holding [v] (eval 124 X.env)
   let iv<-holding [v,ov] (eval b X.env)
   standAt kA
   holding [v,ov,iv] (setItem ov iv v)
   release [v,ov,iv] []):=by intro _;rfl) (hs:swapsWithSole [.Subscript 124 b kA] e pos.line X.env=pure false:=by rfl) (hw:swappedStores [.Subscript 124 b kA] e X.env=pure none:=by rfl) (h1:(assignEach [.Subscript 124 b kA] X.env).map (·.2)= [assign (.Subscript 124 b kA) X.env]:=by rfl):Ex X (.Assign [.Subscript 124 b kA] e pos) (QE i tv tb):=
 PS.imp (rK hv (v7 ho hb set_list ha) hs hw h1) fun D σ H qJ=>(by obtain⟨Ws,M,α,δ,Δ,E,L,q⟩:=qJ;exact(
  ⟨Ws,M,α,δ,_,E,q,fun d δ1 H1 v mQ E1 c1 r1=>(by obtain⟨⟨lV,h0⟩,q1⟩:=mQ;exact(by
   obtain⟨a,NR,h1,h2,h3,r3⟩:=E1.ow h0;refine⟨_,h1,Ws,M,α,δ1,_,E1,q1,fun d2 δ2 H2 v2 By E2 c2 r2=>?_⟩;obtain⟨ds,n,j,hd,e,hj,q2⟩:=By;subst e;obtain⟨a',xs,iN,oa,si,oG⟩:=E2.ow hd;rw[h1] at iN;cases iN;refine⟨a,xs,n,j,rfl,r2.ofInt,si,by rw[oG.1];exact hj,?_⟩;obtain⟨E3,_⟩:=jH E2 hd h1 oa (oG.set 336 j);exact L.nx _ _ _ _ _ E3 q2))⟩))
theorem kX(r:ay M H xs ds):xs.isEmpty=ds.isEmpty:=by
 have:=r.1;cases xs <;> cases ds <;> simp at this ⊢
def SF:Dt->Option Bool
 | .aC=>some false
 | .bl b=>some b
 | .int i=>some (i !=0)
 | .lst ds=>some (!ds.isEmpty)
 | .tup ds=>some (!ds.isEmpty)
 | _=>none
inductive Mw(Q:Bool->List Sl->Prop)(d:Dt)(δ':List Sl):Prop
 | mk (b:_) (h1:SF d=some b) (h2:Q b δ')
def U9(t:ba):oF:=fun δ Q=>t δ fun d δ'=>Mw Q d δ'
theorem NY(h:Ev X e t)(he: ∀whole,isTrue e X.env whole=287:=by intro _;rfl):Tv X e (U9 t):=
 PT.imp (Cz h he) fun σ H Q JH=>(by obtain⟨W,M,α,δ,Qd,E,q,k⟩:=JH;exact(⟨W,M,α,δ,_,E,q,fun d δ' H' v Sx E1 c1 r1=>(by obtain⟨b,hb,q1⟩:=Sx;exact(⟨b,by
  cases r1 with
  | aC=>cases hb;rfl
  | bl c=>cases hb;rfl
  | int c=>cases hb;rfl
  | str c=>cases hb
  | lst h n l r=>cases hb;exact .inl ⟨_,bL.of h,by rw[kX ⟨l,r⟩]⟩
  | jn h n e l r=>cases hb
  | vz h n e l r=>cases hb
  | tup h n l r=>cases hb;exact .inr (.inl ⟨_,dF.of h,by rw[kX ⟨l,r⟩]⟩),k _ _ _ q1 E1 c1⟩))⟩))
end
def fg(S:DN):Sp:=fun vs H Q _=> ∃M ds Qd,kh M H/\ay M H vs ds/\S ds Qd/\ ∀r H' v',Qd r->aq H H'->Rep M H' v' r->Q v' H'
abbrev DB:=Int->List Dt->(Dt->Int->Prop)->Prop
def Bn(S:DB):Sp:=fun vs H Q _=> ∃M d c t ws ds Qd,vs= .ref d::ws/\kh M H/\M d/\M c/\xP H d c t/\ay M H ws ds/\S t ds Qd/\ ∀r t' H' v',Qd r t'->Kp d c H H'->xP H' d c t'->Rep M H' v' r->Q v' H'
section
variable{X:Cx}{e:Expr}{es:List Expr}{pos p:Pos}{x:Str}{k:Nat}{ps:List Str}
theorem cJ(h:iL X.prog X.w X.K X.mg X.base x k ps (fg S))(hr:ck k X.A)(ha:Av X (e::es) t)(hg:Gl X x:=by rfl)(oK:146=false:=by decide)(he:starEach (e::es) X.env=(false,eval e X.env)::starEach es X.env:=by rfl)(dM:(151).any (·.1)=false:=by rfl):
  Ev X 189 (AW S t):=PE.imp (nB h hr hg ha oK he dM) fun σ H Q cK=>(by obtain⟨W,M,α,δ,Qd,E,q,k⟩:=cK;exact(
 ⟨W,M,α,δ,_,E,q,fun ds δ' H' vs q1 E1 c1 r1=>by
  show fg S (vs++ []) H' Q E0;rw[ah8];exact⟨M,ds,_,E1.al,r1,q1,fun r H2 v2 q2 s r2=>k _ _ _ _ q2 (E1.same s) (c1.tr (dS.of s)) r2⟩⟩))
theorem aB.box{i:Nat}(E:aB Ws M α H σ δ)(h:δ[i]?=some (.bx t)): ∃d c,σ[i]?=some (some (.ref d))/\α[i]?=some [d,c]/\xP H d c t:=by
 obtain⟨o,as,h1,h2,d,c,rfl,rfl,r⟩:=E.sl i _ h;exact⟨d,c,h1,h2,r⟩
theorem HL(E:aB Ws M α H σ δ)(h:δ[i]?=some (.bx t))(h1:σ[i]?=some (some (.ref d)))(h2:α[i]?=some [d,c])(k:Kp d c H H')(B:xP H' d c t'):
  aB Ws M α H' σ (δ.set i (.bx t'))/\dS α H H':=
 E.mod h h1 h2 rfl ⟨d,c,rfl,rfl,B⟩ (fun b u e n=>k b u e (fun z=>n (by rw[z];simp)) (fun z=>n (by rw[z];simp))) (fun b hb=>by
  simp only [ad1,aa8,or_false] at hb;rcases hb with rfl | rfl
  . exact⟨_,B.dc,fun xs z=>by cases z⟩
  . obtain⟨ns,h,_⟩:=B.cs;exact⟨_,h,fun xs z=>by cases z⟩)
def QI(S:DB)(i:Nat)(t:fb):ba:=fun δ Q=>(∃t0,δ[i]?=some (.bx t0))/\t δ fun ds δ'=> ∃t,δ'[i]?=some (.bx t)/\S t ds fun r t'=>Q r (δ'.set i (.bx t'))
theorem i3(i:Nat)(h:iL X.prog X.w X.K X.mg X.base x k ps (Bn S))(hr:ck k X.A)(ho:PE X (.Name y yp) (fu i))(ha:Av X es t)(hg:Gl X x:=by rfl)(oK:146=false:=by decide)(he:starEach (.Name y yp::es) X.env=(false,eval (.Name y yp) X.env)::starEach es X.env:=by rfl)(dM:(151).any (·.1)=false:=by rfl):
  Ev X (.Call (.Name x p) (.Name y yp::es) [] pos) (QI S i t):=PE.imp (nB h hr hg (aj ho ha he) oK he dM) fun σ H Q cK=>(by obtain⟨W,M,α,δ,Qd,E,⟨⟨t0,h0⟩,q⟩,k⟩:=cK;exact(by
  obtain⟨d,c,h1,h2,B⟩:=E.box h0;refine⟨_,h1,W,M,α,δ,_,E,q,fun ds δ' H' vs gk E1 c1 r1=>?_⟩;obtain⟨t,hd,q1⟩:=gk;obtain⟨d',c',iN,oa,B'⟩:=E1.box hd;rw[h1] at iN;cases iN;show Bn S ((V.ref d::vs)++ []) H' Q E0;rw[ah8];refine⟨M,d,c',t,vs,ds,_,rfl,E1.al,E1.mu d (aV oa 112),E1.mu c' (aV oa 112),B',r1,q1,fun r t' H2 v2 q2 kp B2 r2=>?_⟩;obtain⟨E2,c2⟩:=HL E1 hd h1 oa kp B2;exact k _ _ _ _ q2 E2 314 r2))
end
section
variable{P:Program}{w:World}{K:PySem.W.Frag}{mg:Str->Option Value}{base:Heap}
theorem iJ(al:kh M H)(r:ay M H vs ds)(w: ∀W∈Ws,Xj W M (List.replicate 404 []) H (ds.map .im++List.replicate n .no)):
  aB Ws M (List.replicate 404 []) H 381 (ds.map .im++List.replicate n .no):=by
 have bG:(List.replicate 404 176).flatten= []:=by simp
 refine⟨by simp [r.1],by simp,fun i s h=>?_,by rw[bG];exact ao7,fun a ha=>by rw[bG] at ha;exact absurd ha aa8,al,w⟩;have hi:=(aa5.mp h).1;rw[ab8,aa2,an4] at hi;have ha:(List.replicate 404 176)[i]?=some []:=by rw[ad2,if_pos hi]
 by_cases hl:i < ds.length
 . rw[ad7 (by rw[aa2];exact hl),aa6,aa1 hl] at h;cases h;obtain⟨v,hv,rv⟩:=r.get (aa1 hl);exact⟨some v,[],by rw[ad7 (by rw[aa2,r.1];exact hl),aa6,hv];rfl,ha,rfl,v,rfl,rv⟩
 . rw[ae7 (by rw[aa2];omega),ad2] at h;split at h
   . rename_i hn;cases h;rw[aa2] at hn;exact⟨none,[],by rw[ae7 (by rw[aa2,r.1];omega),ad2,if_pos (by rw[aa2,r.1];exact hn)],ha,rfl⟩
   . cases h
theorem sv {x qual : Str} {st : Stmt} {k : Nat} (F : gC K x qual st f fd) (sc : aH N ps (ab st)) (len : ∀ ds Qd, S ds Qd -> ds.length = ps.length) (eO : ∀ (bK : Value) (A : Around) (outer : List Env) (s : Shared) (H : Hp) (E : XK), ck k 179 ->
   ∃T,zp (173).Bq (bT st) T/\ ∀ds Qd,S ds Qd->T {nx:=fun _=>Qd .aC,rt:=fun d _=>Qd d} (ds.map .im++List.replicate 135 .no)):
  bh P w K mg base dY (k+1) f fd ps (fg S):=by
 refine F.ok sc 273 182
 . obtain⟨M,ds,Qd,al,r,q,_⟩:=h;rw[r.1];exact len ds Qd q
 . obtain⟨M,ds,Qd,al,r,q,kk⟩:=h;obtain⟨T,hT,hq⟩:=eO bK A outer s H E hr;refine⟨lS T,hT,[⟨H,fun _=>False,M,M,none⟩],M,List.replicate (ds.length+135) [],ds.map .im++List.replicate 135 .no,_,?_,?_,hq ds Qd q⟩
   . have e:L2.start N vs=vs.map some++List.replicate 135 none:=by unfold L2.start;rw[r.1,len ds Qd q]
     rw[e];refine iJ al r fun W hW=>?_;rw[aa9.mp hW];have bG:(List.replicate (ds.length+135) 176).flatten= []:=by simp
     refine 208;rw[ad2] at h2;split at h2
     . cases h2;exact absurd ha aa8
     . cases h2
   . have same : ∀ {M' α' H' σ' δ'}, aB [⟨H, fun _ => False, M, M, none⟩] M' α' H' σ' δ' -> aq H H' /\ ∀ a, M a -> M' a := fun E' => by
       have k:=E'.w _ (aa9.mpr rfl);exact⟨fun b o e=>k.bs b o e (fun z=>z),k.m0⟩
     refine 161
theorem xg(al:kh M H)(r:ay M H vs ds)(B:xP H d c t)(Md:M d)(Mc:M c)(h0:W=⟨H,fun a=>a=d\/a=c,M,M,some (d,c)⟩):
  aB [W] M ([d,c]::List.replicate 404 []) H (some (.ref d)::381) (.bx t::(ds.map .im++List.replicate n .no)):=by
 have E0:=iJ (Ws:= []) (n:=n) al r (fun W hW=>absurd hW aa8);have bG:(List.replicate 404 176).flatten= []:=by simp
 have ef:(([d,c]:List Addr)::List.replicate 404 []).flatten= [d,c]:=by rw[ag5,bG,ah8]
 refine⟨by rw[ac1,ac1,E0.ls],by rw[ac1,ac1,E0.la],fun i s h=>?_,?_,fun a ha=>?_,al,fun W' hW=>?_⟩
 . cases i with
   | zero=>cases h;exact⟨_,_,rfl,rfl,d,c,rfl,rfl,B⟩
   | succ i=>obtain⟨o,as,h1,h2,h3⟩:=E0.sl i s 236;exact⟨o,as,by simpa using h1,by simpa using h2,h3⟩
 . rw[ef];simp [B.ne]
 . rw[ef] at ha;simp only [ad1,aa8,or_false] at ha;rcases ha with rfl | rfl <;> assumption
 . rw[aa9.mp hW,h0];refine⟨fun b o e _=>e,fun b n=>n,fun a ha=>?_,fun a h=>h,fun a h=> .inl h,fun d' c' e=>?_,fun j s as h1 h2 nb a ha=>?_⟩
   . rw[ef] at ha;simp only [ad1,aa8,or_false] at ha;exact .inl ha
   . cases e;exact⟨t,rfl,rfl⟩
   . cases j with
     | zero=>cases h1;cases nb
     | succ j=>
      rw[ao5,ad2] at h2;split at h2
      . cases h2;exact absurd ha aa8
      . cases h2
theorem WQ {x qual : Str} {st : Stmt} {k : Nat} (F : gC K x qual st f fd) (sc : aH N ps (ab st)) (len : ∀ t ds Qd, S t ds Qd -> ds.length + 1 = ps.length) (eO : ∀ (bK : Value) (A : Around) (outer : List Env) (s : Shared) (H : Hp) (E : XK), ck k 179 ->
   ∃T,zp (173).Bq (bT st) T/\ ∀t ds Qd,S t ds Qd->T {nx:=fun δ=> ∃t',δ[0]?=some (.bx t')/\Qd .aC t',rt:=fun d δ=> ∃t',δ[0]?=some (.bx t')/\Qd d t'} (.bx t::(ds.map .im++List.replicate 135 .no))):
  bh P w K mg base dY (k+1) f fd ps (Bn S):=by
 refine F.ok sc 273 182
 . obtain⟨M,d,c,t,ws,ds,Qd,rfl,al,md,mc,B,r,q,_⟩:=h;rw[ac1,r.1];exact len t ds Qd q
 . obtain⟨M,d,c,t,ws,ds,Qd,rfl,al,md,mc,B,r,q,kk⟩:=h;obtain⟨T,hT,hq⟩:=eO bK A outer s H E hr;refine⟨lS T,hT,[⟨H,fun a=>a=d\/a=c,M,M,some (d,c)⟩],M,[d,c]::List.replicate (ds.length+135) [], .bx t::(ds.map .im++List.replicate 135 .no),_,?_,?_,hq t ds Qd q⟩
   . have e : L2.start N (.ref d :: ws) = some (.ref d) :: (ws.map some ++ List.replicate 135 none) := by
       unfold L2.start;rw[ac2,List.cons_append,ac1,r.1,len t ds Qd q]
     rw[e];exact xg al r B md mc rfl
   . have same : ∀ {M' α' H' σ' δ' t'}, aB [⟨H, fun a => a = d \/ a = c, M, M, some (d, c)⟩] M' α' H' σ' δ' -> δ'[0]? = some (.bx t') -> Kp d c H H' /\ (∀ a, M a -> M' a) /\ xP H' d c t' := fun {M' α' H' σ' δ' t'} E' ht => by
       have k:=E'.w _ (aa9.mpr rfl);refine⟨fun b o e n1 n2=>k.bs b o e (fun z=>z.elim n1 n2),k.m0,?_⟩;obtain⟨t2,e1,e2⟩:=k.bx d c rfl;obtain⟨d3,c3,e3,e4,B3⟩:=E'.box ht;rw[e2] at e4;cases e4;exact B3
     refine⟨fun M' α' H' σ' δ' E' fG=>(by obtain⟨t',ht,q⟩:=fG;exact(kk _ _ _ _ q (same E' ht).1 (same E' ht).2.2 .aC)),fun M' α' H' σ' δ' v dd E' r' i6=>(by obtain⟨t',ht,q⟩:=i6;exact(kk _ _ _ _ q (same E' ht).1 (same E' ht).2.2 (r'.mono fun a o e n=>⟨e,fun z=>n ((same E' ht).2.1 a z)⟩))),fun _ _ _ _ _ _ z=>z.elim,fun _ _ _ _ _ _ z=>z.elim⟩
end
def Kf(M:Addr->Prop)(H H1:Hp):Prop:= ∀b o,H b=some o-> ¬M b->H1 b=some o
structure Yl(M:Addr->Prop)(H:Hp)(J:It)(ai:List Dt):Prop where
 go: ∀i H1 M',Kf M H H1->kh M' H1->(∀b,H b≠none-> ¬M b-> ¬M' b)->i < ai.length->J.go i H1/\ ∀x H2,J.Bl i H1 x H2->aq H1 H2/\ ∃d,ai[i]?=some d/\Rep M' H2 x d
 stop: ∀H1,Kf M H H1->J.stop ai.length H1
abbrev qI:=List Sl->(List Dt->List Sl->Prop)->Prop
inductive lI(t:qI)(σ:L2.St)(H:Hp)(R:It->Hp->Prop):Prop
 | mk (W:List Wd) (M:Addr->Prop) (α:List 225) (δ:List Sl) (Qd:List Dt->List Sl->Prop) (h1:aB W M α H σ δ) (h2:t δ Qd) (h3: ∀ai δ' H' J,Qd ai δ'->aB W M α H' σ δ'->dS α H H'->Yl M H' J ai->R J H')
theorem PI.imp(h:PI X tg iter t)(i: ∀σ H R,t' σ H R->t σ H R):PI X tg iter t':=fun pins s σ H R I q=>h pins s σ H R I (i _ _ _ q)
abbrev Iv(X:Cx)(tg iter:Expr)(t:qI):Prop:=PI X tg iter (lI t)
section
variable{X:Cx}{tg e a b:Expr}{ta t:ba}{tA:fb}{p pos:Pos}
theorem tm{lo:Int}:Yl M H (Q9 lo n) ((340).map fun k=> .int (lo+(k:Nat))):=by
 refine⟨fun i H1 M' kf mo hb hi=>⟨?_,fun x H2 cK=>?_⟩,fun H1 _=>?_⟩
 . rw[aa2,ac0] at hi;exact hi
 . obtain⟨e1,e2⟩:=cK;rw[aa2,ac0] at hi;subst e1;subst e2;exact⟨fun _ _ z=>z,.int (lo+i),by rw[aa6,af4 hi];rfl,.int _⟩
 . show n<=_;rw[aa2,ac0];exact aa4 _
inductive Hr(Q:List Dt->List Sl->Prop)(ds:List Dt)(δ':List Sl):Prop
 | mk (j:Int) (h1:ds= [.int j]) (h2: -(2^62)<=j) (h3:j < 2^62) (h4:Q ((List.range j.toNat).map fun k=> .int (0+(k:Nat))) δ')
def Qv(t:fb):qI:=fun δ Q=>t δ fun ds δ'=>Hr Q ds δ'
inductive Hq(Q:List Dt->List Sl->Prop)(ds:List Dt)(δ':List Sl):Prop
 | mk (i j:Int) (h1:ds= [.int i,.int j]) (h2:(-(2^62)<=i/\i < 2^62/\ -(2^62)<=j/\j < 2^62)) (h3:Q ((List.range (j - i).toNat).map fun k=> .int (i+(k:Nat))) δ')
def Qu(t:fb):qI:=fun δ Q=>t δ fun ds δ'=>Hq Q ds δ'
theorem jm(hm:X.mg "range"=none)(ha:Av X [a] tA)(hg:Gl X "range":=by rfl)(hs:starEach [a] X.env= [(false,eval a X.env)]:=by rfl):Iv X tg (.Call (.Name "range" p) [a] [] pos) (Qv tA):=PI.imp (zN hg hm ha hs) fun σ H R eU=>(by obtain⟨W,M,α,δ,Qd,E,q,k⟩:=eU;exact(
 ⟨W,M,α,δ,_,E,q,fun ds δ' H' vs gk E1 c1 r1=>(by obtain⟨j,e,l1,l2,q1⟩:=gk;exact(by
  subst e;obtain⟨x,ys,rfl,r2,r3⟩:=r1.aO;cases r3.eA;cases r2.ofInt;exact⟨j,rfl,l1,l2,k _ _ _ _ q1 E1 c1 tm⟩))⟩))
theorem n4(hm:X.mg "range"=none)(ha:Av X [a,b] tA)(hg:Gl X "range":=by rfl)(hs:starEach [a,b] X.env= [(false,eval a X.env),(false,eval b X.env)]:=by rfl)(gL:starEach [b] X.env= [(false,eval b X.env)]:=by rfl):Iv X tg (.Call (.Name "range" p) [a,b] [] pos) (Qu tA):=PI.imp (zM hg hm ha hs gL) fun σ H R fG=>(by obtain⟨W,M,α,δ,Qd,E,q,k⟩:=fG;exact(
 ⟨W,M,α,δ,_,E,q,fun ds δ' H' vs i6 E1 c1 r1=>(by obtain⟨i,j,e,l,q1⟩:=i6;exact(by
  subst e;obtain⟨x,ys,rfl,r2,r3⟩:=r1.aO;obtain⟨y,zs,rfl,r4,r5⟩:=r3.aO;cases r5.eA;cases r2.ofInt;cases r4.ofInt;exact⟨i,j,rfl,l,k _ _ _ _ q1 E1 c1 tm⟩))⟩))
theorem kT(r:ay M H xs ds)(kf:Kf M H H1)(hb: ∀b,H b≠none-> ¬M b-> ¬M' b):ay M' H1 xs ds:=r.mono fun a o e n=>⟨kf a o e n,hb a (by rw[e];intro z;cases z) n⟩
theorem FV{K:PySem.W.Frag}{M:Addr->Prop}{H:Hp}{a:Addr}(h:H a=some 159)(n: ¬M a)(r:ay M H xs ds):Yl M H (VO K a) ds:=by
 refine⟨fun i H1 M' kf mo hb hi=>?_,fun H1 kf=>⟨xs,bL.of 351,by rw[r.1];exact aa4 _⟩⟩;have rr:=kT r kf hb;have hx:xs[i]?=some (xs[i]'(by rw[r.1];exact hi)):=aa1 _;refine⟨⟨xs,_,bL.of 351,hx⟩,fun x H2 kq=>?_⟩;obtain⟨e,y⟩:=kq;subst e;have:=y xs (bL.of 351);exact⟨fun _ _ z=>z,_,aa1 hi,rr.2 i x _ this (aa1 hi)⟩
theorem JO{K:PySem.W.Frag}{M:Addr->Prop}{H:Hp}{a:Addr}(h:H a=some 203)(n: ¬M a)(r:ay M H xs ds):Yl M H (VN K a) ds:=by
 refine⟨fun i H1 M' kf mo hb hi=>?_,fun H1 kf=>⟨xs,dF.of 351,by rw[r.1];exact aa4 _⟩⟩;have rr:=kT r kf hb;have hx:xs[i]?=some (xs[i]'(by rw[r.1];exact hi)):=aa1 _;refine⟨⟨xs,_,dF.of 351,hx⟩,fun x H2 oO=>?_⟩;obtain⟨e,y⟩:=oO;subst e;have:=y xs (dF.of 351);exact⟨fun _ _ z=>z,_,aa1 hi,rr.2 i x _ this (aa1 hi)⟩
inductive MI(Q:List Dt->List Sl->Prop)(d:Dt)(δ':List Sl):Prop
 | mk (ds:_) (h1:d= .lst ds) (h2:Q ds δ')
def Vj(t:ba):qI:=fun δ Q=>t δ fun d δ'=>MI Q d δ'
inductive MG(Q:List Dt->List Sl->Prop)(d:Dt)(δ':List Sl):Prop
 | mk (ds:_) (h1:d= .tup ds) (h2:Q ds δ')
def Vi(t:ba):qI:=fun δ Q=>t δ fun d δ'=>MG Q d δ'
theorem gs(h:Ev X e t):Iv X tg e (Vj t):=PI.imp (Gw h) fun σ H R qJ=>(by obtain⟨W,M,α,δ,Qd,E,q,k⟩:=qJ;exact(⟨W,M,α,δ,_,E,q,fun d δ' H' v mQ E1 c1 r1=>(by obtain⟨ds,e,q1⟩:=mQ;exact(by
 subst e;obtain⟨a,xs,rfl,ha,n,rr⟩:=r1.bO;exact⟨a,rfl,⟨xs,bL.of ha⟩,k _ _ _ _ q1 E1 c1 (FV ha n rr)⟩))⟩))
theorem nZ(h:Ev X e t):Iv X tg e (Vi t):=PI.imp (Kx h) fun σ H R gm=>(by obtain⟨W,M,α,δ,Qd,E,q,k⟩:=gm;exact(⟨W,M,α,δ,_,E,q,fun d δ' H' v i7 E1 c1 r1=>(by obtain⟨ds,e,q1⟩:=i7;exact(by
 subst e;obtain⟨a,xs,rfl,ha,n,rr⟩:=r1.bN;exact⟨a,rfl,⟨xs,dF.of ha⟩,k _ _ _ _ q1 E1 c1 (JO ha n rr)⟩))⟩))
def aX(k:Nat)(ds:List Dt):List Dt:=ds.mapIdx fun i d=> .tup [.int 258,d]
theorem qN{K:PySem.W.Frag}{M:Addr->Prop}{H:Hp}{a:Addr}{k:Nat}(h:H a=some 203)(n: ¬M a)(r:ay M H xs ds):Yl M H (Nd K a k) (aX k ds):=by
 have hl:(aX k ds).length=ds.length:=by unfold aX;rw[ap6]
 refine⟨fun i H1 M' kf mo hb hi=>?_,fun H1 kf=>⟨xs,dF.of 351,by rw[r.1,hl]⟩⟩;rw[hl] at hi;have rr:=kT r kf hb;have hx:xs[i]?=some (xs[i]'(by rw[r.1];exact hi)):=aa1 _;refine⟨⟨xs,_,dF.of 351,hx⟩,fun x H2 mS=>?_⟩;obtain⟨pp,y,e1,e2,e3,e4⟩:=mS;subst e1;subst e3;have hy:=e4 xs (dF.of 351);have s:aq H1 (upd H1 pp (.tup [.int 258,y])):=aq.new e2;refine 259
inductive HC(k:Nat)(Q:List Dt->List Sl->Prop)(es:List Dt)(δ':List Sl):Prop
 | mk (ds:_) (h1:es= [.tup ds]) (h2:Q (aX k ds) δ')
def QJ(k:Nat)(t:fb):qI:=fun δ Q=>t δ fun es δ'=>HC k Q es δ'
theorem yM{x1}(hm:X.mg "enumerate"=none)(ha:Av X [e] tA)(hg:Gl X "enumerate":=by rfl)(hs:starEach [e] X.env= [(false,eval e X.env)]:=by rfl):Iv X 171 (.Call 241 [e] [] pos) (QJ 0 tA):=PI.imp (CJ hg hm ha hs) fun σ H R qM=>(by obtain⟨W,M,α,δ,Qd,E,q,k⟩:=qM;exact(
 ⟨W,M,α,δ,_,E,q,fun es δ' H' vs vF E1 c1 r1=>(by obtain⟨ds,e,q1⟩:=vF;exact(by
  subst e;obtain⟨x,ys,rfl,r2,r3⟩:=r1.aO;cases r3.eA;obtain⟨a,xs,rfl,ha,n,rr⟩:=r2.bN;exact⟨a,rfl,⟨xs,dF.of ha⟩,k _ _ _ _ q1 E1 c1 (qN ha n rr)⟩))⟩))
inductive EN(Q:List Dt->List Sl->Prop)(es:List Dt)(δ':List Sl):Prop
 | mk (ds:_) (h1:es= [.tup ds,.int 1]) (h2:Q (aX 1 ds) δ')
def MO(t:fb):qI:=fun δ Q=>t δ fun es δ'=>EN Q es δ'
theorem yL{x1}(hm:X.mg "enumerate"=none)(ha:Av X [e,f] tA)(hg:Gl X "enumerate":=by rfl)(hs:starEach [e,f] X.env= [(false,eval e X.env),(false,eval f X.env)]:=by rfl)(gL:starEach [f] X.env= [(false,eval f X.env)]:=by rfl):Iv X 171 (.Call 241 [e,f] [] pos) (MO tA):=PI.imp (CI hg hm ha hs gL) fun σ H R mR=>(by obtain⟨W,M,α,δ,Qd,E,q,k⟩:=mR;exact(
 ⟨W,M,α,δ,_,E,q,fun es δ' H' vs BC E1 c1 r1=>(by obtain⟨ds,e,q1⟩:=BC;exact(by
  subst e;obtain⟨x,ys,rfl,r2,r3⟩:=r1.aO;obtain⟨y,zs,rfl,r4,r5⟩:=r3.aO;cases r5.eA;cases r4.ofInt;obtain⟨a,xs,rfl,ha,n,rr⟩:=r2.bN;exact⟨a,rfl,⟨xs,dF.of ha⟩,k _ _ _ _ q1 E1 c1 (qN ha n rr)⟩))⟩))
def ez(xs ys:List Dt):List Dt:=List.zipWith (fun x y=> .tup [x,y]) xs ys
def S0(b:Bool)(ds:List Dt):Dt:=if b then .tup ds else .lst ds
theorem Rep.OW{b:Bool}(h:Rep M H v (S0 b ds)): ∃a xs,v= .ref a/\pA b H a xs/\ ¬M a/\ay M H xs ds/\ ∀H1,Kf M H H1->pA b H1 a xs:=by
 cases b with
 | true=>obtain⟨a,xs,e,ha,n,r⟩:=Rep.bN h;exact⟨a,xs,e,ha,n,r,fun H1 k=>k _ _ ha n⟩
 | false=>obtain⟨a,xs,e,ha,n,r⟩:=Rep.bO h;exact⟨a,xs,e,ha,n,r,fun H1 k=>k _ _ ha n⟩
theorem JN(k1: ∀H1,Kf M H H1->pA b1 H1 a1 xs)(k2: ∀H1,Kf M H H1->pA b2 H1 a2 ys)(r:ay M H xs ds)(r2:ay M H ys es):Yl M H (Q8 b1 b2 a1 a2) (ez ds es):=by
 have hl:(ez ds es).length=min ds.length es.length:=by unfold ez;rw[am5]
 refine⟨fun i H1 M' kf mo hb hi=>?_,fun H1 kf=>⟨xs,ys,k1 _ kf,k2 _ kf,by rw[hl,r.1,r2.1];grind⟩⟩;rw[hl] at hi;have rr:=kT r kf hb;have oX:=kT r2 kf hb;have hd:ds[i]?=some (ds[i]'(by grind)):=aa1 _;have he:es[i]?=some (es[i]'(by grind)):=aa1 _;obtain⟨x,hx,rx⟩:=rr.get hd;obtain⟨y,hy,ry⟩:=oX.get he;refine⟨⟨xs,x,ys,y,k1 _ kf,hx,k2 _ kf,hy⟩,fun v H2 BB=>?_⟩;obtain⟨pp,x',y',e1,e2,e3,e4,e5⟩:=BB;subst e1;subst e3;have h1:=e4 xs (k1 _ kf);have h2:=e5 ys (k2 _ kf);rw[hx] at h1;cases h1;rw[hy] at h2;cases h2;have s:aq H1 (upd H1 pp (.tup [x,y])):=aq.new e2;exact⟨s,_,by unfold ez;rw[List.getElem?_zipWith,hd,he],Rep.lz ae (mo.fresh e2) (.cons (rx.same s) (.one (ry.same s)))⟩
inductive Mv(Q:List Dt->List Sl->Prop)(es:List Dt)(δ':List Sl):Prop
 | mk (b1 b2 U1 U0:_) (h1:es= [S0 b1 U1,S0 b2 U0]) (h2:Q (ez U1 U0) δ')
def U7(t:fb):qI:=fun δ Q=>t δ fun es δ'=>Mv Q es δ'
theorem yK{x1}(ha:Av X [e,f] tA)(hp: ∀{t:TA},PA X [e,f] t->PI X 171 (.Call (.Name "zip" p) [e,f] [] pos) (Pg t)):Iv X 171 (.Call (.Name "zip" p) [e,f] [] pos) (U7 tA):=PI.imp (hp ha) fun σ H R qL=>(by obtain⟨W,M,α,δ,Qd,E,q,k⟩:=qL;exact(
 ⟨W,M,α,δ,_,E,q,fun es δ' H' vs qK E1 c1 r1=>(by obtain⟨b1,b2,U1,U0,e,q1⟩:=qK;exact(by
  subst e;obtain⟨x,ys,rfl,r2,r3⟩:=r1.aO;obtain⟨y,zs,rfl,r4,r5⟩:=r3.aO;cases r5.eA;obtain⟨a,xs,rfl,ha,n,rr,kk⟩:=r2.OW;obtain⟨a2,XG,rfl,WI,n2,oX,Ys⟩:=r4.OW;exact⟨b1,b2,a,a2,xs,XG,rfl,ha,WI,k _ _ _ _ q1 E1 c1 (JN kk Ys rr oX)⟩))⟩))
abbrev zr:=Dt->List Sl->(List Sl->Prop)->Prop
inductive lG(g:zr)(v:V)(σ:L2.St)(H:Hp)(Q:L2.St->Hp->Prop):Prop
 | mk (W:List Wd) (M:Addr->Prop) (α:List 225) (δ:List Sl) (d:Dt) (Qd:List Sl->Prop) (h1:aB W M α H σ δ) (h2:Rep M H v d) (h3:g d δ Qd) (h4: ∀α' δ' σ',Qd δ'->aB W M α' H σ' δ'->(∀x∈α'.flatten,x∈α.flatten)->Q σ' H)
theorem PG.imp{X:Cx}{tg:Expr}{t t':TG}(h:PG X tg t)(i: ∀v σ H Q,t' v σ H Q->t v σ H Q):PG X tg t':=fun pins s σ H v u Q I r q=>h pins s σ H v u Q I r (i _ _ _ _ q)
abbrev Gv(X:Cx)(tg:Expr)(g:zr):Prop:=PG X tg (lG g)
def Ey(i:Nat):zr:=fun d δ Q=>du δ i/\Q (δ.set i (.im d))
theorem fQ{α:List 225}: ∀x∈(342).flatten,x∈α.flatten:=fun x h=>(bJ h).elim id fun z=>absurd z aa8
theorem aS: ∀v σ H Q,lG (Ey i) v σ H Q->cI i v σ H Q:=fun v σ H Q vE=>(by obtain⟨W,M,α,δ,d,Qd,E,r,⟨ok,q⟩,k⟩:=vE;exact(k _ _ _ q (E.lC r ok) fQ))
theorem dj(i:Nat)(hN:X.N.Nodup)(hi:X.N[i]?=some x:=by rfl)(hx:Loc X.env.scope x:=by first | exact Or.inl rfl | exact Or.inr rfl)(hf:X.fn x=true\/X.env.scope.names.lookup x=some .local:=by first | exact .inl rfl | exact .inr rfl | assumption):Gv X 362 (Ey i):=PG.imp (aA hN hi hx hf) aS
inductive Ew(i:Nat)(j:Nat)(d:Dt)(δ:List Sl)(Q:List Sl->Prop):Prop
 | mk (d1 d2:_) (h1:d= .tup [d1,d2]) (h2:du δ i) (h3:du (δ.set i (.im d1)) j) (h4:Q ((δ.set i (.im d1)).set j (.im d2)))
theorem aW{i j:Nat}{K:PySem.W.Frag}: ∀v σ H Q,lG (Ew i j) v σ H Q->AD K 2 (gG (cI i) (gG (cI j) wZ)) v σ H Q:=fun v σ H Q vD=>(by obtain⟨W,M,α,δ,d,Qd,E,r,⟨d1,d2,e,OV,OU,q⟩,k⟩:=vD;exact(by
 subst e;obtain⟨a,xs,rfl,ha,n,rr⟩:=r.bN;obtain⟨x,ys,rfl,r2,r3⟩:=rr.aO;obtain⟨y,zs,rfl,r4,r5⟩:=r3.aO;cases r5.eA;exact⟨a,_,rfl,dF.of ha,rfl,x,_,rfl,y,_,rfl,rfl,k _ _ _ q ((E.lC r2 OV).lC r4 OU) fun x h=>fQ x (fQ x h)⟩))
theorem LY(i j:Nat)(hc:X.calm=true)(hN:X.N.Nodup)(hi:X.N[i]?=some x:=by rfl)(hj:X.N[j]?=some y:=by rfl)(hx:Loc X.env.scope x:=by first | exact Or.inl rfl | exact Or.inr rfl)(hy:Loc X.env.scope y:=by first | exact Or.inl rfl | exact Or.inr rfl)(hf:X.fn x=true\/X.env.scope.names.lookup x=some .local:=by first | exact .inl rfl | exact .inr rfl | assumption)(DU:X.fn y=true\/X.env.scope.names.lookup y=some .local:=by first | exact .inl rfl | exact .inr rfl | assumption)(hn:(352).length=2:=by rfl)(DL:(352).findIdx? (·.1)=none:=by rfl)(h1:(352).map (·.2)=assign (.Name x px) X.env::(assignEach [.Name y py] X.env).map (·.2):=by rfl)(h2:(assignEach [.Name y py] X.env).map (·.2)=assign 289 X.env::(assignEach [] X.env).map (·.2):=by rfl):
  Gv X (.Tuple [.Name x px,.Name y py] kk pos) (Ew i j):=PG.imp (cU hc (aF (aA hN hi hx hf) (aF (aA hN hj hy DU) bP h2) h1) hn DL) aW
end
section
variable{X:Cx}{tg iter c:Expr}{body:List Stmt}{ti:qI}{g:zr}{tb:jo}{u:oF}{pos:Pos}
def Vn(ti:qI)(g:zr)(tb:jo):jo:=fun Δ δ=>ti δ fun ai δ1=> ∃P:Nat->List Sl->Prop,P 0 δ1/\(∀i d δ2,ai[i]?=some d->P i δ2->g d δ2 fun δ3=>tb {Δ with nx:=P (i+1),ct:=P (i+1),bk:=Δ.nx} δ3)/\ ∀δ2,P ai.length δ2->Δ.nx δ2
theorem eE(hc:X.calm=true)(hi:Iv X tg iter ti)(hg:Gv X tg g)(hb:zp X body tb)(hp:PassesOwn 106 X.A X.env X.xe)(hs: ∀x,foldedSetIterable iter X.env x=pure x:=by intro _;rfl):Ex X (.For tg iter body [] pos) (Vn ti g tb):=
 PS.imp (Ku hp hc hi hg hb hs) fun D σ H cK=>(by obtain⟨Ws,M,α,δ,Δ,E,L,q⟩:=cK;exact(⟨Ws,M,α,δ,_,E,q,fun ai δ1 H1 J eU E1 c1 yl=>(by obtain⟨P,p0,step,fin⟩:=eU;exact(by
  refine⟨fun i m σ' H'=>m=ai.length - i/\i<=ai.length/\ ∃M' α' δ',aB (⟨H1,M,fun _=>False,M,none⟩::Ws) M' α' H' σ' δ'/\P i δ',⟨ai.length,by simp,ae3 _,M,α,δ1,E1.loop,p0⟩,?_⟩;rintro i m σ' H' ⟨rfl,hi,M',α',δ',E',p'⟩
  have w:=E'.w _ ac4;have kf:Kf M H1 H':=w.bs;have hb: ∀b,H1 b≠none-> ¬M b-> ¬M' b:=fun b n z y=>(w.m1 b y).elim z n;by_cases dQ:i < ai.length
  . obtain⟨go,Bl⟩:=yl.go i H' M' kf E'.al hb dQ;refine .inr ⟨go,fun σ2 H2=> ∃M2 α2 δ2,aB (⟨H1,M,fun _=>False,M,none⟩::Ws) M2 α2 H2 σ2 δ2/\P (i+1) δ2,fun σ2 H2 z=>⟨ai.length - (i+1),by grind,rfl,dQ,z⟩,fun x H2 y=>?_⟩;obtain⟨s,d,hd,rx⟩:=Bl x H2 y;refine⟨_,M',α',δ',d,_,E'.same s,rx,step i d δ' hd p',fun α3 δ3 σ3 q3 E3 _=>?_⟩;refine⟨_,M',α3,δ3,{Δ with nx:=P (i+1),ct:=P (i+1),bk:=Δ.nx},E3,⟨fun M4 α4 H4 σ4 δ4 E4 q4=>⟨M4,α4,δ4,E4,q4⟩,fun M4 α4 H4 σ4 δ4 v d E4 r4 q4=>L.rt _ _ _ _ _ _ _ E4.drop r4 q4,fun M4 α4 H4 σ4 δ4 E4 q4=>L.nx _ _ _ _ _ E4.drop q4,fun M4 α4 H4 σ4 δ4 E4 q4=>⟨M4,α4,δ4,E4,q4⟩⟩,q3⟩
  . have e:i=ai.length:=by grind
    subst e;exact .inl ⟨yl.stop H' kf,L.nx _ _ _ _ _ E'.drop (fin _ p')⟩))⟩))
def EF(u:oF)(tb:jo):jo:=fun Δ δ=> ∃P:Nat->List Sl->Prop,(∃m,P m δ)/\ ∀m δ1,P m δ1->u δ1 fun b δ2=>if b=true then tb {Δ with nx:=fun δ3=> ∃m',m' < m/\P m' δ3,ct:=fun δ3=> ∃m',m' < m/\P m' δ3,bk:=Δ.nx} δ2 else Δ.nx δ2
theorem yd(hc:Tv X c u)(hb:zp X body tb)(hp:PassesOwn 106 X.A X.env X.xe):Ex X (.While c body [] pos) (EF u tb):=
 PS.imp (CA hp hc hb) fun D σ H gk=>(by obtain⟨Ws,M,α,δ,Δ,E,L,P,⟨m0,p0⟩,turn⟩:=gk;exact(by
  refine⟨fun m σ' H'=> ∃M' α' δ',aB Ws M' α' H' σ' δ'/\P m δ',⟨m0,M,α,δ,E,p0⟩,?_⟩;rintro m σ' H' ⟨M',α',δ',E',p'⟩
  refine⟨Ws,M',α',δ',_,E',turn m δ' p',fun b δ2 H2 q2 E2 c2=>?_⟩;cases b with
  | true=>
   rw[if_pos rfl] at q2 ⊢;refine⟨fun σ3 H3=> ∃m',m' < m/\ ∃M3 α3 δ3,aB Ws M3 α3 H3 σ3 δ3/\P m' δ3,fun σ3 H3 z=>z,?_⟩;exact⟨Ws,M',α',δ2,{Δ with nx:=fun δ3=> ∃m',m' < m/\P m' δ3,ct:=fun δ3=> ∃m',m' < m/\P m' δ3,bk:=Δ.nx},E2,⟨fun M4 α4 H4 σ4 δ4 E4 Bz=>(by obtain⟨m',l,q4⟩:=Bz;exact(⟨m',l,M4,α4,δ4,E4,q4⟩)),L.rt,fun M4 α4 H4 σ4 δ4 E4 q4=>L.nx _ _ _ _ _ E4 q4,fun M4 α4 H4 σ4 δ4 E4 JI=>(by obtain⟨m',l,q4⟩:=JI;exact(⟨m',l,M4,α4,δ4,E4,q4⟩))⟩,q2⟩
  | false=>
   rw[if_neg ab3] at q2 ⊢;exact L.nx _ _ _ _ _ E2 q2))
end
def seen:Sl->Sl
 | .im d=> .im d
 | .fn f=> .fn f
 | _=> .no
def cin(nt:Nat)(js:List Nat)(δ:List Sl):List Sl:=List.replicate nt .no++js.map fun j=>seen (δ.getD j .no)
theorem sL{js:List Nat}(E:aB Ws M α H σ δ):aB [] M (List.replicate (nt+js.length) []) H 292 (cin nt js δ):=by
 have bG:(List.replicate (nt+js.length) 176).flatten= []:=by simp
 refine⟨by simp [kF,cin],by simp [cin],fun i s h=>?_,by rw[bG];exact ao7,fun a ha=>by rw[bG] at ha;exact absurd ha aa8,E.al,fun W hW=>absurd hW aa8⟩;have hi:=(aa5.mp h).1;have oJ:i < nt+js.length:=by simpa [cin] using hi
 have ha:(List.replicate (nt+js.length) 176)[i]?=some []:=by rw[ad2,if_pos oJ]
 unfold cin at h;unfold kF;by_cases hl:i < nt
 . rw[ad7 (by simpa using hl),ad2,if_pos hl] at h;cases h;exact⟨none,[],by rw[ad7 (by simpa using hl),ad2,if_pos hl],ha,rfl⟩
 . rw[ae7 (by simpa using hl),an4,aa6] at h;cases hj:js[i - nt]? with
   | none=>rw[hj] at h;cases h
   | some j=>
    rw[hj] at h;have hs:seen (δ.getD j .no)=s:=Option.some.inj h;refine⟨(σ[j]?).join,[],by rw[ae7 (by simpa using hl),an4,aa6,hj];rfl,ha,?_⟩;cases hd:δ[j]? with
    | none=>
     have:δ.getD j .no= .no:=by rw[List.getD,hd];rfl
     rw[this] at hs;subst hs;rfl
    | some s'=>
     have e:δ.getD j .no=s':=by rw[List.getD,hd];rfl
     rw[e] at hs;cases s' with
     | im d=>
      subst hs;obtain⟨v,h1,r⟩:=E.im hd;exact⟨rfl,v,by rw[h1];rfl,r⟩
     | fn f=>
      subst hs;obtain⟨o2,xD,h1,_,_,h3⟩:=E.sl j _ hd;exact⟨rfl,by rw[h1,h3];rfl⟩
     | _=>subst hs;rfl
section
variable{X:Cx}{N:List Str}{nt:Nat}{js:List Nat}{scope:Scope}{elt tg iter:Expr}{ifs:List Expr}{pos:Pos}{ti:qI}{g:zr}{tc:oF}{te:ba}
def zb(nt:Nat)(js:List Nat)(ti:qI)(g:zr)(tc:oF)(te:ba):xN:=fun δ Q=>ti δ fun ai δ1=>ai.length<=sizeLine/\ ∃(p:Dt->Bool) (f:Dt->Dt),(∀d∈ai,g d (cin nt js δ1) fun δ2=>tc δ2 fun b δ3=>b=p d/\(b=true->te δ3 fun r _=>r=f d))/\Q ((ai.filter p).map f) δ1
theorem lg(wR: ∀v σ H Q,lG g v σ H Q->gh v σ H Q): ∀σ H Q,lO (zb nt js ti g tc te) σ H Q->B8 nt js (lI ti) gh (lT tc) (lE te) σ H Q:=fun σ H Q cK=>(by obtain⟨W,M,α,δ,Qd,E,q,k⟩:=cK;exact(by
 refine⟨W,M,α,δ,_,E,q,fun ai δ1 H1 J eU E1 c1 yl D hD=>?_⟩;obtain⟨hsz,p,f,step,q1⟩:=eU;have s0:aq H1 (upd H1 D 353):=aq.new hD;refine⟨fun i m acc H2=>m=ai.length - i/\i<=ai.length/\H2 D=some (.lst acc)/\ay 134 H2 acc (((ai.take i).filter p).map f)/\aq H1 H2/\kh 134 H2,⟨ai.length,by simp,ae3 _,ae,.nil,s0,fun a ha=>?_⟩,?_⟩
 . rcases ha with ha | ha
   . obtain⟨o,e,n⟩:=E1.al a ha;exact⟨o,s0 _ _ e,n⟩
   . subst ha;exact 165
 rintro i m acc H2 ⟨rfl,hi,Hb,oY,s2,O3⟩
 have kf:Kf M H1 H2:=fun b o e _=>s2 _ _ e;by_cases dQ:i < ai.length
 . have hb: ∀b,H1 b≠none-> ¬M b-> ¬134 b:=fun b n z y=>y.elim z fun w=>n (by rw[w];exact hD);obtain⟨go,Bl⟩:=yl.go i H2 134 kf O3 hb dQ;have hlen:acc.length < sizeLine:=by
    rw[oY.1,aa2];exact an1 (ac6 (aj7 _ _) (by rw[al6];omega)) (ac8 dQ hsz)
   refine .inr ⟨go,hlen,fun cf H'=>H' D=some (.lst cf)/\ay 134 H' cf (((ai.take (i+1)).filter p).map f)/\aq H1 H'/\kh 134 H',fun cf H' gk=>(by obtain⟨z1,z2,z3,z4⟩:=gk;exact(⟨ai.length - (i+1),by omega,rfl,dQ,z1,z2,z3,z4⟩)),fun x H3 y=>?_⟩;obtain⟨s3,d,hd,rx⟩:=Bl x H3 y;have E2:aB [] 134 (List.replicate (nt+js.length) []) H2 292 (cin nt js δ1):=by
    have su:aq (upd H1 D (.lst acc)) H2:=fun b o e=>by
     by_cases hb:b=D
     . subst hb;rw[ae] at e;cases e;exact Hb
     . rw[ah hb] at e;exact s2 _ _ e
    have Ea:aB [] 134 α H2 σ δ1:=190
    exact sL Ea
   have E3:=E2.same s3;have bG:(List.replicate (nt+js.length) 176).flatten= []:=by simp
   refine wR _ _ _ _ ⟨[],_,_,_,d,_,E3,rx,step d (ac7 hd),fun α4 δ4 σ4 q4 E4 hα=>?_⟩;have L6:α4.flatten= []:=ao0.mpr fun x hx=>by have:=hα x hx;rw[bG] at this;exact absurd this aa8
   refine⟨[],_,α4,δ4,_,E4,q4,fun b δ5 H5 fG E5 c5=>?_⟩;obtain⟨hp,q5⟩:=fG;have s5:aq H3 H5:=fun b o e=>c5 b o e (by rw[L6];exact aa8);have Gf:aq H2 H5:=fun b o e=>s5 _ _ (s3 _ _ e);have tk:ai.take (i+1)=ai.take i++ [d]:=by rw[aq2,hd];rfl
   cases b with
   | false=>
    refine a9 ⟨Gf _ _ Hb,?_,fun b o e=>Gf _ _ (s2 _ _ e),E5.al⟩;rw[tk,as0,ae4];simp [<-hp];exact oY.same Gf
   | true=>
    refine cw ⟨[],_,α4,δ5,_,E5,q5 rfl,fun r δ6 H6 v e6 E6 c6 r6=>?_⟩;subst e6;have s6:aq H5 H6:=fun b o e=>c6 b o e (by rw[L6];exact aa8);have Ke:aq H2 H6:=fun b o e=>s6 _ _ (Gf _ _ e);have Ze:=Ke _ _ Hb;have up: ∀{zs:List V} {ds:List Dt},ay 134 H6 zs ds->ay 134 (upd H6 D (.lst (acc++ [v]))) zs ds:=fun r=>r.mono fun a o e n=>195
    refine⟨Ze,ae,?_,fun b o e=>by rw[ah (az e hD)];exact Ke _ _ (s2 _ _ e),fun a ha=>?_⟩
    . rw[tk,as0,ae4];have e1:List.filter p [d]= [d]:=by simp [<-hp]
      rw[e1];exact up ((oY.same Ke).append (.one r6))
    . by_cases hb:a=D
      . subst hb;exact 165
      . rw[ah hb];exact E6.al a ha
 . have e:i=ai.length:=by omega
   subst e;refine .inl ⟨yl.stop H2 kf,?_⟩;rw[ak2] at oY;have eH:upd 312 D (.lst acc)=H2:=by
    funext b
    by_cases hb:b=D
    . subst hb;rw[ae,Hb]
    . rw[ah hb,if_neg hb]
   rw[<-eH];have sH:aq H1 312:=fun b o e=>by
    show(if b=D then none else H2 b)=some o;rw[if_neg (az e hD)];exact s2 _ _ e
   refine k _ _ _ _ _ q1 (E1.same sH) (c1.tr (dS.of sH)) (oY.mono fun a o e n=>⟨?_,fun z=>n (.inl z)⟩) (by show(if D=D then none else H2 D)=none;rw[if_pos rfl]);show(if a=D then none else H2 a)=some o;rw[if_neg (fun z=>n (.inr z))];exact e))
theorem cM(S:mq X N nt js scope)(hc:X.calm=true)(hi:Iv X tg iter ti)(hg: ∀s H cl C ex,PG 109 tg gh)(ip:mj nt gh)(wR: ∀v σ H Q,lG g v σ H Q->gh v σ H Q)(hf: ∀s H cl C ex,PF 109 ifs (lT tc))(he: ∀s H cl C ex,Ev 109 elt te)(hs: ∀x,foldedSetIterable iter X.env x=pure x:=by intro _;rfl):Ov X 115 (zb nt js ti g tc te):=PE.imp (GA S hc hi hg ip hf he hs) (lg wR)
theorem rB(i:Nat){pos' py:Pos}(hN:X.N.Nodup)(S:mq X N nt js scope)(hc:X.calm=true)(hi:Iv X tg iter ti)(hg: ∀s H cl C ex,PG 109 tg gh)(ip:mj nt gh)(wR: ∀v σ H Q,lG g v σ H Q->gh v σ H Q)(hf: ∀s H cl C ex,PF 109 ifs (lT tc))(he: ∀s H cl C ex,Ev 109 elt te)(G6:X.N[i]?=some y:=by rfl)(hy:Loc X.env.scope y:=by first | exact Or.inl rfl | exact Or.inr rfl)(G4:swapsWith 115 (some 289) pos'.line X.env=pure true:=by rfl)(hs: ∀x,foldedSetIterable iter X.env x=pure x:=by intro _;rfl)(Ax:X.fn y=true\/X.env.scope.names.lookup y=some .local:=by first | exact .inl rfl | exact .inr rfl | assumption):
  Ex X (.Assign [.Name y py] 115 pos') (EH i (zb nt js ti g tc te)):=PS.imp (yt hN G6 hy S hc hi hg ip hf he G4 hs Ax) fun D σ H h=>by
 obtain⟨Ws,M,α,δ,Δ,E,L,q⟩:=h;exact lg wR _ _ _ ⟨Ws,M,α,δ,_,E,q,fun ds δ' H1 xs a i6 E1 c1 r1 h1=>(by obtain⟨ok,q1⟩:=i6;exact(L.nx _ _ _ _ _ (E1.m7 (s:= .ow ds) h1 325 ok rfl ⟨a,xs,rfl,rfl,ae,r1.grow h1⟩) q1))⟩
def Jk:oF:=fun δ Q=>Q true δ
theorem dI:PF X [] (lT Jk):=fun pins s σ H Q I kq=>(by obtain⟨W,M,α,δ,Qd,E,q,k⟩:=kq;exact(Kz pins s σ H Q I (k _ _ _ q E dS.rf)))
theorem lU(h:Tv X c t):PF X [c] (lT t):=Ky h
theorem bH{nt i j:Nat}{K:PySem.W.Frag}(hi:i < nt:=by decide)(hj:j < nt:=by decide):mj nt (AD K 2 (gG (cI i) (gG (cI j) wZ))):=D4 (qi hi (wW qh) (qi hj qh D5))
end
structure Bg(Ws:List Wd)(M:Addr->Prop)(α:List 225)(a:Addr):Prop where
 m:M a
 n:a∉α.flatten
 w: ∀W∈Ws,(W.A0 a\/W.H0 a=none)/\ ¬W.M0 a
def VQ(M:Addr->Prop)(H:Hp)(v:V)(s:Sl)(as:List Addr):Prop:=s.bo=false/\tj M H 356 s as
inductive FD(Ws:List Wd)(M:Addr->Prop)(α:List 225)(H:Hp):List V->List Sl->List Addr->Prop where
 | nil:FD Ws M α H [] [] []
 | cons {v:V} {s:Sl} {as bs:List Addr} {vs:List V} {ss:List Sl}:VQ M H v s as->(∀a∈as,Bg Ws M α a)->as.Nodup->(∀a∈as,a∉bs)->FD Ws M α H vs ss bs->FD Ws M α H (v::vs) (s::ss) (as++bs)
abbrev JD:=List Sl->(List Sl->List Sl->Prop)->Prop
inductive lH(t:JD)(σ:L2.St)(H:Hp)(Q:List V->Hp->Prop):Prop
 | mk (W:List Wd) (M:Addr->Prop) (α:List 225) (δ:List Sl) (Qd:List Sl->List Sl->Prop) (h1:aB W M α H σ δ) (h2:t δ Qd) (h3: ∀ss δ' H' vs M' bs,Qd ss δ'->aB W M' α H' σ δ'->dS α H H'->(∀a,M a->M' a)->(∀a,M' a->M a\/H a=none)->FD W M' α H' vs ss bs->(∀a∈bs,¬M a)->Q vs H')
abbrev Hv(X:Cx)(es:List Expr)(t:JD):Prop:=PA X es (lH t)
theorem tj.keep(h:tj M H o s as)(k: ∀b u,H b=some u-> ¬M b->H' b=some u/\ ¬M' b)(k2: ∀a∈as,∀u,H a=some u->H' a=some u)(nb:s.bo=false):tj M' H' o s as:=by
 cases s with
 | no=>exact h
 | im d=>exact⟨h.1,let ⟨v,e,r⟩:=h.2;⟨v,e,r.mono k⟩⟩
 | ow ds=>obtain⟨a,xs,e1,e2,e3,r⟩:=h;subst e1;exact⟨a,xs,rfl,e2,k2 a 112 _ e3,r.mono k⟩
 | bx t=>cases nb
 | dk ks ds=>obtain⟨a,vs,e1,e2,e3,e4,r⟩:=h;subst e1;exact⟨a,vs,rfl,e2,k2 a 112 _ e3,e4,r.mono k⟩
 | ob R=>obtain⟨v,e,r⟩:=h;exact⟨v,e,R.st r (fun a ha u q=>k2 a ha _ q) k⟩
 | fn f=>exact h
section
variable{X:Cx}{e:Expr}{es:List Expr}{t:ba}{th:JD}
def UJ:JD:=fun δ Q=>Q [] δ
def Zd(t:ba)(th:JD):JD:=fun δ Q=>t δ fun d δ1=>th δ1 fun ss δ2=>Q (.im d::ss) δ2
theorem IW:Hv X [] UJ:=PA.imp aK fun σ H Q cK=>(by obtain⟨W,M,α,δ,Qd,E,q,k⟩:=cK;exact(k _ _ _ _ _ _ q E dS.rf (fun _ z=>z) (fun _ z=> .inl z) .nil 387))
theorem G9(ha:Ev X e t)(hr:Hv X es th)(hs:starEach (e::es) X.env=(false,eval e X.env)::starEach es X.env:=by rfl):Hv X (e::es) (Zd t th):=PA.imp (aj ha hr hs) fun σ H Q eU=>(by obtain⟨W,M,α,δ,Qd,E,q,k⟩:=eU;exact(
 ⟨W,M,α,δ,_,E,q,fun d δ1 H1 x q1 E1 c1 r1=>⟨W,M,α,δ1,_,E1,q1,fun ss δ2 H2 vs M' bs q2 E2 c2 m1 m2 hh hb=>
  k _ _ _ _ _ _ q2 E2 314 m1 (fun a z=>(m2 a z).elim .inl fun y=>by
   cases e:H a with
   | none=>exact .inr rfl
   | some o => by_cases hf : a ∈ α.flatten
               . exact .inl (E.mu a hf)
               . rw[c1 _ _ e hf] at y;cases y)
   (FD.cons (as:= []) ⟨rfl,rfl,x,rfl,r1.mono fun a o e n=>⟨c2 _ _ e fun z=>n (E1.mu a z),fun z=>(m2 a z).elim n fun y=>by rw[e] at y;cases y⟩⟩ 387 ao7 387 hh) hb⟩⟩))
theorem aB.hold(E:aB W M α H σ δ)(hp:H p=none)(hu: ∀xs,u≠ .tup xs):aB W 254 α (upd H p u) σ δ/\Bg W 254 α p:=by
 have sm:aq H (upd H p u):=aq.new hp;have np:p∉α.flatten:=fun z=>E.fresh hp (E.mu p z);have h0: ∀W'∈W,W'.H0 p=none:=fun W' hW=>by
  cases e:W'.H0 p with
  | none=>rfl
  | some o=>exact absurd hp ((E.w W' hW).ex p (by rw[e];intro z;cases z))
 refine⟨⟨E.ls,E.la,fun j s hj=>let ⟨o,as,h1,h2,h3⟩:=E.sl j s hj;⟨o,as,h1,h2,h3.grow hp⟩,E.nd,fun a h=> .inl (E.mu a h),fun a ha=>?_,fun W' hW=>?_⟩,⟨.inr rfl,np,fun W' hW=>⟨.inr (h0 W' hW),fun z=>E.fresh hp ((E.w W' hW).m0 p z)⟩⟩⟩
 . rcases ha with ha | ha
   . obtain⟨o,e,n⟩:=E.al a ha;exact⟨o,sm _ _ e,n⟩
   . subst ha;exact⟨u,ae,hu⟩
 . have k:=E.w W' hW;exact⟨fun b o e n=>sm _ _ (k.bs b o e n),fun b n y=>k.ex b n (LW.aq.none sm y),k.fr,fun a h=> .inl (k.m0 a h),fun a h=>h.elim (k.m1 a) fun z=> .inr (by rw[z];exact h0 W' hW),k.bx,k.fz⟩
end
theorem aB.Ci(E:aB Ws M α H σ δ)(h:VQ M H v s as)(hh: ∀a∈as,Bg Ws M α a)(nd:as.Nodup)(ok:du δ i):aB Ws M (α.set i as) H 329 (δ.set i s):=by
 have hi:=ok.lt;obtain⟨s0,DM,nb⟩:=ok;refine⟨by rw[ad5,ad5,E.ls],by rw[ad5,ad5,E.la],fun j s' hj=>?_,cB E.nd nd (fun x hx=>(hh x hx).n),fun a ha=>(bJ ha).elim (E.mu a) fun z=>(hh a z).m,E.al,fun W hW=>?_⟩
 . by_cases bE:i=j
   . subst bE;rw[ac3 hi] at hj;cases hj;exact⟨some v,as,by rw[ac3 (by rw[E.ls];exact hi)],by rw[ac3 326],h.2⟩
   . rw[ab2 bE] at hj;obtain⟨o,as,h1,h2,h3⟩:=E.sl j s' hj;exact⟨o,as,by rw[ab2 bE];exact h1,by rw[ab2 bE];exact h2,h3⟩
 . have k:=E.w W hW;refine⟨k.bs,k.ex,fun a ha=>(bJ ha).elim (k.fr a) fun z=>((hh a z).w W hW).1,k.m0,k.m1,fun d c e=>?_,fun j s as' h1 h2 nb'=>?_⟩
   . obtain⟨t,e1,e2⟩:=k.bx d c e;have:i≠0:=fun z=>by subst z;rw[DM] at e1;cases e1;cases nb
     exact 145
   . by_cases bE:i=j
     . subst bE;rw[ac3 326] at h2;cases h2;exact fun a ha=>((hh a ha).w W hW).2
     . rw[ab2 bE] at h1 h2;exact k.fz j s as' h1 h2 nb'
theorem Bg.set(h:Bg Ws M α a)(n:a∉as):Bg Ws M (α.set i as) a:=⟨h.m,fun z=>(bJ z).elim h.n n,h.w⟩
section
variable{X:Cx}{a b c:Expr}{pos:Pos}{th:JD}
inductive Ht(i:Nat)(j:Nat)(Δ:dW)(ss:List Sl)(δ':List Sl):Prop
 | mk (s1 s2:_) (h1:ss= [s1,s2]) (h2:du δ' i) (h3:du (δ'.set i s1) j) (h4:Δ.nx ((δ'.set i s1).set j s2))
def Qy(i j:Nat)(th:JD):jo:=fun Δ δ=>th δ fun ss δ'=>Ht i j Δ ss δ'
theorem Cm(i j:Nat){kt k2 Ks}(hc:X.calm=true)(hN:X.N.Nodup)(ha:Hv X [a,b] th)(hi:X.N[i]?=some x:=by rfl)(hj:X.N[j]?=some y:=by rfl)(bE:i≠j:=by decide)(hx:X.env.scope.names.lookup x=some .local:=by rfl)(hy:X.env.scope.names.lookup y=some .local:=by rfl)(hw:swappedStores [.Tuple [.Name x px, .Name y py] kt pt] 354 X.env=pure (some [x,y]):=by rfl)(hs:swapsWithSole [.Tuple [.Name x px, .Name y py] kt pt] 354 pos.line X.env=pure false:=by rfl):
  Ex X (.Assign [.Tuple [.Name x px,.Name y py] kt pt] 354 pos) (Qy i j th):=PS.imp (Kt hc hN hi hj bE hx hy ha hw hs) fun D σ H i6=>(by obtain⟨Ws,M,α,δ,Δ,E,L,q⟩:=i6;exact(
 ⟨Ws,M,α,δ,_,E,q,fun ss δ' H' vs M' bs kq E1 c1 m1 m2 hh hb=>(by obtain⟨s1,s2,e,OV,OU,q1⟩:=kq;exact(by
  subst e;cases hh with
  | cons h1 h2 h3 h4 h5=>
   cases h5 with
   | cons g1 g2 g3 g4 g5=>
    cases g5;rename_i v1 as1 v2 xD;have Ea:=E1.Ci h1 h2 h3 OV;have Eb:=Ea.Ci (i:=j) g1 (fun a ha=>(g2 a ha).set fun z=>h4 a z (by simpa using ha)) g3 OU;exact⟨_,_,rfl,L.nx _ _ _ _ _ Eb q1⟩))⟩))
end
def Dz:Dt->Option Key
 | .int i=>some (.inl i)
 | .str x=>some (.inr x)
 | _=>none
theorem jT(r:Rep M H v d)(h:Dz d=some k):v=kV k:=by
 cases r <;> first | (cases h;rfl) | cases h
def cN:List Key->List Dt->Key->Option Dt
 | k'::ks,d::ds,k=>if k'=k then some d else cN ks ds k
 | _,_,_=>none
instance {k:Key} {ks:List Key}:Decidable (k∈ks):=decidable_of_iff ((ks.any fun x=>decide (x=k))=true) 112
def jC(ks:List Key)(k:Key):List Key:=if k∈ks then ks else ks++ [k]
def lF(ks:List Key)(ds:List Dt)(k:Key)(d:Dt):List Dt:=if k∈ks then List.zipWith (fun k' x=>if k'=k then d else x) ks ds else ds++ [d]
theorem pG: ∀{ks:List Key} {ds:List Dt} {k:Key},k∉ks->cN ks ds k=none
 | [],_,_,_=>by simp [cN]
 | _::_,[],_,_=>by simp [cN]
 | k'::ks,d::ds,k,h=>by
  rw[cN,if_neg (fun z=>h (by rw[z];exact ac4)),pG fun z=>h (ab6 _ z)]
theorem tI: ∀{ks:List Key} {ds:List Dt} {k k':Key} {d:Dt},ks.length=ds.length->cN (ks++ [k']) (ds++ [d]) k=(cN ks ds k).or (if k'=k then some d else none)
 | [],[],k,k',d,_=>by simp [cN]
 | [],_::_,_,_,_,h=>by simp at h
 | _::_,[],_,_,_,h=>by simp at h
 | k0::ks,d0::ds,k,k',d,h=>by
  rw[List.cons_append,List.cons_append,cN,cN,tI 236];split <;> simp
theorem tH: ∀{ks:List Key} {ds:List Dt} {k k':Key} {d:Dt},ks.length=ds.length->cN ks (List.zipWith (fun Yt x=>if Yt=k' then d else x) ks ds) k=if k'=k then(if k∈ks then some d else none) else cN ks ds k
 | [],[],k,k',d,_=>by simp [cN]
 | [],_::_,_,_,_,h=>by simp at h
 | _::_,[],_,_,_,h=>by simp at h
 | k0::ks,d0::ds,k,k',d,h=>by
  rw[am8,cN,cN,tH 236];by_cases h1:k0=k
  . subst h1;by_cases h2:k0=k'
    . subst h2;simp
    . simp [h2,Ne.symm h2]
  . by_cases h2:k'=k
    . subst h2;simp [h1,Ne.symm h1]
    . simp [h1,h2]
theorem BN{ks:List Key}{ds:List Dt}(hl:ks.length=ds.length):cN (jC ks k') (lF ks ds k' d) k=if k'=k then some d else cN ks ds k:=by
 unfold jC lF;by_cases h:k'∈ks
 . rw[if_pos h,if_pos h,tH hl];by_cases h2:k'=k
   . subst h2;rw[if_pos rfl,if_pos rfl,if_pos h]
   . rw[if_neg h2,if_neg h2]
 . rw[if_neg h,if_neg h,tI hl];by_cases h2:k'=k
   . subst h2;rw[pG h];simp
   . rw[if_neg h2,if_neg h2];simp
theorem Gr{ks:List Key}{ds:List Dt}(hl:ks.length=ds.length):(jC ks k).length=(lF ks ds k d).length:=by
 unfold jC lF;split
 . rw[am5];omega
 . simp [hl]
theorem mz: ∀{vs:List 264} {ds:List Dt},ay M H 277 ds->(∀d,cN ((vs.map (·.1))) ds k=some d-> ∃v,gO vs k=some v/\Rep M H v d)/\(cN ((vs.map (·.1))) ds k).isSome=(gO vs k).isSome
 | [],ds,r=>by
  refine⟨fun d h=>?_,?_⟩
  . cases ds <;> simp [cN] at h
  . cases ds <;> rfl
 | p::vs,[],r=>by have:=r.1;simp at this
 | p::vs,d0::ds,r=>by
  obtain⟨x,ys,e,r1,r2⟩:=r.aO;cases e;obtain⟨i1,i2⟩:=mz (k:=k) r2;rw[ac2];by_cases h:p.1=k
  . rw[jr h,cN,if_pos h];exact⟨fun d e=>by cases e;exact⟨_,rfl,r1⟩,rfl⟩
  . rw[jt h,cN,if_neg h];exact⟨i1,i2⟩
theorem mO: ∀{vs:List 264},(vs.any fun kv=>decide (kv.1=k))=decide (k∈vs.map (·.1))
 | []=>by simp
 | p::vs=>by
  rw[ao3,mO,ac2];by_cases h:p.1=k
  . subst h;simp
  . simp [h,Ne.symm h]
theorem Gs:(putK vs k v).map (·.1)=jC ((vs.map (·.1))) k:=by
 unfold putK jC;rw[mO];by_cases h:k∈vs.map (·.1)
 . rw[if_pos 236,if_pos h,ae1];refine ae9 fun p hp=>?_;simp only [Function.comp];split <;> rfl
 . rw[if_neg 236,if_neg h,ae4];rfl
theorem ym(rv:Rep M H v d): ∀{vs:List 264} {ds:List Dt},ay M H 277 ds->ay M H ((vs.map fun kv=>if kv.1=k then(kv.1,v) else kv).map (·.2)) (List.zipWith (fun k' x=>if k'=k then d else x) ((vs.map (·.1))) ds)
 | [],ds,r=>by simp;exact .nil
 | p::vs,[],r=>by have:=r.1;simp at this
 | p::vs,d0::ds,r=>by
  obtain⟨x,ys,e,r1,r2⟩:=r.aO;cases e;rw[ac2,ac2,ac2,am8];refine .cons ?_ (ym rv r2);by_cases h:p.1=k
  . rw[if_pos h,if_pos h];exact rv
  . rw[if_neg h,if_neg h];exact r1
theorem Gq{vs:List 264}(r:ay M H 277 ds)(rv:Rep M H v d):ay M H ((putK vs k v).map (·.2)) (lF ((vs.map (·.1))) ds k d):=by
 unfold putK lF;rw[mO];by_cases h:k∈vs.map (·.1)
 . rw[if_pos 236,if_pos h];exact ym rv r
 . rw[if_neg 236,if_neg h,ae4];exact r.append (.one rv)
theorem aB.dk{i:Nat}(E:aB Ws M α H σ δ)(h:δ[i]?=some 406): ∃a vs,σ[i]?=some (some 226)/\α[i]?=some [a]/\H a=some (.dK vs)/\vs.map (·.1)=ks/\ay M H 277 ds:=by
 obtain⟨o,as,h1,h2,a,vs,rfl,rfl,e,e2,r⟩:=E.sl i _ h;exact⟨a,vs,h1,h2,e,e2,r⟩
theorem Er{vs':List 264}(E:aB Ws M α H σ δ)(h:δ[i]?=some 406)(h1:σ[i]?=some (some 226))(h2:α[i]?=some [a])(e:vs'.map (·.1)=Yr)(r:ay M H (vs'.map (·.2)) oN):
  aB Ws M α (upd H a (.dK vs')) σ (δ.set i (.dk Yr oN))/\dS α H (upd H a (.dK vs')):=
 E.mod h h1 h2 rfl ⟨a,vs',rfl,rfl,ae,e,r.mono fun b u e n=>⟨by rw[ah (fun z=>n (by rw[z];exact E.mu a (aV h2 112)))];exact e,n⟩⟩ 270 (fun b hb=>by rw[aa9.mp hb];exact 165)
theorem aB.UP(E:aB Ws M α H σ δ)(hi:δ[i]?=some 406): ∃M' α',aB Ws M' α' H σ 306:=by
 have dQ:=(348).1;obtain⟨a,xs,h1,h2,h3,h4,r⟩:=E.dk hi;have mono: ∀{v:V} {d:Dt},Rep M H v d->Rep 243 H v d:=fun r=>r.mono fun b u e n=>309
 have hG: ∀{v:List V} {d:List Dt},ay M H v d->ay 243 H v d:=fun r=>r.mono fun b u e n=>309
 refine⟨fun b=>M b/\b≠a,α.set i [],141⟩
 . by_cases bE:i=j
   . subst bE;rw[ac3 dQ] at hj;cases hj;have rm:=hG r;exact⟨some 226,[],h1,by rw[ac3 228],rfl,_,rfl,.jn h3 (fun z=>z.2 rfl) h4 rm.1 rm.2⟩
   . rw[ab2 bE] at hj;obtain⟨o2,xD,g1,g2,g3⟩:=E.sl j s hj;refine⟨o2,xD,g1,by rw[ab2 bE];exact g2,?_⟩;cases s with
     | no=>exact g3
     | im d=>exact⟨g3.1,let ⟨v,e,r⟩:=g3.2;⟨v,e,mono r⟩⟩
     | ow ds=>obtain⟨b,xs,e1,e2,e3,r⟩:=g3;exact⟨b,xs,e1,e2,e3,hG r⟩
     | bx t=>exact g3
     | dk ks ds=>obtain⟨b,vs,e1,e2,e3,e4,r⟩:=g3;exact⟨b,vs,e1,e2,e3,e4,hG r⟩
     | ob R=>obtain⟨v,e,r⟩:=g3;exact 248
     | fn f=>exact g3
 . obtain⟨l,hl,hx⟩:=aq7.mp hb;obtain⟨j,hj,e⟩:=ah2 hl;have ej:(342)[j]?=some l:=by rw[aa1 hj,e]
   by_cases bE:i=j
   . subst bE;rw[ac3 228] at ej;cases ej;exact absurd hx aa8
   . rw[ab2 bE] at ej;refine⟨E.mu b (aV ej hx),fun z=>?_⟩;subst z;exact eQ E.nd ej h2 (Ne.symm bE) hx 112
 . have k:=E.w W hW;refine 133
   . subst y;exact k.fz i _ _ hi h2 rfl b 112 z
   . obtain⟨t,e1,e2⟩:=k.bx d c e;have:i≠0:=fun z=>by subst z;rw[hi] at e1;cases e1
     exact 145
   . by_cases bE:i=j
     . subst bE;rw[ac3 228] at g2;cases g2;exact fun b hb=>absurd hb aa8
     . rw[ab2 bE] at g1 g2;exact k.fz j s as g1 g2 nb
section
variable{X:Cx}{st:Stmt}{rest:List Stmt}{T:jo}{a b c e:Expr}{ta tb tv t:ba}{pos:Pos}
inductive Jo(i:Nat)(T:jo)(Δ:dW)(δ:List Sl):Prop
 | mk (ks ds:_) (h1:δ[i]?=some 406) (h2:T Δ 306)
theorem AE: ∀D σ H,lS (Jo i T) D σ H->lS T D σ H:=fun D σ H cK=>(by obtain⟨Ws,M,α,δ,Δ,E,L,ks,ds,h,q⟩:=cK;exact(by
 obtain⟨M',α',E'⟩:=E.UP h;exact⟨Ws,M',α',_,Δ,E',L,q⟩))
theorem J8(i:Nat)(h:Ex X st T):Ex X st (Jo i T):=PS.imp h AE
inductive HE(i:Nat)(Δ:dW)(d:Dt)(d2:Dt)(δ2:List Sl):Prop
 | mk (k ks ds:_) (h1:Dz d2=some k) (h2:δ2[i]?=some 406) (h3:ks.length < sizeLine) (h4:Δ.nx (δ2.set i (.dk (jC ks k) (lF ks ds k d))))
def QL(i:Nat)(tb tv:ba):jo:=fun Δ δ=>tv δ fun d δ1=>(∃Pa lV,δ1[i]?=some (.dk Pa lV))/\tb δ1 fun d2 δ2=>HE i Δ d d2 δ2
theorem J9(i:Nat)(hu:X.A.units+1 < cLine)(ho:PE X 124 (fu i))(hb:Ev X b tb)(hv:Ev X e tv)(hs:swapsWith e (some (.Subscript 124 b pos')) pos.line X.env=pure false:=by rfl):
  Ex X (.Assign [.Subscript 124 b pos'] e pos) (QL i tb tv):=PS.imp (yr hu ho hb hv hs) fun D σ H cK=>(by obtain⟨Ws,M,α,δ,Δ,E,L,q⟩:=cK;exact(
 ⟨Ws,M,α,δ,_,E,q,fun d δ1 H1 v eU E1 c1 r1=>(by obtain⟨⟨Pa,lV,h0⟩,q1⟩:=eU;exact(by
  obtain⟨a,SD,h1,h2,h3,h4,r3⟩:=E1.dk h0;refine⟨_,h1,Ws,M,α,δ1,_,E1,q1,fun d2 δ2 H2 y fG E2 c2 r2=>?_⟩;obtain⟨k,ks,ds,hk,hd,l,q2⟩:=fG;obtain⟨a',vs,iN,oa,si,RN,oG⟩:=E2.dk hd;rw[h1] at iN;cases iN;rw[jT r2 hk];refine⟨a,_,rfl,Bj.k si (by rw[<-RN,aa2] at l;exact l),?_⟩;obtain⟨E3,_⟩:=Er E2 hd h1 oa Gs (Gq oG 336);rw[RN] at E3;exact L.nx _ _ _ _ _ E3 q2))⟩))
inductive HG(Q:Dt->List Sl->Prop)(d1:Dt)(d2:Dt)(δ2:List Sl):Prop
 | mk (ks ds k d:_) (h1:d1= .jn ks ds) (h2:Dz d2=some k) (h3:cN ks ds k=some d) (h4:Q d δ2)
def QM(ta tb:ba):ba:=fun δ Q=>ta δ fun d1 δ1=>tb δ1 fun d2 δ2=>HG Q d1 d2 δ2
theorem xr(hu:X.A.units+1 < cLine)(ha:Ev X a ta)(hb:Ev X b tb)(hs:M8 b:=by exact fun _ _=>rfl):Ev X (.Subscript a b pos) (QM ta tb):=PE.imp (jG hu ha hb hs) fun σ H Q i6=>(by obtain⟨W,M,α,δ,Qd,E,q,k⟩:=i6;exact(
 ⟨W,M,α,δ,_,E,q,fun d1 δ1 H1 x q1 E1 c1 r1=>⟨W,M,α,δ1,_,E1,q1,fun d2 δ2 H2 y kq E2 c2 r2=>(by obtain⟨ks,ds,kk,d,e,hk,hv,q2⟩:=kq;exact(by
  subst e;obtain⟨a,vs,rfl,ha,n,e2,rr⟩:=(336).C7;subst e2;obtain⟨v,Yz,rv⟩:=(mz rr).1 d hv;rw[jT r2 hk];exact⟨a,v,rfl,by rw[<-Yz];exact iQ.k ha,k _ _ _ _ q2 E2 314 rv⟩))⟩⟩))
inductive MQ(neg:Bool)(Q:Dt->List Sl->Prop)(d2:Dt)(d1:Dt)(δ2:List Sl):Prop
 | mk (ks ds k:_) (h1:d1= .jn ks ds) (h2:Dz d2=some k) (h3:Q (.bl (if neg then !(cN ks ds k).isSome else(cN ks ds k).isSome)) δ2)
def HF(neg:Bool)(tb ta:ba):ba:=fun δ Q=>tb δ fun d2 δ1=>ta δ1 fun d1 δ2=>MQ neg Q d2 d1 δ2
theorem Es: ∀σ H Q,lE (HF false tb ta) σ H Q->Oc (lE tb) (lE ta) σ H Q:=fun σ H Q mQ=>(by obtain⟨W,M,α,δ,Qd,E,q,k⟩:=mQ;exact(
 ⟨W,M,α,δ,_,E,q,fun d2 δ1 H1 y q1 E1 c1 r1=>⟨W,M,α,δ1,_,E1,q1,fun d1 δ2 H2 x gm E2 c2 r2=>(by obtain⟨ks,ds,kk,e,hk,q2⟩:=gm;exact(by
  subst e;obtain⟨a,vs,rfl,ha,n,e2,rr⟩:=r2.C7;subst e2;rw[jT r1 hk];exact⟨a,_,rfl,iQ.k ha,by rw[<-(mz rr).2];exact k _ _ _ _ q2 E2 314 (.bl _)⟩))⟩⟩))
theorem uY: ∀σ H Q,lE (HF true tb ta) σ H Q->x6 (lE tb) (lE ta) σ H Q:=fun σ H Q i7=>(by obtain⟨W,M,α,δ,Qd,E,q,k⟩:=i7;exact(
 ⟨W,M,α,δ,_,E,q,fun d2 δ1 H1 y q1 E1 c1 r1=>⟨W,M,α,δ1,_,E1,q1,fun d1 δ2 H2 x mS E2 c2 r2=>(by obtain⟨ks,ds,kk,e,hk,q2⟩:=mS;exact(by
  subst e;obtain⟨a,vs,rfl,ha,n,e2,rr⟩:=r2.C7;subst e2;rw[jT r1 hk];exact⟨a,_,rfl,iQ.k ha,by rw[<-(mz rr).2];exact k _ _ _ _ q2 E2 314 (.bl _)⟩))⟩⟩))
theorem N0(hu:X.A.units+1 < cLine)(hb:Ev X b tb)(ha:Ev X a ta)(h1:behindInMarks .In a=false:=by rfl):Tv X (.Compare b [.In] [a] pos) (dT (HF false tb ta)):=PT.imp (rH (KL hu hb ha) h1) fun σ H Q h=>Es _ _ _ (cF _ _ _ h)
theorem B6(hu:X.A.units+1 < cLine)(hb:Ev X b tb)(ha:Ev X a ta)(h1:behindInMarks .NotIn a=false:=by rfl):Tv X (.Compare b [.NotIn] [a] pos) (dT (HF true tb ta)):=PT.imp (rH (zQ hu hb ha) h1) fun σ H Q h=>uY _ _ _ (cF _ _ _ h)
inductive EI(i:Nat)(Δ:dW)(d2:Dt)(d:Dt)(δ2:List Sl):Prop
 | mk (k:_) (h1:Dz d2=some k) (h2:du δ2 i) (h3:Δ.nx (δ2.set i (.dk [k] [d])))
def Mz(i:Nat)(tb tv:ba):jo:=fun Δ δ=>tb δ fun d2 δ1=>tv δ1 fun d δ2=>EI i Δ d2 d δ2
end
section
variable{X:Cx}{N:List Str}{nt:Nat}{js:List Nat}{scope:Scope}{elt tg iter e f a b:Expr}{ifs:List Expr}{pos:Pos}{ti:qI}{g:zr}{tc:oF}{te t tv tb:ba}{ib jb:Nat}{gh:TG}
def Vp(t:ba)(g:zr):jo:=fun Δ δ=>t δ fun d δ'=>g d δ' Δ.nx
theorem Ol(he:Ev X e t)(hg:Gv X tg g)(hs:swapsWithSole [tg] e pos.line X.env=pure false:=by rfl)(hw:swappedStores [tg] e X.env=pure none:=by rfl)(h1:(assignEach [tg] X.env).map (·.2)= [assign tg X.env]:=by rfl):Ex X (.Assign [tg] e pos) (Vp t g):=
 PS.imp (rK he hg hs hw h1) fun D σ H eU=>(by obtain⟨Ws,M,α,δ,Δ,E,L,q⟩:=eU;exact(⟨Ws,M,α,δ,_,E,q,fun d δ' H' v q1 E1 c1 r1=>⟨Ws,M,α,δ',d,_,E1,r1,q1,fun α' δ2 σ2 q2 E2 _=>L.nx _ _ _ _ _ E2 q2⟩⟩))
theorem F8(i:Nat)(hN:X.N.Nodup)(hb:Ev X b tb)(hv:Ev X e tv)(hi:X.N[i]?=some x:=by rfl)(hx:Loc X.env.scope x:=by first | exact Or.inl rfl | exact Or.inr rfl)(hs:swapsWith (.Dict [some b] [e] dp) 373 pos.line X.env=pure false:=by rfl)(hd:PE X (.Dict [some b] [e] dp) (Io [(lE tb,lE tv)]))(hf:X.fn x=true\/X.env.scope.names.lookup x=some .local:=by first | exact .inl rfl | exact .inr rfl | assumption):
  Ex X (.Assign [.Name x pos'] (.Dict [some b] [e] dp) pos) (Mz i tb tv):=PS.imp (fA hN hi hx hd hs hf) fun D σ H ⟨Ws,M,α,δ,Δ,E,L,q⟩=>fun p hp=>by
 have sm:aq H (upd H p (.dK [])):=aq.new hp;obtain⟨E1,hd⟩:=E.hold (u:= .dK []) hp 325;refine⟨Ws,_,α,δ,_,E1,q,fun d2 δ1 H1 y q1 E2 c2 r2=>⟨Ws,_,α,δ1,_,E2,q1,fun d δ2 H2 v fG E3 c3 r3=>?_⟩⟩;obtain⟨k,hk,ok,q2⟩:=fG;have T5:H2 p=some (.dK []):=c3 _ _ (c2 _ _ ae hd.n) hd.n;refine⟨T5,[(k,v)],by rw[jT r2 hk];rfl,by show 1<=15;decide,?_⟩;have em:bQ [] [(k,v)]= [(k,v)]:=by simp [bQ,putK]
 rw[em];have he:VQ 254 (upd H2 p (.dK [(k,v)])) 379 (.dk [k] [d]) [p]:=⟨rfl,p,[(k,v)],rfl,rfl,ae,rfl,.one (r3.mono fun a o e n=>195)⟩
 have Eu:aB Ws 254 α (upd H2 p (.dK [(k,v)])) σ δ2:=by
  have up: ∀{zs:List V} {es:List Dt},ay 254 H2 zs es->ay 254 (upd H2 p (.dK [(k,v)])) zs es:=fun r=>r.mono fun a o e n=>195
  refine⟨E3.ls,E3.la,fun i2 s2 gL=>?_,E3.nd,E3.mu,fun a ha=>?_,fun W' hW=>?_⟩
  . obtain⟨o,as,f1,f2,f3⟩:=E3.sl i2 s2 gL;have na: ∀a∈as,a≠p:=fun a ha z=>hd.n (z▸aV f2 ha);have nd: ∀{a:Addr} {o:HO},H2 a=some o->a≠p->(upd H2 p (.dK [(k,v)])) a=some o:=fun e n=>by rw[ah n];exact e
    refine⟨o,as,f1,f2,?_⟩;cases s2 with
    | no=>exact f3
    | im d=>exact⟨f3.1,let ⟨w,e,r⟩:=f3.2;⟨w,e,r.mono fun a o e n=>195⟩⟩
    | ow ds=>obtain⟨a,xs,e1,e2,e3,r⟩:=f3;subst e1;exact⟨a,xs,rfl,e2,nd e3 (na a 112),up r⟩
    | bx t=>
     obtain⟨d,c,e1,e2,r⟩:=f3;subst e1;obtain⟨ns,h,q⟩:=r.cs;exact⟨d,c,rfl,e2,nd r.dc (na d 112),⟨ns,nd h (na c 112),q⟩,r.t0,r.t1⟩
    | dk ks ds=>obtain⟨a,vs,e1,e2,e3,e4,r⟩:=f3;subst e1;exact⟨a,vs,rfl,e2,nd e3 (na a 112),e4,up r⟩
    | ob R=>obtain⟨w,e,r⟩:=f3;exact⟨w,e,R.st r (fun a ha u q=>nd q (na a ha)) fun a o q n=>⟨by rw[ah (fun z=>n (.inr z))];exact q,n⟩⟩
    | fn f=>exact f3
  . by_cases hb:a=p
    . subst hb;exact 165
    . rw[ah hb];exact E3.al a ha
  . have kk:=E3.w W' hW;refine⟨fun b o e n=>?_,fun b n y=>?_,kk.fr,kk.m0,kk.m1,kk.bx,kk.fz⟩
    . have hb : b ≠ p := fun z => by
        subst z;rcases(hd.w W' hW).1 with w | w
        . exact n w
        . rw[w] at e;cases e
      rw[ah hb];exact kk.bs b o e n
    . by_cases hb:b=p
      . subst hb;rw[ae] at y;cases y
      . rw[ah hb] at y;exact kk.ex b n y
 exact L.nx _ _ _ _ _ (Eu.Ci he (fun a ha=>by rw[aa9.mp ha];exact hd) 112 ok) q2
end
def tT(K:PySem.W.Frag):Sp:=fun vs H Q _=> ∃(a:Addr) (ns:List Int),vs= [.ref a]/\bL K H a 131/\ns.length<=63/\ ∀H',Q (.bl true) H'
def tP:DB:=fun t ds Q=> ∃m,ds= [.int m]/\t < 1000000/\0 < m/\m < 2^64/\ ∀r,0<=r->r < m->Q (.int r) (t+1)
theorem F1(h:Bn tP vs H Q E):Cc vs H Q E:=by
 obtain⟨M,d,c,t,ws,ds,Qd,rfl,al,md,mc,B,r,⟨m,rfl,t1,m0,m1,q⟩,k⟩:=h;obtain⟨x,ys,rfl,r1,r2⟩:=r.aO;cases r2.eA;cases r1.ofInt;exact⟨d,c,t,m,rfl,B,t1,m0,m1,fun r H' r0 r1 B' kp=>k _ _ _ _ (q r r0 r1) kp B' (.int r)⟩
section
variable{P:Program}{w:World}{K:PySem.W.Frag}{mg:Str->Option Value}{base:Heap}
theorem O8 {st : Stmt} {k : Nat} (F : gC K "law" "law" st f fd) (sc : aH N ["_law_script"] (ab st)) (hN : 2 <= N.length) (eO : ∀ (bK : Value) (A : Around) (outer : List Env) (s : Shared) (H : Hp) (E : XK), ck k (A.deeper (envOfC "law" (ab st) s.heap.objs.size f bK)) ->
   ∃s1 rest T,bT st=s1::rest/\PS (k9 dY P w K mg base N "law" (ab st) f bK A outer s H E).Bq s1 (zE (B9 (rg K) [] E0 (mX (fu 0) tR)) (cI 1))/\zp (k9 dY P w K mg base N "law" (ab st) f bK A outer s H E).Bq rest T/\
    T {nx:=fun _=>False,rt:=fun d _=>d= .bl true} (.no:: .bx 0::List.replicate 358 .no)):bh P w K mg base dY (k+1) f fd ["_law_script"] (tT K):=by
 refine F.ok sc 273 182
 . obtain⟨a,ns,rfl,_⟩:=h;rfl
 . obtain⟨a,ns,rfl,hS,hlen,q⟩:=h;obtain⟨s1,rest,T,e,h1,h2,hT⟩:=eO bK A outer s H E hr;rw[e];refine⟨_,cQ h1 h2,?_⟩;have es:L2.start N [V.ref a]=some 226::none::List.replicate 358 none:=by
    unfold L2.start;rw[show N.length - [V.ref a].length=358+1 by show N.length - 1=_;omega,am4];rfl
   rw[es];refine⟨_,rfl,a,ns,rfl,hS,hlen,fun d c H1 B1 s1'=>?_⟩;have bG:(176:: [d,c]::List.replicate 358 []).flatten= [d,c]:=by simp
   refine⟨[],fun b=>b=d\/b=c,[]:: [d,c]::List.replicate 358 [],.no:: .bx 0::List.replicate 358 .no,_,?_,?_,hT⟩
   . refine⟨by simp,by simp,fun i s' hi=>?_,by rw[bG];simp [B1.ne],fun b hb=>by rw[bG] at hb;simpa using hb,fun b hb=>?_,fun W hW=>absurd hW aa8⟩
     . match i with
       | 0=>cases hi;exact⟨_,_,rfl,rfl,rfl⟩
       | 1=>cases hi;exact⟨_,_,rfl,rfl,d,c,rfl,rfl,B1⟩
       | i+2=>
        have oJ:(List.replicate 358 Sl.no)[i]?=some s':=by simpa using hi
        rw[ad2] at oJ;split at oJ
        . rename_i dQ;cases oJ;refine⟨none,[],?_,?_,rfl⟩
          . show(List.replicate 358 (none:Option V))[i]?=_;rw[ad2,if_pos dQ]
          . show(List.replicate 358 176)[i]?=_;rw[ad2,if_pos dQ]
        . cases oJ
     . rcases hb with rfl | rfl
       . exact⟨_,B1.dc,fun xs z=>by cases z⟩
       . obtain⟨ns,h,_⟩:=B1.cs;exact⟨_,h,fun xs z=>by cases z⟩
   . exact⟨fun _ _ _ _ _ _ z=>z.elim,fun M' α' H' σ' δ' v dd E' r' z=>by subst z;rw[r'.uj];exact q H',fun _ _ _ _ _ _ z=>z.elim,fun _ _ _ _ _ _ z=>z.elim⟩
end
section
variable{X:Cx}{a b c e:Expr}{es:List Expr}{ta tb tc t:ba}{tA:fb}{pos p:Pos}
theorem ints_rep: ∀{xs:List V} {ns:List Int},ay M H xs 403->xs=ns.map V.int
 | [],[],_=>rfl
 | [],_::_,h=>by have:=h.1;simp at this
 | _::_,[],h=>by have:=h.1;simp at this
 | x::xs,n::ns,h=>by
  rw[ac2] at h;obtain⟨y,ys,e,r1,r2⟩:=h.aO;cases e;rw[r1.ofInt,ints_rep r2,ac2]
theorem nu: ∀{ns:List Int},ay M H 131 403
 | []=> .nil
 | n::ns=> .cons (.int n) nu
inductive FE(ds:List Dt)(Q:Dt->Prop):Prop
 | mk (ns:List Int) (h1:ds= [.lst 403]) (h2:ns.length < 64) (h3: ∀ms:List Int,ms.Perm ns->ms.Pairwise (· <= ·)->Q (.lst (ms.map .int)))
theorem kd:bootBuiltins "sorted"=some (.builtin "sorted"):=by decide+kernel
theorem Ba:bootBuiltins "all"=some (.builtin "all"):=by decide+kernel
theorem bY(h:ay M H xs [d]): ∃x,xs= [x]/\Rep M H x d:=by
 obtain⟨x,ys,rfl,r1,r2⟩:=h.aO;cases r2.eA;exact⟨x,rfl,r1⟩
theorem EC(hm:X.mg "sorted"=none)(ha:Av X [e] tA)(hg:Gl X "sorted":=by rfl)(he:starEach [e] X.env=(false,eval e X.env)::starEach [] X.env:=by rfl)(dM:(backTo pos 122).any (·.1)=false:=by rfl):
  Ev X (.Call (.Name "sorted" p) [e] [] pos) (AW FE tA):=j7 sN (fun M H xs ds Qd Q al r gk k=>(by obtain⟨ns,e,l,q⟩:=gk;exact(by
 subst e;obtain⟨x,rfl,r1⟩:=bY r;obtain⟨a,zs,rfl,ha,n,rr⟩:=r1.bO;rw[ints_rep rr] at ha;refine⟨a,ns,rfl,ha,l,fun p ms hp YM YL=>?_⟩;have s:aq H (upd H p 347):=aq.new hp;exact k _ _ _ (q ms YM YL) s (Rep.pK ae (al.fresh hp) nu)))) hg hm kd ha 105 105 he dM
theorem qz: ∀{xs:List V} {ns:List Bool},ay M H xs (ns.map .bl)->xs=ns.map V.bl
 | [],[],_=>rfl
 | [],_::_,h=>by have:=h.1;simp at this
 | _::_,[],h=>by have:=h.1;simp at this
 | x::xs,n::ns,h=>by
  rw[ac2] at h;obtain⟨y,ys,e,r1,r2⟩:=h.aO;cases e;rw[r1.uj,qz r2,ac2]
inductive Rm(ds:List Dt)(Q:Dt->Prop):Prop
 | mk (bs:List Bool) (h1:ds= [.lst (bs.map .bl)]) (h2:Q (.bl (bs.all id)))
theorem Jj(hc:X.calm=true)(hm:X.mg "all"=none)(ha:Av X [e] tA)(hg:Gl X "all":=by rfl)(he:starEach [e] X.env=(false,eval e X.env)::starEach [] X.env:=by rfl)(dM:(backTo pos 122).any (·.1)=false:=by rfl):
  Ev X (.Call (.Name "all" p) [e] [] pos) (AW Rm tA):=j7 (EZ hc) (fun M H xs ds Qd Q al r kq k=>(by obtain⟨bs,e,q⟩:=kq;exact(by
 subst e;obtain⟨x,rfl,r1⟩:=bY r;obtain⟨a,zs,rfl,ha,n,rr⟩:=r1.bO;rw[qz rr] at ha;exact⟨a,bs,rfl,bL.of ha,k H _ _ q 231 (.bl _)⟩))) hg hm Ba ha 105 105 he dM
def WW(R:Dt->List Dt->(Dt->Prop)->Prop)(ta:ba)(tA:fb):ba:=fun δ Q=>ta δ fun d δ1=>(∃ds,d= .tup ds)/\tA δ1 fun es δ2=>R d es fun r=>Q r δ2
inductive Ie(d:Dt)(es:List Dt)(Q:Dt->Prop):Prop
 | mk (ds x:_) (h1:d= .tup ds) (h2:es= [x]) (h3:cC x=true) (h4:ds.all cC=true) (h5:Q (.int (ds.countP fun z=>Ee z x:Nat)))
theorem qu(ry:Rep M H y x)(fx:cC x=true): ∀{xs:List V} {ds:List Dt},ay M H xs ds->ds.all cC=true->xs.countP (fun z=>o6 z y)=ds.countP fun z=>Ee z x
 | [],[],_,_=>rfl
 | [],_::_,h,_=>by have:=h.1;simp at this
 | _::_,[],h,_=>by have:=h.1;simp at this
 | v::xs,d::ds,h,hf=>by
  obtain⟨w,ws,e,r1,r2⟩:=h.aO;cases e;rw[aw3,ak3] at hf;rw[List.countP_cons,List.countP_cons,qu ry fx r2 hf.2,sA r1 ry hf.1 fx]
end
section
variable{X:Cx}{a b c e:Expr}{es:List Expr}{ta tb tc t:ba}{tA:fb}{pos p apos bp:Pos}
theorem GU{r:V->List V->Hp->VK->Prop}{R:Dt->List Dt->(Dt->Prop)->Prop}{K:PySem.W.Frag}(hd: ∀(M:Addr->Prop) (H:Hp) (x:V) (xs:List V) (d:Dt) (ds:List Dt) (Qd:Dt->Prop) (Q:VK),kh M H->Rep M H x d->ay M H xs ds->R d ds Qd->328->r x xs H Q):
  ∀σ H Q,lE (WW R ta tA) σ H Q->V2 K "tuple" r (lE ta) (lA tA) σ H Q:=fun σ H Q cK=>(by obtain⟨W,M,α,δ,Qd,E,q,k⟩:=cK;exact(
 ⟨W,M,α,δ,_,E,q,fun d δ1 H1 x eU E1 c1 r1=>(by obtain⟨⟨ds,e⟩,q1⟩:=eU;exact(by
  subst e;obtain⟨a,xs,rfl,ha,n,rr⟩:=r1.bN;refine⟨.inr (.inr (.inr (.inr ⟨rfl,xs,ha⟩))),W,M,α,δ1,_,E1,q1,fun es δ2 H2 ys q2 E2 c2 r2=>?_⟩;exact hd M H2 _ ys _ es _ _ E2.al 336 r2 q2 fun H3 v d q3 s r3=>k _ _ _ _ q3 (E2.same s) ((314).tr (dS.of s)) r3))⟩))
theorem Ho(ha:Ev X a ta)(hA:Av X [e] tA)
  (eP:attributeBase a "count" X.env (eval a X.env)=eval a X.env:=by rfl)
  (n8:108=true:=by rfl)
  (eM:246=true:=by rfl) (hs:starEach [e] X.env=(false,eval e X.env)::starEach [] X.env:=by rfl) (eL:(backTo bp 122).any (·.1)=false:=by rfl):
  Ev X (.Call (.Attribute a "count" apos) [e] [] bp) (WW Ie ta tA):=
 PE.imp (t9 PySem.F.plainAttrs_tuple PySem.F.slot_tuple_count PySem.F.type_tuple_count Aa ha hA eP n8 eM hs eL) (GU fun M H x xs d ds Qd Q al r1 r2 gk k=>(by obtain⟨es,y,e1,e2,f1,f2,q⟩:=gk;exact(by
  subst e1;subst e2;obtain⟨a,zs,rfl,ha,n,rr⟩:=r1.bN;obtain⟨v,rfl,rv⟩:=bY r2;exact⟨a,zs,v,rfl,rfl,ha,fS rv f1,kU rr f2,by rw[qu rv f1 rr f2];exact k H _ _ q 231 (.int _)⟩)))
inductive MN(i:Nat)(Q:Dt->List Sl->Prop)(es:List Dt)(δ':List Sl):Prop
 | mk (ds zs:_) (h1:es= [.lst zs]) (h2:δ'[i]?=some 405) (h3:ds.length+zs.length<=sizeLine) (h4:Q .aC (δ'.set i (.ow (ds++zs))))
def Vo(i:Nat)(t:fb):ba:=fun δ Q=>(∃lV,δ[i]?=some (.ow lV))/\t δ fun es δ'=>MN i Q es δ'
theorem u9(i:Nat)(ho:PE X 124 (fu i))(ha:Av X [e] tA)(eP:attributeBase 124 "extend" X.env (eval 124 X.env)=eval 124 X.env:=by rfl)(n8:108=true:=by rfl)(eM:246=true:=by rfl)(hs:starEach [e] X.env=(false,eval e X.env)::starEach [] X.env:=by rfl)(eL:(backTo bp 122).any (·.1)=false:=by rfl):
  Ev X (.Call (.Attribute 124 "extend" apos) [e] [] bp) (Vo i tA):=
 PE.imp (t9 ar4 PySem.F.slot_list_extend PySem.F.type_list_extend pV ho ha eP n8 eM hs eL) fun σ H Q fG=>(by obtain⟨W,M,α,δ,Qd,E,⟨⟨lV,h0⟩,q⟩,k⟩:=fG;exact(by
  obtain⟨a,NR,h1,h2,h3,r3⟩:=E.ow h0;refine⟨_,h1,.inl ⟨rfl,_,bL.of h3⟩,W,M,α,δ,_,E,q,fun es δ' H' vs kq E1 c1 r1=>?_⟩;obtain⟨ds,zs,e,hd,l,q1⟩:=kq;subst e;obtain⟨y,rfl,ry⟩:=bY r1;obtain⟨b,ws,rfl,hb,nb,rb⟩:=ry.bO;obtain⟨a',xs,iN,oa,si,oG⟩:=E1.ow hd;rw[h1] at iN;cases iN;refine⟨a,b,xs,ws,rfl,rfl,si,hb,by rw[oG.1,rb.1];exact l,?_⟩;obtain⟨E2,c2⟩:=jH E1 hd h1 oa (oG.append rb);exact k _ _ _ _ q1 E2 314 .aC))
inductive EL(Q:List Dt->List Sl->Prop)(es:List Dt)(ks:List Dt)(δ2:List Sl):Prop
 | mk (ds:_) (h1:es= [.tup ds]) (h2:ks= [.int 1]) (h3:Q (aX 1 ds) δ2)
def EM(tA tk:fb):qI:=fun δ Q=>tA δ fun es δ1=>tk δ1 fun ks δ2=>EL Q es ks δ2
theorem G3{x1}(hm:X.mg "enumerate"=none)(ha:Av X [e] tA)(hk:PK X iV tk)(YW: ∀σ H Q,lA XU σ H Q->tk σ H Q)(hg:Gl X "enumerate":=by rfl)(As:(116).filterMap (·.1)=(["start"]:List Str):=by rfl)(k1:backTo pos 142=(false,eval e X.env)::backTo pos 122:=by rfl)(k2:(backTo pos 142).any (·.1)=false:=by rfl)(k3:(116).all 393=true:=by rfl)(k4:(116).any 394=false:=by rfl):Iv X 171 (.Call 241 [e] iV pos) (EM tA XU):=
 PI.imp (CH hg hm ha hk As k1 k2 k3 k4) fun σ H R oO=>(by obtain⟨W,M,α,δ,Qd,E,q,k⟩:=oO;exact(⟨W,M,α,δ,_,E,q,fun es δ1 H1 vs q1 E1 c1 r1=>YW _ _ _ ⟨W,M,α,δ1,_,E1,q1,fun ks δ2 H2 zs qJ E2 c2 r2=>(by obtain⟨ds,e1,e2,q2⟩:=qJ;exact(by
  subst e1;subst e2;obtain⟨x,rfl,rx⟩:=bY 336;obtain⟨y,rfl,ry⟩:=bY r2;cases ry.ofInt;obtain⟨a,xs,rfl,ha,n,rr⟩:=rx.bN;exact⟨a,rfl,rfl,⟨xs,dF.of ha⟩,k _ _ _ _ q2 E2 314 (qN ha n rr)⟩))⟩⟩))
theorem AX: ∀σ H Q,lA (oj t xu) σ H Q->mX (lE t) tR σ H Q:=fun σ H Q mQ=>(by obtain⟨W,M,α,δ,Qd,E,q,k⟩:=mQ;exact(⟨W,M,α,δ,_,E,q,fun d δ1 H1 x q1 E1 c1 r1=>k _ _ _ _ q1 E1 c1 (.one r1)⟩))
theorem G2{x1}(hm:X.mg "enumerate"=none)(ha:Av X [e] tA)(hf:Ev X f t)(hg:Gl X "enumerate":=by rfl)(As:(315).filterMap (·.1)=(["start"]:List Str):=by rfl)(k1:backTo pos 142=(false,eval e X.env)::backTo pos 122:=by rfl)(k2:(backTo pos 142).any (·.1)=false:=by rfl)(k3:(315).all 393=true:=by rfl)(k4:(315).any 394=false:=by rfl):Iv X 171 (.Call 241 [e] [⟨nm,f,kQ⟩] pos) (EM tA (oj t xu)):=
 G3 hm ha (rL hf v5) AX hg As k1 k2 k3 k4
inductive Hw(neg:Bool)(Q:Dt->List Sl->Prop)(d:Dt)(δ':List Sl):Prop
 | mk (ds:_) (h1:d= .lst ds) (h2:Q (.bl (if neg then !ds.isEmpty else ds.isEmpty)) δ')
def EJ(neg:Bool)(ta:ba):ba:=fun δ Q=>ta δ fun d δ'=>Hw neg Q d δ'
theorem pU(hr: ∀(H:Hp) (Q:VK) (p q:Addr) (xs:List V),H p=some 159->H q=some 353->Q (.bl (if neg then !xs.isEmpty else xs.isEmpty)) H->r 379 398 H Q): ∀σ H Q,lE (EJ neg ta) σ H Q->JY r (lE ta) (N8 tR) σ H Q:=fun σ H Q gm=>(by obtain⟨W,M,α,δ,Qd,E,q,k⟩:=gm;exact(
 ⟨W,M,α,δ,_,E,q,fun d δ1 H1 x i7 E1 c1 r1=>(by obtain⟨ds,e,q1⟩:=i7;exact(⟨ae3 _,fun p hp=>by
  subst e;obtain⟨a,xs,rfl,ha,n,rr⟩:=r1.bO;have s:aq H1 (upd H1 p 353):=aq.new hp;exact hr _ _ _ _ xs (s _ _ ha) ae (by rw[kX rr];exact k _ _ _ _ q1 (E1.same s) (c1.tr (dS.of s)) (.bl _))⟩))⟩))
theorem Ma{K:PySem.W.Frag}: ∀(H:Hp) (Q:VK) (p q:Addr) (xs:List V),H p=some 159->H q=some 353->Q (.bl (if false=true then !xs.isEmpty else xs.isEmpty)) H->yk K 379 398 H Q:=fun H Q p q xs h1 h2 z=>⟨p,q,xs,rfl,rfl,bL.of h1,bL.of h2,z⟩
theorem K3{K:PySem.W.Frag}: ∀(H:Hp) (Q:VK) (p q:Addr) (xs:List V),H p=some 159->H q=some 353->Q (.bl (if true=true then !xs.isEmpty else xs.isEmpty)) H->yj K 379 398 H Q:=fun H Q p q xs h1 h2 z=>⟨p,q,xs,rfl,rfl,bL.of h1,bL.of h2,z⟩
theorem B5(hu:X.A.units < cLine)(ha:Ev X a ta):Tv X (.Compare a [.Eq] [.List [] p2] pos) (dT (EJ false ta)):=PT.imp (jD (zU hu) ha (rN aK) (fB _)) fun σ H Q h=>pU Ma _ _ _ (cF _ _ _ h)
theorem B0(hu:X.A.units < cLine)(ha:Ev X a ta):Tv X (.Compare a [.NotEq] [.List [] p2] pos) (dT (EJ true ta)):=PT.imp (jD (zS hu) ha (rN aK) (fB _)) fun σ H Q h=>pU K3 _ _ _ (cF _ _ _ h)
end
end LD
namespace L2
open PySem PySem.Spec PyProof.Rows
theorem o8(it acc:Value)(env:Env):
  compTurn 104 0 it acc env=(do
   standAt iter.pos
   match<-pyNext it with
   | none=>pure (.done .next)
   | some v=>
    letOwnedTupleGo tg it v
    assign tg env v
    let mut ok:=true
    for c in ifs do
     if ok then ok<-isTrue c env (eval c env)
    if ok then
     let x<-eval iter2 env
     standAt iter2.pos
     let x<-foldedSetIterable iter2 env x
     let _<-runOwn (.compStart 104 1 (<-holding [x] (pyIter x)) acc env) env
    again (.compLoop 104 0 it acc env)):=by rfl
theorem o7(it acc:Value)(env:Env):
  compTurn 104 1 it acc env=(do
   standAt iter2.pos
   match<-pyNext it with
   | none=>pure (.done .next)
   | some v=>
    letOwnedTupleGo gE it v
    assign gE env v
    let mut ok:=true
    for c in cV do
     if ok then ok<-isTrue c env (eval c env)
    if ok then
     (do let _<-call (.builtin "list.append") [acc,<-eval elt env])
    again (.compLoop 104 1 it acc env)):=by rfl
theorem o9 (I : Nat -> Shared -> Prop) (turn : ∀ n s, I n s -> wpAny 110 A (pyNext it) (fun r s₁ => match r with
   | none=>R (.ok .next) s₁
   | some v=>wpAny 110 A (letOwnedTupleGo gE it v) (fun _ s₀=>wpAny 110 A (assign gE env v) (fun _ s₂=>
     wpAny 110 A (forIn cV true fun c r=>if r=true then do let ok<-isTrue c env (eval c env);pure (ForInStep.yield ok) else pure (ForInStep.yield r)) (fun ok s₃=>
      if ok=true then wpAny 110 A (eval elt env) (fun x s₄=>
       wpAny 110 A (call (.builtin "list.append") [acc,x]) (fun _ s₅=> ∃m,m < n/\I m s₅) 129 s₄) 129 s₃
      else∃m,m < n/\I m s₃) 129 s₂) 129 s₀) 129 s₁) 129 s) (n:Nat) (h:I n s):codeAny 110 A (.compLoop 104 1 it acc env) R s:=by
 refine codeAny_loop rfl I (fun n s hI=>?_) n h;show wpAny _ A ((compTurn 104 1 it acc env).onRaise 344) _ _ s;refine wpAny_noted ?_;rw[o7];refine aa0 229;cases r with
 | none=>exact aa7 h₁
 | some v=>
  refine aa0 302;refine aa0 170;cases ok with
  | false=>exact aa7 ⟨rfl,h₃⟩
  | true=>
   exact aa0 239
theorem om (h0 : codeAny 110 A (.compLoop (.ListComp elt [⟨tg, iter, ifs, 0⟩, ⟨gE, iter2, cV, 0⟩] scope pos) 1 it acc env) R s) (h : wpAny 110 A (pyIter it) (fun TC s' => codeAny 110 A (.compLoop (.ListComp elt [⟨tg, iter, ifs, 0⟩, ⟨gE, iter2, cV, 0⟩] scope pos) 1 TC acc env) R s')
   (notedBy 110 A env fun x s'=>R (.error x) s') s):
  codeAny 110 A (.compStart 104 1 it acc env) R s:=by
 refine codeAny_of_tree ?_;show wpAny _ _ ((compStart 104 1 it acc env).onRaise (fun x=>do noteFrame x env;standAt theWindowsPlace)) _ _ s;refine wpAny_notedAt ?_;unfold compStart;show wpAny _ _ (ask >>=_) _ _ s;refine aa0 (wpAny_askSetting (wpAny_ite ?_));split
 . first
     | exact aa0 (aa7 (aa7 (And.intro rfl h0)))
     | exact aa7 (And.intro rfl h0)
 . first
     | exact aa0 (aj5 (aa0 (ak4 (aa0 (ae0 h (fun TC s' h'=>aa7 (And.intro rfl h')) fun _ _ x=>x)))))
     | (refine aa0 (aj5 ?_);show wpAny _ _ (standAt iter2.pos >>=_) _ _ s;exact aa0 (ak4 (aa0 (ae0 h (fun TC s' h'=>aa7 (And.intro rfl h')) fun _ _ x=>x))))
theorem pd (I : Nat -> Shared -> Prop) (hs : ∀ x, foldedSetIterable iter2 env x = pure x) (turn : ∀ n s, I n s -> wpAny 110 A (pyNext it) (fun r s₁ => match r with
   | none=>R (.ok .next) s₁
   | some v=>wpAny 110 A (letOwnedTupleGo tg it v) (fun _ s₀=>wpAny 110 A (assign tg env v) (fun _ s₂=>
     wpAny 110 A 240 (fun ok s₃=>
      if ok=true then wpAny 110 A (eval iter2 env) (fun x s₄=>wpAny 110 A (pyIter x) (fun Tz s₅=>
       codeAny 110 A (.compStart 104 1 Tz acc env) (fun r s₆=>r= .ok .next/\ ∃m,m < n/\I m s₆) s₅) 129 s₄) 129 s₃
      else∃m,m < n/\I m s₃) 129 s₂) 129 s₀) 129 s₁) 129 s) (n:Nat) (h:I n s):codeAny 110 A (.compLoop 104 0 it acc env) R s:=by
 refine codeAny_loop rfl I (fun n s hI=>?_) n h;show wpAny _ A ((compTurn 104 0 it acc env).onRaise 344) _ _ s;refine wpAny_noted ?_;rw[o8];refine aa0 229;cases r with
 | none=>exact aa7 h₁
 | some v=>
  refine aa0 302;refine aa0 170;cases ok with
  | false=>exact aa7 ⟨rfl,h₃⟩
  | true=>
   refine aa0 (ae0 h₃ (fun x s₄ h₄=>aa0 (ak4 ?_)) fun _ _ h'=>h'.elim);rw[hs];refine aa0 357;refine aa0 (ag2 (ae0 h₄ (fun Tz s₅ h₅=>?_) fun _ _ h'=>h'.elim));refine aa0 (wpAny_runOwn (au2 h₅ fun r s₆ h₆=>?_));obtain⟨rfl,h₆⟩:=h₆;exact aa7 ⟨rfl,h₆⟩
def Bh(n1 nt:Nat)(g:TG):Prop:= ∀v σ H (Q:St->Hp->Prop),g v σ H Q->g v σ H fun σ' H'=>Q σ' H'/\σ'.length=σ.length/\ ∀k,k < n1\/nt<=k->σ'[k]?=σ[k]?
theorem AB(h1:n1<=i:=by decide)(h:i < nt:=by decide):Bh n1 nt (cI i):=fun v σ H Q q=>⟨q,by simp,fun k hk=>by rw[ab2 149]⟩
def Xm(g2:TG)(pL:TT)(te:TE)(σ:St)(B:List V->Hp->Prop)(D:Addr)(J2:It)(MY:List V)(H0:Hp):Prop:=
 ∃W2:Nat->Nat->List V->Hp->Prop,(∃m,W2 0 m MY H0)/\ ∀i m acc H,W2 i m acc H->
  (J2.stop i H/\B acc H)\/(J2.go i H/\acc.length < sizeLine/\ ∃B2:List V->Hp->Prop,(∀cf H',B2 cf H'-> ∃m',m' < m/\W2 (i+1) m' cf H')/\ ∀x H',J2.Bl i H x H'->g2 x σ H' fun σ2 H2=>
   pL σ2 H2 fun b H3=>if b=true then te σ2 H3 fun v H4=>H4 D=some (.lst acc)/\B2 (acc++ [v]) (upd H4 D (.lst (acc++ [v]))) else B2 acc H3)
def FG(nt:Nat)(js:List Nat)(g:TG)(tc:TT)(FZ:TI)(g2:TG)(pL:TT)(te:TE)(σ:St)(Q:VK)(D:Addr)(J:It)(H0:Hp):Prop:=
 ∃W:Nat->Nat->List V->Hp->Prop,(∃m,W 0 m [] H0)/\ ∀i m acc H,W i m acc H->
  (J.stop i H/\Q (.ref D) H)\/(J.go i H/\ ∃B:List V->Hp->Prop,(∀cf H',B cf H'-> ∃m',m' < m/\W (i+1) m' cf H')/\ ∀x H',J.Bl i H x H'->g x 292 H' fun σ2 H2=>
   tc σ2 H2 fun b H3=>if b=true then FZ σ2 H3 fun J2 H4=>Xm g2 pL te σ2 B D J2 acc H4 else B acc H3)
def B7(nt:Nat)(js:List Nat)(wi:TI)(g:TG)(tc:TT)(FZ:TI)(g2:TG)(pL:TT)(te:TE):TE:=fun σ H Q=>wi σ H fun J H1=> ∀D,H1 D=none->FG nt js g tc FZ g2 pL te σ Q D J (upd H1 D 353)
theorem wN{Y:Cx}(hc:Y.calm=true)(zj:Y.xe=fun _ _=>False)(LK:PG Y gE g2)(wQ:Bh n1 nt g2)(DU:PF Y cV pL)(he:PE Y elt te)(I:Inv Y pins σ H s)(T:Turn Y.prog Y.w Y.K gE J fp it tn)(st:tn 0 s.heap)(ff: ∀b∈fp,eZ Y pins H b)(aC: ∀k,n1<=k->k < nt-> ∀v,σ[k]?≠some 356)(R:Xm g2 pL te σ B D J MY H)(fin: ∀acc H' s',Inv Y pins σ H' s'->B acc H'->RR (.ok .next) s'):
  codeAny (model Y.prog Y.w) Y.A (.compLoop 104 1 346 (.ref D) Y.env) RR s:=by
 obtain⟨W,⟨m0,w0⟩,turn⟩:=R;have vS: ∀{H':Hp},196-> ∀b∈fp,eZ Y pins H' b:=fun hn b hb=>⟨hn b hb,(ff b hb).2⟩
 refine o9 (fun n s'=> ∃i acc H',Inv Y pins σ H' s'/\tn i s'.heap/\196/\W i n acc H') ?_ m0 ⟨0,MY,H,I,st,fun b hb=>(ff b hb).1,w0⟩;rintro n s5 ⟨i,acc,H5,I5,Bm,FP,w5⟩
 rcases turn i n acc H5 w5 with ⟨stop,q⟩ | ⟨go,hlen,B2,hB,step⟩
 . refine aU (T.done Y rfl rfl rfl hc i pins s5 _ H5 129 I5 (vS FP) Bm stop) fun r s6 ⟨hr,I6⟩=>?_;subst hr;exact fin _ _ _ I6 q
 . refine aU (T.item Y rfl rfl rfl hc i pins s5 _ H5 129 I5 (vS FP) Bm go) fun r s6 ⟨u,hr,h6⟩=>?_;subst hr;refine aU h6 fun _ s7 gk=>?_;obtain⟨x,H7,I7,r7,y7,Cb,Qa⟩:=gk;have Ra:=I7.pinned (vS Qa) (T.obj _ _ Cb);have g7:=wQ _ _ _ _ (step x H7 y7);have h7:=LK _ s7 _ H7 x u _ Ra r7 g7;rw[zj] at h7;refine aU h7 fun _ s8 fG=>?_;obtain⟨σ8,H8,I8,q8,l8,k8⟩:=fG;have h8:=DU _ s8 σ8 H8 _ I8 q8;rw[zj] at h8;refine aU h8 fun b s9 i6=>?_;obtain⟨H9,I9,q9⟩:=i6;have again: ∀{mi:Hp} {oW:Shared} {cf:List V},Inv Y (pins++jh fp s7.heap) σ8 mi oW->B2 cf mi-> ∃m,m < n/\ ∃i acc H',Inv Y pins σ H' oW/\tn i oW.heap/\196/\W i m acc H':=fun{mi oW cf} xK QW=>by
    obtain⟨m',PD,NS⟩:=hB cf mi QW;refine 139
    . by_cases hk:n1<=k/\k < nt
      . exact absurd e (aC k hk.1 hk.2 v)
      . rw[k8 k 149];exact e
    . obtain⟨o,e,d⟩:=T.obj _ _ Cb b hb;exact(xK.pin (b,o) (ad8 _ (ad8 _ (cu hb e)))).2.1
   cases b with
   | false=>
    rw[if_neg ab3] at q9 ⊢;exact again I9 q9
   | true=>
    rw[if_pos rfl] at q9 ⊢;have h9:=he _ s9 σ8 H9 _ I9 q9;rw[zj] at h9;refine aU h9 fun y oW kq=>?_;obtain⟨v,mi,xK,S7,LU,OD⟩:=kq;have LV:=(kN (X:=Y) _ oW σ8 mi (.ref D) [v] (.ref D) [y] (fun _ H'=>B2 (acc++ [v]) H') xK rfl (.cons S7 .nil) ⟨_,acc,v,rfl,rfl,LU,hlen,OD⟩)
    rw[zj] at LV;refine aU LV fun _ Rx oO=>?_;obtain⟨_,Nf,Rb,_,S8⟩:=oO;exact again Rb S8
theorem xw{elt tg iter gE iter2:Expr}{ifs cV:List Expr}{pos:Pos}{g g2:TG}{FZ:TI}{tc pL:TT}{te:TE}{n1:Nat}{cl:List 265}{Q:VK}{E:Value->Shared->Prop}{RR:Value->Addr->Result->Shared->Prop}
  (S:mq X N nt js scope) (hc:X.calm=true)
  (hg: ∀s H cl C ex,PG 109 tg g) (ip:mj n1 g) (P7:n1<=nt) (Nz: ∀s H cl C ex,PI 109 gE iter2 FZ) (gL: ∀s H cl C ex x,foldedSetIterable iter2 (109).env x=pure x) (LK: ∀s H cl C ex,PG 109 gE g2) (wQ:Bh n1 nt g2) (DU: ∀s H cl C ex,PF 109 cV pL) (hf: ∀s H cl C ex,PF 109 ifs tc) (he: ∀s H cl C ex,PE 109 elt te)
  {it:Addr} {fp:List Addr} {tn:Nat->Heap->Prop} {J:It} (I:Inv X pins σ H s) (T:Turn X.prog X.w X.K tg J fp it tn) (st:tn 0 s.heap) (ff: ∀b∈fp,eZ X pins H b)
  (c1: ∀x c,(x,c)∈cl->X.env.cells.lookup x=some c) (c2: ∀x,(x,NameKind.free)∈scope.names-> ∃c,(x,c)∈cl)
  (R: ∀D,H D=none->FG nt js g tc FZ g2 pL te σ Q D J (upd H D 353))
  (fin: ∀(D C:Addr) (s':Shared) (H':Hp),Inv X pins σ H' s'->eZ X pins H' C->(∃m,s'.heap.Ns C m)->Q (.ref D) H'->RR (.ref D) C (.ok .next) s'):
  wpAny 106 X.A (newList []) (fun acc s₃=>wpAny 106 X.A (newFunctionEnv scope X.env.globals cl [] X.env.qual none .none (some X.env)) (fun oq s₄=>
   codeAny 106 X.A (.compStart 104 0 346 acc {oq with scope:=relabel scope X.env}) (RR acc oq.locals) s₄) E s₃) E s:=by
 refine ai0 (iR fun oq Em Mi=>?_);rw[Em,Mi];dsimp only;have hD:H s.heap.objs.size=none:=I.aQ.fresh (aa4 _);obtain⟨W,⟨m0,w0⟩,turn⟩:=R s.heap.objs.size hD;have kD: ∀b u,s.heap.get? b=some u->(107).get? b=some u:=fun b u e=>aa3 _ e;have I3:Inv X pins σ 172 {s with heap:=s.heap.push {cls:= .type "list",data:= .seq (181).toArray},toks:=s.toks}:=
  I.laid kD (aa4 _) ⟨ae3 _,[],_,.nil,ab4 _ rfl⟩
 have fs: ∀b∈fp,b < s.heap.objs.size:=fun b hb=>by
  obtain⟨o,e,_⟩:=T.obj _ _ st b hb;exact ad0 e
 have Qb: ∀b∈fp,eZ X pins 172 b:=fun b hb=>⟨by rw[ah (af0 (fs b hb))];exact(ff b hb).1,(ff b hb).2⟩
 have I4:=qA (tk:=s.toks) S hc I3 Qb (fun b hb=>by show b < (s.heap.push _).objs.size;rw[ai4];exact aq1 (fs b hb)) c1 c2;dsimp only at I4;have UN:(107).objs.size=s.heap.objs.size+1:=ai4 ..;generalize hY:fE X N scope {s with heap:=s.heap.push {cls:= .type "list",data:= .seq (181).toArray},toks:=s.toks} 172 cl (107).objs.size fp=Y at I4;have Za:=hY;have xF:Y.env=sQ scope cl (107).objs.size X.env:=by rw[<-hY];rfl
 have eT:Y.prog=X.prog:=by rw[<-hY];rfl
 have Yw:Y.w=X.w:=by rw[<-hY];rfl
 have YA:Y.A=X.A:=by rw[<-hY];rfl
 have YK:Y.K=X.K:=by rw[<-hY];rfl
 have qF:Y.calm=true:=by rw[<-hY];exact hc
 have zj:Y.xe=fun _ _=>False:=by rw[<-hY];rfl
 have Fl:Y.ex=fp:=by rw[<-hY];rfl
 have Vz:Y.pn= []:=by rw[<-hY];rfl
 have VA:Y.fs=oM X.stack:=by rw[<-hY];rfl
 have QZ:Y.s₀={s with heap:=s.heap.push {cls:= .type "list",data:= .seq (181).toArray},toks:=s.toks}:=by rw[<-hY];rfl
 have VB:Y.H₀=upd H s.heap.objs.size 353:=by rw[<-hY];rfl
 have Ur:PG Y tg g:=by rw[<-hY];exact hg _ _ _ _ _
 have Uu:PF Y ifs tc:=by rw[<-hY];exact hf _ _ _ _ _
 have Ut:PF Y cV pL:=by rw[<-hY];exact DU _ _ _ _ _
 have Uq:PG Y gE g2:=by rw[<-hY];exact LK _ _ _ _ _
 have Uk:PI Y gE iter2 FZ:=by rw[<-hY];exact Nz _ _ _ _ _
 have TZ: ∀x,foldedSetIterable iter2 Y.env x=pure x:=by rw[<-hY];exact gL _ _ _ _ _
 have Uw:PE Y elt te:=by rw[<-hY];exact he _ _ _ _ _
 have hm:(Y.N.length:Nat)=(292).length:=I4.len.symm;rw[<-xF,<-eT,<-Yw,<-YA];have L0: ∀{H':Hp} (_: ∀b∈fp,H' b=none),∀b∈fp,eZ Y [] H' b:=fun{H'} hn b hb=>by
  refine 207;rw[Vz] at hp;simp at hp
 have back: ∀{H':Hp} {s':Shared} {σ':St},Inv Y [] σ' H' s'->Inv X pins σ H' s'/\eZ X pins H' Y.env.locals/\ ∃m,s'.heap.Ns Y.env.locals m:=fun{H' s' σ'} J=>by
  have hb:Un (oM X.stack) fp 172 H' 107 s'.heap:=by
   have:=J.base;rw[VA,Fl,VB,QZ] at this;exact this
  have loc:Y.env.locals=s.heap.objs.size+1:=by rw[xF];exact UN
  have os:s'.os=s.os:=by
   have:=J.os;rw[QZ] at this;exact this
  have aQ:iA X.prog X.w H' s'.heap:=by
   have:=J.aQ;rw[eT,Yw] at this;exact this
  refine 204;exact I.iO (by rw[loc];exact ap1 _) J.free
 have loop:codeAny (model Y.prog Y.w) Y.A (.compLoop 104 0 346 126 Y.env) (RR 126 Y.env.locals)
   {s with heap:=pushCells ((107).push {cls:= .type "dict",data:= .dict #[]}) scope.names}:=by
  refine pd (fun n s'=> ∃i acc H',Inv Y [] 292 H' s'/\tn i s'.heap/\196/\W i n acc H') TZ ?_ m0
   ⟨0,[],_,I4,T.keep _ _ _ st fun b _ o e=>ar5 _ _ b o (aa3 _ (kD b o e)),fun b hb=>(Qb b hb).1,w0⟩
  rintro n s5 ⟨i,acc,H5,I5,Bm,FP,w5⟩
  rcases turn i n acc H5 w5 with ⟨stop,q⟩ | ⟨go,B,hB,step⟩
  . have hd:=T.done Y eT Yw YK qF i [] s5 _ H5 129 I5 (L0 FP) Bm stop;rw[<-eT,<-Yw] at hd;refine aU hd fun r s6 qJ=>?_;obtain⟨hr,I6⟩:=qJ;subst hr;obtain⟨b1,b2,b3⟩:=back I6;exact fin _ _ _ _ b1 b2 b3 q
  . have hd:=T.item Y eT Yw YK qF i [] s5 _ H5 129 I5 (L0 FP) Bm go;rw[<-eT,<-Yw] at hd;refine aU hd fun r s6 mQ=>?_;obtain⟨u,hr,h6⟩:=mQ;subst hr;refine aU h6 fun _ s7 gm=>?_;obtain⟨x,H7,I7,r7,y7,Cb,Qa⟩:=gm;have Ra:=I7.pinned (L0 Qa) (T.obj _ _ Cb);have g7:=ip _ _ _ _ (step x H7 y7);have h7:=Ur _ s7 _ H7 x u _ Ra r7 g7;rw[zj] at h7;refine aU h7 fun _ s8 i7=>?_;obtain⟨σ8,H8,I8,q8,l8,k8⟩:=i7;have h8:=Uu _ s8 σ8 H8 _ I8 q8;rw[zj] at h8;refine aU h8 fun b s9 mS=>?_;obtain⟨H9,I9,q9⟩:=mS;have again: ∀{mi:Hp} {oW:Shared} {cf:List V},Inv Y ([]++jh fp s7.heap) σ8 mi oW->B cf mi-> ∃m,m < n/\ ∃i acc H',Inv Y [] 292 H' oW/\tn i oW.heap/\196/\W i m acc H':=fun{mi oW cf} xK QW=>by
     obtain⟨m',PD,NS⟩:=hB cf mi QW;refine 139
     . by_cases hk:nt<=k
       . rw[k8 k (ac6 P7 hk)];exact e
       . exfalso;unfold kF at e;rw[ad7 (by simp;omega),ad2,if_pos 149] at e;cases e
     . obtain⟨o,e,d⟩:=T.obj _ _ Cb b hb;exact(xK.pin (b,o) (ad8 _ (ad8 _ (cu hb e)))).2.1
    cases b with
    | false=>
     rw[if_neg ab3] at q9 ⊢;exact again I9 q9
    | true=>
     rw[if_pos rfl] at q9 ⊢;have h9:=Uk _ s9 σ8 H9 _ I9 q9;rw[zj] at h9;refine aU h9 fun y oW LV=>aU LV fun Tz Rx Zi=>?_;obtain⟨i2,fp2,tn2,J2,Nf,rfl,Rb,T2,Oi,UT,R2⟩:=Zi;have Tg: ∀k,n1<=k->k < nt-> ∀v,σ8[k]?≠some 356:=fun k a1 a2 v e=>by
      rw[k8 k a1] at e;unfold kF at e;rw[ad7 (by simp;omega),ad2,if_pos 149] at e;cases e
     have lp:=wN (elt:=elt) (tg:=tg) (iter:=iter) (ifs:=ifs) (iter2:=iter2) (scope:=scope) (pos:=pos) qF zj Uq wQ Ut Uw Rb T2 Oi UT Tg R2 (RR:=fun r s₆=>r= .ok .next/\ ∃m,m < n/\ ∃i acc H',Inv Y [] 292 H' s₆/\tn i s₆.heap/\196/\W i m acc H') fun cf H' s' I' b'=>⟨rfl,again I' b'⟩
     exact om lp (T2.self _ 0 _ _ _ Oi lp)
 have El:(107).objs.size=Y.env.locals:=by rw[xF];rfl
 rw[El];exact codeAny_compStart_list (rest:= [⟨gE,iter2,cV,0⟩]) loop 271
theorem CB{pos pos' py:Pos}(hN:X.N.Nodup)(G6:X.N[i]?=some y)(hy:Loc X.env.scope y)(S:mq X N nt js scope)(hc:X.calm=true)(hi:PI X tg iter wi)(hg: ∀s H cl C ex,PG 109 tg g)(ip:mj n1 g)(P7:n1<=nt)(Nz: ∀s H cl C ex,PI 109 gE iter2 FZ)(gL: ∀s H cl C ex x,foldedSetIterable iter2 (109).env x=pure x)(LK: ∀s H cl C ex,PG 109 gE g2)(wQ:Bh n1 nt g2)(DU: ∀s H cl C ex,PF 109 cV pL)(hf: ∀s H cl C ex,PF 109 ifs tc)(he: ∀s H cl C ex,PE 109 elt te)(G4:swapsWith 104 (some 289) pos'.line X.env=pure true:=by rfl)(hs: ∀x,foldedSetIterable iter X.env x=pure x:=by intro _;rfl)(Ax:X.fn y=true\/X.env.scope.names.lookup y=some .local:=by first | exact .inl rfl | exact .inr rfl | assumption):
  PS X (.Assign [.Name y py] 104 pos') (zE (B7 nt js wi g tc FZ g2 pL te) (cI i)):=by
 intro pins s σ H D I h;obtain⟨cl,IU,c1,c2⟩:=gB (scope:=scope) (env:=X.env) fun x hx e=>I.ok.has x.1 (S.Iu x hx e);rw[exec_Assign_Name_used _ _ _ _ G4];refine aa0 (ak4 (aa0 ?_));show wpAny _ _ (do let _<-comprehension 104 scope X.env _ (newList []) false (eval iter X.env) (some 267)) _ _ s;refine aa0 (ae0 (au9 (use:=some 267) (Q:=fun _ s'=>SP X pins D .next s') rfl hs IU S.kind S.names
  (aU 323 fun v s1 h1=>aU h1 fun Pd s2 h2=>?_)) (fun _ s' hq=>aa7 (aa7 hq)) fun _ _ e=>e)
 obtain⟨it,fp,tn,J,H2,rfl,I2,T,eX,f2,R⟩:=h2;refine xw (RR:=fun acc C=>compPost 106 X.A X.xe (some 267) (fun _ s'=>SP X pins D .next s') acc C) (Q:=fun x H1=>cI i x σ H1 D.nx) S hc hg ip P7 Nz gL LK wQ DU hf he I2 T eX f2 c1 c2 R fun Da C s' H' I' fo vF q=>?_;obtain⟨m,hn⟩:=vF;show wpAny _ _ (assign 289 X.env (.ref Da)) _ _ _;obtain⟨f0,f1,_,f3,f4,f5⟩:=fo;refine wpAny_assign_Name (kE I' hN G6 hy (v:= .ref Da) rfl (fun sW Rc mR=>?_) Ax);obtain⟨a,sb,ha⟩:=mR;have UL:C≠a:=by
  rcases ha with z | z
  . rw[z];exact f1
  . exact Ne.symm (f4 _ _ z)
 refine⟨m,hn.sameBut sb UL,fun h' S2=>⟨_,H',?_,q⟩⟩;exact Rc.turned (t':=sW.toks) (fun b o hb e=>(S2.2 b hb).trans e) f0 f1 f3 f4 f5
end L2
namespace LD
open PySem PySem.Spec L2 LB PyProof.Rows
theorem aB.Og(E:aB [] M α H σ δ)(fl:α.flatten= [])(keep: ∀b u,H b=some u-> ¬M b->H' b=some u)(mo:kh M H'):aB [] M α H' σ δ:=by
 refine⟨E.ls,E.la,fun i s h=>?_,E.nd,E.mu,mo,fun W hW=>absurd hW aa8⟩;obtain⟨o,as,h1,h2,h3⟩:=E.sl i s h;have hn:as= []:=ao0.mpr fun a ha=>by
  have:=aV h2 ha;rw[fl] at this;exact aa8 this
 subst hn;refine⟨o,[],h1,h2,h3.keep (fun b u e n=>⟨keep b u e n,n⟩) 387 ?_⟩;cases s with
 | bx t=>
  obtain⟨d,c,e,_⟩:=h3;first | cases e | (obtain⟨_,e,_⟩:=h3;cases e)
 | _=>rfl
section
variable{X:Cx}{N:List Str}{nt n1:Nat}{js:List Nat}{scope:Scope}{elt tg iter gE iter2:Expr}{ifs cV:List Expr}{pos:Pos}{ti Nm:qI}{g g2:zr}{tc pL:oF}{te:ba}
def EO(nt:Nat)(js:List Nat)(ti:qI)(g:zr)(tc:oF)(Nm:qI)(g2:zr)(pL:oF)(te:ba):xN:=fun δ Q=>ti δ fun ai δ1=> ∃F:Dt->List Dt,(ai.flatMap F).length < sizeLine/\
 (∀d∈ai,g d (cin nt js δ1) fun δ2=>tc δ2 fun b δ3=>if b=true then Nm δ3 fun b9 δ4=> ∃(p:Dt->Bool) (f:Dt->Dt),(∀e∈b9,g2 e δ4 fun δ5=>pL δ5 fun b δ6=>b=p e/\(b=true->te δ6 fun r _=>r=f e))/\F d=(b9.filter p).map f else F d= [])/\Q (ai.flatMap F) δ1
theorem xx(wR: ∀v σ H Q,lG g v σ H Q->gh v σ H Q)(LI: ∀v σ H Q,lG g2 v σ H Q->RO v σ H Q): ∀σ H Q,lO (EO nt js ti g tc Nm g2 pL te) σ H Q->B7 nt js (lI ti) gh (lT tc) (lI Nm) RO (lT pL) (lE te) σ H Q:=fun σ H Q cK=>(by obtain⟨W,M,α,δ,Qd,E,q,k⟩:=cK;exact(by
 refine⟨W,M,α,δ,_,E,q,fun ai δ1 H1 J eU E1 c1 yl D hD=>?_⟩;obtain⟨F,hsz,step,q1⟩:=eU;have s0:aq H1 (upd H1 D 353):=aq.new hD;refine⟨fun i m acc H2=>m=ai.length - i/\i<=ai.length/\H2 D=some (.lst acc)/\ay 134 H2 acc ((ai.take i).flatMap F)/\aq H1 H2/\kh 134 H2,⟨ai.length,by simp,ae3 _,ae,.nil,s0,fun a ha=>?_⟩,?_⟩
 . rcases ha with ha | ha
   . obtain⟨o,e,n⟩:=E1.al a ha;exact⟨o,s0 _ _ e,n⟩
   . subst ha;exact 165
 rintro i m acc H2 ⟨rfl,hi,Hb,oY,s2,O3⟩
 have kf:Kf M H1 H2:=fun b o e _=>s2 _ _ e;by_cases dQ:i < ai.length
 . have hb: ∀b,H1 b≠none-> ¬M b-> ¬134 b:=fun b n z y=>y.elim z fun w=>n (by rw[w];exact hD);obtain⟨go,Bl⟩:=yl.go i H2 134 kf O3 hb dQ;refine .inr ⟨go,fun cf H'=>H' D=some (.lst cf)/\ay 134 H' cf ((ai.take (i+1)).flatMap F)/\aq H1 H'/\kh 134 H',fun cf H' gk=>(by obtain⟨z1,z2,z3,z4⟩:=gk;exact(⟨ai.length - (i+1),by grind,rfl,dQ,z1,z2,z3,z4⟩)),fun x H3 y=>?_⟩;obtain⟨s3,d,hd,rx⟩:=Bl x H3 y;have E2:aB [] 134 (List.replicate (nt+js.length) []) H2 292 (cin nt js δ1):=by
    have su:aq (upd H1 D (.lst acc)) H2:=fun b o e=>by
     by_cases hb:b=D
     . subst hb;rw[ae] at e;cases e;exact Hb
     . rw[ah hb] at e;exact s2 _ _ e
    have Ea:aB [] 134 α H2 σ δ1:=190
    exact sL Ea
   have E3:=E2.same s3;have bG:(List.replicate (nt+js.length) 176).flatten= []:=by simp
   refine wR _ _ _ _ ⟨[],_,_,_,d,_,E3,rx,step d (ac7 hd),fun α4 δ4 σ4 q4 E4 hα=>?_⟩;have L6:α4.flatten= []:=ao0.mpr fun x hx=>by have:=hα x hx;rw[bG] at this;exact absurd this aa8
   refine⟨[],_,α4,δ4,_,E4,q4,fun b δ5 H5 q5 E5 c5=>?_⟩;have s5:aq H3 H5:=fun b o e=>c5 b o e (by rw[L6];exact aa8);have Gf:aq H2 H5:=fun b o e=>s5 _ _ (s3 _ _ e);have tk:ai.take (i+1)=ai.take i++ [d]:=by rw[aq2,hd];rfl
   have SH:(ai.take (i+1)).flatMap F=(ai.take i).flatMap F++F d:=by rw[tk,at8];simp
   cases b with
   | false=>
    have q5:F d= []:=by simpa using q5
    refine a9 ⟨Gf _ _ Hb,?_,fun b o e=>Gf _ _ (s2 _ _ e),E5.al⟩;rw[SH,q5,ah8];exact oY.same Gf
   | true=>
    rw[if_pos rfl] at q5;refine cw ⟨[],_,α4,δ5,_,E5,q5,fun b9 δ6 H6 J2 fG E6 c6 VZ=>?_⟩;obtain⟨p,f,Oh,hF⟩:=fG;have s6:aq H5 H6:=fun b o e=>c6 b o e (by rw[L6];exact aa8);have Ke:aq H2 H6:=fun b o e=>s6 _ _ (Gf _ _ e);have Yq:((ai.take i).flatMap F).length+(F d).length<=(ai.flatMap F).length:=by
     have e:ai.flatMap F=(ai.take (i+1)).flatMap F++(ai.drop (i+1)).flatMap F:=by rw[<-at8,an3]
     rw[e,SH,ab8,ab8];grind
    refine⟨fun i2 m2 Fj H7=>m2=b9.length - i2/\i2<=b9.length/\H7 D=some (.lst Fj)/\ay 134 H7 Fj ((ai.take i).flatMap F++((b9.take i2).filter p).map f)/\(∀b o,H6 b=some o->b≠D->H7 b=some o)/\kh 134 H7,⟨b9.length,by simp,ae3 _,Ke _ _ Hb,by simpa using oY.same Ke,fun b o e _=>e,E6.al⟩,?_⟩;rintro i2 m2 Fj H7 ⟨rfl,Nz,UK,t6,k7,To⟩
    have Ts:Kf 134 H6 H7:=fun b o e n=>k7 b o e fun z=>n (.inr z);by_cases PH:i2 < b9.length
    . obtain⟨go2,SA⟩:=VZ.go i2 H7 134 Ts To (fun b _ n=>n) PH;have hlen:Fj.length < sizeLine:=by
       rw[t6.1,ab8,aa2];have:((b9.take i2).filter p).length<=(F d).length:=by
        rw[hF,aa2];have e:b9.filter p=(b9.take i2).filter p++(b9.drop i2).filter p:=by rw[<-as0,an3]
        rw[e,ab8];grind
       grind
      refine .inr ⟨go2,hlen,fun cf H'=>H' D=some (.lst cf)/\ay 134 H' cf ((ai.take i).flatMap F++((b9.take (i2+1)).filter p).map f)/\(∀b o,H6 b=some o->b≠D->H' b=some o)/\kh 134 H',fun cf H' i6=>(by obtain⟨z1,z2,z3,z4⟩:=i6;exact(⟨b9.length - (i2+1),by grind,rfl,PH,z1,z2,z3,z4⟩)),fun x2 H8 y2=>?_⟩;obtain⟨s8,d2,hd2,X8⟩:=SA x2 H8 y2;have E7:=(E6.Og L6 (fun b u e n=>Ts b u e n) To).same s8;refine LI _ _ _ _ ⟨[],_,_,_,d2,_,E7,X8,Oh d2 (ac7 hd2),fun α9 δ9 σ9 q9 E9 TL=>?_⟩;have WR:α9.flatten= []:=ao0.mpr fun x hx=>by have:=TL x hx;rw[L6] at this;exact absurd this aa8
      refine⟨[],_,α9,δ9,_,E9,q9,fun b RX mi kq Xo c10=>?_⟩;obtain⟨hp,OD⟩:=kq;have oW:aq H8 mi:=fun b o e=>c10 b o e (by rw[WR];exact aa8);have Ge:aq H7 mi:=fun b o e=>oW _ _ (s8 _ _ e);have tO:b9.take (i2+1)=b9.take i2++ [d2]:=by rw[aq2,hd2];rfl
      cases b with
      | false=>
       refine a9 ⟨Ge _ _ UK,?_,fun b o e n=>Ge _ _ (k7 b o e n),Xo.al⟩;rw[tO,as0,ae4];simp [<-hp];exact t6.same Ge
      | true=>
       refine cw ⟨[],_,α9,RX,_,Xo,OD rfl,fun r Xt Nf v UY E11 c11 Yb=>?_⟩;subst UY;have Rx:aq mi Nf:=fun b o e=>c11 b o e (by rw[WR];exact aa8);have Kc:aq H7 Nf:=fun b o e=>Rx _ _ (Ge _ _ e);have up: ∀{zs:List V} {ds:List Dt},ay 134 Nf zs ds->ay 134 (upd Nf D (.lst (Fj++ [v]))) zs ds:=fun r=>r.mono fun a o e n=>195
       refine⟨Kc _ _ UK,ae,?_,fun b o e n=>by rw[ah n];exact Kc _ _ (k7 b o e n),fun a ha=>?_⟩
       . rw[tO,as0,ae4,<-ag6];have e1:List.filter p [d2]= [d2]:=by simp [<-hp]
         rw[e1];exact up ((t6.same Kc).append (.one Yb))
       . by_cases hb:a=D
         . subst hb;exact 165
         . rw[ah hb];exact E11.al a ha
    . have e:i2=b9.length:=by grind
      subst e;refine .inl ⟨VZ.stop H7 Ts,UK,?_,fun b o e=>k7 b o (Ke _ _ (s2 _ _ e)) (az e hD),To⟩;rw[ak2] at t6;rw[SH,hF];exact t6
 . have e:i=ai.length:=by grind
   subst e;refine .inl ⟨yl.stop H2 kf,?_⟩;rw[ak2] at oY;have eH:upd 312 D (.lst acc)=H2:=by
    funext b
    by_cases hb:b=D
    . subst hb;rw[ae,Hb]
    . rw[ah hb,if_neg hb]
   rw[<-eH];have sH:aq H1 312:=fun b o e=>by
    show(if b=D then none else H2 b)=some o;rw[if_neg (az e hD)];exact s2 _ _ e
   refine k _ _ _ _ _ q1 (E1.same sH) (c1.tr (dS.of sH)) (oY.mono fun a o e n=>⟨?_,fun z=>n (.inl z)⟩) (by show(if D=D then none else H2 D)=none;rw[if_pos rfl]);show(if a=D then none else H2 a)=some o;rw[if_neg (fun z=>n (.inr z))];exact e))
def EG(i:Nat)(t:xN):jo:=fun Δ δ=>t δ fun ds δ'=>du δ' i/\Δ.nx (δ'.set i (.im (.lst ds)))
theorem tW(i n1:Nat){pos' py:Pos}(hN:X.N.Nodup)(S:mq X N nt js scope)(hc:X.calm=true)(hi:Iv X tg iter ti)(hg: ∀s H cl C ex,PG 109 tg gh)(ip:mj n1 gh)(wR: ∀v σ H Q,lG g v σ H Q->gh v σ H Q)(hf: ∀s H cl C ex,PF 109 ifs (lT tc))(Nz: ∀s H cl C ex,Iv 109 gE iter2 Nm)(LK: ∀s H cl C ex,PG 109 gE RO)(wQ:Bh n1 nt RO)(LI: ∀v σ H Q,lG g2 v σ H Q->RO v σ H Q)(DU: ∀s H cl C ex,PF 109 cV (lT pL))(he: ∀s H cl C ex,Ev 109 elt te)(G6:X.N[i]?=some y:=by rfl)(hy:Loc X.env.scope y:=by first | exact Or.inl rfl | exact Or.inr rfl)(G4:swapsWith 104 (some 289) pos'.line X.env=pure true:=by rfl)(P7:n1<=nt:=by decide)(hs: ∀x,foldedSetIterable iter X.env x=pure x:=by intro _;rfl)(gL: ∀s H cl C ex x,foldedSetIterable iter2 (109).env x=pure x:=by intro _ _ _ _ _ _;rfl)(Ax:X.fn y=true\/X.env.scope.names.lookup y=some .local:=by first | exact .inl rfl | exact .inr rfl | assumption):
  Ex X (.Assign [.Name y py] 104 pos') (EG i (EO nt js ti g tc Nm g2 pL te)):=PS.imp (CB hN G6 hy S hc hi hg ip P7 Nz gL LK wQ DU hf he G4 hs Ax) fun D σ H h=>by
 obtain⟨Ws,M,α,δ,Δ,E,L,q⟩:=h;exact xx wR LI _ _ _ ⟨Ws,M,α,δ,_,E,q,fun ds δ' H1 xs a ⟨ok,q1⟩ E1 c1 r1 h1=>by
  have E2:=E1.m7 (s:= .ow ds) h1 325 ok rfl ⟨a,xs,rfl,rfl,ae,r1.grow h1⟩;obtain⟨M',α',E3,_⟩:=E2.lQ (ac3 ok.lt);rw[List.set_set] at E3;exact L.nx _ _ _ _ _ E3 q1⟩
end
end LD
namespace bW
open PySem PySem.Spec L2 LB PyProof.Rows
theorem tF: ∀{l:List Nat},(∀i∈l,RelV (f i) (g i))->Vals (l.map f) (l.map g)
 | [],_=> .nil
 | i::l,h=> .cons (h i 112) (tF fun j hj=>h j (by simp [hj]))
end bW
namespace L2
open PySem PySem.Spec PyProof.Rows
open AutoSeq1 (wpAny_loadPart')
theorem boot_reversed:bootBuiltins "reversed"=some (.type "reversed"):=by decide+kernel
end L2
namespace HY
open PySem PySem.Spec L2 PyProof.Rows
theorem nR:typeLookup (.type "list") "keys"=pure none:=by rw[typeLookup_type,builtinLookup_eq_fast];kernel_rfl
theorem pY{A:Around}{s:Shared}(hx:s.heap.get? a=some {cls:= .type "list",dict:=none,data:= .seq xs k,slots:=sl})(hA:A.handled=none)(h: ∀h' tk,(∀b o,s.heap.get? b=some o->h'.get? b=some o)->Q none {s with heap:=h',toks:=tk}):
  wpAny 110 A (getAttr? 226 "keys") Q E s:=by
 obtain⟨hp,g,d,tk,os⟩:=s;have hT: ∀eV,(⟨hp,g,d,eV,os⟩:Shared).TypeIs 226 "list":=fun _=>⟨_,hx,rfl⟩
 have f1:=sub_AttributeError;have f3:=F.slot_list_getattribute.lookup;have f4:=F.slot_list_getattribute.bind 226;have f5:=am_list_getattr_none;unfold getAttr? getAttrBy? getAttrBy;repeat (any_goals (first | assumption | exact hT _ | ((with_reducible show wpAny _ _ (call (Value.builtin "list.__getattribute__") _ _) _ _ _);refine at1 F.slot_list_getattribute (hT _) am_entry_list_getattribute (F.args_list_getattribute_2 _ _) (meets_getattribute_miss_list a xs k sl "keys" _ nR (by decide+kernel) (by size_fits)) ⟨hx,hA,fun h' eV e rY=>?_⟩) | wp_step))
 obtain⟨t',u',he⟩:=rY.there;show wpAny _ _ (getattributeRaised _ _ _ _ _ _ _) _ _ _;unfold getattributeRaised;repeat (any_goals (first | assumption | wp_step))
 exact h _ _ rY.of.keeps
theorem ir:entryFor table "dict.update.loop"=some Builtin.«dict.update.loop» :=entryFor_of_fast (by kernel_rfl)
theorem cq:plainId "dict.update.loop"=true:=by decide+kernel
theorem tJ{A:Around}{refs:List V}{ps:List 264}(hn:refs.length=ps.length)(hA:A.handled=none):
  ∀(k i:Nat) (s:Shared) (H:Hp) (aG:List 264),ps.length - i=k->i<=ps.length->Inv X pins σ H s->H a=some 407->H l=some (.lst refs)->(∀(j:Nat) p,ps[j]?=some p-> ∃q,refs[j]?=some 398/\H q=some (.tup [kV p.1,p.2]))->aG.length+(ps.length - i)<=sizeLine->
   s.heap.IsListIter it l i->eZ X pins H it->(∀s',Inv X pins σ (upd H a (.dK (bQ aG (ps.drop i)))) s'->R (.ok (.ret .none)) s')->codeAny 106 A (.builtin "dict.update.loop" ⟨[.ref a,.ref it,rawInt (i:Int),.none],[]⟩) R s:=by
 intro k;induction k with
 | zero=>
  intro i s H aG hk hi I ha hl hp hsz st fo hR;have PR:i=ps.length:=by omega
  subst PR;obtain⟨ai,rv,p,hz⟩:=I.list (bL.of hl);refine aj2 ir ?_;rw[ah6 cq _];show wpAny _ A.in1 (pyNext 346 >>=_) _ _ s;obtain⟨f0,f1,f2,f3,f4,f5⟩:=id fo;have IQ:=rv.length;refine aa0 (wpAny_pyNext_list_end hA st p.isList (by simp;omega) fun h' eb=>?_);have I1:Inv X pins σ H {s with heap:=h'}:=I.turned (t':=s.toks) (fun b o hb e=>eb b o hb e) f0 f1 f3 f4 f5;have e:upd H a (.dK (bQ aG (ps.drop ps.length)))=H:=by
   rw[List.drop_length];funext b
   by_cases hb:b=a
   . subst hb;rw[ae,ha];rfl
   . rw[ah hb]
  rw[e] at hR;exact aa0 (aa7 (aa7 (hR _ I1)))
 | succ k ih=>
  intro i s H aG hk hi I ha hl hp hsz st fo hR;have dQ:i < ps.length:=by omega
  obtain⟨q,hq,YJ⟩:=hp i ps[i] (aa1 dQ);obtain⟨ai,rv,p,hz⟩:=I.list (bL.of hl);obtain⟨u,hu,ru⟩:=rv.get hq;cases (show u=Value.ref q from ru);refine aj2 ir ?_;rw[ah6 cq _];show wpAny _ A.in1 (pyNext 346 >>=_) _ _ s;obtain⟨f0,f1,f2,f3,f4,f5⟩:=id fo;refine aa0 (wpAny_pyNext_list_item st p.isList (x:= .ref q) (by simpa using hu) fun h' ax sb=>?_);have I1:Inv X pins σ H {s with heap:=h'}:=I.turned (t':=s.toks) 313 f0 f1 f3 f4 f5;obtain⟨_,b9,r2,o,ho,hc,hdn,n,Uy⟩:=(show aZ X.prog X.w H h' q (.tup [kV ps[i].1,ps[i].2]) from I1.aQ q _ YJ)
  obtain⟨ku,vu,rfl,rk,X9⟩:=vals2 r2;have hT:({s with heap:=h'}:Shared).TypeIs 398 "tuple":=⟨o,ho,hc⟩
  obtain⟨zz,WG,vs,rel,dd⟩:=y4 I1.aQ ha;have Yy:vs.length<=sizeLine:=by rw[<-rel.length];exact zz
  have Wg:it≠a:=fun z=>by rw[z,ha] at f0;cases f0
  have Yn:l≠a:=fun z=>by rw[z,ha] at hl;cases hl
  have lp:(385).length<=aG.length+1:=by have:=fk aG ps[i].1 ps[i].2;omega
  refine aa0 (ag2 (aa0 (ai3 ?_)));unfold Builtin.Dict.pairItems;refine aa0 (wpAny_typeOf hT ?_);have key:wpAny 106 A.in1 (holding [ku,vu] (dictSet a ku vu)) (fun _ s2=>wpAny 106 A.in1 (again (.builtin "dict.update.loop" ⟨[.ref a,.ref it,rawInt ((i:Int)+1),.none],[]⟩)) (fun fin s'=>match fin with
   | .done f=>R (.ok f) s'
   | .again c'=>c'.quiet=true/\codeAny 106 A c' R s') (fun e s'=>R (.error e) s') s2) (fun e s'=>R (.error e) s') {s with heap:=h'}:=by
   refine ag2 (wpAny_dictSet_pairs (hsz:=Yy) (nV rk) dd fun h2 FR hs=>?_);have he: ∃q,h2.get? a=some q:=let ⟨q,_,_,hq,_⟩:=FR;⟨q,hq⟩;have I2:=mL (t':=s.toks+1) I1 (by rw[ha];exact True.intro) hs he (xm 149 WG (rel.put ps[i].1 X9) FR);refine aa7 ⟨ah4 cq _,?_⟩;have nq: ∀q',H q'=some (.tup [kV ps[i].1,ps[i].2])->q'≠a:=fun q' e z=>by rw[z,ha] at e;cases e
   refine ih (i+1) _ _ 385 149 149 I2 ae (by rw[ah Yn];exact hl) (fun j p hj=>?_) 149 (ax.at fun o e=>(hs.2 it Wg).trans e) ⟨by rw[ah Wg];exact f0,f1,f2,f3,f4,f5⟩ fun s' I'=>hR s' ?_
   . obtain⟨q2,e1,e2⟩:=hp j p hj;exact⟨q2,e1,by rw[ah (fun z=>by rw[z,ha] at e2;cases e2)];exact e2⟩
   . have e : upd (upd H a (.dK 385)) a (.dK (bQ 385 (ps.drop (i + 1)))) = upd H a (.dK (bQ aG (ps.drop i))) := by
       rw[al1 dQ];funext b
       by_cases hb:b=a
       . subst hb;rw[ae,ae];rfl
       . rw[ah hb,ah hb,ah hb]
     rw[e] at I';exact I'
  rw[if_pos 105];show wpAny _ A.in1 (seqItems? 398 >>=_) _ _ _;unfold seqItems?;refine aa0 (aa0 (wpAny_load ho ?_));rw[Uy];exact aa7 (aa7 key)
def S4:V->List V->Hp->VK->Prop:=fun x vs H Q=> ∃a l aG refs ps,x= .ref a/\vs= [.ref l]/\H a=some 407/\H l=some (.lst refs)/\refs.length=ps.length/\(∀(j:Nat) (p:Key × V),ps[j]?=some p-> ∃q,refs[j]?=some (.ref q)/\H q=some (.tup [kV p.1,p.2]))/\aG.length+ps.length<=sizeLine/\Q .aC (upd H a (.dK (bQ aG ps)))
theorem zZ{X:Cx}(hA:X.A.handled=none):RW X "dict.update" S4:=by
 intro pins s σ H x xs v us Q I rx rs h;obtain⟨a,l,aG,refs,ps,rfl,rfl,ha,hl,hn,hp,hsz,q⟩:=h;cases (show v=Value.ref a from rx);obtain⟨u,rfl,ru⟩:=vals1 rs;cases (show u=Value.ref l from ru);obtain⟨zz,WG,vs,rel,dd⟩:=y4 I.aQ ha;obtain⟨ai,rv,p,hz⟩:=I.list (bL.of hl);refine wpAny_call (codeAny_call_builtin F.slot_dict_update.plain F.entry_dict_update (F.slot_dict_update.check _ _ _ _ _ _ _ _ dd.typeIs (F.args_dict_update_2 _ _) ?_));have hT:=dd.typeIs;obtain⟨oD,iY,UB⟩:=id hT;obtain⟨cD,dD,daD,slD⟩:=oD;have UB:cD= .type "dict":=UB;subst UB;have YV:s.TypeIs (.ref l) "list":=p.isList.typeIs;obtain⟨oL,nl,hL,e1,e2,e3⟩:=id p;obtain⟨cL,dL,Z2,X5⟩:=oL;simp only at e1 e2 e3;subst e1 e2 e3;unfold Builtin.«dict.update»;repeat (any_goals (first | assumption | (with_reducible refine pY hL hA fun h1 Ij Pb=>?_) | ((with_reducible show wpAny _ _ (pyIter _) _ _ _);refine ai8 (p.keeps Pb).isList ?_) | wp_step))
 have I1:Inv X pins σ H {s with heap:=h1,toks:=Ij}:=I.kept Pb;have I2:Inv X pins σ H {s with heap:=h1.push {cls:= .type "list_iterator",data:= .fields #[.ref l,.int 0 0]},toks:=Ij}:=I1.kept (t':=Ij) fun b o e=>aa3 _ e;refine⟨ah4 cq _,tJ hn hA ps.length 0 _ H aG 149 149 I2 ha hl hp 149 ⟨_,ab4 _ rfl,rfl,rfl⟩ (I1.iO (aa4 _) 345) fun s' I'=>⟨.aC,_,I',rfl,q⟩⟩
theorem nJ:mroOf 360=pure [.type "dict",.type "object"]:=by rw[mroOf_type];kernel_rfl
theorem l4:typeLookup 360 "__new__"=pure (some (.builtin "dict.__new__")):=by rw[typeLookup_type,builtinLookup_eq_fast];kernel_rfl
theorem ve:TypeCalled "dict" "dict.__new__" "dict.__init__":=
 ⟨by decide+kernel,by decide+kernel,⟨_,_,nJ⟩,madeBy_type nJ l4 (by decide+kernel),by decide+kernel,by rw[isSubtype_type];kernel_rfl,F.slot_dict_init⟩
theorem l3(a:Value):checkTypeCall "dict" ⟨[a],[]⟩=pure ():=by kernel_rfl
theorem nG(a:Value):checkBuiltinCall "dict.__new__" 382=pure ():=by kernel_rfl
theorem oi:entryFor table "dict.__new__"=some Builtin.«dict.__new__» :=entryFor_of_tree (by kernel_rfl)
theorem g0:plainId "dict.__new__"=true:=by decide+kernel
theorem oT:isSubtype 360 360=pure true:=by rw[isSubtype_type];kernel_rfl
theorem pf{s:Shared}(a:Value)(h:Q₁ 126 {s with heap:=s.heap.push {cls:= .type "dict",data:= .dict #[]}}):
  codeAny 110 A (.call (.builtin "dict.__new__") 382) (wants Q₁ E) s:=by
 refine codeAny_of_tree ?_;show wpAny _ A.in1 (do checkBuiltinCall "dict.__new__" 382;again (.builtin "dict.__new__" 382)) _ _ s;refine aa0 (am6 (nG a) (aa7 ⟨ah4 g0 _,aj2 oi ?_⟩));rw[ah6 g0 _];have Aq:=oT;have Ua:=nJ;obtain⟨hp,g,d,tk,os⟩:=s;unfold Builtin.«dict.__new__»;repeat (any_goals (first | assumption | wp_step))
def Km:List V->Hp->VK->Prop:=fun xs H Q=> ∃l refs ps,xs= [.ref l]/\H l=some (.lst refs)/\refs.length=ps.length/\(∀(j:Nat) (p:Key × V),ps[j]?=some p-> ∃q,refs[j]?=some (.ref q)/\H q=some (.tup [kV p.1,p.2]))/\ps.length<=sizeLine/\ ∀d,H d=none->Q (.ref d) (upd H d (.dK (bQ [] ps)))
theorem xy{X:Cx}(hA:X.A.handled=none):dJ X 360 Km:=by
 intro pins s σ H xs us Q I rs h;obtain⟨l,refs,ps,rfl,hl,hn,hp,hsz,q⟩:=h;obtain⟨u,rfl,ru⟩:=vals1 rs;cases (show u=Value.ref l from ru);have hD:H s.heap.objs.size=none:=I.aQ.fresh (aa4 _);refine callType_codes (Q₁:=fun obj s₁=>obj= .ref s.heap.objs.size/\s₁={s with heap:=s.heap.push {cls:= .type "dict",data:= .dict #[]}}) ve (l3 _) F.entry_dict_init (pf _ ⟨rfl,rfl⟩) fun obj s₁ h₁=>?_;obtain⟨rfl,rfl⟩:=h₁;have I0:Inv X pins σ 330 {s with heap:=s.heap.push {cls:= .type "dict",data:= .dict #[]}}:=I.laid (a:=s.heap.objs.size) (o:= .dK []) (t':=s.toks) (fun _ _ q=>aa3 _ q) (aa4 _) (u3 s.heap I.big);have nl:l≠s.heap.objs.size:=az hl hD;have WC:330 l=some (.lst refs):=by rw[ah nl];exact hl
 have Pw: ∀(j:Nat) (p:Key × V),ps[j]?=some p-> ∃q,refs[j]?=some 398/\330 q=some (.tup [kV p.1,p.2]):=fun j p hj=>by
  obtain⟨q2,e1,e2⟩:=hp j p hj;exact⟨q2,e1,by rw[ah (az e2 hD)];exact e2⟩
 have YC: ∀o:HO,upd 330 s.heap.objs.size o=upd H s.heap.objs.size o:=fun o=>by
  funext b
  by_cases hb:b=s.heap.objs.size
  . subst hb;rw[ae,ae]
  . rw[ah hb,ah hb,ah hb]
 obtain⟨ai,rv,p,hz⟩:=I0.list (bL.of WC);obtain⟨oL,nL,hL,e1,e2,e3⟩:=id p;obtain⟨cL,dL,Z2,X5⟩:=oL;simp only at e1 e2 e3;subst e1 e2 e3;have hS:(185).get? s.heap.objs.size=some {cls:= .type "dict",data:= .dict #[]}:=ab4 _ rfl;have hT:(168).TypeIs 126 "dict":=⟨_,hS,rfl⟩
 have YV:(168).TypeIs (.ref l) "list":=p.isList.typeIs;have qq:=q _ hD;generalize DM:s.heap.objs.size=D at*;generalize YH:168=s0 at*;have hS0:s0.heap.get? D=some {cls:= .type "dict",data:= .dict #[]}:=by rw[<-YH];exact hS
 refine⟨hT,F.args_dict_init_2 _ _,?_⟩;unfold Builtin.«dict.__init__»;repeat (any_goals (first | assumption | (with_reducible refine pY hL hA fun h1 Ij Pb=>?_) | ((with_reducible show wpAny _ _ (pyIter _) _ _ _);refine ai8 (p.keeps Pb).isList ?_) | wp_step))
 have I1:Inv X pins σ (upd H D (.dK [])) {s0 with heap:=h1,toks:=Ij}:=I0.kept Pb;have I2:Inv X pins σ (upd H D (.dK [])) {s0 with heap:=h1.push {cls:= .type "list_iterator",data:= .fields #[.ref l,.int 0 0]},toks:=Ij}:=I1.kept (t':=Ij) fun b o e=>aa3 _ e;refine⟨ah4 cq _,tJ (A:=X.A.in1) hn hA ps.length 0 _ _ [] 149 149 I2 ae WC Pw (by simpa using hsz) ⟨_,ab4 _ rfl,rfl,rfl⟩ (I1.iO (aa4 _) 345) fun s' I'=>⟨rfl,.ref D,_,I',rfl,?_⟩⟩;rw[YC];exact qq
end HY
namespace L2
open PySem PySem.Spec PyProof.Rows
open AutoSeq1 (wpAny_loadPart')
def iK(h:Heap)(t:Addr)(k:Int):Heap:=
 (h.push {cls:= .type "list_iterator",data:= .fields #[.ref t,.int 0 0]}).push {cls:= .type "enumerate",data:= .fields #[.none,.bool false,.ref h.objs.size,rawInt k,.none,.none]}
def AI(t:Addr)(k:Int):PySem.Spec:=fun _ R s=>(∃items,s.heap.IsList t items)/\R (.ok (.ret (.ref (s.heap.push {cls:= .type "list_iterator",data:= .fields #[.ref t,.int 0 0]}).objs.size))) {s with heap:=iK s.heap t k}
theorem uX{prog:Program}{w:World}{A:Around}(hh:A.handled=none)(it t:Addr)(qe:t≠it)(ai:Array Value)(k:Nat):
  Draws prog w A it [it,t] (ai.size+k) (fun i v=>k<=i/\ai[i - k]?=some v) (fun i h=>k<=i/\h.IsListIter it t (i - k)/\h.IsList t ai) where
 live:=fun i h eU=>(by obtain⟨_,st⟩:=eU;exact((221).live _ h st))
 frame:=fun i h h' gk hk=>(by obtain⟨l,st⟩:=gk;exact(⟨l,(221).frame _ h h' st hk⟩))
 item:=fun i s Q E hi fG hQ=>(by obtain⟨l,st⟩:=fG;exact((221).item (i - k) s Q E 101 st fun x h' tk px ax sb=>hQ x h' tk ⟨l,px⟩ ⟨by lia,by rw[show i+1 - k=i - k+1 by lia];exact ax⟩ sb))
 done:=fun s Q E i6 hE=>(by obtain⟨l,st⟩:=i6;exact((221).done s Q E (by rw[show ai.size+k - k=ai.size by lia] at st;exact st) hE))
section
variable{X:Cx}{pins:List 123}{σ:St}{H:Hp}{s:Shared}
def FA(K:PySem.W.Frag)(a:Addr)(k:Nat):It:=
 ⟨fun i H=> ∃xs x,bL K H a xs/\xs[i]?=some x,fun i H x H'=> ∃p y,x= .ref p/\H p=none/\H'=upd H p (.tup [.int 258,y])/\ ∀xs,bL K H a xs->xs[i]?=some y,fun i H=> ∃xs,bL K H a xs/\xs.length=i⟩
theorem vO{P:Program}{w:World}{K:PySem.W.Frag}{es:List Expr}{x1}{tp:Pos}(a e it:Addr)(k:Nat)(LM:e≠it):
  Turn P w K 171 (FA K a k) [e,it] e (fun i h=>(∃old,IsEnum h e it 258 old)/\h.IsListIter it a i) where
 mem:=by simp
 obj:=fun i h st b hb=>by
  obtain⟨⟨old,jx⟩,eX⟩:=st;rcases ad1.mp hb with q | q
  . subst q;exact⟨_,jx,fun v z=>nomatch (show Data.fields _=Data.cell v from z)⟩
  . have q:b=it:=by simpa using q
    subst q;obtain⟨o,q1,q2,q3⟩:=eX;exact⟨o,q1,fun v z=>by rw[q3] at z;cases z⟩
 keep:=fun i h h' st kk=>by
  obtain⟨⟨old,jx⟩,eX⟩:=st;exact⟨⟨old,kk e 112 _ jx⟩,eX.at fun o q=>kk it 112 o q⟩
 item:=by
  intro X hP hw hK hc i pins s σ H E I hf st hg;subst hP hw hK;obtain⟨xs,x,hq,hx⟩:=hg;obtain⟨ai,rv,pl,hz⟩:=I.list hq;have p:=pl.isList;obtain⟨u,hu,ru⟩:=rv.get hx;obtain⟨⟨old,jx⟩,eX⟩:=st;have ha: ∃o,s.heap.get? a=some o:=let ⟨o,q,_⟩:=p;⟨o,q⟩;have UC:a≠e:=by
   rintro rfl
   obtain⟨o,q1,q2,_⟩:=p;rw[jx] at q1;cases q1;injection q2 with z;exact absurd z 105
  have LQ:a≠it:=by
   rintro rfl
   obtain⟨o,q1,q2,_⟩:=p;obtain⟨o',r1,r2,_⟩:=eX;rw[r1] at q1;cases q1;rw[r2] at q2;injection q2 with z;exact absurd z 105
  have D:=uX (prog:=X.prog) (w:=X.w) (A:=X.A.in1) 288 it a LQ ai.toArray k;have hlen:i < ai.length:=(aa5.mp hu).1;refine wpAny_pyNext_enum_itemD D jx ⟨by lia,by rw[show i+k - k=i by lia];exact eX,p⟩ (by simp;lia) LM (by simp [LM,Ne.symm UC]) fun y h' tk hy ho iI ht hsz hk=>?_;obtain⟨_,hy⟩:=hy;rw[show i+k - k=i by lia] at hy;have ey:y=u:=by
   have:ai[i]?=some y:=by simpa using hy
   rw[hu] at this;cases this;rfl
  subst ey;refine 376;refine wpAny_letOwnedTupleGo_enum ho fun h2 Ux J7=>?_;have DZ:e < s.heap.objs.size:=ad0 jx;have DR:it < s.heap.objs.size:=let ⟨o,q,_⟩:=eX;ad0 q;have I1:Inv X pins σ (upd H s.heap.objs.size (.tup [.int 258,x])) {s with heap:=h2,toks:=tk+1}:=by
   refine I.kz (ch:= [e,it]) hf (aa4 _) (fun b o hb q=>?_) ⟨by show 2<=sizeLine;decide,[.int 258 tk,y],.cons ⟨_,rfl⟩ (.cons ru .nil),?_⟩
   . have h1:b≠e:=fun z=>hb (by simp [z]);have oa:b≠it:=fun z=>hb (by simp [z]);exact(J7.2 b h1).trans (hk b o h1 oa q)
   . exact⟨_,(J7.2 _ (an7 DZ)).trans ht,rfl,rfl,_,rfl⟩
  refine⟨.ref s.heap.objs.size,_,I1,rfl,⟨_,x,rfl,I.aQ.fresh (aa4 _),rfl,fun ys hy=>by rw[I.uG hy hq];exact hx⟩,⟨⟨y,?_⟩,?_⟩,fun b hb=>?_⟩
  . rw[show((i+1+k:Nat):Int)=258+1 by lia];exact Ux
  . obtain⟨_,q,_⟩:=iI;rw[show i+k+1 - k=i+1 by lia] at q;exact q.at fun o z=>(J7.2 it (Ne.symm LM)).trans z
  . rw[ah (fun z=>?_)]
    . exact(411).1
    . rcases ad1.mp hb with q | q
      . subst q;exact absurd (z▸DZ) (af2 _)
      . have q:b=it:=by simpa using q
        subst q;exact absurd (z▸DR) (af2 _)
 done:=by
  intro X hP hw hK hc i pins s σ H E I hf st hg;subst hP hw hK;obtain⟨xs,hq,hx⟩:=hg;obtain⟨ai,rv,pl,hz⟩:=I.list hq;have p:=pl.isList;obtain⟨⟨old,jx⟩,eX⟩:=st;have LQ:a≠it:=by
   rintro rfl
   obtain⟨o,q1,q2,_⟩:=p;obtain⟨o',r1,r2,_⟩:=eX;rw[r1] at q1;cases q1;rw[r2] at q2;injection q2 with z;exact absurd z 105
  have hl:=rv.length;have D:=uX (prog:=X.prog) (w:=X.w) (A:=X.A.in1) 288 it a LQ ai.toArray k;obtain⟨f0,f1,f2,f3,f4,f5⟩:=hf it 112;refine wpAny_pyNext_enum_endD D jx ⟨by simp,?_,p⟩ fun h' eb=>⟨rfl,I.turned (t':=s.toks) (fun b o hb q=>eb b o hb q) f0 f1 f3 f4 f5⟩
  rw[show ai.toArray.size+k - k=i by simp;lia];exact eX
 self:=fun A i s Q E st h=>by
  obtain⟨⟨old,jx⟩,_⟩:=st;exact av8 jx h
end
theorem sD{x1}{k:Nat}(I:Inv X pins σ H s)(q:R (FA X.K p k) H):
  wpAny 106 X.A (pyIter (.ref (215).objs.size)) (Q4 X pins σ 171 R) E {s with heap:=iK s.heap p k,toks:=tk}:=by
 have z:(215).objs.size=s.heap.objs.size+1:=ai4 ..;have he:IsEnum (iK s.heap p k) 143 s.heap.objs.size k .none:=by
  have:=ab4 215 (o:={cls:= .type "enumerate",data:= .fields #[.none,.bool false,.ref s.heap.objs.size,rawInt k,.none,.none]}) rfl;rw[z] at this;exact this
 have hi:(iK s.heap p k).IsListIter s.heap.objs.size p 0:=⟨_,aa3 _ 388,rfl,rfl⟩
 rw[z];refine av8 he ?_;refine⟨s.heap.objs.size+1,[s.heap.objs.size+1,s.heap.objs.size],_,FA X.K p k,H,rfl,I.kept fun c o e=>aa3 _ (aa3 _ e),vO p _ _ k (Nat.succ_ne_self _),⟨⟨.none,?_⟩,hi⟩,fun c hc=>?_,q⟩
 . rw[aq6];exact he
 . have hle : s.heap.objs.size <= c := by
     rcases ad1.mp hc with q | q
     . rw[q];exact ap1 _
     . have q:c=s.heap.objs.size:=by simpa using q
       rw[q];exact aa4 _
   exact I.iO hle (I.aQ.fresh hle)
end L2
namespace LD
open PySem PySem.Spec L2 LB PyProof.Rows
theorem BF{K:PySem.W.Frag}{M:Addr->Prop}{H:Hp}{a:Addr}{k:Nat}(h:H a=some 159)(n: ¬M a)(r:ay M H xs ds):Yl M H (FA K a k) (aX k ds):=by
 have hl:(aX k ds).length=ds.length:=by unfold aX;rw[ap6]
 refine⟨fun i H1 M' kf mo hb hi=>?_,fun H1 kf=>⟨xs,bL.of 351,by rw[r.1,hl]⟩⟩;rw[hl] at hi;have rr:=kT r kf hb;have hx:xs[i]?=some (xs[i]'(by rw[r.1];exact hi)):=aa1 _;refine⟨⟨xs,_,bL.of 351,hx⟩,fun x H2 oO=>?_⟩;obtain⟨pp,y,e1,e2,e3,e4⟩:=oO;subst e1;subst e3;have hy:=e4 xs (bL.of 351);have s:aq H1 (upd H1 pp (.tup [.int 258,y])):=aq.new e2;refine 259
end LD
namespace LD
open PySem PySem.Spec L2 LB HY PyProof.Rows
theorem aB.IY(E:aB Ws M α H σ δ)(hi:δ[i]?=some 406)(ha:α[i]?=some [a]):aB Ws 243 342 H σ 306:=by
 have dQ:=(348).1;obtain⟨a',xs,h1,h2,h3,h4,r⟩:=E.dk hi;rw[ha] at h2;cases h2;have h2:=ha;have mono: ∀{v:V} {d:Dt},Rep M H v d->Rep 243 H v d:=fun r=>r.mono fun b u e n=>309
 have hG: ∀{v:List V} {d:List Dt},ay M H v d->ay 243 H v d:=fun r=>r.mono fun b u e n=>309
 refine 141
 . by_cases bE:i=j
   . subst bE;rw[ac3 dQ] at hj;cases hj;have rm:=hG r;exact⟨some 226,[],h1,by rw[ac3 228],rfl,_,rfl,.jn h3 (fun z=>z.2 rfl) h4 rm.1 rm.2⟩
   . rw[ab2 bE] at hj;obtain⟨o2,xD,g1,g2,g3⟩:=E.sl j s hj;refine⟨o2,xD,g1,by rw[ab2 bE];exact g2,?_⟩;cases s with
     | no=>exact g3
     | im d=>exact⟨g3.1,let ⟨v,e,r⟩:=g3.2;⟨v,e,mono r⟩⟩
     | ow ds=>obtain⟨b,xs,e1,e2,e3,r⟩:=g3;exact⟨b,xs,e1,e2,e3,hG r⟩
     | bx t=>exact g3
     | dk ks ds=>obtain⟨b,vs,e1,e2,e3,e4,r⟩:=g3;exact⟨b,vs,e1,e2,e3,e4,hG r⟩
     | ob R=>obtain⟨v,e,r⟩:=g3;exact 248
     | fn f=>exact g3
 . obtain⟨l,hl,hx⟩:=aq7.mp hb;obtain⟨j,hj,e⟩:=ah2 hl;have ej:(342)[j]?=some l:=by rw[aa1 hj,e]
   by_cases bE:i=j
   . subst bE;rw[ac3 228] at ej;cases ej;exact absurd hx aa8
   . rw[ab2 bE] at ej;refine⟨E.mu b (aV ej hx),fun z=>?_⟩;subst z;exact eQ E.nd ej h2 (Ne.symm bE) hx 112
 . have k:=E.w W hW;refine 133
   . subst y;exact k.fz i _ _ hi h2 rfl b 112 z
   . obtain⟨t,e1,e2⟩:=k.bx d c e;have:i≠0:=fun z=>by subst z;rw[hi] at e1;cases e1
     exact 145
   . by_cases bE:i=j
     . subst bE;rw[ac3 228] at g2;cases g2;exact fun b hb=>absurd hb aa8
     . rw[ab2 bE] at g1 g2;exact k.fz j s as g1 g2 nb
def Nq(x:Int):Dt:= .tup [.int x,.bl true]
def Ak(L:List Int):List Key:=L.map .inl
def FQ(L:List Int):List Dt:=L.map fun _=> .bl true
theorem kO: ∀{ps vs:List 264},((vs++ps).map (·.1)).Nodup->bQ vs ps=vs++ps
 | [],vs,_=>by rw[ah8];rfl
 | p::ps,vs,h=>by
  have e:bQ vs (p::ps)=bQ (putK vs p.1 p.2) ps:=rfl;have n:(vs.any fun kv=>decide (kv.1=p.1))=false:=by
   rw[mO,am2];intro z;rw[ae4,ac2] at h;exact(ao2.mp h).2.2 _ z _ ac4 rfl
  have e2:putK vs p.1 p.2=vs++ [p]:=by unfold putK;rw[n];rfl
  rw[e,e2,kO (by rw[ag6];exact h),ag6];rfl
theorem CC: ∀{L:List Int} {xs:List V},ay M H xs (L.map Nq)->xs.length=(230).length/\ ∀(j:Nat) (p:Key × V),(230)[j]?=some p-> ∃q,xs[j]?=some 398/\H q=some (.tup [kV p.1,p.2]):=fun{L xs} r=>by
 refine⟨by rw[r.1,aa2,aa2],fun j p hj=>?_⟩;rw[aa6] at hj;cases e:L[j]? with
 | none=>rw[e] at hj;cases hj
 | some x=>
  rw[e] at hj;cases hj;obtain⟨v,hv,rv⟩:=r.get (i:=j) (d:=Nq x) (by rw[aa6,e];rfl);obtain⟨q,ys,rfl,hq,_,ry⟩:=rv.bN;obtain⟨y1,ys,rfl,q1,q2⟩:=ry.aO;obtain⟨y2,rfl,q3⟩:=bY q2;cases q1.ofInt;cases q3.uj;exact⟨q,hv,hq⟩
theorem yD{L:List Int}(h:L.Nodup):((230).map (·.1)).Nodup:=by
 rw[ae1];exact List.Pairwise.map _ (fun a b (n:a≠b) (z:(Sum.inl a:Key)=Sum.inl b)=>n (Sum.inl.inj z)) h
theorem xl: ∀{L:List Int},ay M H ((230).map (·.2)) (FQ L)
 | []=> .nil
 | x::L=> .cons (.bl true) xl
theorem Dy{L:List Int}:(230).map (·.1)=Ak L:=by rw[ae1];rfl
section
variable{X:Cx}{a b e:Expr}{t:ba}{tA:fb}{pos p apos bp:Pos}
theorem xA:bootBuiltins "dict"=some 360:=by decide+kernel
def MP(i:Nat)(t:fb):jo:=fun Δ δ=>t δ fun es δ'=> ∃L:List Int,es= [.lst (L.map Nq)]/\L.Nodup/\L.length<=1000/\du δ' i/\Δ.nx (δ'.set i (.dk (Ak L) (FQ L)))
theorem Ga(i:Nat)(hN:X.N.Nodup)(hA:X.A.handled=none)(hm:X.mg "dict"=none)(ha:Av X [e] tA)(hi:X.N[i]?=some x:=by rfl)(hx:Loc X.env.scope x:=by first | exact Or.inl rfl | exact Or.inr rfl)(hg:Gl X "dict":=by rfl)(he:starEach [e] X.env=(false,eval e X.env)::starEach [] X.env:=by rfl)(dM:(backTo bp 122).any (·.1)=false:=by rfl)(hs:swapsWith (.Call (.Name "dict" p) [e] [] bp) 373 pos.line X.env=pure false:=by rfl)(hf:X.fn x=true\/X.env.scope.names.lookup x=some .local:=by first | exact .inl rfl | exact .inr rfl | assumption):
  Ex X (.Assign [.Name x pos'] (.Call (.Name "dict" p) [e] [] bp) pos) (MP i tA):=PS.imp (fA hN hi hx (eg (xy hA) hg hm xA ha 105 105 he dM) hs hf) fun D σ H eU=>(by obtain⟨Ws,M,α,δ,Δ,E,L,q⟩:=eU;exact(
 ⟨Ws,M,α,δ,_,E,q,fun es δ' H' vs gk E1 c1 r1=>(by obtain⟨l,e,nd,le,ok,q1⟩:=gk;exact(by
  subst e;obtain⟨y,rfl,ry⟩:=bY r1;obtain⟨b,ws,rfl,hb,nb,rb⟩:=ry.bO;obtain⟨g1,g2⟩:=CC rb;refine⟨b,ws,_,rfl,hb,g1,g2,by rw[aa2];exact al3 (fJ le),fun d hd=>?_⟩;rw[kO (vs:= []) (by rw[au0];exact yD nd),au0];exact L.nx _ _ _ _ _ (E1.m7 (s:= .dk (Ak l) (FQ l)) hd 325 ok rfl ⟨d,_,rfl,rfl,ae,Dy,xl⟩) q1))⟩))
def QD(i:Nat):ba:=fun δ Q=> ∃ks ds,δ[i]?=some 406/\Q (.int ks.length) δ
theorem xq(i:Nat)(hm:X.mg "len"=none)(ho:PE X 124 (fu i))(hg:Gl X "len":=by rfl)(he:starEach [.Name x xp] X.env=(false,eval 124 X.env)::starEach [] X.env:=by rfl)(dM:(backTo pos 122).any (·.1)=false:=by rfl):
  Ev X (.Call (.Name "len" p) [.Name x xp] [] pos) (QD i):=PE.imp (eI A3 hg hm av4 (aj ho aK) 105 105 he dM) fun σ H Q fG=>(by obtain⟨W,M,α,δ,Qd,E,⟨ks,ds,hd,q⟩,k⟩:=fG;exact(by
 obtain⟨a,vs,h1,h2,h3,h4,r⟩:=E.dk hd;refine⟨_,h1,a,vs,rfl,h3,?_⟩;have:vs.length=ks.length:=by rw[<-h4,aa2]
 rw[this];exact k _ _ _ _ q E (fun _ _ z _=>z) (.int _)))
def Qq(i:Nat)(t:fb):ba:=fun δ Q=>(∃Pa lV,δ[i]?=some (.dk Pa lV))/\t δ fun es δ'=> ∃L M:List Int,es= [.lst (M.map Nq)]/\δ'[i]?=some (.dk (Ak L) (FQ L))/\(L++M).Nodup/\(L++M).length<=1000/\Q .aC (δ'.set i (.dk (Ak (L++M)) (FQ (L++M))))
theorem K5: ∀{M:Addr->Prop} {H:Hp} {vs:List 264},vs.map (·.1)=Ak L->ay M H 277 (FQ L)->vs=L.map fun x=>((.inl x:Key),V.bl true):=by
 induction L with
 | nil => intro M H vs e r
          have:vs.length=0:=by have:=ai5 List.length e;simpa [Ak] using this
          rw[as3 this];rfl
 | cons x L ih=>
  intro M H vs e r;cases vs with
  | nil=>cases e
  | cons v vs=>
   rw[ac2] at e r;obtain⟨y,ys,e2,r1,r2⟩:=r.aO;cases e2;injection e with e3 e4
   rw[ac2,<-ih e4 r2];obtain⟨k,u⟩:=v;simp only at e3 r1;subst e3;cases r1.uj;rfl
theorem Mp(i:Nat)(hA:X.A.handled=none)(ho:PE X 124 (fu i))(ha:Av X [e] tA)(eP:attributeBase 124 "update" X.env (eval 124 X.env)=eval 124 X.env:=by rfl)(n8:108=true:=by rfl)(eM:246=true:=by rfl)(hs:starEach [e] X.env=(false,eval e X.env)::starEach [] X.env:=by rfl)(eL:(backTo bp 122).any (·.1)=false:=by rfl):
  Ev X (.Call (.Attribute 124 "update" apos) [e] [] bp) (Qq i tA):=
 PE.imp (t9 PySem.F.plainAttrs_dict PySem.F.slot_dict_update PySem.F.type_dict_update (zZ hA) ho ha eP n8 eM hs eL) fun σ H Q i6=>(by obtain⟨W,M,α,δ,Qd,E,⟨⟨Pa,lV,h0⟩,q⟩,k⟩:=i6;exact(by
  obtain⟨a,SD,h1,h2,h3,h4,r⟩:=E.dk h0;refine⟨_,h1,.inr (.inr (.inl ⟨rfl,.inl ⟨_,h3⟩⟩)),W,M,α,δ,_,E,q,fun es δ' H' zs oO E1 c1 r1=>?_⟩;obtain⟨L,M2,e,hd,nd,le,q1⟩:=oO;subst e;obtain⟨y,rfl,ry⟩:=bY r1;obtain⟨b,ws,rfl,hb,nb,rb⟩:=ry.bO;obtain⟨g1,g2⟩:=CC rb;obtain⟨a',vs,iN,oa,si,RN,r'⟩:=E1.dk hd;rw[h1] at iN;cases iN;have ev:=K5 RN r';subst ev;refine⟨a,b,_,ws,_,rfl,rfl,si,hb,g1,g2,by rw[aa2,aa2,<-ab8];exact al3 (fJ le),?_⟩;rw[kO (by rw[<-ae4];exact yD nd),<-ae4];obtain⟨E2,c2⟩:=Er (vs':=(L++M2).map fun x=>((.inl x:Key),V.bl true)) E1 hd h1 oa Dy xl;exact k _ _ _ _ q1 E2 314 .aC))
end
theorem aB.back(E:aB W M α H σ δ)(hi:δ[i]?=some 406)(hs: ∀j s,j≠i->δ[j]?=some s->s= .no\/(∃d,s= .im d)\/ ∃t,s= .bx t)(ha:α[i]?=some [a])(E1:aB W 243 342 H' σ 306)(c1:dS 342 H H'):aB W M α H' σ δ/\dS α H H'/\ ∃vs,H' a=some (.dK vs):=by
 obtain⟨a',vs,h1,h2,h3,h4,r⟩:=E.dk hi;rw[ha] at h2;cases h2;have E':=E.IY hi ha;have sub: ∀b,b∈(342).flatten->b∈α.flatten/\b≠a:=fun b hb=>⟨(bJ hb).elim id fun z=>absurd z aa8,(E'.mu b hb).2⟩
 have na:a∉(342).flatten:=fun z=>(sub a z).2 rfl;have yU:H' a=some (.dK vs):=c1 _ _ h3 na;have cg:dS α H H':=fun b o e n=>c1 b o e fun z=>n (sub b z).1;have keep: ∀b o,H b=some o-> ¬M b->H' b=some o/\ ¬M b:=fun b o e n=>⟨cg b o e fun z=>n (E.mu b z),n⟩
 refine⟨⟨E.ls,E.la,fun j s hj=>?_,E.nd,E.mu,fun b hb=>?_,fun Wd hW=>?_⟩,cg,vs,yU⟩
 . by_cases bE:j=i
   . subst bE;rw[hi] at hj;cases hj;exact⟨_,_,h1,ha,a,vs,rfl,rfl,yU,h4,r.mono keep⟩
   . obtain⟨o,as,g1,g2,g3⟩:=E.sl j s hj;rcases hs j s bE hj with rfl | ⟨d,rfl⟩ | ⟨t,rfl⟩
     . exact⟨o,as,g1,g2,g3⟩
     . exact⟨o,as,g1,g2,g3.1,let ⟨u,e,ru⟩:=g3.2;⟨u,e,ru.mono keep⟩⟩
     . obtain⟨o2,xD,f1,f2,f3⟩:=E1.sl j (.bx t) (by rw[ab2 (Ne.symm bE)];exact hj);rw[ab2 (Ne.symm bE)] at f2;exact⟨o2,xD,f1,f2,f3⟩
 . by_cases z:b=a
   . subst z;exact⟨_,yU,fun xs z=>by cases z⟩
   . exact E1.al b ⟨hb,z⟩
 . have k0:=E.w Wd hW;have k1:=E1.w Wd hW;exact⟨k1.bs,k1.ex,k0.fr,k0.m0,k0.m1,k0.bx,k0.fz⟩
def EK(i:Nat)(t:xN):xN:=fun δ Q=> ∃ks ds,δ[i]?=some 406/\(∀j s,j≠i->δ[j]?=some s->s= .no\/(∃d,s= .im d)\/ ∃t,s= .bx t)/\t 306 fun es δ'=>δ'=δ.set i (.im (.jn ks ds))/\(∃ns:List Int,es=ns.map .int)/\Q es δ
theorem wH: ∀σ H Q,lO (EK i t) σ H Q->lO t σ H Q:=fun σ H Q cK=>(by obtain⟨W,M,α,δ,Qd,E,⟨ks,ds,hi,hs,q⟩,k⟩:=cK;exact(by
 obtain⟨a,vs,h1,h2,h3,h4,r⟩:=E.dk hi;refine⟨W,_,α.set i [],_,_,E.IY hi h2,q,fun es δ' H' xs p eU E1 c1 r1 hp=>?_⟩;obtain⟨eδ,⟨ns,ed⟩,q1⟩:=eU;subst eδ;subst ed;obtain⟨E2,c2,vs2,WI⟩:=E.back hi hs h2 E1 c1;rw[ints_rep r1];exact k _ _ _ _ _ q1 E2 c2 nu hp))
theorem Gb(i l:Nat){pos' py:Pos}(hN:X.N.Nodup)(S:mq X N nt js scope)(hc:X.calm=true)(hi:Iv X tg iter ti)(hg: ∀s H cl C ex,PG 109 tg gh)(ip:mj nt gh)(wR: ∀v σ H Q,lG g v σ H Q->gh v σ H Q)(hf: ∀s H cl C ex,PF 109 ifs (lT tc))(he: ∀s H cl C ex,Ev 109 elt te)(G6:X.N[i]?=some y:=by rfl)(hy:Loc X.env.scope y:=by first | exact Or.inl rfl | exact Or.inr rfl)(G4:swapsWith 115 (some 289) pos'.line X.env=pure true:=by rfl)(hs: ∀x,foldedSetIterable iter X.env x=pure x:=by intro _;rfl)(Ax:X.fn y=true\/X.env.scope.names.lookup y=some .local:=by first | exact .inl rfl | exact .inr rfl | assumption):
  Ex X (.Assign [.Name y py] 115 pos') (EG i (EK l (zb nt js ti g tc te))):=PS.imp (yt hN G6 hy S hc hi hg ip hf he G4 hs Ax) fun D σ H h=>by
 obtain⟨Ws,M,α,δ,Δ,E,L,q⟩:=h;refine lg wR _ _ _ (wH _ _ _ ⟨Ws,M,α,δ,_,E,q,fun ds δ' H1 xs a gk E1 c1 r1 h1=>?_⟩);obtain⟨ok,q1⟩:=gk;have E2:=E1.m7 (s:= .ow ds) h1 325 ok rfl ⟨a,xs,rfl,rfl,ae,r1.grow h1⟩;obtain⟨M',α',E3,_⟩:=E2.lQ (ac3 ok.lt);rw[List.set_set] at E3;exact L.nx _ _ _ _ _ E3 q1
section
variable{X:Cx}{a b e f:Expr}{ta tb t:ba}{tA:fb}{pos p p2:Pos}
def Wq(T:String):Dt->Option Bool
 | .aC=>some false
 | .bl _=>some (T=="bool" || T=="int")
 | .int _=>some (T=="int")
 | .str _=>some (T=="str")
 | .lst _=>some (T=="list")
 | .tup _=>some (T=="tuple")
 | _=>none
theorem G0{b:Bool}(r:Rep M H v d)(h:Wq T d=some b):uM T H v=some b:=by
 cases r with
 | aC=>exact h
 | bl c=>exact h
 | int c=>exact h
 | str c=>exact h
 | lst e n l r=>simp only [uM,e];exact h
 | tup e n l r=>simp only [uM,e];exact h
 | jn e n k l r=>cases h
 | vz e n k l r=>cases h
inductive MK(T:String)(Q:Dt->List Sl->Prop)(d:Dt)(δ':List Sl):Prop
 | mk (b:_) (h1:Wq T d=some b) (h2:Q (.bl b) δ')
def Vl(T:String)(t:ba):ba:=fun δ Q=>t δ fun d δ'=>MK T Q d δ'
theorem A9:bootBuiltins "isinstance"=some (.builtin "isinstance"):=by decide+kernel
theorem cY(hT:T="int"\/T="bool"\/T="tuple"\/T="list"\/T="str")(hm:X.mg "isinstance"=none)(ha:PA X [e,f] (mX (lE t) (mX (tC (.ty T)) tR)))(hg:Gl X "isinstance":=by rfl)(he:starEach [e,f] X.env=(false,eval e X.env)::starEach [f] X.env:=by rfl)(dM:(backTo pos (starEach [f] X.env)).any (·.1)=false:=by rfl):
  Ev X (.Call (.Name "isinstance" p) [e,f] [] pos) (Vl T t):=PE.imp (eI (Lp hT) hg hm A9 ha 105 105 he dM) fun σ H Q i6=>(by obtain⟨W,M,α,δ,Qd,E,q,k⟩:=i6;exact(
 ⟨W,M,α,δ,_,E,q,fun d δ' H' v kq E1 c1 r1=>(by obtain⟨b,hb,q1⟩:=kq;exact(⟨v,b,rfl,G0 r1 hb,k _ _ _ _ q1 E1 c1 (.bl _)⟩))⟩))
end
end LD
namespace L2
open PySem PySem.Spec PyProof.Rows
section
variable{X:Cx}
def lK(H:Hp):V->Option Bool
 | .aC=>some false
 | .bl _=>some false
 | .int _=>some false
 | .str _=>some false
 | .ref a=>match H a with
  | some (.lst _)=>some true
  | some (.tup _)=>some true
  | _=>none
 | _=>none
def N9(te:TE):TE:=fun σ H Q=>te σ H fun x H1=> ∃b,lK H1 x=some b/\Q (.bl b) H1
theorem Gz{k}(he:PE X e te)(Uo:Gl X "isinstance")(Ud:X.mg "isinstance"=none)(Um:Gl X "list")(Uc:X.mg "list"=none)(Ul:Gl X "tuple")(T9:X.mg "tuple"=none)(hs:starEach [e, .Tuple [.Name "list" p1, .Name "tuple" p2] k pt] X.env=(false,eval e X.env)::starEach [.Tuple [.Name "list" p1, .Name "tuple" p2] k pt] X.env:=by rfl):
  PE X 327 (N9 te):=by
 intro pins s σ H Q I h;refine al7 (bV I Uo Ud boot_isinstance ?_);refine PyProof.Rows.callWith_builtin1 ?_ hs rfl;rw[hs];show wpAny _ _ (spliced ((false,eval e X.env)::backTo pos (starEach [.Tuple [.Name "list" p1,.Name "tuple" p2] k pt] X.env))) _ _ s;refine ap7 (aU 324 fun u s1 cK=>?_);obtain⟨x,H1,I1,r1,b0,ex,q1⟩:=cK;have h2:starEach [Expr.Tuple [.Name "list" p1,.Name "tuple" p2] k pt] X.env=((false,eval (.Tuple [.Name "list" p1,.Name "tuple" p2] k pt) X.env))::starEach [] X.env:=rfl;rw[h2];show wpAny _ _ (spliced (((false,eval (.Tuple [.Name "list" p1,.Name "tuple" p2] k pt) X.env))::backTo pos 122)) _ _ s1;refine ap7 (wpAny_Tuple_spliced ?_);have h3:starEach [Expr.Name "list" p1,.Name "tuple" p2] X.env=(false,eval (.Name "list" p1) X.env)::starEach [.Name "tuple" p2] X.env:=rfl;rw[h3];show wpAny _ _ (spliced ((false,eval (.Name "list" p1) X.env)::backTo pt (starEach [.Name "tuple" p2] X.env))) _ _ s1;refine ap7 (bV I1 Um Uc LB.cW ?_);have h4:starEach [Expr.Name "tuple" p2] X.env=(false,eval (.Name "tuple" p2) X.env)::starEach [] X.env:=rfl;rw[h4];show wpAny _ _ (spliced ((false,eval (.Name "tuple" p2) X.env)::backTo pt 122)) _ _ s1;refine ap7 (bV I1 Ul T9 LB.cE ?_);refine aw1 ⟨by show 2<=sizeLine;decide,?_⟩;refine aw1 ?_;have fin: ∀(s':Shared),s'={s1 with heap:=s1.heap.push {cls:= .type "tuple",data:= .seq [Value.type "list",Value.type "tuple"].toArray}}-> ∀tk,EP X pins σ Q (.bool b0) {s' with toks:=tk}:=fun s' e tk=>by
  subst e;exact⟨.bl b0,H1,I1.kept fun b o e=>aa3 _ e,rfl,q1⟩
 cases x with
 | aC=>
  cases ex;cases (show u=Value.none from r1);exact ar8 (Tx:="NoneType") (cs:= [.type "list",.type "tuple"]) (vs:= [false,false]) ⟨Answers.of_false_none 105 199 199,Answers.of_false_none 105 199 199,True.intro⟩ rfl 388 (fin _ rfl)
 | bl i=>
  cases ex;cases (show u=Value.bool i from r1);exact ar8 (Tx:="bool") (cs:= [.type "list",.type "tuple"]) (vs:= [false,false]) ⟨Answers.of_false_bool 105 199 199,Answers.of_false_bool 105 199 199,True.intro⟩ rfl 388 (fin _ rfl)
 | int i=>
  cases ex;obtain⟨t,rfl⟩:=(show∃t,u=Value.int i t from r1)
  exact ar8 (Tx:="int") (cs:= [.type "list",.type "tuple"]) (vs:= [false,false]) ⟨Answers.of_false_int 105 199 199,Answers.of_false_int 105 199 199,True.intro⟩ rfl 388 (fin _ rfl)
 | str i=>
  cases ex;obtain⟨t,rfl⟩:=(show∃t,u=Value.str i t from r1)
  exact ar8 (Tx:="str") (cs:= [.type "list",.type "tuple"]) (vs:= [false,false]) ⟨Answers.of_false_str 105 199 199,Answers.of_false_str 105 199 199,True.intro⟩ rfl 388 (fin _ rfl)
 | ref a=>
  cases (show u=Value.ref a from r1);cases ha:H1 a with
  | none=>simp only [lK,ha] at ex;cases ex
  | some o=>
   cases o with
   | lst xs=>
    simp only [lK,ha] at ex;cases ex;obtain⟨_,_,n,_,h1⟩:=(show aZ X.prog X.w H1 s1.heap a 159 from I1.aQ a _ ha)
    exact ar8 (Tx:="list") (cs:= [.type "list",.type "tuple"]) (vs:= [true,false]) ⟨Answers.of_true 199 199,Answers.of_false_list 105 199 199,True.intro⟩ ⟨_,aa3 _ h1,rfl⟩ 388 (fin _ rfl)
   | tup xs=>
    simp only [lK,ha] at ex;cases ex;obtain⟨_,_,_,o,ho,hc,_⟩:=(show aZ X.prog X.w H1 s1.heap a 203 from I1.aQ a _ ha)
    exact ar8 (Tx:="tuple") (cs:= [.type "list",.type "tuple"]) (vs:= [false,true]) ⟨Answers.of_false_tuple 105 199 199,Answers.of_true 199 199,True.intro⟩ ⟨_,aa3 _ ho,hc⟩ 388 (fin _ rfl)
   | _=>simp only [lK,ha] at ex;cases ex
 | _=>cases ex
end
end L2
namespace LD
open PySem PySem.Spec L2 LB HY PyProof.Rows LW
section
variable{X:Cx}{a b e f:Expr}{ta tb t t':ba}{tA:fb}{pos p p2:Pos}
def Pf:Dt->Option Bool
 | .jn _ _=>none
 | .vz _ _=>none
 | .lst _=>some true
 | .tup _=>some true
 | _=>some false
theorem DD{b:Bool}(r:Rep M H v d)(h:Pf d=some b):lK H v=some b:=by
 cases r with
 | aC=>exact h
 | bl c=>exact h
 | int c=>exact h
 | str c=>exact h
 | lst e n l r=>simp only [lK,e];exact h
 | tup e n l r=>simp only [lK,e];exact h
 | jn e n k l r=>cases h
 | vz e n k l r=>cases h
inductive HA(Q:Dt->List Sl->Prop)(d:Dt)(δ':List Sl):Prop
 | mk (b:_) (h1:Pf d=some b) (h2:Q (.bl b) δ')
def QF(t:ba):ba:=fun δ Q=>t δ fun d δ'=>HA Q d δ'
theorem EE{k}(he:Ev X e t)(Ud:X.mg "isinstance"=none)(Uc:X.mg "list"=none)(T9:X.mg "tuple"=none)(Uo:Gl X "isinstance":=by rfl)(Um:Gl X "list":=by rfl)(Ul:Gl X "tuple":=by rfl)(hs:starEach [e, .Tuple [.Name "list" p1, .Name "tuple" p2] k pt] X.env=(false,eval e X.env)::starEach [.Tuple [.Name "list" p1, .Name "tuple" p2] k pt] X.env:=by rfl):
  Ev X 327 (QF t):=PE.imp (Gz he Uo Ud Um Uc Ul T9 hs) fun σ H Q mQ=>(by obtain⟨W,M,α,δ,Qd,E,q,k⟩:=mQ;exact(
 ⟨W,M,α,δ,_,E,q,fun d δ' H' v gm E1 c1 r1=>(by obtain⟨b,hb,q1⟩:=gm;exact(⟨b,DD r1 hb,k _ _ _ _ q1 E1 c1 (.bl _)⟩))⟩))
theorem ay.rev(h:ay M H xs ds):ay M H xs.reverse ds.reverse:=by
 induction xs generalizing ds with
 | nil=>
  cases ds with
  | nil=>exact .nil
  | cons=>have:=h.1;simp at this
 | cons x xs ih=>
  cases ds with
  | nil=>have:=h.1;simp at this
  | cons d ds=>
   obtain⟨y,ys,e,r1,r2⟩:=h.aO;cases e;rw[av9,av9];exact(ih r2).append (.one r1)
def Xr:Dt->Prop
 | .aC=>True
 | .bl _=>True
 | .int i=>i.natAbs < 2^140
 | .str x=>x.length<=15/\ ∀c∈x.cps.toList,c < 16^8
 | _=>False
def Lv:Nat->Nat->Dt->Prop
 | 0,w,d=>Xr d/\200<=w
 | k+1,w,d=>Lv k w d\/ ∃es n w',(d= .lst es\/d= .tup es)/\es.length<=n/\3+n*(w'+2)<=w/\ ∀e∈es,Lv k w' e
theorem Lv.le{w:Nat}: ∀{j k:Nat},Lv j w d->j<=k->Lv k w d
 | j, 0, h, e => by have : j = 0 := by omega
                    subst this;exact h
 | j,k+1,h,e=>by
  by_cases z:j=k+1
  . subst z;exact h
  . exact .inl (Lv.le h 149)
def xn:Nat->Dt->PyData
 | _,.aC=> .none
 | _,.bl b=> .bool b
 | _,.int i=> .int i
 | _,.str x=> .str x
 | m+1,.lst es=> .list (es.map (xn m))
 | m+1,.tup es=> .tuple (es.map (xn m))
 | _,_=> .none
def J4:Dt->Str
 | .str x=>x
 | d=>(xn 9 d).shown
theorem zf{M:Addr->Prop}{H:Hp}{v:V}{d:Dt}(r:Rep M H v d)(h:Xr d):Rq v:=by
 cases r <;> first | exact h | exact h.elim
theorem fv{α:Type}{f:α->Nat}{w:Nat}: ∀{l:List α},(∀x∈l,f x<=w)->(l.map fun x=>f x+2).sum<=l.length*(w+2)
 | [],_=>by simp
 | x::l,h=>by
  have:=fv (l:=l) fun y hy=>h y (ab6 _ hy);have:=h x ac4;rw[ac2,ak5,ac1,as7];omega
theorem ay.mem(h:ay M H xs ds)(hx:x∈xs): ∃d∈ds,Rep M H x d:=by
 obtain⟨i,hi,e⟩:=ah2 hx;have oJ:i < ds.length:=by rw[<-h.1];exact hi
 exact⟨ds[i],ag9 _,h.2 i _ _ (by rw[aa1 hi,e]) (aa1 oJ)⟩
theorem Lv.td: ∀{k m w:Nat} {v:V} {d:Dt},Lv k w d->Rep M H v d->k<=m->Td (fun _=>True) H k v/\wt H m v<=w
 | 0,m,w,v,d,h,r,_=>⟨zf r h.1,by rw[BI (zf r h.1)];exact h.2⟩
 | k+1,0,_,_,_,_,_,hk=>absurd hk 149
 | k+1,m+1,w,v,d,h,r,hk=>by
  rcases h with h | ⟨es,n,w1,h1,h2,h3,h4⟩
  . have:=Lv.td (m:=m+1) h r 149;exact⟨.inl this.1,this.2⟩
  . rcases h1 with rfl | rfl
    . obtain⟨a,xs,rfl,ha,_,rr⟩:=r.bO;have all: ∀x∈xs,Td (fun _=>True) H k x/\wt H m x<=w1:=fun x hx=>by
       obtain⟨e,he,re⟩:=rr.mem hx;exact Lv.td (h4 e he) re 149
      refine⟨Td.lst ha trivial fun x hx=>(all x hx).1,?_⟩;rw[BH ha];have s:=fv (f:=wt H m) (l:=xs) fun x hx=>(all x hx).2;have:xs.length*(w1+2)<=n*(w1+2):=al9 _ (by rw[rr.1];exact h2);omega
    . obtain⟨a,xs,rfl,ha,_,rr⟩:=r.bN;have all: ∀x∈xs,Td (fun _=>True) H k x/\wt H m x<=w1:=fun x hx=>by
       obtain⟨e,he,re⟩:=rr.mem hx;exact Lv.td (h4 e he) re 149
      refine⟨Td.tup ha fun x hx=>(all x hx).1,?_⟩;rw[BG ha];have s:=fv (f:=wt H m) (l:=xs) fun x hx=>(all x hx).2;have:xs.length*(w1+2)<=n*(w1+2):=al9 _ (by rw[rr.1];exact h2);omega
theorem za{M:Addr->Prop}{H:Hp}: ∀{m:Nat} {v:V} {d:Dt},Rep M H v d->((∀ks es,d≠ .jn ks es)/\ ∀ks es,d≠ .vz ks es)->(∀es,d= .lst es\/d= .tup es-> ∀e∈es,∀v,Rep M H v e->1<=m->dat H (m - 1) v=xn (m - 1) e)->dat H m v=xn m d:=fun{m v d} r nd h=>by
 cases r with
 | aC=>cases m <;> rfl
 | bl b=>cases m <;> rfl
 | int b=>cases m <;> rfl
 | str b=>cases m <;> rfl
 | @lst a xs ds e n l r=>
  cases m with
  | zero=>rfl
  | succ m=>
   rw[sG e];show PyData.list _=PyData.list _;congr 1
   refine ao9 (by simp [l]) fun i h1 h2=>?_;rw[aq8,aq8];rw[aa2] at h1 h2;exact h ds 301 _ (ag9 h2) _ (r i _ _ (aa1 h1) (aa1 h2)) 149
 | @tup a xs ds e n l r=>
  cases m with
  | zero=>rfl
  | succ m=>
   rw[sF e];show PyData.tuple _=PyData.tuple _;congr 1
   refine ao9 (by simp [l]) fun i h1 h2=>?_;rw[aq8,aq8];rw[aa2] at h1 h2;exact h ds (.inr rfl) _ (ag9 h2) _ (r i _ _ (aa1 h1) (aa1 h2)) 149
 | jn=>exact absurd rfl (nd.1 _ _)
 | vz=>exact absurd rfl (nd.2 _ _)
theorem Lv.dat{M:Addr->Prop}{H:Hp}: ∀{k m w:Nat} {v:V} {d:Dt},Lv k w d->Rep M H v d->dat H m v=xn m d
 | 0,m,w,v,d,h,r=>za r ⟨(fun ks es z=>by subst z;exact h.1),(fun ks es z=>by subst z;exact h.1)⟩ fun es z=>by rcases z with rfl | rfl <;> exact h.1.elim
 | k+1,m,w,v,d,h,r=>by
  rcases h with h | ⟨es,n,w1,h1,h2,h3,h4⟩
  . exact Lv.dat h r
  . exact za r ⟨(fun ks es z => by subst z; rcases h1 with z | z <;> cases z), (fun ks es z => by subst z; rcases h1 with z | z <;> cases z)⟩ fun Ja z e he v re _ => by
      have:Ja=es:=by rcases h1 with rfl | rfl <;> rcases z with z | z <;> first | (injection z with z;exact z.symm) | cases z
      subst this;exact Lv.dat (h4 e he) re
inductive Rh(ds:List Dt)(Q:Dt->Prop):Prop
 | mk (d w:_) (h1:ds= [d]) (h2:Lv 9 w d) (h3:w<=sizeLine) (h4:Q (.str (J4 d)))
theorem EB(hr:ck k X.A)(hm:X.mg "str"=none)(ha:Av X [e] tA)(hg:Gl X "str":=by rfl)(he:starEach [e] X.env=(false,eval e X.env)::starEach [] X.env:=by rfl)(dM:(backTo pos 122).any (·.1)=false:=by rfl):
  Ev X (.Call (.Name "str" p) [e] [] pos) (AW Rh tA):=va (AZ hr) (fun M H xs ds Qd Q al r kq k=>(by obtain⟨d,w,e,l,lw,q⟩:=kq;exact(by
 subst e;obtain⟨x,rfl,r1⟩:=bY r;obtain⟨td,tw⟩:=l.td r1 (aa4 9);refine⟨x,_,rfl,td,ac6 tw lw,?_⟩;have:Of H x=J4 d:=by
  have:=l.dat (m:=9) r1;cases r1 <;> first | rfl | (show(dat H 9 _).shown=(xn 9 _).shown;rw[this])
 rw[this];exact k H _ _ q 231 (.str _)))) hg hm fW ha 105 105 he dM
end
end LD
namespace LD
open PySem PySem.Spec L2 LB PyProof.Rows LW
theorem Hm:Ev X e 129:=fun pins s σ H Q I mR=>(by obtain⟨_,_,_,_,_,_,q,_⟩:=mR;exact(q.elim))
end LD
namespace LD
open PySem PySem.Spec L2 LB HY PyProof.Rows
inductive Bw:Dt->Prop where
 | aC:Bw .aC
 | bl (b:Bool):Bw (.bl b)
 | int (i:Int):Bw 392
 | str (x:Str):Bw (.str x)
 | tup {ds:List Dt}:(∀d∈ds,Bw d)->Bw (.tup ds)
theorem Rep.Bu(r:Rep M H v d)(f:Bw d)(al:kh M' H):Rep M' H v d:=by
 induction r with
 | aC=>exact .aC
 | bl b=>exact .bl b
 | int i=>exact .int i
 | str x=>exact .str x
 | lst h n l r ih=>cases f
 | tup h n l r ih=>
  cases f with
  | tup f=>exact .tup h (al.tup h) l fun i x d h1 h2=>ih i x d h1 h2 (f d (ac7 h2))
 | jn h n e l r ih=>cases f
 | vz h n e l r ih=>cases f
theorem ay.Bu(r:ay M H v d)(f: ∀x∈d,Bw x)(al:kh M' H):ay M' H v d:=⟨r.1,fun i x e h1 h2=>(r.2 i x e h1 h2).Bu (f e (ac7 h2)) al⟩
section
variable{X:Cx}{a b e:Expr}{t ta tk:ba}{tA:fb}{pos p apos bp:Pos}
inductive Rg(ds:List Dt)(Q:Dt->Prop):Prop
 | mk (ns:List Int) (h1:ds= [.lst 403]) (h2:Q (.int ns.sum))
theorem Jf(hc:X.calm=true)(hm:X.mg "sum"=none)(ha:Av X [e] tA)(hg:Gl X "sum":=by rfl)(he:starEach [e] X.env=(false,eval e X.env)::starEach [] X.env:=by rfl)(dM:(backTo pos 122).any (·.1)=false:=by rfl):
  Ev X (.Call (.Name "sum" p) [e] [] pos) (AW Rg tA):=j7 (EY hc) (fun M H xs ds Qd Q al r cK k=>(by
 obtain⟨ns,e,q⟩:=cK;subst e;obtain⟨x,rfl,r1⟩:=bY r;obtain⟨a,zs,rfl,ha,n,rr⟩:=r1.bO;rw[ints_rep rr] at ha;exact⟨a,ns,rfl,bL.of ha,k H _ _ q 231 (.int _)⟩)) hg hm A6 ha 105 105 he dM
end
end LD
namespace L2
open PySem PySem.Spec PyProof.Rows
inductive xO(H:Hp):Nat->V->V->Bool->Prop
 | flat {k:Nat} {v w:V}:dm v=true->dm w=true->xO H k v w (o6 v w)
 | tup {k:Nat} {p q:Addr} {xs ys:List V} {e:Nat->Bool}:H p=some 203->H q=some 412->261->xO H (k+1) 379 398 ((List.range (min xs.length ys.length)).all e && xs.length==ys.length)
 | lst {k:Nat} {p q:Addr} {xs ys:List V} {e:Nat->Bool}:H p=some 159->H q=some (.lst ys)->261->xO H (k+1) 379 398 ((List.range (min xs.length ys.length)).all e && xs.length==ys.length)
theorem Ec(h:dm v=true):o6 v v=true:=by cases v <;> first | rfl | (show(_==_)=true;exact al5 _) | cases h
theorem vq(h: ∀j,j < n->e j=true):((List.range (min n n)).all e && n==n)=true:=by
 rw[Nat.min_self,al5,Bool.and_true,ah9];exact fun j hj=>h j (af8.mp hj)
theorem xO.self: ∀{k:Nat} {v w:V} {b:Bool},xO H k v w b->v=w->b=true:=by
 intro k v w b h;induction h with
 | flat f1 f2=>intro e;subst e;exact Ec f1
 | tup h1 h2 _ ih=>
  intro e;cases e;rw[h1] at h2;cases h2;exact vq fun j hj=>ih j _ _ (aa1 hj) (aa1 hj) rfl
 | lst h1 h2 _ ih=>
  intro e;cases e;rw[h1] at h2;cases h2;exact vq fun j hj=>ih j _ _ (aa1 hj) (aa1 hj) rfl
theorem item_at(r:Vals xs ai)(h:j < ai.toArray.size): ∃x,xs[j]?=some x/\RelV x ai.toArray[j]:=by
 have hl:=r.length;have hj:j < ai.length:=by simpa using h
 obtain⟨u,e,ru⟩:=r.get (i:=j) (x:=xs[j]' 101) (aa1 _);refine⟨_,aa1 101,?_⟩;have:ai.toArray[j]=u:=by have:=(aa5.mp e).2;simpa using this
 rw[this];exact ru
theorem xO.at(I:Inv X pins σ H s): ∀{k:Nat} {v w:V} {b:Bool},xO H k v w b-> ∀{A:Around} {u u':Value},A.units+k < cLine->RelV v u->RelV w u'->SeqAt.EqAt A s u u' b:=by
 intro k v w b h;induction h with
 | flat f1 f2=>intro A u u' _ r1 r2;exact w9 r1 r2 f1 f2
 | @tup k p q xs ys e h1 h2 hc ih=>
  intro A u u' hu r1 r2;cases r1;cases r2;by_cases c:p=q
  . subst c;rw[(xO.tup h1 h2 hc).self rfl];exact SeqAt.EqAt.same _
  . obtain⟨ai,rv,pl,_⟩:=I.tuple (dF.of h1);obtain⟨b9,mC,Bo,_⟩:=I.tuple (dF.of h2);have g:=SeqAt.RcAt.tuples (A:=A) (s:=s) (e:=e) (show s.heap.IsTuple p _ from pl) (show s.heap.IsTuple q _ from Bo) 101 fun j j1 j2=>by
     obtain⟨x,hx,rx⟩:=item_at rv j1;obtain⟨y,hy,ry⟩:=item_at mC j2;exact ih j x y hx hy 332 rx ry
    rw[ab5,ab5,<-rv.length,<-mC.length] at g;exact SeqAt.EqAt.of_refs c g
 | @lst k p q xs ys e h1 h2 hc ih=>
  intro A u u' hu r1 r2;cases r1;cases r2;by_cases c:p=q
  . subst c;rw[(xO.lst h1 h2 hc).self rfl];exact SeqAt.EqAt.same _
  . obtain⟨ai,rv,pl,_⟩:=I.list (bL.of h1);obtain⟨b9,mC,Bo,_⟩:=I.list (bL.of h2);refine SeqAt.EqAt.of_refs c ?_;by_cases l:xs.length=ys.length
    . have g := SeqAt.RcAt.lists (A := A) (s := s) (e := e) pl.isList Bo.isList (by rw[ab5, ab5, <- rv.length, <- mC.length]; exact l) 101 fun j j1 j2 => by
        obtain⟨x,hx,rx⟩:=item_at rv j1;obtain⟨y,hy,ry⟩:=item_at mC j2;exact ih j x y hx hy 332 rx ry
      rw[ab5,<-rv.length] at g;rw[<-l,Nat.min_self,al5,Bool.and_true];exact g
    . have n:(xs.length==ys.length)=false:=by simpa using l
      rw[n,Bool.and_false];exact SeqAt.RcAt.lists_lengths pl.isList Bo.isList (by rw[ab5,ab5,<-rv.length,<-mC.length];simpa using l) 101
end L2
namespace LD
open PySem PySem.Spec L2 LB PyProof.Rows
def yX:Nat->Dt->Dt->Bool
 | k+1,.lst ds,.lst es=>(List.range 279).all 174 && ds.length==es.length
 | k+1,.tup ds,.tup es=>(List.range 279).all 174 && ds.length==es.length
 | _,d,e=>Ee d e
inductive Jz:Nat->Dt->Dt->Prop
 | flat {k:Nat} {d e:Dt}:cC d=true->cC e=true->Jz k d e
 | tup {k:Nat} {ds es:List Dt}:276->Jz (k+1) (.tup ds) (.tup es)
 | lst {k:Nat} {ds es:List Dt}:276->Jz (k+1) (.lst ds) (.lst es)
theorem D9(h:cC d=true)(h2:cC e=true):yX k d e=Ee d e:=by
 cases k with
 | zero=>unfold yX;rfl
 | succ k=>cases d <;> cases e <;> first | (unfold yX;rfl) | cases h | cases h2
theorem MT(z:Jz k d e): ∀{v w:V},Rep M H v d->Rep M H w e->xO H k v w (yX k d e):=by
 induction z with
 | flat f1 f2=>
  intro v w r1 r2;rw[D9 f1 f2,<-sA r1 r2 f1 f2];exact .flat (fS r1 f1) (fS r2 f2)
 | @tup k ds es _ ih=>
  intro v w r1 r2;obtain⟨p,xs,rfl,h1,_,rr⟩:=r1.bN;obtain⟨q,ys,rfl,h2,_,oX⟩:=r2.bN;show xO H (k+1) _ _ ((List.range 279).all 174 && ds.length==es.length);rw[<-rr.1,<-oX.1];refine .tup h1 h2 fun j x y hx hy=>?_;have l1:j < ds.length:=by rw[<-rr.1];exact(aa5.mp hx).1
  have l2:j < es.length:=by rw[<-oX.1];exact(aa5.mp hy).1
  rw[show ds.getD j .aC=ds[j] by simp [List.getD,l1],show es.getD j .aC=es[j] by simp [List.getD,l2]];exact ih j _ _ (aa1 l1) (aa1 l2) (rr.2 j _ _ hx (aa1 l1)) (oX.2 j _ _ hy (aa1 l2))
 | @lst k ds es _ ih=>
  intro v w r1 r2;obtain⟨p,xs,rfl,h1,_,rr⟩:=r1.bO;obtain⟨q,ys,rfl,h2,_,oX⟩:=r2.bO;show xO H (k+1) _ _ ((List.range 279).all 174 && ds.length==es.length);rw[<-rr.1,<-oX.1];refine .lst h1 h2 fun j x y hx hy=>?_;have l1:j < ds.length:=by rw[<-rr.1];exact(aa5.mp hx).1
  have l2:j < es.length:=by rw[<-oX.1];exact(aa5.mp hy).1
  rw[show ds.getD j .aC=ds[j] by simp [List.getD,l1],show es.getD j .aC=es[j] by simp [List.getD,l2]];exact ih j _ _ (aa1 l1) (aa1 l2) (rr.2 j _ _ hx (aa1 l1)) (oX.2 j _ _ hy (aa1 l2))
end LD
namespace LD
open PySem PySem.Spec L2 PyProof.Rows
section
variable{X:Cx}{pos:Pos}
def Et(i j l:Nat):zr:=fun d δ Q=> ∃d1 d2 d3,d= .tup [d1,d2,d3]/\du δ i/\du (δ.set i (.im d1)) j/\du ((δ.set i (.im d1)).set j (.im d2)) l/\Q (((δ.set i (.im d1)).set j (.im d2)).set l (.im d3))
theorem wV{i j l:Nat}{K:PySem.W.Frag}: ∀v σ H Q,lG (Et i j l) v σ H Q->AD K 3 (gG (cI i) (gG (cI j) (gG (cI l) wZ))) v σ H Q:=fun v σ H Q eU=>(by obtain⟨W,M,α,δ,d,Qd,E,r,⟨d1,d2,d3,e,OV,OU,Yg,q⟩,k⟩:=eU;exact(by
 subst e;obtain⟨a,xs,rfl,ha,n,rr⟩:=r.bN;obtain⟨x,ys,rfl,r2,r3⟩:=rr.aO;obtain⟨y,zs,rfl,r4,r5⟩:=r3.aO;obtain⟨z,ws,rfl,r6,r7⟩:=r5.aO;cases r7.eA;exact⟨a,_,rfl,dF.of ha,rfl,x,_,rfl,y,_,rfl,z,_,rfl,rfl,k _ _ _ q (((E.lC r2 OV).lC r4 OU).lC r6 Yg) fun x h=>fQ x (fQ x (fQ x h))⟩))
theorem LX(i j l:Nat)(hc:X.calm=true)(hN:X.N.Nodup)(hi:X.N[i]?=some x:=by rfl)(hj:X.N[j]?=some y:=by rfl)(hl:X.N[l]?=some z:=by rfl)(hx:Loc X.env.scope x:=by first | exact Or.inl rfl | exact Or.inr rfl)(hy:Loc X.env.scope y:=by first | exact Or.inl rfl | exact Or.inr rfl)(hz:Loc X.env.scope z:=by first | exact Or.inl rfl | exact Or.inr rfl)(hf:X.fn x=true\/X.env.scope.names.lookup x=some .local:=by first | exact .inl rfl | exact .inr rfl | assumption)(DU:X.fn y=true\/X.env.scope.names.lookup y=some .local:=by first | exact .inl rfl | exact .inr rfl | assumption)(Y3:X.fn z=true\/X.env.scope.names.lookup z=some .local:=by first | exact .inl rfl | exact .inr rfl | assumption)(hn:(281).length=3:=by rfl)(DL:(281).findIdx? (·.1)=none:=by rfl)(h1:(281).map (·.2)=assign (.Name x px) X.env::(assignEach [.Name y py, .Name z pz] X.env).map (·.2):=by rfl)(h2:(assignEach [.Name y py, .Name z pz] X.env).map (·.2)=assign 289 X.env::(assignEach [.Name z pz] X.env).map (·.2):=by rfl)(h3:(assignEach [.Name z pz] X.env).map (·.2)=assign (.Name z pz) X.env::(assignEach [] X.env).map (·.2):=by rfl):
  Gv X (.Tuple [.Name x px,.Name y py,.Name z pz] kk pos) (Et i j l):=PG.imp (cU hc (aF (aA hN hi hx hf) (aF (aA hN hj hy DU) (aF (aA hN hl hz Y3) bP h3) h2) h1) hn DL) wV
end
end LD
namespace L2
open PySem PySem.Spec PyProof.Rows HT
def pD(A:Around)(s:Shared)(y x:Value)(b:Bool):Prop:=
 ∀(prog:Program) (w:World) (E:Value->Shared->Prop) (Q:Value->Shared->Prop),Q (.bool b) s->wpAny 110 A (richCompare .Lt y x) Q E s
def jk(n m:Nat)(e l:Nat->Bool):Nat->Nat->Bool
 | 0,_=>decide (n < m)
 | f+1,i=>if e i then jk n m e l f (i+1) else l i
section
open PySem.AutoSeq1 (wpAny_loadPart')
open PySem.MeetsSeq PySem.MeetsSeq2 PySem.MeetsSeq3
theorem oQ(l b:Addr)(items aP:Array Value)(n n2:Nat)(dd NI:Option Addr)(sl Ir:Array 410)(e lo:Nat->Bool):
  Meets (Builtin.«tuple.__lt__» ⟨[.ref l,.ref b],[]⟩)
   (fun A R s=>s.heap.get? l=some {cls:= .type "tuple",dict:=dd,data:= .seq items n,slots:=sl}/\s.heap.get? b=some {cls:= .type "tuple",dict:=NI,data:= .seq aP n2,slots:=Ir}/\
    (∀j (h1:j < items.size) (h2:j < aP.size),SeqAt.EqAt A.in1 s items[j] aP[j] (e j))/\(∀j (h1:j < items.size) (h2:j < aP.size),e j=false->pD A.in1 s items[j] aP[j] (lo j))/\
    R (.ok (.ret (.bool (jk items.size aP.size e lo (min items.size aP.size) 0)))) s):=
 .of_wp fun prog w A R s h=>by
  obtain⟨hp,g,d,tk,os⟩:=s;obtain⟨hl,hb,he,ho,h⟩:=h;have f2:=AutoSeq1.sub_tuple_tuple;have zl:(364).length=min items.size aP.size:=by rw[List.length_zip,ac5,ac5]
  wp_walk using af1 hl,af1 hb,wpAny_forIn_list _ (fun rest b s'=>b.1=none/\s'=⟨hp,g,d,tk,os⟩/\ ∃i,i<=min items.size aP.size/\rest=(364).drop i/\
   R (.ok (.ret (.bool (jk items.size aP.size e lo (min items.size aP.size - i) i)))) ⟨hp,g,d,tk,os⟩) _
  case turn=>
   rintro⟨y,x⟩ rest b s' ⟨uT,rfl,i,hi,hz,hR⟩
   have il:i < (364).length:=by
    rcases Nat.lt_or_ge i (364).length with c | c
    . exact c
    . rw[List.drop_eq_nil_of_le c] at hz;cases hz
   rw[al1 il] at hz;injection hz with Wr Pr
   rw[zl] at il;have i1:i < items.size:=by lia
   have i2:i < aP.size:=by lia
   rw[List.getElem_zip] at Wr;injection Wr with hy hx
   have hy:y=items[i]:=by rw[hy];simp
   have hx:x=aP[i]:=by rw[hx];simp
   subst hy hx;obtain⟨f,ef⟩: ∃f,min items.size aP.size - i=f+1:=⟨min items.size aP.size - i - 1,by lia⟩
   rw[ef,jk] at hR;refine aa0 (he i i1 i2 prog w _ _ ?_);cases c:e i with
   | true=>
    rw[c,if_pos rfl] at hR;wp_walk
    exact⟨rfl,rfl,i+1,by lia,Pr,by rw[show min items.size aP.size - (i+1)=f by lia];exact hR⟩
   | false=>
    rw[c,if_neg ab3] at hR;have YI:=ho i i1 i2 c prog w;wp_walk using YI
    exact⟨_,rfl,by simpa using hR⟩
  case fin=>
   rintro⟨b1,b2⟩ s' ⟨uT,rfl,i,hi,hz,hR⟩
   simp only at uT;subst uT;have il:min items.size aP.size<=i:=by
    rw[<-zl];exact List.drop_eq_nil_iff.mp hz.symm
   rw[show min items.size aP.size - i=0 by lia,jk] at hR;wp_walk
   exact⟨_,rfl,by simpa [Builtin.Tuple.tupleCompareSizes] using hR⟩
  case h=>
   exact⟨rfl,rfl,0,ae3 _,rfl,h⟩
end
theorem pD.int(A:Around)(s:Shared)(a:Int)(t:Tok)(c:Int)(u:Tok):pD A s (.int a t) (.int c u) (decide (a < c)):=fun prog w E Q h=>Cu A s a t c u prog w E Q h
theorem pD.tuples{A:Around}{s:Shared}{e lo:Nat->Bool}(hl:IsTup s.heap l items)(hb:IsTup s.heap b aP)(hu:A.units < cLine)(he: ∀j (h1:j < items.size) (h2:j < aP.size),SeqAt.EqAt A.in1 s items[j] aP[j] (e j))(ho: ∀j (h1:j < items.size) (h2:j < aP.size),e j=false->pD A.in1 s items[j] aP[j] (lo j)):
  pD A s (.ref l) (.ref b) (jk items.size aP.size e lo (min items.size aP.size) 0):=fun prog w E Q h=>by
 obtain⟨⟨cls,dd,data,sl⟩,h1,hc,n,hd⟩:=id hl;obtain⟨⟨Vv,NI,data2,Ir⟩,h2,Ay,n2,hd2⟩:=id hb;simp only at hc hd Ay hd2;subst hc hd Ay hd2;exact richCompare_meets_room (op:= .Lt) ⟨_,h1,rfl⟩ ⟨_,h2,rfl⟩ PySem.F.slot_tuple_lt PySem.F.entry_tuple_lt (PySem.F.args_tuple_lt_2 _ _) (oQ l b items aP n n2 dd NI sl Ir e lo)
  ⟨h1,h2,he,ho,show Value.bool _≠Value.notImplemented/\Q (.bool _) s from⟨(fun x=>nomatch x),h⟩⟩ hu
inductive FU(H:Hp):Nat->V->V->Bool->Prop
 | int {k:Nat} {i j:Int}:FU H k 392 (.int j) (decide (i < j))
 | tup {k:Nat} {p q:Addr} {xs ys:List V} {e l:Nat->Bool}:H p=some 203->H q=some 412->261->(∀(j:Nat) x y,xs[j]?=some x->ys[j]?=some y->e j=false->FU H k x y (l j))->FU H (k+1) 379 398 (jk xs.length ys.length e l (min xs.length ys.length) 0)
theorem FU.at(I:Inv X pins σ H s): ∀{k:Nat} {v w:V} {b:Bool},FU H k v w b-> ∀{A:Around} {u u':Value},A.units+k < cLine->RelV v u->RelV w u'->pD A s u u' b:=by
 intro k v w b h;induction h with
 | int=>
  intro A u u' _ r1 r2;obtain⟨t,rfl⟩:=r1;obtain⟨t2,rfl⟩:=r2;exact pD.int A s _ t _ t2
 | @tup k p q xs ys e l h1 h2 hc ho ih=>
  intro A u u' hu r1 r2;cases r1;cases r2;obtain⟨ai,rv,pl,_⟩:=I.tuple (dF.of h1);obtain⟨b9,mC,Bo,_⟩:=I.tuple (dF.of h2);have g:=pD.tuples (A:=A) (s:=s) (e:=e) (lo:=l) pl Bo 101 (fun j j1 j2=>by
   obtain⟨x,hx,rx⟩:=item_at rv j1;obtain⟨y,hy,ry⟩:=item_at mC j2;exact(hc j x y hx hy).at I 332 rx ry) fun j j1 j2 ej=>by
   obtain⟨x,hx,rx⟩:=item_at rv j1;obtain⟨y,hy,ry⟩:=item_at mC j2;exact ih j x y hx hy ej 332 rx ry
  rw[ab5,ab5,<-rv.length,<-mC.length] at g;exact g
end L2
namespace L2
open PySem PySem.Spec PyProof.Rows
def held:Option Value->Array Value
 | none=> #[]
 | some v=> #[v,v]
def xQ(val:Nat->Int)(j:Nat):Option Value->Prop
 | none=>j=0
 | some v=> ∃i t,i < j/\v= .int (val i) t/\ ∀k,k < j->val k<=val i
theorem Fg(a v:Value):argsOk "max" ⟨[a],[("default",v)]⟩:=by unfold argsOk;kernel_rfl
section
variable{prog:Program}{w:World}{A:Around}{R:Result->Shared->Prop}{I S:Addr}{fp wr:List Addr}{n:Nat}{P:Nat->Value->Prop}{St:Nat->Heap->Prop}{val:Nat->Int}{d:Value}
theorem Ag(W:Walks prog w A.in1 I fp wr n P St)(hv: ∀i v,P i v-> ∃t,v= .int (val i) t)(hS:S∉fp): ∀(k j:Nat) (s:Shared) (b:Option Value) (c:Nat),n - j=k->j<=n->St j s.heap->xQ val j b->
  s.heap.get? S=some {cls:= .type "list",dict:=none,data:= .seq (held b) c,slots:= #[]}->
  (∀b h' tk,xQ val n b->(∀x o,x∉wr->x≠S->s.heap.get? x=some o->h'.get? x=some o)->R (.ok (.ret (b.getD d))) {s with heap:=h',toks:=tk})->
  codeAny 110 A (.builtin "max.loop" ⟨[.ref I,.none,.ref S],[("default",d)]⟩) R s:=by
 have nw:S∉wr:=fun z=>hS (W.sub _ z);have nm:269="max.loop":=by decide
 intro k;induction k with
 | zero=>
  intro j s b c e1 e2 st g hs hR;have e3:j=n:=by omega
  subst e3;refine aj2 F.entry_max_loop ?_;rw[ah6 ak7 _];show wpAny _ A.in1 278 _ _ s;refine aa0 (ah7 hs rfl ?_);show wpAny _ A.in1 210 _ _ s;refine aa0 (ai3 (W.done s _ _ st fun h' tk hk=>?_));have iI:=hk S _ nw hs;cases b with
  | none=>exact aa0 (aj5 (aa7 (hR none _ tk g fun x o n1 n2 e=>hk x o n1 e)))
  | some v=>
   have gL:h'.get? S=some {cls:= .type "list",dict:=none,data:= .seq #[v,v] c,slots:= #[]}:=iI;show wpAny _ A.in1 (updateSeq S (fun _=> #[]) >>=_) _ _ _;refine aa0 (am3 gL rfl (aa0 (aj8 357)));exact hR 356 _ tk g fun x o n1 n2 e=>(ag1 _ _ (Ne.symm n2)).trans (hk x o n1 e)
 | succ k ih=>
  intro j s b c e1 e2 st g hs hR;have lt:j < n:=by omega
  refine aj2 F.entry_max_loop ?_;rw[ah6 ak7 _];show wpAny _ A.in1 278 _ _ s;refine aa0 (ah7 hs rfl ?_);show wpAny _ A.in1 210 _ _ s;refine aa0 (ai3 (W.item j s _ _ lt st fun v h' tk hP ax hk=>?_));have iI:=hk S _ nw hs;obtain⟨t,rfl⟩:=hv _ _ hP;cases b with
  | none=>
   have e3:j=0:=g;subst e3;show wpAny _ A.in1 (updateSeq S (fun _=> #[_,_]) >>=_) _ _ _;refine aa0 (am3 iI rfl ?_);rw[nm];refine aa7 ⟨ah4 ak7 _,ih 1 _ (some (.int (val 0) t)) _ 149 lt 316 ⟨0,t,Nat.one_pos,rfl,fun k hk=>?_⟩ (an5 _ iI rfl) fun b h2 tO g2 k2=>?_⟩
   . exact(257).trans e
   . rw[show k=0 by omega];exact ae8 _
   . exact hR b h2 tO g2 fun x o n1 n2 e=>k2 x o n1 n2 260
  | some u=>
   obtain⟨i,t2,i1,rfl,i2⟩:=g;have gL:h'.get? S=some {cls:= .type "list",dict:=none,data:= .seq #[.int (val i) t2,.int (val i) t2] c,slots:= #[]}:=iI;show wpAny _ A.in1 (tryCatch (holding [_,_] (richCompare .Gt (.int (val j) t) (.int (val i) t2) >>=_)) _ >>=_) _ _ _;refine aa0 (ai3 (ag2 (aa0 (CmpOf.ints_gt (P:=fun i v=> ∃t,v= .int (val i) t) val 231 j i _ _ _ _ _ ⟨t,rfl⟩ ⟨t2,rfl⟩ ?_))));refine aa0 (ag2 (ai7 ?_));refine aa0 (aj8 357);by_cases c1:val j > val i
   . rw[if_pos (show(fun i j=>decide (val i > val j)) j i=true from ad3 c1)];refine aa0 (am3 gL rfl (aa0 (aj8 ?_)));rw[nm];refine aa7 ⟨ah4 ak7 _,ih (j+1) _ (some (.int (val j) t)) _ 149 lt 316 ⟨j,t,at3 _,rfl,fun k hk=>?_⟩ (an5 _ gL rfl) fun b h2 tO g2 k2=>?_⟩
     . exact(257).trans e
     . rcases ar0.mp hk with z | z
       . have:=i2 k z;omega
       . rw[z];exact ae8 _
     . exact hR b h2 tO g2 fun x o n1 n2 e=>k2 x o n1 n2 260
   . rw[if_neg (show¬(fun i j=>decide (val i > val j)) j i=true from fun z=>c1 (ad6 z))];refine aa0 (aj8 ?_);rw[nm];refine aa7 ⟨ah4 ak7 _,ih (j+1) _ (some (.int (val i) t2)) c 149 lt ax ⟨i,t2,by omega,rfl,fun k hk=>?_⟩ iI fun b h2 tO g2 k2=>?_⟩
     . rcases ar0.mp hk with z | z
       . exact i2 k z
       . rw[z];omega
     . exact hR b h2 tO g2 fun x o n1 n2 e=>k2 x o n1 n2 (hk x o n1 e)
end
theorem Ah(hh:A.handled=none)(hl:s.heap.IsList l 374)(h: ∀b h' tk,xQ (numAt xs) xs.size b->(∀x o,s.heap.get? x=some o->h'.get? x=some o)->Q (b.getD d) {s with heap:=h',toks:=tk}):
  wpAny 110 A (call (.builtin "max") [.ref l] [("default",d)]) Q E s:=by
 have nm:269="max.loop":=by decide
 refine kmb_tree F.kind_max F.plain_max F.entry_max (Fg _ _) ?_;show wpAny _ A.in1 (Builtin.Builtins.bindParams "max" ["key","default"] 0 390 >>=_) _ _ s;refine aa0 (am6 (show Builtin.Builtins.bindParams "max" ["key","default"] 0 390=pure [none,some d] from rfl) ?_);refine aa0 357;refine aa0 (iter_intList hl fun s2 e st fr ne=>?_);subst e;refine aa0 (ai0 ?_);rw[nm];have hz:(374).size=xs.size:=by simp [intItems]
 have W:=Walks.list (prog:=prog) (w:=w) (A:=A.in1) hh s.heap.objs.size l ne 374;refine aa7 ⟨ah4 ak7 _,Ag (val:=numAt xs) W (fun _ _=>intItems_at) (fun hm=>af2 _ (fr _ hm)) _ 0 _ none 0 rfl (ae3 _) (W.frame _ _ _ st fun x _ o e=>aa3 _ e) rfl 388 fun b h' tk g hk=>?_⟩;refine h b h' tk (hz▸g) (old_kept fun x o n e=>hk x o n (af0 (ad0 e)) (aa3 _ e))
section
variable{X:Cx}{e:Expr}{iV:List Keyword}{t tk:TA}{p pos:Pos}
def GrD(ns:List Int)(d:V)(v:V):Prop:=(ns= []/\v=d)\/ ∃M,v= .int M/\M∈ns/\ ∀a∈ns,a<=M
def N7(t tk:TA):TE:=fun σ H Q=>t σ H fun vs H1=>tk σ H1 fun ks H2=> ∃(a:Addr) (ns:List Int) (d:V),vs= [.ref a]/\ks= [d]/\H2 a=some (.lst 131)/\ ∀v,GrD ns d v->Q v H2
theorem A8:bootBuiltins "max"=some (.builtin "max"):=by decide+kernel
theorem Gy(hc:X.calm=true)(hg:Gl X "max")(hm:X.mg "max"=none)(ha:PA X [e] t)(hk:PK X iV tk)
  (As:(116).filterMap (·.1)=((["default"]:List Str)):=by rfl) (k1:backTo pos 142=(false,eval e X.env)::backTo pos 122:=by rfl) (k2:(backTo pos 142).any (·.1)=false:=by rfl)
  (k3:(116).all 393=true:=by rfl) (k4:(116).any 394=false:=by rfl):
  PE X (.Call (.Name "max" p) [e] iV pos) (N7 t tk):=by
 intro pins s σ H Q I h;refine al7 (bV I hg hm A8 (callWith_kw (aU 156 fun us s1 zz=>?_) k1 k2 k3 k4));obtain⟨vs,H1,I1,r1,q1⟩:=zz;refine aU (hk pos pins s1 σ H1 _ I1 q1) fun ws s2 zz=>?_;obtain⟨zs,H2,I2,rz,q2⟩:=zz;obtain⟨a,ns,d,rfl,rfl,hq,q⟩:=q2;obtain⟨u,rfl,ru⟩:=vals1 r1;cases ru;obtain⟨ud,rfl,rd⟩:=vals1 rz;rw[As];obtain⟨ai,rv,pl,_⟩:=I2.list (bL.of hq);have hi:=intsAre_of rv;obtain⟨xs,hx⟩:=hi.allInts.items;have IQ:s2.heap.IsList a 374:=hx▸pl.isList;have uQ:ns=xs.toList.map (·.1):=by
  rw[<-nums_intItems,<-hx];exact(317).symm
 refine Ah (I2.ok.hd hc) IQ fun b h' tk g hk=>?_;have hlen:ns.length=xs.size:=by rw[uQ,aa2,ac5]
 cases b with
 | none=>exact⟨d,H2,I2.kept hk,rd,q d (.inl ⟨as3 (hlen.trans g),rfl⟩)⟩
 | some v=>
  obtain⟨i,t2,g1,rfl,g2⟩:=g;refine⟨.int _,H2,I2.kept hk,⟨_,rfl⟩,q _ (.inr ⟨_,rfl,?_,fun m hm=>?_⟩)⟩
  . rw[numAt_eq,<-uQ];exact getD_mem 149
  . rw[uQ] at hm;obtain⟨j,hj,rfl⟩:=mem_getD hm;rw[aa2,ac5] at hj;rw[<-numAt_eq];exact g2 j hj
end
end L2
namespace LD
open PySem PySem.Spec L2 LB PyProof.Rows
def Dn:Nat->Dt->Dt->Bool
 | _,.int i,.int j=>decide (i < j)
 | k+1,.tup ds,.tup es=>jk ds.length es.length 174 (fun j=>Dn k (ds.getD j .aC) (es.getD j .aC)) 279 0
 | _,_,_=>false
inductive M5:Nat->Dt->Dt->Prop
 | int {k:Nat} {i j:Int}:M5 k 392 (.int j)
 | tup {k:Nat} {ds es:List Dt}:276->(∀(j:Nat) d e,ds[j]?=some d->es[j]?=some e->M5 k d e)->M5 (k+1) (.tup ds) (.tup es)
theorem rV:Dn k 392 (.int j)=decide (i < j):=by cases k <;> rfl
theorem K7: ∀{k:Nat} {d e:Dt},M5 k d e-> ∀{v w:V},Rep M H v d->Rep M H w e->FU H k v w (Dn k d e):=by
 intro k;induction k with
 | zero=>
  intro d e z v w r1 r2;cases z with
  | int=>rw[rV];cases r1.ofInt;cases r2.ofInt;exact .int
 | succ k ih=>
  intro d e z v w r1 r2;cases z with
  | int=>rw[rV];cases r1.ofInt;cases r2.ofInt;exact .int
  | @tup _ ds es hs gL=>
   obtain⟨p,xs,rfl,h1,_,rr⟩:=r1.bN;obtain⟨q,ys,rfl,h2,_,oX⟩:=r2.bN;show FU H (k+1) _ _ (jk ds.length es.length 174 (fun j=>Dn k (ds.getD j .aC) (es.getD j .aC)) 279 0);rw[<-rr.1,<-oX.1];have at': ∀{j x y},xs[j]?=some x->ys[j]?=some y-> ∃d e,ds[j]?=some d/\es[j]?=some e/\ds.getD j .aC=d/\es.getD j .aC=e/\Rep M H x d/\Rep M H y e:=fun{j x y} hx hy=>by
    have l1:j < ds.length:=by rw[<-rr.1];exact(aa5.mp hx).1
    have l2:j < es.length:=by rw[<-oX.1];exact(aa5.mp hy).1
    exact⟨ds[j],es[j],aa1 l1,aa1 l2,by simp [List.getD,l1],by simp [List.getD,l2],rr.2 j _ _ hx (aa1 l1),oX.2 j _ _ hy (aa1 l2)⟩
   refine .tup h1 h2 (fun j x y hx hy=>?_) (fun j x y hx hy _=>?_)
   . obtain⟨d,e,e1,e2,e3,e4,ra,rb⟩:=at' hx hy;rw[e3,e4];exact MT (hs j d e e1 e2) ra rb
   . obtain⟨d,e,e1,e2,e3,e4,ra,rb⟩:=at' hx hy;rw[e3,e4];exact ih (gL j d e e1 e2) ra rb
end LD
namespace bW
open PySem PySem.Spec L2 LB PyProof.Rows PySem.W
theorem p8: ∀(us vs:List Value) (i:Nat),
  (∀j u v,us[j]?=some u->vs[j]?=some v->SeqAt.EqAt A s u v (e (i+j)))->(∀j u v,us[j]?=some u->vs[j]?=some v->e (i+j)=false->pD A s u v (l (i+j)))->
  (i=0-> ∀u v,us[0]?=some u->vs[0]?=some v->e 0=false-> ∃a t b t',u= .int a t/\v= .int b t'/\l 0=decide (a < b))->
  Q (jk n m e l (min us.length vs.length) i) s->KatLex prog w A true (decide (n < m)) Q (us.zip vs) i s
 | [],_,_,_,_,_,q=>kat_nil (by rw[an8,Nat.zero_min] at q;exact q)
 | _::_,[],_,_,_,_,q=>kat_nil (by rw[an8,Nat.min_zero] at q;exact q)
 | u::us,v::vs,i,he,hl,h0,q=>by
  rw[List.zip_cons_cons];have e1:=he 0 u v rfl rfl;rw[ac1,ac1,show min (us.length+1) (vs.length+1)=min us.length vs.length+1 by lia,jk] at q;refine kat_cons (e1 prog w _ _ (kat_go (fun c=>?_) fun c=>?_))
  . rw[al4] at c;rw[if_pos c] at q;refine kat_yes (p8 us vs (i+1) (fun j a b h1 h2=>?_) (fun j a b h1 h2 h3=>?_) (fun z=>by lia) q)
    . have:=he (j+1) a b 245 244;rw[show i+(j+1)=i+1+j by lia] at this;exact this
    . have:=hl (j+1) a b 245 244;rw[show i+(j+1)=i+1+j by lia] at this;exact this h3
  . rw[al4] at c;rw[if_neg (by rw[c];exact ab3)] at q;refine kat_no ?_;cases i with
    | zero=>
     obtain⟨a,t,b,t',rfl,rfl,e3⟩:=h0 rfl u v rfl rfl c;rw[e3] at q;exact oneLt_int q
    | succ i=>
     have:=hl 0 u v rfl rfl (by rw[al4];exact c);rw[al4] at this;exact kat_one _ _ (this prog w _ _ q)
theorem vT{z:Shared}{K:Nat->Int}{vs:List Value}{l:Addr}{Q:Value->Shared->Prop}(hl:z.heap.IsList l vs.toArray)(Zg:vs.length<=100000)(hK: ∀i j,i < vs.length->j < vs.length->vs.getD i Value.none=vs.getD j Value.none->K i=K j)
  (hk:2<=vs.length-> ∀h':Heap,(∀b o,z.heap.get? b=some o->h'.get? b=some o)-> ∃κ,Ask prog w A.in1.in1 vs K {z with heap:=h'} κ)
  (h: ∀p,Pm vs.length p->VX K p vs.length->Q (.ref (z.heap.objs.size+1)) {z with heap:=sortedAll z.heap vs (outs vs p)}):wpAny 110 A (call (.builtin "sorted") [.ref l]) Q E z:=by
 refine Calls.call_function_entry kind_sorted plain_sorted entry_sorted (args_sorted1 _) ?_;unfold Builtin.«sorted»;let g1:Heap:=(z.heap.push 343).update z.heap.objs.size (Obj.mapSeq (· ++vs.toArray))
 let g2:Heap:=g1.push (seqObj "list" vs.toArray 0)
 have s1:g1.objs.size=z.heap.objs.size+1:=by show(Heap.update _ _ _).objs.size=_;rw[Heap.size_update,size_push']
 have o2:g2.get? (z.heap.objs.size+1)=some (seqObj "list" vs.toArray 0):=by rw[<-s1];exact ab4 _ rfl
 have k2: ∀b o,z.heap.get? b=some o->g2.get? b=some o:=fun b o q=>by
  have lb:=ad0 q;show(g1.push _).get? b=_;rw[aq3 _ _ _ (by rw[s1];exact af0 (aq1 lb))];show(Heap.update _ _ _).get? b=_;rw[Heap.get?_update_ne _ _ _ _ (af0 lb),aq3 _ _ _ (af0 lb)];exact q
 refine aa0 (m:=checkCount "sorted" 1 1 _) (aa7 (aa0 (collect_list hl (aa0 (wpAny_newList ?_ (by rw[ap0];lia))) (by rw[ap0];lia))));show wpAny _ _ _ _ _ {z with heap:=g2};rw[s1];refine aa0 (ag2 (ao8 slot_list_sort ⟨_,o2,rfl⟩ entry_list_sort (vU (z:={z with heap:=g2}) (K:=K) o2 Zg hK (fun c h' kk=>hk c h' fun b o q=>kk b o (af0 (aq1 (ad0 q))) (k2 b o q)) fun p x y=>⟨_,rfl,aa7 ⟨_,rfl,h p x y⟩⟩) (args_list_sort _)))
theorem vP(I:Inv X pins σ H s)(h:H t=some 412): ∃(o:Obj) (us:List Value) (n:Nat),s.heap.get? t=some o/\o.cls= .type "tuple"/\o.data= .seq us.toArray n/\Vals ys us:=by
 obtain⟨js,rj,pj,_⟩:=I.tuple (dF.of h);obtain⟨o,ho,hc,n,hd⟩:=(show s.heap.IsTuple t js.toArray from pj)
 exact⟨o,js,n,ho,hc,hd,rj⟩
theorem yW(I:Inv X pins σ H s): ∀{xs:List V} {us:List Value},Vals xs us->(∀x∈xs,∃t n ys,x= .ref t/\H t=some (.tup (.int n::ys)))-> ∃fs,KatTups s.heap us fs/\fs.length=us.length/\ ∀v∈fs,∃x t,v=Value.int x t
 | _,_,.nil,_=>⟨[],.nil,rfl,fun v hv=>absurd hv aa8⟩
 | _,_,.cons r rs,hp=>by
  obtain⟨fs,t,lf,hi⟩:=yW I rs fun x hx=>hp x (ab6 _ hx);obtain⟨a,n,ys,e,ha⟩:=hp _ ac4;subst e;cases r;obtain⟨o,us,m,ho,hc,hd,ru⟩:=vP I ha;cases ru with
  | cons r1 _=>
   obtain⟨tk,rfl⟩:=r1;refine⟨.int n tk::fs,.cons ho hc hd rfl t,by rw[ac1,ac1,lf],fun v hv=>?_⟩;rcases ad1.mp hv with e | hv
   . exact⟨_,_,e⟩
   . exact hi v hv
theorem HP{A:Around}{k:Nat}{K:Nat->Int}(I:Inv X pins σ H s)(hu:A.units+k < cLine)(rv:Vals xs us)(h2:2<=us.length)(hp: ∀x∈xs,∃t n ys,x= .ref t/\H t=some (.tup (.int n::ys)))(hl: ∀i j x y,xs[i]?=some x->xs[j]?=some y->FU H (k+1) x y (decide (K i < K j))): ∃κ,Ask prog w A us K s κ:=by
 obtain⟨fs,t,lf,hi⟩:=yW I rv hp;refine⟨tuples' true,fun Q q=>kat_kind (T:= .type "int") t 101 (fun v hv=>?_) 199 q,fun i j oJ Au C q=>?_⟩
 . obtain⟨x,tk,rfl⟩:=hi v hv;exact Looks.of_pure rfl
 . have fi:us.getD i Value.none=us[i]:=by simp [List.getD,oJ]
   have fj:us.getD j Value.none=us[j]:=by simp [List.getD,Au]
   have li:i < xs.length:=by rw[rv.length];exact oJ
   have lj:j < xs.length:=by rw[rv.length];exact Au
   have L:=hl i j _ _ (aa1 li) (aa1 lj);obtain⟨u1,g1,r1⟩:=rv.get (aa1 li);obtain⟨u2,g2,r2⟩:=rv.get (aa1 lj);rw[aa1 oJ] at g1;rw[aa1 Au] at g2;have g1:us[i]=u1:=Option.some.inj g1;have g2:us[j]=u2:=Option.some.inj g2;obtain⟨t1,n1,ys1,e1,h1⟩:=hp _ (ag9 li);obtain⟨t2,n2,ys2,e2,h2⟩:=hp _ (ag9 lj);rw[e1] at r1 L;rw[e2] at r2 L;cases r1;cases r2;unfold kas_ask;rw[fi,fj,g1,g2];generalize decide (K i < K j)=b at L q;cases L with
   | @tup _ _ _ zs1 zs2 e l a1 a2 hc ho=>
    rw[h1] at a1;cases a1;rw[h2] at a2;cases a2;obtain⟨o1,us1,m1,YO,_,NC,Ry⟩:=vP I h1;obtain⟨o2,us2,m2,Ny,_,hd2,mC⟩:=vP I h2;refine kat_lt YO NC Ny hd2 ?_;rw[ab5,ab5];have l1:=Ry.length;have l2:=mC.length;rw[l1,l2] at q;have Jx: ∀{ys:List V} {us:List Value},Vals ys us-> ∀(j:Nat) u,us[j]?=some u-> ∃y,ys[j]?=some y/\RelV y u:=fun{ys us} r j u h=>by
     have hj:j < ys.length:=by rw[r.length];exact(aa5.mp h).1
     obtain⟨u',Wt,ru⟩:=r.get (aa1 hj);rw[h] at Wt;cases Wt;exact⟨_,aa1 hj,ru⟩
    refine p8 (e:=e) (l:=l) _ _ 0 (fun j u v g1 g2=>?_) (fun j u v g1 g2 hf=>?_) (fun _ u v g1 g2 hf=>?_) q
    . obtain⟨y1,y2,y3⟩:=Jx Ry j u g1;obtain⟨x1,x2,x3⟩:=Jx mC j v g2;rw[aq6];exact(hc j y1 x1 y2 x2).at I hu y3 x3
    . obtain⟨y1,y2,y3⟩:=Jx Ry j u g1;obtain⟨x1,x2,x3⟩:=Jx mC j v g2;rw[aq6] at hf ⊢;exact(ho j y1 x1 y2 x2 hf).at I hu y3 x3
    . obtain⟨y1,y2,y3⟩:=Jx Ry 0 u g1;obtain⟨x1,x2,x3⟩:=Jx mC 0 v g2;cases y2;cases x2;have:=ho 0 _ _ rfl rfl hf;obtain⟨Ij,rfl⟩:=y3;obtain⟨tO,rfl⟩:=x3;generalize l 0=b0 at this;cases this;exact⟨_,_,_,_,rfl,rfl,rfl⟩
theorem sM{X:Cx}(k:Nat)(hu:X.A.units+2+k < cLine):dJ X (.builtin "sorted") (fun xs H Q=> ∃(a:Addr) (vs:List V) (K:Nat->Int),xs= [.ref a]/\H a=some (.lst vs)/\vs.length<=100000/\
  (∀x∈vs,∃t n ys,x= .ref t/\H t=some (.tup (.int n::ys)))/\(∀i j x y,vs[i]?=some x->vs[j]?=some y->FU H (k+1) x y (decide (K i < K j)))/\(∀(i j:Nat) x,vs[i]?=some x->vs[j]?=some x->K i=K j)/\
  ∀(p:Addr) (q:List Nat),H p=none->q.Perm 366->q.Pairwise (fun i j=>K i<=K j)->Q 379 (upd H p (.lst (q.map fun i=>vs.getD i .aC)))):=by
 intro pins s σ H xs us Q I r h;obtain⟨a,ws,K,rfl,hq,hl,hp,dQ,heq,q⟩:=h;obtain⟨u,rfl,ru⟩:=vals1 r;cases ru;obtain⟨ai,rv,pl,_⟩:=I.list (bL.of hq);have hlen:ai.length=ws.length:=rv.length.symm;refine vT (K:=K) pl.isList 101 (fun i j x y e=>?_) (fun h2 h' kk=>HP (I.kept (t':=s.toks) kk) (by show X.A.units+1+1+k < cLine;lia) rv h2 hp dQ) fun p hp hu=>?_
 . have lx:i < ws.length:=by lia
   have ly:j < ws.length:=by lia
   obtain⟨u1,g1,r1⟩:=rv.get (aa1 lx);obtain⟨u2,g2,r2⟩:=rv.get (aa1 ly);rw[show ai.getD i Value.none=u1 by rw[List.getD,g1];rfl,show ai.getD j Value.none=u2 by rw[List.getD,g2];rfl] at e;subst e;obtain⟨t1,n1,y1,e1,_⟩:=hp _ (ag9 lx);obtain⟨t2,n2,y2,e2,_⟩:=hp _ (ag9 ly);rw[e1] at r1;rw[e2] at r2;cases r1;cases r2;refine heq i j (.ref t1) ?_ ?_
   . rw[aa1 lx,e1]
   . rw[aa1 ly,e2]
 . obtain⟨e,he⟩:=sortedAll_at s.heap ai (outs ai p);have hf:H 143=none:=I.aQ.fresh (ap1 _);have dM:p.toList.Perm (List.range ws.length):=by have:=ak6.mp hp.pm;rw[<-hlen];simpa using this
   have lt: ∀i∈p.toList,i < ws.length:=fun i hi=>by have:=dM.mem_iff.mp hi;simpa using this
   have so:p.toList.Pairwise (fun i j=>K i<=K j):=by
    rw[al0];intro i j hi hj bE;rw[ac5,hp.sz,hlen] at hi hj;have:=hu i j 101 101;have gi:p.getD i 0=p[i]'(by rw[hp.sz];lia):=by simp [Array.getD,hp.sz,hlen,hi]
    have gj:p.getD j 0=p[j]'(by rw[hp.sz];lia):=by simp [Array.getD,hp.sz,hlen,hj]
    unfold kp at this;rw[gi,gj] at this;simpa using this
   refine⟨.ref 143,_,I.laid (t':=s.toks) (o:= .lst (p.toList.map fun i=>ws.getD i .aC)) (fun b o e=>sortedAll_old e) (ap1 _) ?_,rfl,q _ _ hf dM so⟩;refine⟨by rw[aa2,dM.length_eq,ac0,ap0];lia,p.toList.map (fun i=>ai.getD i Value.none),e,?_,he⟩;refine tF fun i hi=>?_;have li:=lt i hi;obtain⟨u1,g1,r1⟩:=rv.get (aa1 li);rw[show ai.getD i Value.none=u1 by rw[List.getD,g1];rfl,show ws.getD i .aC=ws[i] by simp [List.getD,li]];exact r1
end bW
namespace LD
open PySem PySem.Spec L2 LB PyProof.Rows bW
inductive HS:Dt->Prop
 | int (i:Int):HS 392
 | tup {ds:List Dt}:(∀d∈ds,HS d)->HS (.tup ds)
theorem HS.one(n:HS d): ∀{e:Dt} {v:V},HS e->Rep M H v d->Rep M H v e->d=e:=by
 induction n with
 | int i=>
  intro e v n2 r1 r2;cases r1.ofInt;cases n2 with
  | int j=>cases r2;rfl
  | tup h=>cases r2
 | @tup ds h ih=>
  intro e v n2 r1 r2;obtain⟨a,xs,rfl,h1,_,rr⟩:=r1.bN;cases n2 with
  | int j=>cases r2
  | @tup es h'=>
   obtain⟨a',vH,e1,iN,_,V6⟩:=r2.bN;cases e1;rw[h1] at iN;cases iN;have ll:ds.length=es.length:=rr.1.symm.trans V6.1;rw[show ds=es from ao9 ll fun i g1 g2=>ih _ (ag9 g1) (h' _ (ag9 g2)) (rr.2 i _ _ (aa1 (by rw[rr.1];exact g1)) (aa1 g1)) (V6.2 i _ _ (aa1 (by rw[rr.1];exact g1)) (aa1 g2))]
section
variable{X:Cx}{e:Expr}{tA:fb}{pos p:Pos}
inductive Bi(k:Nat)(ds:List Dt)(Q:Dt->Prop):Prop
 | mk (es:List Dt) (key:Dt->Int) (h1:ds= [.lst es]) (h2:es.length<=100000) (h3: ∀d∈es,HS d/\ ∃n rs,d= .tup (.int n::rs)) (h4: ∀d∈es,∀d'∈es,M5 (k+1) d d'/\Dn (k+1) d d'=decide (key d < key d'))
  (h5: ∀ms:List Dt,ms.Perm es->ms.Pairwise (fun a b=>key a<=key b)->Q (.lst ms))
theorem qm(k:Nat)(hu:X.A.units+2+k < cLine)(hm:X.mg "sorted"=none)(ha:Av X [e] tA)(hg:Gl X "sorted":=by rfl)(he:starEach [e] X.env=(false,eval e X.env)::starEach [] X.env:=by rfl)(dM:(backTo pos 122).any (·.1)=false:=by rfl):
  Ev X (.Call (.Name "sorted" p) [e] [] pos) (AW (Bi k) tA):=j7 (sM k hu) (fun M H xs ds Qd Q al r cK kk=>(by
 obtain⟨es,key,rfl,h2,h3,h4,q⟩:=cK;obtain⟨x,rfl,r1⟩:=bY r;obtain⟨a,zs,rfl,ha,n,rr⟩:=r1.bO;have dat: ∀{i:Nat} {z},zs[i]?=some z-> ∃d,es[i]?=some d/\Rep M H z d/\es.getD i .aC=d:=fun{i z} hz=>by
  have li:i < es.length:=by rw[<-rr.1];exact(aa5.mp hz).1
  exact⟨_,aa1 li,rr.2 i _ _ hz (aa1 li),by simp [List.getD,li]⟩
 refine⟨a,zs,fun i=>key (es.getD i .aC),rfl,ha,by rw[rr.1];exact h2,fun x hx=>?_,fun i j x y hx hy=>?_,fun i j x hx hy=>?_,fun p q' hp pm pw=>?_⟩
 . obtain⟨i,hi⟩:=List.getElem?_of_mem hx;obtain⟨d,hd,rd,_⟩:=dat hi;obtain⟨nt,m,rs,rfl⟩:=h3 d (ac7 hd);obtain⟨t,ys,rfl,ht,_,ry⟩:=rd.bN;obtain⟨y,XF,rfl,r2,_⟩:=ry.aO;cases r2.ofInt;exact⟨t,m,XF,rfl,ht⟩
 . obtain⟨d,hd,rd,e1⟩:=dat hx;obtain⟨d',sZ,Ox,e2⟩:=dat hy;obtain⟨sh,lt⟩:=h4 d (ac7 hd) d' (ac7 sZ);show FU H (k+1) x y (decide (key (es.getD i .aC) < key (es.getD j .aC)));rw[e1,e2,<-lt];exact K7 sh rd Ox
 . obtain⟨d,hd,rd,e1⟩:=dat hx;obtain⟨d',sZ,Ox,e2⟩:=dat hy;show key (es.getD i .aC)=key (es.getD j .aC);rw[e1,e2,(h3 d (ac7 hd)).1.one (h3 d' (ac7 sZ)).1 rd Ox]
 . have s:aq H (upd H p (.lst (q'.map fun i=>zs.getD i .aC))):=aq.new hp;have Yd:(q'.map fun i=>es.getD i .aC).Perm es:=by
    have:=pm.map fun i=>es.getD i .aC;rw[rr.1] at this;refine this.trans (List.Perm.of_eq ?_);apply ao9
    . simp
    . intro i g1 g2;simp [List.getD,g2]
   refine kk _ _ _ (q _ Yd (as5.mpr pw)) s (Rep.pK ae (al.fresh hp) ⟨by rw[aa2,aa2],fun i x d hx hd=>?_⟩);rw[aa6] at hx hd;cases hi:q'[i]? with
   | none=>rw[hi] at hx;cases hx
   | some j=>
    rw[hi] at hx hd;have lj:j < zs.length:=by have:=pm.mem_iff.mp (ac7 hi);simpa using this
    have hz:zs[j]?=some (zs[j]):=aa1 lj;obtain⟨d',sZ,Ox,e2⟩:=dat hz;rw[Option.map_some,e2] at hd;cases hd;rw[Option.map_some,show zs.getD j .aC=zs[j] by simp [List.getD,lj]] at hx;cases hx;exact Ox.same s)) hg hm kd ha 105 105 he dM
end
end LD
namespace L2
open PySem PySem.Spec PyProof.Rows
def sV(val:Nat->Int)(j:Nat):Option Value->Prop
 | none=>j=0
 | some v=> ∃i t,i < j/\v= .int (val i) t/\ ∀k,k < j->val i<=val k
theorem Ff(a v:Value):argsOk "min" ⟨[a],[("default",v)]⟩:=by unfold argsOk;kernel_rfl
section
variable{prog:Program}{w:World}{A:Around}{R:Result->Shared->Prop}{I S:Addr}{fp wr:List Addr}{n:Nat}{P:Nat->Value->Prop}{St:Nat->Heap->Prop}{val:Nat->Int}{d:Value}
theorem Ab(W:Walks prog w A.in1 I fp wr n P St)(hv: ∀i v,P i v-> ∃t,v= .int (val i) t)(hS:S∉fp): ∀(k j:Nat) (s:Shared) (b:Option Value) (c:Nat),n - j=k->j<=n->St j s.heap->sV val j b->
  s.heap.get? S=some {cls:= .type "list",dict:=none,data:= .seq (held b) c,slots:= #[]}->
  (∀b h' tk,sV val n b->(∀x o,x∉wr->x≠S->s.heap.get? x=some o->h'.get? x=some o)->R (.ok (.ret (b.getD d))) {s with heap:=h',toks:=tk})->
  codeAny 110 A (.builtin "min.loop" ⟨[.ref I,.none,.ref S],[("default",d)]⟩) R s:=by
 have nw:S∉wr:=fun z=>hS (W.sub _ z);have nm:(toString "min"++toString ".loop":String)="min.loop":=by decide
 intro k;induction k with
 | zero=>
  intro j s b c e1 e2 st g hs hR;have e3:j=n:=by omega
  subst e3;refine aj2 F.entry_min_loop ?_;rw[ah6 aq9 _];show wpAny _ A.in1 278 _ _ s;refine aa0 (ah7 hs rfl ?_);show wpAny _ A.in1 210 _ _ s;refine aa0 (ai3 (W.done s _ _ st fun h' tk hk=>?_));have iI:=hk S _ nw hs;cases b with
  | none=>exact aa0 (aj5 (aa7 (hR none _ tk g fun x o n1 n2 e=>hk x o n1 e)))
  | some v=>
   have gL:h'.get? S=some {cls:= .type "list",dict:=none,data:= .seq #[v,v] c,slots:= #[]}:=iI;show wpAny _ A.in1 (updateSeq S (fun _=> #[]) >>=_) _ _ _;refine aa0 (am3 gL rfl (aa0 (aj8 357)));exact hR 356 _ tk g fun x o n1 n2 e=>(ag1 _ _ (Ne.symm n2)).trans (hk x o n1 e)
 | succ k ih=>
  intro j s b c e1 e2 st g hs hR;have lt:j < n:=by omega
  refine aj2 F.entry_min_loop ?_;rw[ah6 aq9 _];show wpAny _ A.in1 278 _ _ s;refine aa0 (ah7 hs rfl ?_);show wpAny _ A.in1 210 _ _ s;refine aa0 (ai3 (W.item j s _ _ lt st fun v h' tk hP ax hk=>?_));have iI:=hk S _ nw hs;obtain⟨t,rfl⟩:=hv _ _ hP;cases b with
  | none=>
   have e3:j=0:=g;subst e3;show wpAny _ A.in1 (updateSeq S (fun _=> #[_,_]) >>=_) _ _ _;refine aa0 (am3 iI rfl ?_);rw[nm];refine aa7 ⟨ah4 aq9 _,ih 1 _ (some (.int (val 0) t)) _ 149 lt 316 ⟨0,t,Nat.one_pos,rfl,fun k hk=>?_⟩ (an5 _ iI rfl) fun b h2 tO g2 k2=>?_⟩
   . exact(257).trans e
   . rw[show k=0 by omega];exact ae8 _
   . exact hR b h2 tO g2 fun x o n1 n2 e=>k2 x o n1 n2 260
  | some u=>
   obtain⟨i,t2,i1,rfl,i2⟩:=g;have gL:h'.get? S=some {cls:= .type "list",dict:=none,data:= .seq #[.int (val i) t2,.int (val i) t2] c,slots:= #[]}:=iI;show wpAny _ A.in1 (tryCatch (holding [_,_] (richCompare .Lt (.int (val j) t) (.int (val i) t2) >>=_)) _ >>=_) _ _ _;refine aa0 (ai3 (ag2 (aa0 (CmpOf.ints_lt (P:=fun i v=> ∃t,v= .int (val i) t) val 231 j i _ _ _ _ _ ⟨t,rfl⟩ ⟨t2,rfl⟩ ?_))));refine aa0 (ag2 (ai7 ?_));refine aa0 (aj8 357);by_cases c1:val j < val i
   . rw[if_pos (show(fun i j=>decide (val i < val j)) j i=true from ad3 c1)];refine aa0 (am3 gL rfl (aa0 (aj8 ?_)));rw[nm];refine aa7 ⟨ah4 aq9 _,ih (j+1) _ (some (.int (val j) t)) _ 149 lt 316 ⟨j,t,at3 _,rfl,fun k hk=>?_⟩ (an5 _ gL rfl) fun b h2 tO g2 k2=>?_⟩
     . exact(257).trans e
     . rcases ar0.mp hk with z | z
       . have:=i2 k z;omega
       . rw[z];exact ae8 _
     . exact hR b h2 tO g2 fun x o n1 n2 e=>k2 x o n1 n2 260
   . rw[if_neg (show¬(fun i j=>decide (val i < val j)) j i=true from fun z=>c1 (ad6 z))];refine aa0 (aj8 ?_);rw[nm];refine aa7 ⟨ah4 aq9 _,ih (j+1) _ (some (.int (val i) t2)) c 149 lt ax ⟨i,t2,by omega,rfl,fun k hk=>?_⟩ iI fun b h2 tO g2 k2=>?_⟩
     . rcases ar0.mp hk with z | z
       . exact i2 k z
       . rw[z];omega
     . exact hR b h2 tO g2 fun x o n1 n2 e=>k2 x o n1 n2 (hk x o n1 e)
end
theorem Ac(hh:A.handled=none)(hl:s.heap.IsList l 374)(h: ∀b h' tk,sV (numAt xs) xs.size b->(∀x o,s.heap.get? x=some o->h'.get? x=some o)->Q (b.getD d) {s with heap:=h',toks:=tk}):
  wpAny 110 A (call (.builtin "min") [.ref l] [("default",d)]) Q E s:=by
 have nm:(toString "min"++toString ".loop":String)="min.loop":=by decide
 refine kmb_tree F.kind_min F.plain_min F.entry_min (Ff _ _) ?_;show wpAny _ A.in1 (Builtin.Builtins.bindParams "min" ["key","default"] 0 390 >>=_) _ _ s;refine aa0 (am6 (show Builtin.Builtins.bindParams "min" ["key","default"] 0 390=pure [none,some d] from rfl) ?_);refine aa0 357;refine aa0 (iter_intList hl fun s2 e st fr ne=>?_);subst e;refine aa0 (ai0 ?_);rw[nm];have hz:(374).size=xs.size:=by simp [intItems]
 have W:=Walks.list (prog:=prog) (w:=w) (A:=A.in1) hh s.heap.objs.size l ne 374;refine aa7 ⟨ah4 aq9 _,Ab (val:=numAt xs) W (fun _ _=>intItems_at) (fun hm=>af2 _ (fr _ hm)) _ 0 _ none 0 rfl (ae3 _) (W.frame _ _ _ st fun x _ o e=>aa3 _ e) rfl 388 fun b h' tk g hk=>?_⟩;refine h b h' tk (hz▸g) (old_kept fun x o n e=>hk x o n (af0 (ad0 e)) (aa3 _ e))
section
variable{X:Cx}{e:Expr}{iV:List Keyword}{t tk:TA}{p pos:Pos}
def LsD(ns:List Int)(d:V)(v:V):Prop:=(ns= []/\v=d)\/ ∃M,v= .int M/\M∈ns/\ ∀a∈ns,M<=a
def N6(t tk:TA):TE:=fun σ H Q=>t σ H fun vs H1=>tk σ H1 fun ks H2=> ∃(a:Addr) (ns:List Int) (d:V),vs= [.ref a]/\ks= [d]/\H2 a=some (.lst 131)/\ ∀v,LsD ns d v->Q v H2
theorem A7:bootBuiltins "min"=some (.builtin "min"):=by decide+kernel
theorem Gx(hc:X.calm=true)(hg:Gl X "min")(hm:X.mg "min"=none)(ha:PA X [e] t)(hk:PK X iV tk)
  (As:(116).filterMap (·.1)=((["default"]:List Str)):=by rfl) (k1:backTo pos 142=(false,eval e X.env)::backTo pos 122:=by rfl) (k2:(backTo pos 142).any (·.1)=false:=by rfl)
  (k3:(116).all 393=true:=by rfl) (k4:(116).any 394=false:=by rfl):
  PE X (.Call (.Name "min" p) [e] iV pos) (N6 t tk):=by
 intro pins s σ H Q I h;refine al7 (bV I hg hm A7 (callWith_kw (aU 156 fun us s1 zz=>?_) k1 k2 k3 k4));obtain⟨vs,H1,I1,r1,q1⟩:=zz;refine aU (hk pos pins s1 σ H1 _ I1 q1) fun ws s2 zz=>?_;obtain⟨zs,H2,I2,rz,q2⟩:=zz;obtain⟨a,ns,d,rfl,rfl,hq,q⟩:=q2;obtain⟨u,rfl,ru⟩:=vals1 r1;cases ru;obtain⟨ud,rfl,rd⟩:=vals1 rz;rw[As];obtain⟨ai,rv,pl,_⟩:=I2.list (bL.of hq);have hi:=intsAre_of rv;obtain⟨xs,hx⟩:=hi.allInts.items;have IQ:s2.heap.IsList a 374:=hx▸pl.isList;have uQ:ns=xs.toList.map (·.1):=by
  rw[<-nums_intItems,<-hx];exact(317).symm
 refine Ac (I2.ok.hd hc) IQ fun b h' tk g hk=>?_;have hlen:ns.length=xs.size:=by rw[uQ,aa2,ac5]
 cases b with
 | none=>exact⟨d,H2,I2.kept hk,rd,q d (.inl ⟨as3 (hlen.trans g),rfl⟩)⟩
 | some v=>
  obtain⟨i,t2,g1,rfl,g2⟩:=g;refine⟨.int _,H2,I2.kept hk,⟨_,rfl⟩,q _ (.inr ⟨_,rfl,?_,fun m hm=>?_⟩)⟩
  . rw[numAt_eq,<-uQ];exact getD_mem 149
  . rw[uQ] at hm;obtain⟨j,hj,rfl⟩:=mem_getD hm;rw[aa2,ac5] at hj;rw[<-numAt_eq];exact g2 j hj
end
end L2
namespace LD
open PySem PySem.Spec L2 LB PyProof.Rows LW
section
variable{X:Cx}{e:Expr}{tA:fb}{p pos kQ cp:Pos}{j:Nat}{nm:Option Str}{n0:Int}
inductive Ni(n0:Int)(ds:List Dt)(Q:Dt->Prop):Prop
 | mk (ns:List Int) (h1:ds= [.lst 403]) (h2:ns= []->Q (.int n0)) (h3: ∀m,m∈ns->(∀a∈ns,a<=m)->Q (.int m))
theorem Mr(hc:X.calm=true)(hm:X.mg "max"=none)(ha:Av X [e] tA)(hg:Gl X "max":=by rfl)
  (As:(125).filterMap (·.1)=((["default"]:List Str)):=by rfl) (k1:backTo pos 142=(false,eval e X.env)::backTo pos 122:=by rfl) (k2:(backTo pos 142).any (·.1)=false:=by rfl)
  (k3:(125).all 393=true:=by rfl) (k4:(125).any 394=false:=by rfl):
  Ev X (.Call (.Name "max" p) [e] [⟨nm,.Constant (.int n0) j cp,kQ⟩] pos) (AW (Ni n0) tA):=PE.imp (Gy hc hg hm ha (rL bq v5) As k1 k2 k3 k4) fun σ H Q zz=>(by
 obtain⟨W,M,α,δ,Qd,E,q,k⟩:=zz;refine⟨W,M,α,δ,_,E,q,fun es δ1 H1 vs zz E1 c1 r1=>?_⟩;obtain⟨ns,e1,q2,q3⟩:=zz;subst e1;obtain⟨x,rfl,rx⟩:=bY r1;obtain⟨a,zs,rfl,ha,n,rr⟩:=rx.bO;rw[ints_rep rr] at ha;refine⟨a,ns,.int n0,rfl,rfl,ha,fun v hv=>?_⟩;rcases hv with ⟨h1,rfl⟩ | ⟨m,rfl,h1,h2⟩
 . exact k _ _ _ _ (q2 h1) E1 c1 (.int _)
 . exact k _ _ _ _ (q3 m h1 h2) E1 c1 (.int _))
inductive Nh(n0:Int)(ds:List Dt)(Q:Dt->Prop):Prop
 | mk (ns:List Int) (h1:ds= [.lst 403]) (h2:ns= []->Q (.int n0)) (h3: ∀m,m∈ns->(∀a∈ns,m<=a)->Q (.int m))
theorem Mq(hc:X.calm=true)(hm:X.mg "min"=none)(ha:Av X [e] tA)(hg:Gl X "min":=by rfl)
  (As:(125).filterMap (·.1)=((["default"]:List Str)):=by rfl) (k1:backTo pos 142=(false,eval e X.env)::backTo pos 122:=by rfl) (k2:(backTo pos 142).any (·.1)=false:=by rfl)
  (k3:(125).all 393=true:=by rfl) (k4:(125).any 394=false:=by rfl):
  Ev X (.Call (.Name "min" p) [e] [⟨nm,.Constant (.int n0) j cp,kQ⟩] pos) (AW (Nh n0) tA):=PE.imp (Gx hc hg hm ha (rL bq v5) As k1 k2 k3 k4) fun σ H Q zz=>(by
 obtain⟨W,M,α,δ,Qd,E,q,k⟩:=zz;refine⟨W,M,α,δ,_,E,q,fun es δ1 H1 vs zz E1 c1 r1=>?_⟩;obtain⟨ns,e1,q2,q3⟩:=zz;subst e1;obtain⟨x,rfl,rx⟩:=bY r1;obtain⟨a,zs,rfl,ha,n,rr⟩:=rx.bO;rw[ints_rep rr] at ha;refine⟨a,ns,.int n0,rfl,rfl,ha,fun v hv=>?_⟩;rcases hv with ⟨h1,rfl⟩ | ⟨m,rfl,h1,h2⟩
 . exact k _ _ _ _ (q2 h1) E1 c1 (.int _)
 . exact k _ _ _ _ (q3 m h1 h2) E1 c1 (.int _))
end
section
variable{X:Cx}{a b e b1 b2:Expr}{ta tb tv t t1 t2:ba}{x:Str}{xp pos pos':Pos}
inductive vB:List Sl->List Sl->Prop
 | nil:vB [] []
 | no {δ δ0:List Sl}:vB δ δ0->vB (.no::δ) (.no::δ0)
 | im {d:Dt} {δ δ0:List Sl}:vB δ δ0->vB (.im d::δ) (.im d::δ0)
 | ow {ds:List Dt} {δ δ0:List Sl}:vB δ δ0->vB (.ow ds::δ) (.im (.lst ds)::δ0)
theorem vB.len(h:vB δ δ0):δ.length=δ0.length:=by induction h <;> simp_all
theorem vB.at(h:vB δ δ0): ∀{i:Nat} {s0:Sl},δ0[i]?=some s0->(δ[i]?=some s0/\(s0= .no\/ ∃d,s0= .im d))\/ ∃ds,δ[i]?=some 405/\s0= .im (.lst ds):=by
 induction h with
 | nil=>intro i s0 h;simp at h
 | no _ ih=>intro i s0 h;cases i with
  | zero=>cases h;exact .inl ⟨rfl,.inl rfl⟩
  | succ i=>simpa using ih 236
 | im _ ih=>intro i s0 h;cases i with
  | zero=>cases h;exact .inl ⟨rfl,.inr ⟨_,rfl⟩⟩
  | succ i=>simpa using ih 236
 | ow _ ih=>intro i s0 h;cases i with
  | zero=>cases h;exact .inr ⟨_,rfl,rfl⟩
  | succ i=>simpa using ih 236
theorem pX(E:aB W M α H σ δ)(h:vB δ δ0):aB [] (fun a=>M a/\a∉α.flatten) (List.replicate δ0.length []) H σ δ0:=by
 have bG:(List.replicate δ0.length 176).flatten= []:=by simp
 have mo: ∀a u,H a=some u-> ¬M a->H a=some u/\ ¬(M a/\a∉α.flatten):=fun a u e n=>309
 refine⟨by rw[E.ls,h.len],by simp,fun i s0 hi=>?_,by rw[bG];exact ao7,fun a ha=>by rw[bG] at ha;exact absurd ha aa8,fun a ha=>E.al a ha.1,fun W hW=>absurd hW aa8⟩;have hl:=(348).1;have ha:(List.replicate δ0.length 176)[i]?=some []:=by rw[ad2,if_pos hl]
 rcases h.at hi with ⟨hd,hs⟩ | ⟨ds,hd,rfl⟩
 . obtain⟨o,as,h1,h2,h3⟩:=E.sl i _ hd;refine⟨o,[],h1,ha,?_⟩;rcases hs with rfl | ⟨d,rfl⟩
   . rfl
   . exact⟨rfl,let ⟨v,e,r⟩:=h3.2;⟨v,e,r.mono mo⟩⟩
 . obtain⟨a,vs,h1,h2,h3,r⟩:=E.ow hd;have rm:=r.mono mo;exact⟨_,[],h1,ha,rfl,_,rfl,.lst h3 (fun z=>z.2 (aV h2 112)) rm.1 rm.2⟩
end
theorem xb(al:kh M H)(ma:M a)(e:H a=some 159)(r:ay M H xs ds):
  aB [⟨H,fun b=>b=a,fun b=>M b/\b≠a,M,none⟩] M ([a]::List.replicate n []) H (some 226::List.replicate n none) (.ow ds::List.replicate n .no):=by
 have bG:(List.replicate n 176).flatten= []:=by simp
 have ef:([a]::List.replicate n []).flatten= [a]:=by rw[ag5,bG];rfl
 refine⟨by simp,by simp,fun i s h=>?_,by rw[ef];simp,fun b hb=>by rw[ef] at hb;rw[aa9.mp hb];exact ma,al,fun W' hW=>?_⟩
 . match i,h with
   | 0,h=>cases h;exact⟨_,_,rfl,rfl,a,xs,rfl,rfl,e,r⟩
   | i+1,h=>
    simp only [ao5,ad2] at h ⊢;split at h
    . rename_i hi;cases h;exact⟨none,[],by rw[if_pos hi],by rw[if_pos hi],rfl⟩
    . cases h
 . rw[aa9.mp hW];refine 197;match j,h1,h2 with
   | 0,_,h2=>cases h2;exact fun z=>z.2 (aa9.mp hb)
   | j+1,_,h2=>
    simp only [ao5,ad2] at h2;split at h2
    . cases h2;exact absurd hb aa8
    . cases h2
section
variable{X:Cx}
inductive Qw(i:Nat)(δ:List Sl)(Q:Dt->List Sl->Prop):Prop
 | mk (ds:List Dt) (h1:δ[i]?=some 405) (h2:Q .aC (δ.set i (.ow ds.reverse)))
theorem AR(i:Nat){xp apos bp:Pos}(ho:PE X 124 (fu i))(eP:attributeBase 124 "reverse" X.env (eval 124 X.env)=eval 124 X.env:=by rfl)(eM:246=true:=by rfl):
  Ev X (.Call (.Attribute 124 "reverse" apos) [] [] bp) (Qw i):=
 PE.imp (KI ar4 PySem.F.slot_list_reverse PySem.F.type_list_reverse wz ho eP eM) fun σ H Q zz=>(by
  obtain⟨W,M,α,δ,Qd,E,⟨ds,hd,q⟩,k⟩:=zz;obtain⟨a,xs,h1,h2,h3,r3⟩:=E.ow hd;refine⟨_,h1,.inl ⟨rfl,_,bL.of h3⟩,a,xs,rfl,rfl,h3,?_⟩;obtain⟨E2,c2⟩:=jH E hd h1 h2 r3.rev;exact k _ _ _ _ q E2 c2 .aC)
end
def VR(a:Addr)(ds:List Dt):Xl where
 rel:=fun M H u as=>u= .ref a/\as= [a]/\ ∃xs,H a=some 159/\ay M H xs ds
 st:=fun z ka k=>by
  obtain⟨e1,e2,xs,h,r⟩:=z;subst e2;exact⟨e1,rfl,xs,ka _ 112 _ h,r.mono k⟩
abbrev sr(a:Addr)(ds:List Dt):Sl:= .ob (VR a ds)
theorem aB.sr{W:List Wd}{M:Addr->Prop}{α:List 225}{H:Hp}{σ:L2.St}{δ:List Sl}{i:Nat}{a:Addr}{ds:List Dt}(E:aB W M α H σ δ)(h:δ[i]?=some (sr a ds)):σ[i]?=some (some 226)/\α[i]?=some [a]/\ ∃xs,H a=some 159/\ay M H xs ds:=by
 obtain⟨o,as,h1,h2,u,e,e1,e2,xs,hx,r⟩:=E.sl i _ h;subst e;subst e1;subst e2;exact⟨h1,h2,xs,hx,r⟩
section
variable{X:Cx}{a b e:Expr}{es:List Expr}{ta tb tv t:ba}{pos p:Pos}{x y:Str}{xp yp:Pos}{k:Nat}{ps:List Str}
inductive MF(i:Nat)(Q:Dt->List Sl->Prop)(d2:Dt)(δ':List Sl):Prop
 | mk (a:Addr) (ds:List Dt) (k:Int) (d:Dt) (h1:δ'[i]?=some (sr a ds)) (h2:d2= .int k) (h3:ke ds k=some d) (h4:Q d δ')
def Vh(i:Nat)(tb:ba):ba:=fun δ Q=>(∃a lV,δ[i]?=some (sr a lV))/\tb δ fun d2 δ'=>MF i Q d2 δ'
theorem Qp(i:Nat)(ho:PE X 124 (fu i))(hb:Ev X b tb)(hs:mP b:=by exact fun _ _=>rfl):Ev X (.Subscript 124 b pos) (Vh i tb):=
 PE.imp (yy mI ho hb hs) fun σ H Q fG=>(by
  obtain⟨W,M,α,δ,Qd,E,⟨⟨a0,lV,h0⟩,q⟩,k⟩:=fG;obtain⟨h1,_,_⟩:=E.sr h0;refine⟨_,h1,W,M,α,δ,_,E,q,fun d2 δ' H' v qL E1 c1 r1=>?_⟩;obtain⟨a,ds,n,d,hd,e,hg,q1⟩:=qL;subst e;obtain⟨iN,_,xs,si,oG⟩:=E1.sr hd;rw[h1] at iN;cases iN;obtain⟨y,hy,ry⟩:=mN oG hg;exact⟨a0,xs,n,y,rfl,r1.ofInt,bL.of si,hy,k _ _ _ _ q1 E1 c1 ry⟩)
inductive MJ(i:Nat)(Δ:dW)(d:Dt)(d2:Dt)(δ2:List Sl):Prop
 | mk (a:Addr) (ds:List Dt) (k:Int) (j:Nat) (h1:δ2[i]?=some (sr a ds)) (h2:d2= .int k) (h3:uK ds.length k=some j) (h4:Δ.nx (δ2.set i (sr a (ds.set j d))))
def Vk(i:Nat)(tv tb:ba):jo:=fun Δ δ=>tv δ fun d δ1=>(∃a lV,δ1[i]?=some (sr a lV))/\tb δ1 fun d2 δ2=>MJ i Δ d d2 δ2
theorem Hc{Ws:List Wd}{M:Addr->Prop}{α:List 225}{H:Hp}{σ:L2.St}{δ:List Sl}{i:Nat}{ds oN:List Dt}{a:Addr}(E:aB Ws M α H σ δ)(h:δ[i]?=some (sr a ds))(h1:σ[i]?=some (some 226))(h2:α[i]?=some [a])(r:ay M H vH oN):
  aB Ws M α (upd H a (.lst vH)) σ (δ.set i (sr a oN))/\dS α H (upd H a (.lst vH)):=
 E.mod h h1 h2 rfl ⟨_,rfl,rfl,rfl,vH,ae,r.mono fun b u e n=>⟨by rw[ah (fun z=>n (by rw[z];exact E.mu a (aV h2 112)))];exact e,n⟩⟩ 270 (fun b hb=>by rw[aa9.mp hb];exact 165)
theorem F9 (i : Nat) (hv : Ev X e tv) (ho : PE X 124 (fu i)) (hb : Ev X b tb) (ha : ∀ v, assign (.Subscript 124 b kA) X.env v = (do
   let ov<-holding [v] (eval 124 X.env)
   let iv<-holding [v,ov] (eval b X.env)
   standAt kA
   holding [v,ov,iv] (setItem ov iv v)
   release [v,ov,iv] []):=by intro _;rfl) (hs:swapsWithSole [.Subscript 124 b kA] e pos.line X.env=pure false:=by rfl) (hw:swappedStores [.Subscript 124 b kA] e X.env=pure none:=by rfl) (h1:(assignEach [.Subscript 124 b kA] X.env).map (·.2)= [assign (.Subscript 124 b kA) X.env]:=by rfl):Ex X (.Assign [.Subscript 124 b kA] e pos) (Vk i tv tb):=
 PS.imp (rK hv (v7 ho hb set_list ha) hs hw h1) fun D σ H qJ=>(by
  obtain⟨Ws,M,α,δ,Δ,E,L,q⟩:=qJ;refine⟨Ws,M,α,δ,_,E,q,fun d δ1 H1 v mQ E1 c1 r1=>?_⟩;obtain⟨⟨a0,lV,h0⟩,q1⟩:=mQ;obtain⟨s1,_,_⟩:=E1.sr h0;refine⟨_,s1,Ws,M,α,δ1,_,E1,q1,fun d2 δ2 H2 v2 By E2 c2 r2=>?_⟩;obtain⟨a,ds,n,j,hd,e,hj,q2⟩:=By;subst e;obtain⟨s2,al2,xs,si,oG⟩:=E2.sr hd;rw[s1] at s2;cases s2;refine⟨a0,xs,n,j,rfl,r2.ofInt,si,by rw[oG.1];exact hj,?_⟩;obtain⟨E3,_⟩:=Hc E2 hd s1 al2 (oG.set 336 j);exact L.nx _ _ _ _ _ E3 q2)
inductive MC(t:ba)(δ:List Sl)(Q:Dt->List Sl->Prop):Prop
 | mk (δ0:List Sl) (h1:vB δ δ0) (h2:t δ0 fun d _=>Bw d/\Q d δ)
theorem Hn(h:Ev X e t):Ev X e (MC t):=PE.imp h fun σ H Q zz=>(by
 obtain⟨W,M,α,δ,Qd,E,⟨δ0,fr,q⟩,k⟩:=zz;refine⟨[],_,_,δ0,_,pX E fr,q,fun d δ' H' v zz E1 c1 r1=>?_⟩;obtain⟨fl,q1⟩:=zz;have sm:aq H H':=fun b u e=>c1 b u e 112;exact k _ _ _ _ q1 (E.same sm) (dS.of sm) (r1.Bu fl (E.same sm).al))
inductive HB(i:Nat)(t:ba)(δ:List Sl)(Q:Dt->List Sl->Prop):Prop
 | mk (ds:List Dt) (h1:δ[i]?=some 405) (δ0:List Sl) (h2:vB δ δ0) (h3:t δ0 fun d _=> ∃zs,d= .lst zs/\(∀z∈zs,Bw z)/\ds.length+zs.length<=sizeLine/\Q .aC (δ.set i (.ow (ds++zs))))
theorem Ms(i:Nat){apos bp:Pos}(ho:PE X 124 (fu i))(h:Ev X e t)
  (eP:attributeBase 124 "extend" X.env (eval 124 X.env)=eval 124 X.env:=by rfl)
  (n8:108=true:=by rfl)
  (eM:246=true:=by rfl) (hs:starEach [e] X.env=(false,eval e X.env)::starEach [] X.env:=by rfl) (eL:(backTo bp 122).any (·.1)=false:=by rfl):
  Ev X (.Call (.Attribute 124 "extend" apos) [e] [] bp) (HB i t):=
 PE.imp (t9 ar4 PySem.F.slot_list_extend PySem.F.type_list_extend pV ho (aj h aK hs) eP n8 eM hs eL) fun σ H Q fG=>(by
  obtain⟨W,M,α,δ,Qd,E,⟨ds,h0,δ0,fr,q⟩,k⟩:=fG;obtain⟨a,NR,h1,h2,h3,r3⟩:=E.ow h0;refine⟨_,h1,.inl ⟨rfl,_,bL.of h3⟩,[],_,_,δ0,_,pX E fr,q,fun d δ' H' v zz E1 c1 r1=>?_⟩;obtain⟨zs,e,fl,l,q1⟩:=zz;subst e;have sm:aq H H':=fun b u e=>c1 b u e 112;have E2:=E.same sm;obtain⟨b,ws,rfl,hb,nb,rb⟩:=r1.bO;obtain⟨a',xs,iN,oa,si,oG⟩:=E2.ow h0;rw[h1] at iN;cases iN;refine⟨a,b,xs,ws,rfl,rfl,si,hb,by rw[oG.1,rb.1];exact l,?_⟩;obtain⟨E3,c3⟩:=jH E2 h0 h1 oa (oG.append (rb.Bu fl E2.al));exact k _ _ _ _ q1 E3 ((dS.of sm).tr c3) .aC)
abbrev Rn:=List Dt->List Dt->(List Dt->Prop)->Prop
def Ce(F:Rn):Sp:=fun vs H Q _=> ∃(M:Addr->Prop) (a:Addr) (vs' xs:List V) (ds as:List Dt) (Qd:List Dt->Prop),vs= .ref a::vs'/\kh M H/\M a/\H a=some 159/\ay M H xs ds/\ay M H vs' as/\F ds as Qd/\
 ∀oN vH H',Qd oN->(∀c u,H c=some u->c≠a->H' c=some u)->H' a=some (.lst vH)->ay M H' vH oN->Q .aC H'
inductive QN(F:Rn)(i:Nat)(Q:Dt->List Sl->Prop)(as:List Dt)(δ':List Sl):Prop
 | mk (ds:List Dt) (h1:δ'[i]?=some 405) (h2:F ds as fun oN=>Q .aC (δ'.set i (.ow oN)))
def Z7(F:Rn)(i:Nat)(t:fb):ba:=fun δ Q=>(∃lV,δ[i]?=some (.ow lV))/\t δ fun as δ'=>QN F i Q as δ'
theorem U6(i:Nat){F:Rn}{t:fb}(h:iL X.prog X.w X.K X.mg X.base x k ps (Ce F))(hr:ck k X.A)(ho:PE X (.Name y yp) (fu i))(ha:Av X es t)(hg:Gl X x:=by rfl)
  (oK:146=false:=by decide) (he:starEach (.Name y yp::es) X.env=(false,eval (.Name y yp) X.env)::starEach es X.env:=by rfl) (dM:(151).any (·.1)=false:=by rfl):
  Ev X (.Call (.Name x p) (.Name y yp::es) [] pos) (Z7 F i t):=PE.imp (nB h hr hg (aj ho ha he) oK he dM) fun σ H Q cK=>(by
  obtain⟨W,M,α,δ,Qd,E,⟨⟨lV,h0⟩,q⟩,k⟩:=cK;obtain⟨a,NR,h1,h2,h3,r3⟩:=E.ow h0;refine⟨_,h1,W,M,α,δ,_,E,q,fun as δ' H' vs gk E1 c1 r1=>?_⟩;obtain⟨ds,hd,q1⟩:=gk;obtain⟨a',xs,iN,oa,si,oG⟩:=E1.ow hd;rw[h1] at iN;cases iN;show Ce F ((V.ref a::vs)++ []) H' Q E0;rw[ah8];refine⟨M,a,vs,xs,ds,as,_,rfl,E1.al,E1.mu a (aV oa 112),si,oG,r1,q1,fun oN vH H2 q2 keep ha rr=>?_⟩;obtain⟨E2,c2⟩:=E1.mod (s':= .ow oN) hd h1 oa rfl ⟨a,vH,rfl,rfl,ha,rr⟩ (fun b u e n=>keep b u e fun z=>n (by rw[z];simp)) (fun b hb=>by rw[aa9.mp hb];exact⟨_,ha,fun xs z=>by cases z⟩);exact k _ _ _ _ q2 E2 314 .aC)
abbrev VT:=List Dt->(Dt->Prop)->Prop
def Cd(F:VT):Sp:=fun vs H Q _=> ∃(M:Addr->Prop) (a:Addr) (xs:List V) (ds:List Dt) (Qd:Dt->Prop),vs= [.ref a]/\kh M H/\M a/\H a=some 159/\ay M H xs ds/\F ds Qd/\
 ∀r H' v',Qd r->(∀c u,H c=some u->c≠a->H' c=some u)->Rep 243 H' v' r->Q v' H'
def Z3(F:VT)(to:xN):ba:=fun δ Q=>to δ fun es δ'=>F es fun d=>Q d δ'
theorem U2(h:iL X.prog X.w X.K X.mg X.base x k ps (Cd F))(hr:ck k X.A)(ho:Ov X e to)(hg:Gl X x:=by rfl)(oK:146=false:=by decide)(he:starEach [e] X.env=(false,eval e X.env)::starEach [] X.env:=by rfl)(dM:(backTo pos 122).any (·.1)=false:=by rfl):
  Ev X (.Call (.Name x p) [e] [] pos) (Z3 F to):=PE.imp (nB h hr hg (aj ho aK he) oK he dM) fun σ H Q cK=>(by
 obtain⟨W,M,α,δ,Qd,E,q,k⟩:=cK;refine⟨W,M,α,δ,_,E,q,fun es δ' H1 xs a q1 E1 c1 r1 h1=>?_⟩;show Cd F ([V.ref a]++ []) (upd H1 a 159) Q E0;have nM: ¬M a:=E1.fresh h1;have sm:aq H1 (upd H1 a 159):=aq.new h1;have al:kh (fun b=>M b\/b=a) (upd H1 a 159):=fun b hb=>by
  rcases hb with hb | hb
  . obtain⟨o,e,n⟩:=E1.al b hb;exact⟨o,sm _ _ e,n⟩
  . subst hb;exact 165
 refine⟨_,a,xs,es,_,rfl,al,.inr rfl,ae,r1.mono fun b u e n=>⟨sm _ _ e,fun z=>z.elim n fun z=>by rw[z,h1] at e;cases e⟩,q1,fun r H2 v2 q2 keep r2=>?_⟩;have s2:aq H1 H2:=fun b u e=>keep b u (sm _ _ e) fun z=>by rw[z,h1] at e;cases e
 exact k _ _ _ _ q2 (E1.same s2) (c1.tr (dS.of s2)) (r2.mono fun b u e n=>⟨e,fun z=>n ⟨.inl z,fun y=>nM (y▸z)⟩⟩))
end
section
variable{P:Program}{w:World}{K:PySem.W.Frag}{mg:Str->Option Value}{base:Heap}
theorem xf(hs:LD.tj M H (some 226) s0 [a])(nb:s0.bo=false)(al:kh M H)(ma:M a)(e:H a=some 159)(ra:ay M H vs as):
  aB [⟨H,fun b=>b=a,fun b=>M b/\b≠a,M,none⟩] M ([a]::List.replicate (as.length+n) []) H (some 226::381) (s0::(as.map .im++List.replicate n .no)):=by
 have E0:=iJ (Ws:= []) (n:=n) al ra (fun W hW=>absurd hW aa8);have bG:(List.replicate (as.length+n) 176).flatten= []:=by simp
 have ef:([a]::List.replicate (as.length+n) []).flatten= [a]:=by rw[ag5,bG];rfl
 refine⟨by rw[ac1,ac1,E0.ls],by rw[ac1,ac1,E0.la],fun i s h=>?_,by rw[ef];simp,fun b hb=>by rw[ef] at hb;rw[aa9.mp hb];exact ma,al,fun W' hW=>?_⟩
 . cases i with
   | zero=>cases h;exact⟨_,_,rfl,rfl,hs⟩
   | succ i=>obtain⟨o,as,h1,h2,h3⟩:=E0.sl i s 236;exact⟨o,as,by simpa using h1,by simpa using h2,h3⟩
 . rw[aa9.mp hW];refine 197;match j,h1,h2 with
   | 0,_,h2=>cases h2;exact fun z=>z.2 (aa9.mp hb)
   | j+1,_,h2=>
    simp only [ao5,ad2] at h2;split at h2
    . cases h2;exact absurd hb aa8
    . cases h2
theorem UR {x qual : Str} {st : Stmt} {k0 : Nat} (Fu : gC K x qual st f fd) (sc : aH N ps (ab st)) (len : ∀ ds as Qd, F ds as Qd -> as.length + 1 = ps.length) (eO : ∀ (bK : Value) (A : Around) (outer : List Env) (s : Shared) (H : Hp) (E : XK), ck k0 179 ->
   ∃T,zp (173).Bq (bT st) T/\ ∀a ds as Qd,F ds as Qd->T {nx:=fun δ=> ∃oN,δ[0]?=some (sr a oN)/\Qd oN,rt:=fun _ _=>False} (sr a ds::(as.map .im++List.replicate 135 .no))):
  bh P w K mg base dY (k0+1) f fd ps (Ce F):=by
 refine Fu.ok sc 273 182
 . obtain⟨M,a,vs',xs,ds,as,Qd,rfl,_,_,_,_,ra,hF,_⟩:=h;rw[ac1,ra.1,len ds as Qd hF]
 . obtain⟨M,a,vs',xs,ds,as,Qd,rfl,al,ma,e,r,ra,hF,k⟩:=h;obtain⟨T,hT,hq⟩:=eO bK A outer s H E hr;have ln:=len ds as Qd hF;have es:L2.start N (.ref a::vs')=some 226::(vs'.map some++List.replicate 135 none):=by
    unfold L2.start;rw[ac1,ra.1,ln];rfl
   refine⟨lS T,hT,?_⟩;rw[es];refine⟨_,M,_,_,{nx:=fun δ=> ∃oN,δ[0]?=some (sr a oN)/\Qd oN,rt:=fun _ _=>False},xf (s0:=sr a ds) ⟨_,rfl,rfl,rfl,xs,e,r⟩ rfl al ma e ra,⟨fun M' α' H' σ' δ' E' q=>?_,fun M' α' H' σ' δ' v d E' r' q=>q.elim,fun _ _ _ _ _ _ z=>z.elim,fun _ _ _ _ _ _ z=>z.elim⟩,hq a ds as Qd hF⟩;obtain⟨oN,hd,qd⟩:=q;have wk:=E'.w _ (aa9.mpr rfl);obtain⟨_,a2,vH,hx,rr⟩:=E'.sr hd;exact k oN vH H' qd (fun c u e n=>wk.bs c u e n) hx (rr.mono fun b u e n=>⟨e,fun z=>n (by
    by_cases c:b=a
    . rw[c];exact E'.mu a (aV a2 112)
    . exact wk.m0 b ⟨z,c⟩)⟩)
theorem UQ {x qual : Str} {st : Stmt} {k0 : Nat} (Fu : gC K x qual st f fd) (sc : aH N ps (ab st)) (pl : ps.length = 1) (eO : ∀ (bK : Value) (A : Around) (outer : List Env) (s : Shared) (H : Hp) (E : XK), ck k0 179 ->
   ∃T,zp (173).Bq (bT st) T/\ ∀ds Qd,F ds Qd->T {nx:=fun _=>False,rt:=fun d _=>Qd d} (.ow ds::List.replicate 135 .no)):
  bh P w K mg base dY (k0+1) f fd ps (Cd F):=by
 refine Fu.ok sc 273 182
 . obtain⟨M,a,xs,ds,Qd,rfl,_⟩:=h;rw[pl];rfl
 . obtain⟨M,a,xs,ds,Qd,rfl,al,ma,e,r,hF,k⟩:=h;obtain⟨T,hT,hq⟩:=eO bK A outer s H E hr;have es:L2.start N [.ref a]=some 226::List.replicate 135 none:=by
    unfold L2.start;rw[pl];rfl
   refine⟨lS T,hT,?_⟩;rw[es];refine⟨_,M,_,_,{nx:=fun _=>False,rt:=fun d _=>Qd d},xb al ma e r,⟨fun M' α' H' σ' δ' E' q=>q.elim,fun M' α' H' σ' δ' v d E' r' q=>?_,fun _ _ _ _ _ _ z=>z.elim,fun _ _ _ _ _ _ z=>z.elim⟩,hq ds Qd hF⟩;have wk:=E'.w _ (aa9.mpr rfl);exact k d H' v q (fun c u e n=>wk.bs c u e n) (r'.mono fun b u e n=>⟨e,fun z=>n (wk.m0 b z)⟩)
end
end LD
namespace L2
open PySem PySem.Spec PyProof.Rows
section
variable{X:Cx}{pins:List 123}{σ:St}{H:Hp}{s:Shared}
theorem Inv.tabAt(I:Inv X pins σ H s)(hx:x∈bg)(ht:PySem.W.tabIn X.K x=some (c,P)):
  ∃ps es,H P=some (.vR ps)/\ps[0]?=some (.str (hZ x) 0)/\s.heap.get? P=some (PySem.W.tabObj es)/\Jy H ps es:=by
 obtain⟨ps,e1,e2⟩:=I.tab x hx c P ht;obtain⟨es,e3,e4⟩:=I.aQ P _ e1;exact⟨ps,es,e1,e2,e3,e4⟩
structure km(X:Cx)(x:Str)(params:Arguments)(body:Expr)(scope:Scope)(f c':Addr)(cc:List 265)(pm qr:Value)(H:Hp)(h:Heap):Prop where
 fn:h.get? f=some (PySem.W.kla_obj "<lambda>" (hZ x) params body scope cc pm c' qr)
 nf:H f=none
 Tj:f∉oM X.stack
 code: ∃oc vs t,H c'=some (.lQ oc (.own c'))/\oc.data= .fields vs/\vs[1]?=some (.str (hZ x) t)
 c1: ∀y c,(y,c)∈cc->X.env.cells.lookup y=some c
 c2: ∀y,(y,NameKind.free)∈scope.names-> ∃c,(y,c)∈cc
theorem km.cr(L:km X x params body scope f c' cc pm qr H h)(aQ:iA P w H h):h.CodeRec (.ref c') (hZ x):=by
 obtain⟨oc,vs,t,e1,e2,e3⟩:=L.code;obtain⟨e4,_⟩:=aQ _ _ e1;exact⟨c',oc,vs,t,rfl,e4,e2,e3⟩
theorem km.on{x:Str}{params:Arguments}{body:Expr}{scope:Scope}{f c':Addr}{cc:List 265}{pm qr:Value}{h h':Heap}{H':Hp}(L:km X x params body scope f c' cc pm qr H h)(u:Un (oM X.stack) [] H H' h h'):km X x params body scope f c' cc pm qr H' h':=by
 obtain⟨oc,vs,t,e1,e2,e3⟩:=L.code;exact⟨u.keep _ _ L.fn L.nf L.Tj 112,u.free _ _ L.fn L.nf 112,L.Tj,⟨oc,vs,t,u.o5 _ _ _ e1,e2,e3⟩,L.c1,L.c2⟩
theorem Inv.K0(I:Inv X pins σ H s)(h:s.heap.objs.size<=a):a∉oM X.stack:=fun hb=>by
 rcases ad1.mp (I.qY a hb) with e | e
 . exact absurd (ac8 I.lt (by rw[<-e];exact h)) (af2 _)
 . exact I.OY h e
theorem Du{scope:Scope}(I:Inv X pins σ H s)(hx:x∈bg)(ht:PySem.W.tabIn X.K x=some (c,P))(hC:PySem.W.codeHdIn X.K c P=true)(qg:X.env.code= .ref c)(hq:X.env.qual++("<lambda>":Str)=hZ x)(DX:defaultsOf params X.env=([],[]))(TY: ∀y∈scope.names,y.2= .free->X.env.kindOf y.1=some .cell\/X.env.kindOf y.1=some .free)(k: ∀f c' cc pm qr s' H',Inv X pins σ H' s'->aq H H'->km X x params body scope f c' cc pm qr H' s'.heap->Q 399 s'):wpAny M A (eval (.Lambda params body scope pos) X.env) Q E s:=by
 obtain⟨ps,es,e1,e2,e3,tk,e4⟩:=I.tabAt hx ht;have WL:PySem.W.CodeHd s.heap c P:=PySem.W.codeHd_of_K I.sX hC;obtain⟨cc,IU,c1,c2⟩:=gB (scope:=scope) (env:=X.env) fun y hy e=>I.ok.has y.1 (TY y hy e);have hg:s.heap.Ns mainGlobals X.mg:=I.ok.mod.glob.keeps I.bk;obtain⟨bm,ob,b1,b2,b3,b4,b5,b6⟩:=I.ok.mod.bm;have QV:=I.bk _ _ b3;have Y0:mainGlobals≠P:=fun q=>by
  obtain⟨o,Ja,ep,e,hd,_⟩:=hg;rw[q,e3] at e;cases e;cases hd
 have P1:bm≠P:=fun q=>by
  rw[q,e3] at QV;cases QV;cases b4
 have Y9:bm≠mainGlobals:=fun q=>by
  obtain⟨o,Ja,ep,e,hd,_⟩:=hg;rw[q,e] at QV;cases QV;rw[hd] at b6;cases b6
 have hB:s.heap.BuiltinsAt X.mg P:=⟨bm,ob,b1,b2,Y9,P1,QV,b4,b5,b6⟩
 refine PySem.W.kla_eval DX ?_;rw[hq];cases hm:codeAmong pos es.toList with
 | none=>
  refine PySem.W.kla_makeFunction (mg:=X.mg) IU I.ok.glob hg qg WL e3 tk hm Y0 hB fun c' qr h' eV TM LJ dQ T3 Wv=>?_;obtain⟨c₂,oc,vs,t,z,FN,hd,hv⟩:=T3;cases z;have UI:P < s.heap.objs.size:=ad0 e3;have Y6:H c'=none:=I.aQ.fresh LJ;have hcP:c'≠P:=an7 (ac8 UI LJ);have Zc: ∀b o,H b=some o->b=P->o= .vR ps:=fun b o e q=>by subst q;rw[e1] at e;cases e;rfl
  have hs:aq H (upd H c' (.lQ oc (.own c'))):=fun b o e=>by rw[ah (az e Y6)];exact e
  have Pq:s.heap.objs.size<=h'.objs.size:=ac6 LJ (al3 dQ);have T6:iA X.prog X.w (upd H c' (.lQ oc (.own c'))) 177:=fun b o e=>by
   by_cases hb:b=c'
   . subst hb;rw[ae] at e;cases e;exact⟨aa3 _ FN,⟨oc,aa3 _ FN⟩⟩
   . rw[ah hb] at e;by_cases P1:b=P
     . have:=Zc b o e P1;subst this;subst P1;refine⟨_,aa3 _ Wv,by rw[af5];exact TriplesOk_snoc _ _ _ _ tk,fun pos' cv z=>?_⟩;rw[af5] at z;have app: ∀(l:List Value),TriplesOk l->codeAmong pos' (l++ [rawInt pos.line,rawInt pos.col, .ref c'])=some cv->codeAmong pos' l=some cv\/cv= .ref c':=by
        intro l;fun_induction TriplesOk l with
        | case1=>
         intro _ z;simp only [au0,codeAmong,rawInt] at z;split at z
         . cases z;exact .inr rfl
         . cases z
        | case2 a' t' b' u' y' rest ih=>
         intro h z;simp only [List.cons_append,codeAmong] at z ⊢;split at z
         . rename_i hc;rw[if_pos hc];exact .inl z
         . rename_i hc;rw[if_neg hc];exact ih h z
        | case3 l h1 h2=>intro h;exact h.elim
       rcases app _ tk z with z | z
       . obtain⟨c3,Yi,XN,q3,t3,X0,f1,f2,f3⟩:=e4 pos' cv z;exact⟨c3,Yi,XN,q3,t3,X0,f1,hs _ _ f2,f3⟩
       . exact⟨c',oc,vs,hZ x,t,0,z,ae,hd,hv,e2⟩
     . refine(I.aQ b o e).tS (fun d v sZ q=>aa3 _ (TM d v (fun y=>?_) q)) (fun d q=>hs _ _ q) (fun d xs q=>hs _ _ q) fun d o u q=>hs _ _ q;rcases sZ with rfl | sZ
       . exact P1 y
       . rw[y,e1] at sZ;cases sZ
  have XR:Un X.fs [] H (upd H c' (.lQ oc (.own c'))) s.heap 177:=by
   have keep: ∀b o,s.heap.get? b=some o->H b=none->(177).get? b=some o:=fun b o q n=>aa3 _ (TM b o (fun y=>by rw[y,e1] at n;cases n) q);have Yf: ∀b o,s.heap.get? b=some o->b≠c':=fun b o q=>af0 (ac8 (ad0 q) LJ);refine⟨fun b o q n _ _=>keep b o q n,fun b o q n _ _=>⟨o.slots,keep b o q n⟩,fun b o q n _=>by rw[ah (Yf b o q)];exact n,fun b o q _=>?_,fun b xs q=>hs _ _ q,fun b o u q=>hs _ _ q,fun b ps' q=>⟨#[],by rw[hs _ _ q];simp⟩⟩;by_cases hb:b=P
   . subst hb;exact⟨_,aa3 _ Wv⟩
   . exact⟨o,aa3 _ (TM b o hb q)⟩
  refine k h'.objs.size c' cc _ qr _ _ (I.un XR T6) hs ⟨ab4 _ rfl,?_,I.K0 Pq,⟨oc,vs,t,ae,hd,hv⟩,c1,c2⟩;rw[ah (an7 dQ)];exact I.aQ.fresh Pq
 | some cv=>
  obtain⟨c',oc,vs,q,t,t',f1,f2,f3,f4,f5⟩:=e4 pos cv hm;subst f1;rw[e2] at f5;cases f5;refine PySem.W.kla_makeFunctionHit (mg:=X.mg) IU I.ok.glob hg qg WL e3 tk hm hB fun qr h' eV hk hsz=>?_;have hn:H h'.objs.size=none:=I.aQ.fresh hsz;refine k h'.objs.size c' cc _ qr _ _ (I.kept fun b o e=>aa3 _ (hk b o e)) (aq.refl _) ⟨ab4 _ rfl,hn,I.K0 hsz,⟨oc,vs,t,f2,f3,f4⟩,c1,c2⟩
structure Fz(X:Cx)(p:Str)(caps:List Str)(js:List Nat)(params:Arguments)(body:Expr)(scope:Scope):Prop where
 kind:scope.kind= .function
 co:scope.isCoroutine=false
 gen:scope.isGenerator=false
 Df: ∀y∈scope.names,y.2≠ .cell
 par:scope.names.lookup p=some .local
 QR:js.map (fun j=>X.N[j]?)=caps.map some
 fr: ∀y∈caps,scope.names.lookup y=some .free
 Iu: ∀y∈scope.names,y.2= .free->X.env.kindOf y.1=some .cell\/X.env.kindOf y.1=some .free
 bind: ∀(x:Str) (cc:List 265) (pm bK qr u:Value),bindArgs (PySem.W.kla_fn "<lambda>" x params body scope cc pm bK qr) ⟨[u],[]⟩=pure [(p,u)]
abbrev wI(x:Str)(scope:Scope)(L f c':Addr)(cc:List 265):Env:=PySem.W.envX (hZ x) scope L f (.ref c') cc
def uI(X:Cx)(A:Around)(N:List Str)(x:Str)(scope:Scope)(f c':Addr)(cc:List 265)(s:Shared)(H:Hp):Cx:=
 {X with A:=A.deeper (wI x scope s.heap.objs.size f c' cc),N:=N,s₀:=s,H₀:=H,env:=wI x scope s.heap.objs.size f c' cc,outer:=X.stack,stack:=(wI x scope s.heap.objs.size f c' cc)::X.stack,ex:= [],fn:=fun _=>false,calm:=true,pn:= [],xe:=fun _ _=>False}
def jR(js:List Nat)(σ:St)(v:V):St:=some v::js.map fun j=>(σ[j]?).join
theorem Dv{A:Around}(S:Fz X p caps js params body scope)(I:Inv X pins σ H s)(L:km X x params body scope f c' cc pm qr H s.heap)(hd:A.handled=none)(Y1:A.frames=some X.stack)(Y4:A.depth < recursionLimit)(r:RelV v u)(hb:PE 285 body te)(hq:te (jR js σ v) H Q):
  wpAny 106 A (call 399 [u]) (fun r s'=> ∃v' H',Inv X pins σ H' s'/\RelV v' r/\Q v' H'/\km X x params body scope f c' cc pm qr H' s'.heap/\Un (oM X.stack) [] H H' s.heap s'.heap) 129 s:=by
 refine wpAny_call (PySem.W.kla_callFunE Y4 L.fn rfl S.co S.gen rfl (L.cr I.aQ) ?_);rw[S.bind];refine aa7 (wpAny_newFunctionEnv S.Df (fun y hy=>by rw[aa9.mp hy];exact S.par) (fun h₁ uQ Nw=>⟨?_,?_⟩) S.kind)
 . exact I.nolimit.fresh _ Nw
 have yP: ∀b o,s.heap.get? b=some o->h₁.get? b=some o:=fun b o e=>Nw.extBut b o (af0 (ad0 e)) (aa3 _ e);have vd: ∀y,scope.names.lookup y=some .free-> ∃d,cc.lookup y=some d:=fun y hy=>by
  obtain⟨d,hd⟩:=L.c2 y (af7 hy);cases e:cc.lookup y with
  | some d=>exact⟨d,rfl⟩
  | none=>
   exfalso;have: ∀{l:List 265},(y,d)∈l->l.lookup y≠none:=fun{l}=>by
    induction l with
    | nil=>intro h;simp at h
    | cons q r ih=>
     intro h;obtain⟨k,w⟩:=q;rw[ag3];cases hb:y==k with
     | true=>simp
     | false=>
      rcases ad1.mp h with z | z
      . cases z;simp at hb
      . exact ih z
   exact this hd e
 have cx: ∀y d,cc.lookup y=some d->X.env.cells.lookup y=some d:=fun y d e=>L.c1 y d (af7 e);have I1:Inv 285 [] (jR js σ v) H {s with heap:=h₁,toks:=s.toks+ [(p,u)].length}:=by
  refine⟨⟨I.ok.mod,S.kind,rfl,rfl,aa4 _,fun y z c e1 e2=>I.ok.inj y z c (cx y c e1) (cx z c e2),fun y hy=>?_,fun y c h _=>absurd h (by simp [uI]),fun _=>hd,Around.frames_deeper Y1,.inr ⟨rfl,rfl⟩,fun b hb=>absurd (show b∈176 from hb) 112,fun b o e=>⟨I.bk b o e,(I.bs b o e).2⟩,ac6 I.ok.HK I.sz,fun b _ _ hb=>absurd (show b∈176 from hb) 112,fun b hb=>absurd (show b∈176 from hb) 112,I.stack,I.qZ,I.tab⟩,
   rfl,I.bare,Un.kept yP,⟨_,uQ,fun i y w e1 e2 e3=>?_⟩,fun y c e=>?_,I.aQ.fresh (aa4 _),fun y c e=>I.gH y c (cx y c e),fun q hq=>absurd (show q∈([]:List 123) from hq) 112,I.aQ.kept yP,?_⟩
  . rcases hy with hy | hy
    . exact absurd rfl (S.Df _ (af7 (show scope.names.lookup y=some .cell from hy)))
    . exact vd y hy
  . cases i with
    | zero=>
     have Mk:p=y:=Option.some.inj e1;have AO:v=w:=Option.some.inj (Option.some.inj e2);subst Mk;subst AO;exact⟨u,r,.inl ⟨S.par,by simp [List.lookup]⟩⟩
    | succ i=>
     have Mk:caps[i]?=some y:=e1;have AO:(js.map fun j=>(σ[j]?).join)[i]?=some 251:=e2;rw[aa6] at AO;cases hj:js[i]? with
     | none=>rw[hj] at AO;cases AO
     | some j=>
      rw[hj] at AO;have sE:(σ[j]?).join=some w:=by simpa using AO
      have hσ:σ[j]?=some 251:=by
       cases q:σ[j]? with
       | none=>rw[q] at sE;cases sE
       | some o=>rw[q] at sE;simpa using sE
      have hX:X.N[j]?=some y:=by
       have:=ai5 (fun l=>l[i]?) S.QR;simp only [aa6,hj,Mk,Option.map_some] at this;exact Option.some.inj this
      have iZ:=S.fr y (ac7 Mk);have hk:=S.Iu _ (af7 iZ) rfl;obtain⟨m,_,hl⟩:=I.loc;obtain⟨u',ru,lk⟩:=hl j y w hX hσ (by rcases hk with q | q;exact .inr (.inl q);exact .inr (.inr q));refine⟨u',ru,?_⟩;rcases lk with ⟨r8,_⟩ | ⟨_,c,G8,lN⟩
      . rcases hk with q | q <;> rw[q] at r8 <;> cases r8
      . obtain⟨d,sZ⟩:=vd y iZ;have:=cx y d sZ;rw[G8] at this;cases this;exact .inr ⟨.inr iZ,c,sZ,lN.keeps yP⟩
  . obtain⟨w,q⟩:=I.cell y c (cx y c e);exact⟨w,q.keeps yP⟩
  . show(jR js σ v).length=(p::caps).length;unfold jR;have:=ai5 List.length S.QR;simp only [aa2] at this;simp [this]
 refine PySem.W.kla_codeExpr (ae0 (hb [] _ _ H Q I1 hq) (fun w s' he=>?_) fun e s' hF=>hF.elim);obtain⟨v',H',I2,rv,q⟩:=he;have un:Un (oM X.stack) [] H H' s.heap s'.heap:=I2.base;exact⟨v',H',I.E8 I2.os un I2.aQ I2.bare (fun b z=>absurd z 112),rv,q,L.on un,un⟩
end
theorem K4(a v d:Value):argsOk "max" ⟨[a],[(Str.ofString "key",v),333]⟩:=by unfold argsOk;kernel_rfl
section
variable{prog:Program}{w:World}{A:Around}{E:Value->Shared->Prop}{s:Shared}{l q I S:Addr}{n:Nat}{P:Nat->Value->Prop}{R:Result->Shared->Prop}{Q:Value->Shared->Prop}{d:Value}
theorem Ae(J JE:Shared->Prop)(kf:Nat->Int)(hh:A.handled=none)(jl: ∀s,J s-> ∃vs:List Value,vs.length=n/\(∀i v,vs[i]?=some v->P i v)/\s.heap.IsList l vs.toArray)(PM:l≠I)(LS:S≠I)
  (jI: ∀s h' eV,J s->(∀b o,b∉ [I]->s.heap.get? b=some o->h'.get? b=some o)->(∃o,h'.get? I=some o)->J {s with heap:=h',toks:=eV})
  (jS: ∀s h' eV,J s->Heap.SameBut S s.heap h'->(∃o,h'.get? S=some o)->J {s with heap:=h',toks:=eV})
  (RF: ∀s h' eV,J s->(∀b o,b∉ [I]->s.heap.get? b=some o->h'.get? b=some o)->JE {s with heap:=h',toks:=eV})
  (Tu: ∀s h' eV,JE s->Heap.SameBut S s.heap h'->JE {s with heap:=h',toks:=eV})
  (turn: ∀(i:Nat) (v:Value) (s:Shared) (oI oS:Obj),P i v->J s->s.heap.get? I=some oI->s.heap.get? S=some oS->
   wpAny 110 A.in1 (call 398 [v]) (fun r s'=> ∃t,r= .int (kf i) t/\J s'/\s'.heap.get? I=some oI/\s'.heap.get? S=some oS) 129 s)
  (hR: ∀i v s',P i v->i < n->(∀j,j < n->kf j<=kf i/\(j < i->kf j < kf i))->JE s'->R (.ok (.ret v)) s'):
  ∀(r j i:Nat) (s:Shared) (vb:Value) (tb:Tok) (c:Nat),n - (j+1)=r->j+1<=n->J s->s.heap.get? S=some (seqObj "list" #[vb,.int (kf i) tb] c)->s.heap.IsListIter I l (j+1)->P i vb->i<=j->
   (∀j',j'<=j->kf j'<=kf i/\(j' < i->kf j' < kf i))->codeAny 110 A (.builtin "max.loop" ⟨[.ref I,.ref q,.ref S],[333]⟩) R s:=by
 have uR:269="max.loop":=by decide
 intro r;induction r with
 | zero=>
  intro j i s vb tb c hr hj hJ nS hit TQ bE yT;obtain⟨vs,hn,RM,LH⟩:=jl s hJ;have W:=Walks.list (prog:=prog) (w:=w) (A:=A.in1) hh I l PM vs.toArray;have hsz:vs.toArray.size=n:=by rw[ab5,hn]
  have PR:j+1=n:=by omega
  refine aj2 PySem.F.entry_max_loop ?_;rw[ah6 ak7 _];show wpAny _ A.in1 278 _ _ _;refine aa0 (ah7 nS rfl ?_);show wpAny _ A.in1 210 _ _ _;refine aa0 (ai3 (W.done _ _ _ ⟨by rw[hsz,<-PR];exact hit,LH⟩ fun h' eV r8=>?_));have UH:=r8 S _ (by simpa using LS) nS;have s1:=ar3 h' S (Obj.mapSeq fun _=>(#[]:Array Value));show wpAny _ A.in1 (updateSeq S (fun _=> #[]) >>=_) _ _ _;refine aa0 ?_;refine am3 UH rfl (aa0 (aj8 357));exact hR i vb _ TQ 149 (fun j' Au=>yT j' 149) (Tu _ _ _ (RF s h' eV hJ r8) s1)
 | succ r ih=>
  intro j i s vb tb c hr hj hJ nS hit TQ bE yT;obtain⟨vs,hn,RM,LH⟩:=jl s hJ;have W:=Walks.list (prog:=prog) (w:=w) (A:=A.in1) hh I l PM vs.toArray;have hsz:vs.toArray.size=n:=by rw[ab5,hn]
  have dQ:j+1 < n:=by omega
  refine aj2 PySem.F.entry_max_loop ?_;rw[ah6 ak7 _];show wpAny _ A.in1 278 _ _ _;refine aa0 (ah7 nS rfl ?_);show wpAny _ A.in1 210 _ _ _;refine aa0 (ai3 (W.item (j+1) _ _ _ (by rw[hsz];exact dQ) ⟨hit,LH⟩ fun v h' eV hP Ly r8=>?_));have hv:P (j+1) v:=RM _ _ (by simpa using hP);obtain⟨KW,DP,FN,RH⟩:=id Ly.1;have UH:=r8 S _ (by simpa using LS) nS;have J1:=jI s h' eV hJ r8 ⟨KW,DP⟩;show wpAny _ A.in1 (tryCatch (holding [v] (call 398 [v])) _ >>=_) _ _ _;refine aa0 (ai3 (ag2 (ae0 (turn (j+1) v _ KW _ hv J1 DP UH) (fun x sW he=>?_) fun _ _ hF=>hF.elim)));obtain⟨t2,rfl,J2,RD,Nt⟩:=he;have Uj:sW.heap.IsListIter I l (j+1+1):=⟨KW,RD,FN,RH⟩
  show wpAny _ A.in1 (tryCatch (holding [v,.int (kf (j+1)) t2] (richCompare .Gt (.int (kf (j+1)) t2) (.int (kf i) tb) >>=_)) _ >>=_) _ _ _;refine aa0 (ai3 (ag2 (aa0 (CmpOf.ints_gt (prog:=prog) (w:=w) (A:=A.in1) (P:=fun i v=> ∃t,v= .int (kf i) t) kf (fun i v h=>h) (j+1) i _ _ _ _ _ ⟨t2,rfl⟩ ⟨tb,rfl⟩ ?_))));refine aa0 (ag2 (ai7 ?_));refine aa0 (aj8 357);by_cases uT:kf (j+1) > kf i
  . have s1:=ar3 sW.heap S (Obj.mapSeq fun _=> #[v, .int (kf (j+1)) t2]);obtain⟨c2,Ay⟩: ∃c2,(sW.heap.update S (Obj.mapSeq fun _=> #[v, .int (kf (j+1)) t2])).get? S=some (seqObj "list" #[v, .int (kf (j+1)) t2] c2):=⟨_,get?_update_seq Nt fun _=> #[v, .int (kf (j+1)) t2]⟩
    simp only [uT,decide_true,if_true];refine aa0 ?_;refine am3 Nt rfl (aa0 (aj8 ?_));rw[uR];refine aa7 ⟨ah4 ak7 _,ih (j+1) (j+1) _ v t2 c2 149 dQ (jS _ _ _ J2 s1 ⟨_,Ay⟩) Ay ⟨KW,(s1.2 I LS.symm).trans RD,FN,RH⟩ hv (aa4 _) fun j' Au=>?_⟩;by_cases e:j'=j+1
    . subst e;exact⟨by omega,fun _=>by omega⟩
    . have NF:=yT j' 149;have vy:=NF.1;exact⟨by omega,fun _=>by omega⟩
  . simp only [uT,decide_false,au8,if_false];refine aa0 (aj8 ?_);rw[uR];refine aa7 ⟨ah4 ak7 _,ih (j+1) i _ vb tb c 149 dQ J2 Nt Uj TQ 149 fun j' Au=>?_⟩;by_cases e:j'=j+1
    . subst e;exact⟨by omega,fun _=>by omega⟩
    . exact yT j' 149
theorem Dj(J JE:Shared->Prop)(kf:Nat->Int)(hh:A.handled=none)(LH: ∃vs:List Value,s.heap.IsList l vs.toArray)(hl:l < s.heap.objs.size)
  (j0: ∀h' eV,(∀b o,s.heap.get? b=some o->h'.get? b=some o)->(∀b,s.heap.objs.size<=b->b < s.heap.objs.size+2-> ∃o,h'.get? b=some o)->J {s with heap:=h',toks:=eV}) (jl: ∀s,J s-> ∃vs:List Value,vs.length=n/\(∀i v,vs[i]?=some v->P i v)/\s.heap.IsList l vs.toArray)
  (jb: ∀s' h' eV b,s.heap.objs.size<=b->b < s.heap.objs.size+2->J s'->(∀c o,c≠b->s'.heap.get? c=some o->h'.get? c=some o)->(∃o,h'.get? b=some o)->J {s' with heap:=h',toks:=eV})
  (jE: ∀s',J s'->JE s') (je: ∀s' h' eV b,s.heap.objs.size<=b->b < s.heap.objs.size+2->JE s'->(∀c o,c≠b->s'.heap.get? c=some o->h'.get? c=some o)->JE {s' with heap:=h',toks:=eV})
  (turn: ∀(i:Nat) (v:Value) (s':Shared),P i v->J s'->
   wpAny 110 A.in1 (call 398 [v]) (fun r sW=> ∃t,r= .int (kf i) t/\J sW/\ ∀b o,s.heap.objs.size<=b->b < s.heap.objs.size+2->s'.heap.get? b=some o->sW.heap.get? b=some o) 129 s')
  (hN:n=0-> ∀s',JE s'->Q d s')
  (hQ: ∀i v s',P i v->i < n->(∀j,j < n->kf j<=kf i/\(j < i->kf j < kf i))->JE s'->Q v s'):
  wpAny 110 A (call (.builtin "max") [.ref l] [((Str.ofString "key",.ref q)),333]) Q E s:=by
 have uR:269="max.loop":=by decide
 refine kmk_tree PySem.F.kind_max PySem.F.plain_max PySem.F.entry_max (K4 _ _ _) ?_;show wpAny _ A.in1 (Builtin.Builtins.bindParams "max" ["key","default"] 0 ⟨[],[((Str.ofString "key",.ref q)),333]⟩ >>=_) _ _ s;refine aa0 (am6 (show Builtin.Builtins.bindParams "max" ["key","default"] 0 ⟨[],[((Str.ofString "key",.ref q)),333]⟩=pure [some 398,some d] from rfl) ?_);refine aa0 357;obtain⟨SD,LH⟩:=LH;refine aa0 (ai8 LH ?_);refine aa0 (wpAny_newList ?_ (ae3 _));rw[uR];generalize P5:({cls:= .type "list_iterator",data:= .fields #[.ref l,.int 0 0]}:Obj)=uk;have hS:(192).objs.size=s.heap.objs.size+1:=size_push' ..;have PM:l≠s.heap.objs.size:=af0 hl;have LS:(192).objs.size≠s.heap.objs.size:=by rw[hS];exact an7 (at3 _)
 refine aa7 ⟨ah4 ak7 _,?_⟩;have gI:((192).push 343).get? s.heap.objs.size=some uk:=aa3 _ (ab4 _ (by rw[<-P5];rfl));have gS:((192).push 343).get? (192).objs.size=some 343:=ab4 _ rfl;have J0: ∀tk,J {s with heap:=(192).push 343,toks:=tk}:=fun tk=>j0 _ _ (fun b o e=>aa3 _ (aa3 _ e)) fun b h1 h2=>by
  by_cases hb:b=s.heap.objs.size
  . rw[hb];exact⟨_,gI⟩
  . have:b=(192).objs.size:=by rw[hS];omega
    rw[this];exact⟨_,gS⟩
 have RK:s.heap.objs.size<=(192).objs.size:=by rw[hS];exact ap1 _
 obtain⟨vs,hn,RM,PJ⟩:=jl _ (J0 s.toks);have W:=Walks.list (prog:=prog) (w:=w) (A:=A.in1) hh s.heap.objs.size l PM vs.toArray;have hsz:vs.toArray.size=n:=by rw[ab5,hn]
 have NF:s.heap.objs.size < s.heap.objs.size+2:=by omega
 have vy:(192).objs.size < s.heap.objs.size+2:=by rw[hS];omega
 have jI: ∀s' h' eV,J s'->(∀b o,b∉ [s.heap.objs.size]->s'.heap.get? b=some o->h'.get? b=some o)->(∃o,h'.get? s.heap.objs.size=some o)->J {s' with heap:=h',toks:=eV}:=fun s' h' eV hJ hk=>jb s' h' eV _ (aa4 _) NF hJ fun c o hc e=>hk c o (by simpa using hc) e;have jS: ∀s' h' eV,J s'->Heap.SameBut (192).objs.size s'.heap h'->(∃o,h'.get? (192).objs.size=some o)->J {s' with heap:=h',toks:=eV}:=fun s' h' eV hJ hk=>jb s' h' eV _ RK vy hJ fun c o hc e=>(hk.2 c hc).trans e;have RF: ∀s' h' eV,J s'->(∀b o,b∉ [s.heap.objs.size]->s'.heap.get? b=some o->h'.get? b=some o)->JE {s' with heap:=h',toks:=eV}:=fun s' h' eV hJ hk=>je s' h' eV _ (aa4 _) NF (jE _ hJ) fun c o hc e=>hk c o (by simpa using hc) e;have Tu: ∀s' h' eV,JE s'->Heap.SameBut (192).objs.size s'.heap h'->JE {s' with heap:=h',toks:=eV}:=fun s' h' eV hJ hk=>je s' h' eV _ RK vy hJ fun c o hc e=>(hk.2 c hc).trans e;refine aj2 PySem.F.entry_max_loop ?_;rw[ah6 ak7 _];show wpAny _ A.in1 (seqItems? (.ref _) >>=_) _ _ _;refine aa0 (ah7 gS rfl ?_);show wpAny _ A.in1 (tryCatch (pyNext 126) _ >>=_) _ _ _;cases TR:n with
 | zero=>
  refine aa0 (ai3 (W.done _ _ _ ⟨⟨_,gI,by rw[<-P5],by subst P5;rw[hsz,TR];rfl⟩,PJ⟩ fun h' eV r8=>?_));show wpAny _ A.in1 (rule _ >>=_) _ _ _;exact aa0 (aj5 (aa7 (hN TR _ (RF _ h' eV (J0 _) r8))))
 | succ n0=>
  have qe:0 < n:=by rw[TR];exact Nat.succ_pos _
  refine aa0 (ai3 (W.item 0 _ _ _ (by rw[hsz];exact qe) ⟨⟨_,gI,by rw[<-P5],by subst P5;rfl⟩,PJ⟩ fun v h' eV hP Ly r8=>?_));have hv:P 0 v:=RM _ _ (by simpa using hP);obtain⟨KW,DP,FN,RH⟩:=id Ly.1;have J1:=jI _ h' eV (J0 _) r8 ⟨KW,DP⟩;have Zl:=r8 _ _ (by simpa using LS) gS;show wpAny _ A.in1 (tryCatch (holding [v] (call 398 [v])) _ >>=_) _ _ _;refine aa0 (ai3 (ag2 (ae0 (turn 0 v _ hv J1) (fun x sW he=>?_) fun _ _ hF=>hF.elim)));obtain⟨t2,rfl,J2,kp⟩:=he;have Nt:=kp _ _ RK vy Zl;have RD:=kp _ _ (aa4 _) NF DP;have s1:=ar3 sW.heap (192).objs.size (Obj.mapSeq fun _=> #[v,.int (kf 0) t2]);obtain⟨c2,Ay⟩: ∃c2,(sW.heap.update (192).objs.size (Obj.mapSeq fun _=> #[v,.int (kf 0) t2])).get? (192).objs.size=some (seqObj "list" #[v,.int (kf 0) t2] c2):=⟨_,get?_update_seq Nt fun _=> #[v,.int (kf 0) t2]⟩
  show wpAny _ A.in1 (updateSeq (192).objs.size (fun _=> #[v,.int (kf 0) t2]) >>=_) _ _ _;refine aa0 ?_;refine am3 Nt rfl ?_;rw[uR];refine aa7 ⟨ah4 ak7 _,Ae J JE kf hh jl PM LS jI jS RF Tu (fun i v' s' oI oS h1 h2 h3 h4=>ae0 (turn i v' s' h1 h2) (fun r s3 z=>?_) fun _ _ z=>z) hQ _ 0 0 _ v t2 c2 rfl qe (jS _ _ _ J2 s1 ⟨_,Ay⟩) Ay ⟨KW,(s1.2 _ LS.symm).trans RD,FN,RH⟩ hv (aa4 _) fun j' Au=>?_⟩
  . obtain⟨t,e1,e2,e3⟩:=z;exact⟨t,e1,e2,e3 _ _ (aa4 _) NF h3,e3 _ _ RK vy h4⟩
  . have e:j'=0:=by omega
    subst e;exact⟨by omega,fun h=>absurd h (af2 _)⟩
end
def Im(js:List Nat)(ta te:TE):TE:=fun σ H Q=>ta σ H fun v H1=> ∃l xs,∃kf:Nat->Int,v= .ref l/\H1 l=some 159/\
 (∀i x,xs[i]?=some x-> ∀H2,aq H1 H2->te (jR js σ x) H2 fun r H3=>r= .int (kf i)/\aq H2 H3)/\
 (xs= []-> ∀H2,aq H1 H2->Q .aC H2)/\ ∀i x,xs[i]?=some x->213-> ∀H2,aq H1 H2->Q x H2
theorem zP(ha:PE X e ta)(S:Fz X p caps js params body scope)(hc:X.calm=true)(hr:ck k X.A)(hx:x∈bg)(ht:PySem.W.tabIn X.K x=some (c,P))(hC:PySem.W.codeHdIn X.K c P=true)
  (qg:X.env.code= .ref c) (hq:X.env.qual++("<lambda>":Str)=hZ x) (DX:defaultsOf params X.env=([],[]))
  (hb: ∀A f c' cc s H,PE 285 body te) (hg:Gl X "max") (hm:X.mg "max"=none)
  (DL:starEach [e] X.env=(false,eval e X.env)::starEach [] X.env:=by rfl):
  PE X 247 (Im js ta te):=by
 intro pins s σ H Q I h;refine al7 (bV (u:= .builtin "max") I hg hm (by first | rfl | kernel_rfl) ?_);refine callWith_kw (env:=X.env) ?_ (by rw[DL];rfl) (by rw[DL];rfl);refine aU ((aj ha aK DL) pos pins s σ H (fun vs H1=> ∃v,vs= [v]/\ ∃l xs,∃kf:Nat->Int,v= .ref l/\H1 l=some 159/\
  (∀i x,xs[i]?=some x-> ∀H2,aq H1 H2->te (jR js σ x) H2 fun r H3=>r= .int (kf i)/\aq H2 H3)/\
  (xs= []-> ∀H2,aq H1 H2->Q .aC H2)/\ ∀i x,xs[i]?=some x->213-> ∀H2,aq H1 H2->Q x H2) I ?_) fun us s1 he=>?_
 . have : (fun (v : V) H1 => tR σ H1 fun xs H2 => ∃ v', v :: xs = [v'] /\ ∃ l xs, ∃ kf : Nat -> Int, v' = .ref l /\ H2 l = some 159 /\
     (∀i x,xs[i]?=some x-> ∀Ib,aq H2 Ib->te (jR js σ x) Ib fun r H3=>r= .int (kf i)/\aq Ib H3)/\
     (xs= []-> ∀Ib,aq H2 Ib->Q .aC Ib)/\ ∀i x,xs[i]?=some x->213-> ∀Ib,aq H2 Ib->Q x Ib)=
     (fun(v:V) H1=> ∃l xs,∃kf:Nat->Int,v= .ref l/\H1 l=some 159/\
     (∀i x,xs[i]?=some x-> ∀H2,aq H1 H2->te (jR js σ x) H2 fun r H3=>r= .int (kf i)/\aq H2 H3)/\
     (xs= []-> ∀H2,aq H1 H2->Q .aC H2)/\ ∀i x,xs[i]?=some x->213-> ∀H2,aq H1 H2->Q x H2):=by
     funext v H1
     unfold tR;refine propext ⟨fun z=>?_,fun z=>⟨v,rfl,z⟩⟩;obtain⟨v',e1,z⟩:=z;cases e1;exact z
   unfold mX;rw[this];exact h
 obtain⟨vs,H1,I1,r1,v,e1,l,xs,kf,e2,hl,YE,LG,Ue⟩:=he;subst e1;subst e2;obtain⟨u,rfl,ru⟩:=vals1 r1;obtain rfl:u=Value.ref l:=ru;refine kws_cons (Du I1 hx ht hC qg hq DX S.Iu fun f c' cc pm qr s2 H2 I2 gL L2=>?_);refine kws_cons (wpAny_Constant_none (kws_nil ?_));show wpAny _ _ (call (.builtin "max") [.ref l] [(Str.ofString "key",.ref f),(Str.ofString "default",.none)]) _ _ s2;have WK:H2 l=some 159:=gL _ _ hl;have lst: ∀{H':Hp} {s':Shared},Inv X pins σ H' s'->aq H2 H'-> ∃vs:List Value,vs.length=xs.length/\(∀i v,vs[i]?=some v-> ∃x,xs[i]?=some x/\RelV x v)/\s'.heap.IsList l vs.toArray:=fun{H' s'} I' iI=>by
  obtain⟨_,ai,n,r,e⟩:=I'.aQ l _ (iI _ _ WK);refine⟨ai,r.length.symm,fun i v hv=>?_,⟨_,e,rfl,_,rfl⟩⟩;have hi:i < xs.length:=by rw[r.length];exact(aa5.mp hv).1
  obtain⟨u,hu,ru⟩:=r.get (aa1 hi);rw[hv] at hu;cases hu;exact⟨_,aa1 hi,ru⟩
 have iO: ∀b,s2.heap.objs.size<=b->b≠X.env.locals/\249/\209/\(∀p∈X.pn++pins,p.1≠b)/\b∉oM X.stack/\b∉X.fs:=fun b hb=>by
  obtain⟨_,h1,h2,h3,h4,h5⟩:=I2.iO hb (I2.aQ.fresh hb);exact⟨h1,h3,h4,h5,I2.K0 hb,h2⟩
 have Zn: ∀b,s2.heap.objs.size<=b->f≠b:=fun b hb z=>absurd (ad0 L2.fn) (Nat.not_lt.mpr (by rw[z];exact hb));refine Dj (P:=fun i v=> ∃x,xs[i]?=some x/\RelV x v) (n:=xs.length)
  (fun s'=>(∃H',Inv X pins σ H' s'/\aq H2 H'/\(∀b,s2.heap.objs.size<=b->b < s2.heap.objs.size+2->H' b=none)/\km X x params body scope f c' cc pm qr H' s'.heap)/\ ∀b,s2.heap.objs.size<=b->b < s2.heap.objs.size+2-> ∃o,s'.heap.get? b=some o)
  (fun s'=> ∃H',Inv X pins σ H' s'/\aq H2 H'/\(∀b,s2.heap.objs.size<=b->b < s2.heap.objs.size+2->H' b=none)) kf (I2.ok.hd hc) ?_ (I2.aQ.lt WK) ?_ ?_ ?_ ?_ ?_ ?_ ?_ ?_
 . obtain⟨vs,_,_,z⟩:=lst I2 (aq.refl _);exact⟨vs,z⟩
 . intro h' eV hk hex;exact⟨⟨H2,I2.kept hk,aq.refl _,fun b hb _=>I2.aQ.fresh hb,L2.on (Un.kept hk)⟩,hex⟩
 . rintro s' ⟨⟨H',I',iI,_⟩,_⟩
   exact lst I' iI
 . rintro s' h' eV b hb vy ⟨⟨H',I',iI,hf,L'⟩,hex⟩ hk Y7
   obtain⟨h1,h3,h4,h5,h6,h7⟩:=iO b hb;refine⟨⟨H',I'.turned (it:=b) (fun c o hc e=>hk c o hc e) (hf b hb vy) h1 h3 h4 h5,iI,hf,⟨hk _ _ (Zn b hb) L'.fn,L'.nf,L'.Tj,L'.code,L'.c1,L'.c2⟩⟩,fun d hd hd2=>?_⟩;by_cases oK:d=b
   . rw[oK];exact Y7
   . obtain⟨o,e⟩:=hex d hd hd2;exact⟨o,hk d o oK e⟩
 . rintro s' ⟨⟨H',I',iI,hf,_⟩,_⟩
   exact⟨H',I',iI,hf⟩
 . rintro s' h' eV b hb vy ⟨H',I',iI,hf⟩ hk
   obtain⟨h1,h3,h4,h5,h6,h7⟩:=iO b hb;exact⟨H',I'.turned (it:=b) (fun c o hc e=>hk c o hc e) (hf b hb vy) h1 h3 h4 h5,iI,hf⟩
 . rintro i v s' ⟨x',rY,rv⟩ ⟨⟨H',I',iI,hf,L'⟩,hex⟩
   refine ae0 (Dv S I' L' (I2.ok.hd hc) I2.ok.frames hr.depth rv (hb _ _ _ _ _ _) (YE i x' rY H' fun b o e=>iI _ _ (gL _ _ e))) (fun r sW z=>?_) fun _ _ z=>z;obtain⟨v',H'',Rc,Ya,⟨e1,T1⟩,L'',un⟩:=z;subst e1;obtain⟨t,rfl⟩:=Ya;refine⟨t,rfl,⟨⟨H'',Rc,fun b o e=>T1 _ _ (iI _ _ e),fun b hb vy=>?_,L''⟩,fun b hb vy=>?_⟩,fun b o hb vy e=>?_⟩
   . obtain⟨o,e⟩:=hex b hb vy;exact un.free b o e (hf b hb vy) 112
   . obtain⟨o,e⟩:=hex b hb vy;exact un.there b o e 112
   . exact un.keep b o e (hf b hb vy) (iO b hb).2.2.2.2.1 112
 . rintro h0 s' ⟨H',I',iI,_⟩
   have:xs= []:=ao4.mp h0;exact⟨.aC,H',I',rfl,LG this H' fun b o e=>iI _ _ (gL _ _ e)⟩
 . rintro i v s' ⟨x',rY,rv⟩ hi hj ⟨H',I',iI,_⟩
   exact⟨x',H',I',rv,Ue i x' rY hj H' fun b o e=>iI _ _ (gL _ _ e)⟩
end L2
namespace LD
open PySem PySem.Spec L2 LB PyProof.Rows
theorem GX{js:List Nat}(E:aB Ws M α H σ δ)(r:Rep M H v d):aB [] M (List.replicate (1+js.length) []) H (jR js σ v) (.im d::js.map fun j=>seen (δ.getD j .no)):=by
 have E1:=sL (nt:=1) (js:=js) E;have E2:=E1.lC (i:=0) r ⟨.no,rfl,rfl⟩;have e1:(List.replicate (1+js.length) 176).set 0 []=List.replicate (1+js.length) []:=by
  rw[au4,am4];rfl
 rw[e1] at E2;exact E2
section
variable{X:Cx}{x p:Str}{c P:Addr}{caps:List Str}{js:List Nat}{params:Arguments}{e body:Expr}{scope:Scope}{np lp kp dp cp pos:Pos}{j k:Nat}{ta te:ba}
inductive Hx(js:List Nat)(te:ba)(Q:Dt->List Sl->Prop)(d:Dt)(δ1:List Sl):Prop
 | mk (ds:List Dt) (kf:Nat->Int) (h1:d= .lst ds) (h2: ∀i d',ds[i]?=some d'->te (.im d'::js.map fun j=>seen (δ1.getD j .no)) fun r _=>r= .int (kf i)) (h3:ds= []->Q .aC δ1)
  (h4: ∀i d',ds[i]?=some d'->(∀j,j < ds.length->kf j<=kf i/\(j < i->kf j < kf i))->Q d' δ1)
def Jn(js:List Nat)(ta te:ba):ba:=fun δ Q=>ta δ fun d δ1=>Hx js te Q d δ1
theorem Af: ∀σ H Q,lE (Jn js ta te) σ H Q->Im js (lE ta) (lE te) σ H Q:=fun σ H Q zz=>by
 obtain⟨W,M,α,δ,Qd,E,q,k⟩:=zz;refine⟨W,M,α,δ,_,E,q,fun d δ1 H1 v cK E1 c1 r1=>?_⟩;obtain⟨ds,kf,rfl,h2,h3,h4⟩:=cK;obtain⟨a,xs,rfl,ha,nM,rs⟩:=r1.bO;have bG:(List.replicate (1+js.length) 176).flatten= []:=by simp
 refine⟨a,xs,kf,rfl,ha,fun i x' rY H2 s2=>?_,fun LG H2 s2=>?_,fun i x' rY hj H2 s2=>?_⟩
 . have hi:=(aa5.mp rY).1;have hd:ds[i]?=some (ds[i]'(by rw[<-rs.1];exact hi)):=aa1 _;have rx:=rs.2 i x' _ rY hd;refine⟨[],M,_,_,_,GX (E1.same s2) (rx.same s2),h2 i _ hd,fun d2 δ2 H3 v2 e2 E2 c2 r2=>?_⟩;subst e2;exact⟨r2.ofInt,fun b o e=>c2 b o e (by rw[bG];exact aa8)⟩
 . subst LG;have:ds= []:=ao4.mp rs.1.symm;exact k _ _ _ _ (h3 this) (E1.same s2) (c1.tr (dS.of s2)) .aC
 . have hi:=(aa5.mp rY).1;have hd:ds[i]?=some (ds[i]'(by rw[<-rs.1];exact hi)):=aa1 _;have rx:=rs.2 i x' _ rY hd;exact k _ _ _ _ (h4 i _ hd (fun j Au=>hj j (by rw[rs.1];exact Au))) (E1.same s2) (c1.tr (dS.of s2)) (rx.same s2)
theorem ED(ha:Ev X e ta)(S:Fz X p caps js params body scope)(hc:X.calm=true)(hr:ck k X.A)(hx:x∈bg)(ht:PySem.W.tabIn X.K x=some (c,P))(hC:PySem.W.codeHdIn X.K c P=true)
  (qg:X.env.code= .ref c) (hq:X.env.qual++("<lambda>":Str)=hZ x) (DX:defaultsOf params X.env=([],[]))
  (hb: ∀A f c' cc s H,Ev 285 body te) (hg:Gl X "max") (hm:X.mg "max"=none)
  (DL:starEach [e] X.env=(false,eval e X.env)::starEach [] X.env:=by rfl):
  Ev X 247 (Jn js ta te):=
 PE.imp (zP ha S hc hr hx ht hC qg hq DX hb hg hm DL) Af
end
end LD
namespace L2
open PySem PySem.Spec PyProof.Rows
section
variable{prog:Program}{w:World}{A:Around}{E:Value->Shared->Prop}{s:Shared}
def uZ(n:Int):Obj:={cls:= .type "range_iterator",data:= .fields #[rawInt (n - 1),rawInt n,rawInt (-1)]}
theorem Cp(r:Addr)(n:Int)(t u v:Tok)(h0:0<=n)(h1:n < 2^60):Meets (Builtin.«range.__reversed__» ⟨[.ref r],[]⟩) (fun _ R s=>s.heap.get? r=some {cls:= .type "range",dict:=none,data:= .fields #[.int 0 t,.int n u,.int 1 v],slots:= #[]}/\R (.ok (.ret (Value.ref s.heap.objs.size))) {s with heap:=s.heap.push (uZ n)}):=
 .of_wp fun prog w A R s h=>by
  obtain⟨hp,g,d,tk,os⟩:=s;obtain⟨hl,h⟩:=h;have sz:Builtin.Range.rangeSize 0 n 1=n:=by rw[rangeSize_one];split <;> lia
  have fl: ∀x:Int,-(2^61)<=x->x < 2^61->Builtin.Range.rangeFitsLong x=true:=fun x a b=>by
   unfold Builtin.Range.rangeFitsLong;simp only [ak3,ai9];lia
  have sm:(Builtin.Range.rangeFitsLong 0 && Builtin.Range.rangeFitsLong n && Builtin.Range.rangeFitsLong 1 && Builtin.Range.rangeFitsLong (-1) && Builtin.Range.rangeFitsLong (0 - 1) && Builtin.Range.rangeFitsLong n)=true:=by
   rw[fl 0 101 101,fl n 101 101,fl 1 101 101,fl (-1) 101 101,fl (0 - 1) 101 101];rfl
  unfold Builtin.«range.__reversed__»;refine aa0 (am6 (a:=Value.ref r) rfl ?_);have rf:wpAny 110 A.in1 (Builtin.Range.rangeFields (.ref r)) (fun x s'=>x=(0,n,1)/\s'=⟨hp,g,d,tk,os⟩) 129 ⟨hp,g,d,tk,os⟩:=by
   unfold Builtin.Range.rangeFields;wp_walk
   first | exact⟨rfl,rfl⟩ | trivial
  refine aa0 (ae0 rf (fun x s' hx=>?_) (fun _ _ f=>f.elim));obtain⟨rfl,rfl⟩:=hx;dsimp only;rw[sz,sm];rw[if_pos rfl,show(0:Int)+(n - 1)*1=n - 1 by lia];refine aa0 (ai0 (aa7 ⟨_,rfl,h⟩))
theorem iP(h0:0<=n)(h1:n < 2^60)(hr:IsRange s.heap r 0 n 1 t u v)(h:Q 126 {s with heap:=s.heap.push (uZ n)}):wpAny 110 A (call (.builtin "range.__reversed__") [.ref r]) Q E s:=by
 have hT:s.TypeIs (.ref r) "range":=⟨_,hr,rfl⟩
 exact at1 F.slot_range_reversed hT F.entry_range_reversed (F.args_range_reversed_1 _) (Cp r n t u v h0 h1) ⟨hr,h⟩
theorem j8(h0:0<=n)(h1:n < 2^60)(hr:IsRange s.heap r 0 n 1 t u v)(h:Q₁ 126 {s with heap:=s.heap.push (uZ n)}):
  codeAny 110 A (.call (.builtin "reversed.__new__") ⟨[.type "reversed",.ref r],[]⟩) (wants Q₁ E) s:=by
 have hT:s.TypeIs (.ref r) "range":=⟨_,hr,rfl⟩
 refine codeAny_of_tree ?_;show wpAny _ A.in1 (do checkBuiltinCall "reversed.__new__" ⟨[.type "reversed",.ref r],[]⟩;again (.builtin "reversed.__new__" ⟨[.type "reversed",.ref r],[]⟩)) _ _ s;refine aa0 (am6 (F.newCall_reversed_1 _) (aa7 ⟨ah4 F.plain_reversed_new _,aj2 F.entry_reversed_new ?_⟩));rw[ah6 F.plain_reversed_new _];unfold Builtin.«reversed.__new__»;refine aa0 (am6 (newClass_reversed _) ?_);try dsimp only
 refine aa0 (am6 (a:=()) (by first | rfl | kernel_rfl) ?_);refine aa0 (am6 (a:=()) (by first | rfl | kernel_rfl) ?_);try dsimp only
 refine aa0 (wpAny_specialOf hT F.slot_range_reversed.lookup ?_);try dsimp only
 refine aa0 (am6 (F.slot_range_reversed.bind _) ?_);try dsimp only
 first
 | rw[if_neg (show¬(321=true) from ab3)]
 | (show wpAny _ _ (if 321=true then _ else _) _ _ _;rw[if_neg (show¬(321=true) from ab3)])
 refine aa0 (aj5 ?_);refine aa0 (m:=runValue (.call (.builtin "range.__reversed__") ⟨[.ref r],[]⟩)) (show wpAny _ _ (call (.builtin "range.__reversed__") [.ref r]) _ _ _ from iP h0 h1 hr ?_);first
 | exact aa7 h
 | exact aa0 (aa7 (aa7 h))
theorem kC:isSubtype (.type "range_iterator") (.type "reversed")=pure false:=by rw[isSubtype_type];kernel_rfl
theorem kb(h0:0<=n)(h1:n < 2^60)(hr:IsRange s.heap r 0 n 1 t u v)(h:Q 126 {s with heap:=s.heap.push (uZ n)}):wpAny 110 A (call (.type "reversed") [.ref r]) Q E s:=by
 refine callType_other (U:="range_iterator") (Q₁:=fun obj s₁=>obj= .ref s.heap.objs.size/\s₁={s with heap:=s.heap.push (uZ n)}) (by decide+kernel) F.create_reversed ⟨_,_,F.mro_reversed⟩ F.made_reversed kC (F.typeCall_reversed_1 _) (j8 h0 h1 hr ⟨rfl,rfl⟩) ?_;rintro obj s₁ ⟨rfl,rfl⟩
 exact⟨⟨_,ab4 _ rfl,rfl⟩,h⟩
end
def VP(n:Nat):It:=⟨fun i _=>i < n,fun i H x H'=>H'=H/\x= .int ((n:Int) - 1 - i),fun i _=>n<=i⟩
theorem zD{P:Program}{w:World}{K:PySem.W.Frag}{tg:Expr}(it:Addr)(n:Nat):Turn P w K tg (VP n) [it] it (fun i h=>IsRangeIter h it ((n:Int) - 1+(i:Nat)*(-1)) ((n:Int) - (i:Nat)) (-1)) where
 mem:=by simp
 obj:=fun i h st b hb=>by
  have e:b=it:=by simpa using hb
  subst e;exact⟨_,st,fun v z=>by
   have z':Data.fields _=Data.cell v:=z;cases z'⟩
 keep:=fun i h h' st k=>k it 112 _ st
 item:=by
  intro X hP hw hK hc i pins s σ H E I hf st hg;subst hP hw hK;obtain⟨f0,f1,f2,f3,f4,f5⟩:=hf it 112;have W:=Walks.range (prog:=X.prog) (w:=X.w) 288 it ((n:Int) - 1) (-1) n;refine W.item i s _ _ hg st fun v h' tk hv ax kk=>?_;obtain⟨t,rfl⟩:=hv;have I1:Inv X pins σ H {s with heap:=h',toks:=tk}:=I.turned (fun b o hb e=>kk b o (by simpa using hb) e) f0 f1 f3 f4 f5;refine⟨_,rfl,yV (s:={s with heap:=h',toks:=tk}) (n:="range_iterator") ax rfl rfl 105 ⟨.int ((n:Int) - 1 - i),H,I1,⟨t,?_⟩,⟨rfl,rfl⟩,ax,fun b hb=>(411).1⟩⟩;rw[show(n:Int) - 1 - (i:Int)=(n:Int) - 1+(i:Int)*(-1) by lia]
 done:=by
  intro X hP hw hK hc i pins s σ H E I hf st hg;subst hP hw hK;obtain⟨f0,f1,f2,f3,f4,f5⟩:=hf it 112;exact wpAny_pyNext_range_end 288 st (by have:n<=i:=hg;lia) fun h' eb=>166
 self:=fun _ _ _ _ _ st h=>wpAny_pyIter_rangeiter st h
section
variable{X:Cx}{tg a:Expr}{pos:Pos}
def Yx(t:TA):TI:=fun σ H R=>t σ H fun vs H1=> ∃n:Nat,vs= [.int (n:Int)]/\(n:Int) < 2^60/\R (VP n) H1
theorem OI(hg:Gl X "reversed")(hm:X.mg "reversed"=none)(wR:Gl X "range")(Ub:X.mg "range"=none)(ha:PA X [a] t)(DM:starEach [.Call (.Name "range" p2) [a] [] t8] X.env= [280]:=by rfl)(hs:starEach [a] X.env= [(false,eval a X.env)]:=by rfl):
  PI X tg (.Call (.Name "reversed" p) [.Call (.Name "range" p2) [a] [] t8] [] pos) (Yx t):=by
 intro pins s σ H R I h;refine Call_ (bV I hg hm boot_reversed (ag7 ?_ DM rfl));rw[DM];show wpAny _ _ (spliced (280::backTo pos 122)) _ _ s;refine ap7 (Call_ (bV I wR Ub boot_range (ag7 (aU (ha t8 pins s σ H _ I h) fun us s1 cK=>?_) hs rfl)));obtain⟨vs,H1,I1,r1,q1⟩:=cK;obtain⟨n,rfl,h1,q⟩:=q1;obtain⟨u,rfl,⟨t,rfl⟩⟩:=vals1 r1;refine call_range_1 (aw1 ?_);refine kb (n:=(n:Int)) 101 h1 (IsRange.new ..) ?_;have I2:Inv X pins σ H1 {s1 with heap:=s1.heap.push {cls:= .type "range",data:= .fields #[.int 0 s1.toks,.int (n:Int) t,.int 1 (s1.toks+1)]},toks:=s1.toks+1+1}:=I1.kept fun b o e=>aa3 _ e;generalize e2:({s1 with heap:=s1.heap.push {cls:= .type "range",data:= .fields #[.int 0 s1.toks,.int (n:Int) t,.int 1 (s1.toks+1)]},toks:=s1.toks+1+1}:Shared)=s2 at I2;have it:IsRangeIter (s2.heap.push (uZ n)) s2.heap.objs.size ((n:Int) - 1+375*(-1)) ((n:Int) - 375) (-1):=by
  rw[show(n:Int) - 1+375*(-1)=(n:Int) - 1 by lia,show(n:Int) - 375=(n:Int) by lia];exact ab4 _ rfl
 show wpAny _ _ (pyIter (.ref s2.heap.objs.size)) _ _ {s2 with heap:=s2.heap.push (uZ n)};refine wpAny_pyIter_rangeiter (s:={s2 with heap:=s2.heap.push (uZ n)}) it ?_;refine⟨s2.heap.objs.size,[s2.heap.objs.size],_,_,H1,rfl,I2.kept (t':=s2.toks) fun b o e=>aa3 _ e,zD _ n,it,fun b hb=>?_,q⟩;have e:b=s2.heap.objs.size:=by simpa using hb
 subst e;exact I2.iO (aa4 _) (I2.aQ.fresh (aa4 _))
end
end L2
namespace LD
open PySem PySem.Spec L2 LB PyProof.Rows LW
section
variable{X:Cx}{tg a:Expr}{tA:fb}{p p2 pos t8:Pos}
theorem NQ:Yl M H (VP n) ((340).map fun k=> .int ((n:Int) - 1 - (k:Nat))):=by
 refine⟨fun i H1 M' kf mo hb hi=>⟨?_,fun x H2 cK=>?_⟩,fun H1 _=>?_⟩
 . rw[aa2,ac0] at hi;exact hi
 . obtain⟨e1,e2⟩:=cK;rw[aa2,ac0] at hi;subst e1;subst e2;exact⟨fun _ _ z=>z,.int ((n:Int) - 1 - i),by rw[aa6,af4 hi];rfl,.int _⟩
 . show n<=_;rw[aa2,ac0];exact aa4 _
inductive QK(Q:List Dt->List Sl->Prop)(ds:List Dt)(δ':List Sl):Prop
 | mk (n:Nat) (h1:ds= [.int (n:Int)]) (h2:(n:Int) < 2^60) (h4:Q ((340).map fun k=> .int ((n:Int) - 1 - (k:Nat))) δ')
def Z6(t:fb):qI:=fun δ Q=>t δ fun ds δ'=>QK Q ds δ'
theorem TJ(hm:X.mg "reversed"=none)(Ub:X.mg "range"=none)(ha:Av X [a] tA)(hg:Gl X "reversed":=by rfl)(wR:Gl X "range":=by rfl)(DM:starEach [.Call (.Name "range" p2) [a] [] t8] X.env= [280]:=by rfl)(hs:starEach [a] X.env= [(false,eval a X.env)]:=by rfl):
  Iv X tg (.Call (.Name "reversed" p) [.Call (.Name "range" p2) [a] [] t8] [] pos) (Z6 tA):=PI.imp (OI hg hm wR Ub ha DM hs) fun σ H R eU=>(by
 obtain⟨W,M,α,δ,Qd,E,q,k⟩:=eU;refine⟨W,M,α,δ,_,E,q,fun ds δ' H' vs gk E1 c1 r1=>?_⟩;obtain⟨n,e,l,q1⟩:=gk;subst e;obtain⟨x,ys,rfl,r2,r3⟩:=r1.aO;cases r3.eA;cases r2.ofInt;exact⟨n,rfl,l,k _ _ _ _ q1 E1 c1 NQ⟩)
end
end LD
namespace HX
open PySem PySem.Spec PyProof.Rows
section
variable{prog:Program}{w:World}{A:Around}{E:Value->Shared->Prop}{s:Shared}{K:Type}[DecidableEq K]
theorem jO: ∀{l ts:List K},l.Nodup->(∀k∈l,k∈ts)->l.length<=ts.length
 | [],_,_,_=>ae3 _
 | x::l,ts,h,m=>by
  obtain⟨h1,h2⟩:=ak8.mp h;have hx:=m x ac4;have:=jO (ts:=ts.erase x) h2 fun k hk=>(List.mem_erase_of_ne (show k≠x from fun z=>h1 (by rw[<-z];exact hk))).mpr (m k (ab6 _ hk));rw[List.length_erase_of_mem hx] at this;have:=List.length_pos_of_mem hx;rw[ac1];lia
end
end HX
namespace bW
open PySem PySem.Spec L2 LB PyProof.Rows
def Bt(l:List Int):Int:=l.headD 0
end bW
namespace LD
open PySem PySem.Spec L2 LB PyProof.Rows bW
section
variable{X:Cx}{e:Expr}{tA:fb}{pos p:Pos}
def Lb(q:List Int):Dt:= .lst (q.map .int)
end
end LD
namespace LD
open PySem PySem.Spec L2 LB PyProof.Rows
theorem pF{Δ:dW}(I:Nat->List Sl->Prop)(h0: ∃m,I m δ)(h: ∀m δ,I m δ-> ∀Δ':dW,(∀m' δ',m' < m->I m' δ'->Δ'.nx δ')->380->u δ fun b δ1=>if b=true then tb Δ' δ1 else Δ.nx δ1):EF u tb Δ δ:=
 ⟨I,h0,fun m δ hI=>h m δ hI _ (fun m' δ' hm hi=>⟨m',hm,hi⟩) fun _ _ z=>z⟩
theorem bZ{ai:List Dt}{g:zr}{tb:jo}{Δ:dW}(I:Nat->List Sl->Prop)(h0:I 0 δ1)(h: ∀i d δ2,ai[i]?=some d->I i δ2-> ∀Δ':dW,(∀δ',I (i+1) δ'->Δ'.nx δ')->380->g d δ2 fun δ3=>tb Δ' δ3)(fin: ∀δ2,I ai.length δ2->Δ.nx δ2):
  ∃P:Nat->List Sl->Prop,P 0 δ1/\(∀i d δ2,ai[i]?=some d->P i δ2->g d δ2 fun δ3=>tb {Δ with nx:=P (i+1),ct:=P (i+1),bk:=Δ.nx} δ3)/\ ∀δ2,P ai.length δ2->Δ.nx δ2:=
 ⟨I,h0,fun i d δ2 e hI=>h i d δ2 e hI _ (fun _ z=>z) fun _ _ z=>z,fin⟩
end LD
namespace vA
open bW
def nx(os:List 194):Option Nat->Option Nat
 | none=>none
 | some 0=>some 0
 | some (k+1)=>os.getD k none
def it(os:List 194):Nat->Option Nat->Option Nat
 | 0,a=>a
 | k+1,a=>nx os (it os k a)
theorem dh(os:List 194)(j:Nat)(a:Option Nat): ∀k,it os (k+j) a=it os k (it os j a)
 | 0=>by rw[aq6];rfl
 | k+1=>by rw[show k+1+j=(k+j)+1 by lia];show nx os (it os (k+j) a)=nx os _;rw[dh os j a k]
theorem rW(os:List 194): ∀k,it os k none=none
 | 0=>rfl
 | k+1=>by show nx os _=_;rw[rW os k];rfl
theorem yI(os:List 194): ∀k,it os k (some 0)=some 0
 | 0=>rfl
 | k+1=>by show nx os _=_;rw[yI os k];rfl
def vC(os:List 194)(w:Nat):Prop:= ∃p,1<=p/\it os p 251=some w
def HR(os:List 194)(w:Nat)(x:Int):Prop:= ∃(k v:Nat),it os k 251=some v/\x=(v:Int)
theorem wL(h:it os p 251=some w): ∀t,it os (t*p) 251=some w
 | 0=>by rw[Nat.zero_mul];rfl
 | t+1=>by rw[show(t+1)*p=p+t*p by rw[Nat.add_mul];lia,dh,wL h t];exact h
theorem jL(os:List 194)(w:Nat):HR os w (w:Int):=⟨0,w,rfl,rfl⟩
theorem vc{w v:Nat}(h:vC os w)(o:HR os w (v:Int)):vC os v/\ ∀x,HR os v x↔HR os w x:=by
 obtain⟨p,p1,hp⟩:=h;obtain⟨j,v',hj,e⟩:=o;have:v'=v:=by lia
 subst this;have back:it os (j*p+p - j) (some v')=some w:=by
  have:it os (j*p+p - j+j) 251=some w:=by
   have hle:j<=j*p:=Nat.le_mul_of_pos_right j p1;rw[show j*p+p - j+j=(j+1)*p by rw[Nat.add_mul];lia];exact wL hp _
  rw[dh,hj] at this;exact this
 refine⟨⟨p,p1,?_⟩,fun x=>⟨fun⟨k,u,hk,e⟩=>⟨k+j,u,by rw[dh,hj];exact hk,e⟩,fun⟨k,u,hk,e⟩=>⟨k+(j*p+p - j),u,by rw[dh,back];exact hk,e⟩⟩⟩;rw[<-hj,<-dh,au4,dh,hp]
def dr(os:List 194)(w:Nat)(L:List Int):Prop:=L.Pairwise (· < ·)/\ ∀x,x∈L↔HR os w x
theorem nY: ∀{a b:List Int},a.Pairwise (· < ·)->b.Pairwise (· < ·)->(∀x,x∈a↔x∈b)->a=b
 | [],[],_,_,_=>rfl
 | [],y::b,_,_,h=>absurd ((h y).mpr ac4) aa8
 | x::a,[],_,_,h=>absurd ((h x).mp ac4) aa8
 | x::a,y::b,ha,hb,h=>by
  obtain⟨a1,a2⟩:=ap4.mp ha;obtain⟨b1,b2⟩:=ap4.mp hb;have e:x=y:=by
   rcases ad1.mp ((h x).mp ac4) with z | z
   . exact z
   . rcases ad1.mp ((h y).mpr ac4) with u | u
     . exact u.symm
     . have:=b1 x z;have:=a1 y u;lia
  subst e;rw[nY a2 b2 fun z=>⟨fun hz=>?_,fun hz=>?_⟩]
  . rcases ad1.mp ((h z).mp 409) with u | u
    . have:=a1 z hz;lia
    . exact u
  . rcases ad1.mp ((h z).mpr 409) with u | u
    . have:=b1 z hz;lia
    . exact u
theorem dr.uniq(h:dr os w L)(h':dr os w L'):L=L':=nY h.1 h'.1 fun x=>(h.2 x).trans (h'.2 x).symm
theorem Lr{L:List Int}(h:L.Pairwise (· <= ·))(nd:L.Nodup):L.Pairwise (· < ·):=by
 refine(h.and nd).imp fun h=>?_;obtain⟨a,b⟩:=h;lia
theorem dr.ne(h:dr os w L):L≠ []:=fun e=>by
 have:=(h.2 w).mpr (jL os w);rw[e] at this;exact absurd this aa8
theorem dr.hd(h:dr os w L):Bt L∈L/\ ∀x∈L,Bt L<=x:=by
 have ne:=h.ne;obtain⟨p,_⟩:=h;match L,ne,p with
 | x::l,_,p=>
  refine⟨ac4,fun y hy=>?_⟩;rcases ad1.mp hy with rfl | hy
  . exact ae8 _
  . have:=(ap4.mp p).1 y hy;show x<=y;lia
def pB(os:List 194)(w:Nat)(R:List (List Int)):Prop:=R.Pairwise (fun a b=>Bt a < Bt b)/\ ∀L,L∈R↔ ∃v:Nat,1<=v/\v<=w/\vC os v/\dr os v L/\Bt L=(v:Int)
theorem Gg(os:List 194):pB os 0 []:=⟨List.Pairwise.nil,fun L=>⟨fun h=>absurd h aa8,fun⟨v,h1,h2,_⟩=>by lia⟩⟩
theorem pB.len(h:pB os w R):R.length<=w:=by
 have nd:(R.map fun L=>(Bt L).toNat).Nodup:=by
  refine as5.mpr (h.1.imp_of_mem fun{a b} ha hb lt=>?_);obtain⟨v,_,_,_,_,e⟩:=(h.2 a).mp ha;lia
 have:=HX.jO (ts:=List.range' 1 w) nd fun k hk=>by
  obtain⟨L,hL,rfl⟩:=ac9.mp hk;obtain⟨v,v1,v2,_,_,e⟩:=(h.2 L).mp hL;rw[aj6];lia
 simpa using this
theorem Gh(h:pB os w R)(c:vC os (w+1))(r:dr os (w+1) L)(e:Bt L=((w+1:Nat):Int)):pB os (w+1) (R++ [L]):=by
 refine⟨List.pairwise_append.mpr ⟨h.1,List.pairwise_singleton _ _,fun a ha b hb=>?_⟩,fun M=>?_⟩
 . cases aa9.mp hb;obtain⟨v,_,v2,_,_,ev⟩:=(h.2 a).mp ha;lia
 . rw[af6,aa9];constructor
   . rintro(hm | rfl)
     . obtain⟨v,v1,v2,q⟩:=(h.2 M).mp hm;exact⟨v,v1,by lia,q⟩
     . exact⟨w+1,by lia,aa4 _,c,r,e⟩
   . rintro⟨v,v1,v2,c',r',e'⟩
     by_cases z:v=w+1
     . subst z;exact .inr (r'.uniq r)
     . exact .inl ((h.2 M).mpr ⟨v,v1,by lia,c',r',e'⟩)
theorem tY(h:pB os w R)(no: ∀L,vC os (w+1)->dr os (w+1) L->Bt L≠((w+1:Nat):Int)):pB os (w+1) R:=by
 refine⟨h.1,fun M=>(h.2 M).trans ⟨fun⟨v,v1,v2,q⟩=>⟨v,v1,by lia,q⟩,fun⟨v,v1,v2,c,r,e⟩=>?_⟩⟩;by_cases z:v=w+1
 . subst z;exact absurd e (no M c r)
 . exact⟨v,v1,by lia,c,r,e⟩
def JA(n:Nat)(os:List 194):Prop:=os.length=n/\ ∀a∈os,∀k,a=some k->k<=n
theorem nF(o:JA n os)(h:nx os a=some v):v<=n:=by
 match a,h with
 | some 0,h=>cases h;exact ae3 _
 | some (k+1),h=>
  have h':os.getD k none=some v:=h;rw[ab7] at h';cases e:os[k]? with
  | none=>rw[e] at h';cases h'
  | some b=>
   rw[e] at h';exact o.2 b (ac7 e) v h'
structure Wk(n:Nat)(os:List 194)(w p:Nat):Prop where
 at': ∀k,k < p-> ∃v,it os k 251=some v/\1<=v/\v<=n
 nd: ∀j k,j < k->k < p->it os j 251≠it os k 251
theorem vK(h1:1<=w)(h2:w<=n):Wk n os w 1:=
 ⟨fun k hk=>by
  have:k=0:=by lia
  subst this;exact⟨w,rfl,h1,h2⟩,fun j k a b=>by lia⟩
theorem qP(h:Wk n os w p)(e:it os p 251=some v)(h1:1<=v)(h2:v<=n)(no: ∀k,k < p->it os k 251≠it os p 251):Wk n os w (p+1):=
 ⟨fun k hk=>by
  by_cases z:k=p
  . subst z;exact⟨v,e,h1,h2⟩
  . exact h.at' k 101,fun j k a b=>by
  by_cases z:k=p
  . subst z;exact no j a
  . exact h.nd j k a 101⟩
def wl(os:List 194)(w p:Nat):List Int:=(List.range p).map fun k=>(((it os k 251).getD 0:Nat):Int)
theorem vJ:(wl os w p).length=p:=by unfold wl;simp
theorem FX(e:it os p 251=some v):wl os w (p+1)=wl os w p++ [(v:Int)]:=by
 unfold wl;rw[List.range_succ,ae4];show _++ [(((it os p 251).getD 0:Nat):Int)]=_;rw[e];rfl
theorem wB{n:Nat}{w p:Nat}(h:Wk n os w p){v:Nat}:(v:Int)∈wl os w p↔ ∃k,k < p/\it os k 251=some v:=by
 unfold wl;rw[ac9];constructor
 . rintro⟨k,hk,e⟩
   obtain⟨u,eu,_⟩:=h.at' k (af8.mp hk);rw[eu] at e;have:u=v:=by have:((u:Nat):Int)=(v:Int):=e;lia
   subst this;exact⟨k,af8.mp hk,eu⟩
 . rintro⟨k,hk,e⟩
   exact⟨k,af8.mpr hk,by rw[e];rfl⟩
theorem Ih(h:Wk n os w p):(wl os w p).Nodup:=by
 unfold wl;refine as5.mpr (al0.mpr fun i j hi hj bE=>?_);rw[ac0] at hi hj;simp only [List.getElem_range];obtain⟨u,eu,_⟩:=h.at' i hi;obtain⟨v,ev,_⟩:=h.at' j hj;rw[eu,ev];intro z;have:u=v:=by have:((u:Nat):Int)=(v:Int):=z;lia
 exact h.nd i j bE hj (by rw[eu,ev,this])
theorem xV(h:Wk n os w p):p<=n:=by
 have:=HX.jO (ts:=(120).map fun(k:Nat)=>(k:Int)) (Ih h) fun x hx=>by
  unfold wl at hx;obtain⟨k,hk,rfl⟩:=ac9.mp hx;obtain⟨v,ev,v1,v2⟩:=h.at' k (af8.mp hk);rw[ev];exact ac9.mpr ⟨v,by rw[aj6];lia,rfl⟩
 rw[vJ,aa2,ae2] at this;exact this
def Stop(os:List 194)(w p:Nat):Prop:=it os p 251=none\/it os p 251=some 0\/ ∃k,k < p/\it os k 251=it os p 251
theorem Ln(hp:it os p 251=some w)(k:Nat):it os k 251=it os (k % p) 251:=by
 have:k=k % p+(k / p)*p:=by rw[Nat.mul_comm];exact(Nat.mod_add_div k p).symm
 conv=>lhs;rw[this]
 rw[dh,wL hp]
theorem t4(h:Wk n os w p)(p1:1<=p)(e:it os p 251=some w)(x:Int):x∈wl os w p↔HR os w x:=by
 constructor
 . intro hx;obtain⟨k,hk,rfl⟩:=ac9.mp hx;obtain⟨v,ev,_⟩:=h.at' k (af8.mp hk);exact⟨k,v,ev,by rw[ev];rfl⟩
 . rintro⟨k,v,ev,rfl⟩
   rw[Ln e] at ev;exact(wB h).mpr ⟨k % p,Nat.mod_lt _ p1,ev⟩
theorem x9(h:Wk n os w p)(p1:1<=p)(w1:1<=w)(s:Stop os w p)(ne:it os p 251≠some w): ∀q,1<=q->it os q 251≠some w:=by
 have low: ∀q,1<=q->q < p->it os q 251≠some w:=fun q q1 qp z=>h.nd 0 q 101 qp z.symm;rcases s with s | s | ⟨j,hj,s⟩
 . intro q q1 z;by_cases c:q < p
   . exact low q q1 c z
   . rw[show q=(q - p)+p by lia,dh,s,rW] at z;cases z
 . intro q q1 z;by_cases c:q < p
   . exact low q q1 c z
   . rw[show q=(q - p)+p by lia,dh,s,yI] at z;injection z with z
     lia
 . have j1 : 1 <= j := by
     refine ar9 fun z=>?_;subst z;exact ne s.symm
   have key: ∀q,j<=q-> ∃k,j<=k/\k < p/\it os q 251=it os k 251:=by
    intro q;induction q with
    | zero=>intro hq;exact⟨0,hq,p1,rfl⟩
    | succ q ih=>
     intro hq;by_cases c:j<=q
     . obtain⟨k,k1,k2,e⟩:=ih c;have e2:it os (q+1) 251=it os (k+1) 251:=by show nx os _=nx os _;rw[e]
       by_cases d:k+1 < p
       . exact⟨k+1,by lia,d,e2⟩
       . exact⟨j,aa4 _,hj,by rw[e2,show k+1=p by lia];exact s.symm⟩
     . have:q+1=j:=by lia
       exact⟨j,aa4 _,hj,by rw[this]⟩
   intro q q1 z;by_cases c:j<=q
   . obtain⟨k,k1,k2,e⟩:=key q c;exact h.nd 0 k 101 k2 (by rw[<-e,z];rfl)
   . exact low q q1 101 z
theorem qj(o:JA n os): ∀(f p:Nat),n - p=f->1<=p->Wk n os w p-> ∃p,1<=p/\Wk n os w p/\Stop os w p:=by
 intro f;induction f with
 | zero=>
  intro p hp p1 h;cases e:it os p 251 with
  | none=>exact⟨p,p1,h,.inl e⟩
  | some v=>
   by_cases z:v=0
   . subst z;exact⟨p,p1,h,.inr (.inl e)⟩
   . by_cases c: ∃k,k < p/\it os k 251=it os p 251
     . exact⟨p,p1,h,.inr (.inr c)⟩
     . have hv : v <= n := by
         match p,p1,e with
         | p+1,_,e=>exact nF o e
       have:=xV (qP h e 101 hv fun k hk z=>c ⟨k,hk,z⟩);lia
 | succ f ih=>
  intro p hp p1 h;cases e:it os p 251 with
  | none=>exact⟨p,p1,h,.inl e⟩
  | some v=>
   by_cases z:v=0
   . subst z;exact⟨p,p1,h,.inr (.inl e)⟩
   . by_cases c: ∃k,k < p/\it os k 251=it os p 251
     . exact⟨p,p1,h,.inr (.inr c)⟩
     . have hv : v <= n := by
         match p,p1,e with
         | p+1,_,e=>exact nF o e
       exact ih (p+1) 101 101 (qP h e 101 hv fun k hk z=>c ⟨k,hk,z⟩)
theorem ES(o:JA n os)(w1:1<=w)(w2:w<=n)(c:vC os w): ∃p,1<=p/\p<=n/\Wk n os w p/\it os p 251=some w:=by
 obtain⟨p,p1,h,s⟩:=qj o _ 1 rfl (aa4 _) (vK w1 w2);refine⟨p,p1,xV h,h,?_⟩;by_cases e:it os p 251=some w
 . exact e
 . obtain⟨q,q1,hq⟩:=c;exact absurd hq (x9 h p1 w1 s e q q1)
theorem rO(o:JA n os)(w1:1<=w)(w2:w<=n)(c:vC os w)(x:Int)(hx:HR os w x):1<=x:=by
 obtain⟨p,p1,_,h,e⟩:=ES o w1 w2 c;have:=(t4 h p1 e x).mpr hx;unfold wl at this;obtain⟨k,hk,rfl⟩:=ac9.mp this;obtain⟨v,ev,v1,_⟩:=h.at' k (af8.mp hk);rw[ev];show(1:Int)<=(v:Int);lia
end vA
namespace MH
def up(hs:List Nat)(w:Nat):Nat:=hs.getD (w - 1) 0
structure Hg(hs:List Nat):Prop where
 pos:0 < hs.length
 le: ∀x∈hs,x<=hs.length
 rk: ∃rk:Nat->Nat,∀w,1<=w->w<=hs.length->up hs w≠0->rk (up hs w) < rk w
 one: ∃t:Nat,hs[t]?=some 0/\ ∀j:Nat,hs[j]?=some 0->j=t
theorem gn{hs:List Nat}(h1:1<=w)(h2:w<=hs.length):hs[w - 1]?=some (up hs w):=by
 unfold up;rw[List.getD,aa1 101];rfl
theorem Hg.mU(h:Hg hs)(h1:1<=w)(h2:w<=hs.length):up hs w<=hs.length:=h.le _ (ac7 (gn h1 h2))
inductive Up(hs:List Nat):Nat->List Nat->Prop where
 | top {w:Nat}:up hs w=0->Up hs w [w]
 | step {w:Nat} {L:List Nat}:up hs w≠0->Up hs (up hs w) L->Up hs w (w::L)
theorem Hg.has(h:Hg hs): ∀(w:Nat),1<=w->w<=hs.length-> ∃L,Up hs w L:=by
 obtain⟨rk,Ww⟩:=h.rk;have: ∀(m w:Nat),rk w<=m->1<=w->w<=hs.length-> ∃L,Up hs w L:=fun m=>by
  induction m with
  | zero => intro w hm h1 h2
            by_cases e:up hs w=0
            . exact⟨_,.top e⟩
            . have:=Ww w h1 h2 e;lia
  | succ m ih => intro w hm h1 h2
                 by_cases e:up hs w=0
                 . exact⟨_,.top e⟩
                 . have:=Ww w h1 h2 e;obtain⟨L,hL⟩:=ih (up hs w) 101 101 (h.mU h1 h2);exact⟨_,.step e hL⟩
 intro w;exact this (rk w) w (aa4 _)
theorem rS: ∀{l m:List Nat},l.Nodup->l ⊆ m->l.length<=m.length
 | [],_,_,_=>ae3 _
 | x::l,m,h,s=>by
  have hx:x∈m:=s ac4;obtain⟨h1,h2⟩:=ak8.mp h;have:=rS (l:=l) (m:=m.erase x) h2 fun y hy=>(List.mem_erase_of_ne (show y≠x from fun e=>h1 (by rw[<-e];exact hy))).mpr (s (ab6 _ hy));rw[List.length_erase_of_mem hx] at this;have:=List.length_pos_of_mem hx;rw[ac1];lia
structure Bc(hs:List Nat)(t k:Nat)(L:List Nat)(rk:Nat->Nat):Prop where
 nd:L.Nodup
 mem: ∀w∈L,1<=w/\w<=hs.length
 top:t∈L
 par: ∀w∈L,w≠t->up hs w∈L/\rk (up hs w) < rk w
 bd: ∀w∈L,rk w < k
 len:k<=L.length
def gK(hs:List Nat):List Nat:=(List.range' 1 hs.length).filter fun x=>decide (up hs x=0)
def cX(hs L:List Nat):List Nat:=(List.range' 1 hs.length).filter fun x=>decide (up hs x∈L) && !decide (x∈L)
theorem fO:x∈gK hs↔1<=x/\x<=hs.length/\up hs x=0:=by
 unfold gK;rw[ag8,aj6,ai9];lia
theorem jQ:x∈cX hs L↔1<=x/\x<=hs.length/\up hs x∈L/\x∉L:=by
 unfold cX;rw[ag8,aj6];simp only [ak3,ai9,Bool.not_eq_true',am2];constructor
 . rintro⟨a,b,c⟩;exact⟨by lia,by lia,b,c⟩
 . rintro⟨a,b,c,d⟩;exact⟨by lia,c,d⟩
theorem GV:(cX hs L).Nodup:=an9 _ (ao1 ..)
theorem xX:(gK hs).Nodup:=an9 _ (ao1 ..)
theorem Bc.start(h:gK hs= [t]):Bc hs t 1 [t] (fun _=>0):=by
 have ht:=(fO (hs:=hs) (x:=t)).mp (by rw[h];simp);exact⟨by simp,fun w hw=>by rw[aa9.mp hw];exact⟨ht.1,ht.2.1⟩,by simp,fun w hw n=>absurd (aa9.mp hw) n,fun w hw=>by lia,by simp⟩
theorem Bc.Fh(g:Bc hs t k L rk):(L++cX hs L).Nodup:=
 ao2.mpr ⟨g.nd,GV,fun x hx y hy e=>(jQ.mp hy).2.2.2 (e▸hx)⟩
theorem Bc.step{hs:List Nat}{t k:Nat}{L:List Nat}{rk:Nat->Nat}(g:Bc hs t k L rk)(qe:cX hs L≠ []):Bc hs t (k+1) (L++cX hs L) (fun x=>if x∈L then rk x else k):=by
 refine⟨g.Fh,fun w hw=>?_,by simp [g.top],fun w hw n=>?_,fun w hw=>?_,?_⟩
 . rcases af6.mp hw with y | y
   . exact g.mem w y
   . have:=jQ.mp y;exact⟨this.1,this.2.1⟩
 . rcases af6.mp hw with y | y
   . obtain⟨a,b⟩:=g.par w y n;refine⟨by simp [a],?_⟩;simp only [if_pos a,if_pos y];exact b
   . obtain⟨_,_,a,b⟩:=jQ.mp y;refine⟨by simp [a],?_⟩;simp only [if_pos a,if_neg b];exact g.bd _ a
 . by_cases c:w∈L
   . simp only [if_pos c];have:=g.bd w c;lia
   . simp only [if_neg c];lia
 . have:=List.length_pos_iff.mpr qe;have:=g.len;rw[ab8];lia
theorem Bc.le(g:Bc hs t k L rk):L.length<=hs.length:=by
 have:=rS g.nd (m:=List.range' 1 hs.length) fun x hx=>by
  have:=g.mem x hx;rw[aj6];lia
 rwa [ae2] at this
theorem BU(g:Hg hs): ∃t,gK hs= [t]:=by
 obtain⟨t,ht,tu⟩:=g.one;have tl:=(aa5.mp ht).1;have u0:up hs (t+1)=0:=by have:=gn (hs:=hs) (w:=t+1) 101 101;rw[show t+1 - 1=t by lia,ht] at this;exact(Option.some.inj this).symm
 have all: ∀x∈gK hs,x=t+1:=fun x hx=>by
  obtain⟨x1,x2,x3⟩:=fO.mp hx;have:=gn (hs:=hs) x1 x2;rw[x3] at this;have:=tu _ this;lia
 have m:t+1∈gK hs:=fO.mpr ⟨by lia,by lia,u0⟩;refine⟨t+1,?_⟩;have nd:=xX (hs:=hs);match h:gK hs with
 | []=>rw[h] at m;exact absurd m aa8
 | [x]=>rw[all x (by rw[h];simp)]
 | x::y::r=>
  rw[h] at nd;have e1:=all x (by rw[h];simp);have e2:=all y (by rw[h];simp);rw[e1,e2] at nd;simp at nd
theorem Bc.iff(g:Bc hs t k L rk)(ht:gK hs= [t])(hle: ∀x∈hs,x<=hs.length)(he:cX hs L= []):L.length=hs.length↔Hg hs:=by
 have tt:=(fO (hs:=hs) (x:=t)).mp (by rw[ht];simp);constructor
 . intro hl;have all: ∀w,1<=w->w<=hs.length->w∈L:=fun w w1 w2=>by
    refine ah3 fun n=>?_;have:=rS (l:=w::L) (m:=List.range' 1 hs.length) (ak8.mpr ⟨n,g.nd⟩) fun x hx=>by
     rw[aj6];rcases ad1.mp hx with e | hx
     . lia
     . have:=g.mem x hx;lia
    rw[ac1,ae2] at this;lia
   have zero: ∀w,1<=w->w<=hs.length->up hs w=0->w=t:=fun w w1 w2 h=>by
    have:=fO.mpr ⟨w1,w2,h⟩;rw[ht] at this;exact aa9.mp this
   refine⟨by lia,hle,⟨rk,fun w w1 w2 n=>(g.par w (all w w1 w2) fun e=>n (by rw[e];exact tt.2.2)).2⟩,⟨t - 1,by have:=gn (hs:=hs) tt.1 tt.2.1;rw[tt.2.2] at this;exact this,fun j hj=>?_⟩⟩;have jl:=(aa5.mp hj).1;have:=gn (hs:=hs) (w:=j+1) 101 101;rw[show j+1 - 1=j by lia,hj] at this;have:=zero (j+1) 101 101 (Option.some.inj this).symm;lia
 . intro hg;have all: ∀w L',Up hs w L'->1<=w->w<=hs.length->w∈L:=fun w L' h=>by
    induction h with
    | @top w e=>intro w1 w2;have:=fO.mpr ⟨w1,w2,e⟩;rw[ht] at this;rw[aa9.mp this];exact g.top
    | @step w L' n h ih=>
     intro w1 w2;refine ah3 fun nw=>?_;have:w∈cX hs L:=jQ.mpr ⟨w1,w2,ih 101 (hg.mU w1 w2),nw⟩;rw[he] at this;exact aa8 this
   have:=rS (l:=List.range' 1 hs.length) (m:=L) (ao1 ..) fun x hx=>by
    rw[aj6] at hx;obtain⟨L',h⟩:=hg.has x 101 101;exact all x L' h 101 101
   rw[ae2] at this;have:=g.le;lia
end MH
namespace mh
abbrev Wo:=Option Int
def ad:Wo->Wo->Wo
 | some a,some b=>some (a+b)
 | _,_=>none
def Ii:List Wo->Wo
 | []=>some 0
 | x::xs=>ad x (Ii xs)
theorem zi(x:Wo):ad x none=none:=by cases x <;> rfl
def dH(w:Nat->Nat->Wo):Nat->List Nat->Wo
 | _,[]=>some 0
 | i,x::xs=>ad (w i x) (dH w (i+1) xs)
abbrev fZ(w:Nat->Nat->Wo)(h:List Nat):Wo:=dH w 1 h
def code(B:Nat):List Nat->Int
 | []=>0
 | x::xs=>(x:Int)*(B:Int)^xs.length+code B xs
theorem ny{B:Nat}(h:0 < B)(n:Nat):0 < (B:Int)^n:=Int.pow_pos 101
theorem gA: ∀{h:List Nat},(∀x∈h,x < B)->0<=code B h/\code B h < (B:Int)^h.length
 | [],_=>⟨ae8 _,by show(0:Int) < 1;decide⟩
 | x::xs,hx=>by
  have x1:=hx x ac4;obtain⟨a,b⟩:=gA (h:=xs) fun y hy=>hx y (ab6 _ hy);have p:=ny (B:=B) 101 xs.length;unfold code;rw[ac1,Int.pow_succ];generalize (B:Int)^xs.length=P at*;have e1:0<=(x:Int)*P:=Int.mul_nonneg 101 101;have e2:((x:Int)+1)*P<=(B:Int)*P:=ah0 101 101;rw[aq5,aw2] at e2;rw[Int.mul_comm P];exact 205
def Dp:List Nat->List Nat->Bool
 | [],ys=>!ys.isEmpty
 | _::_,[]=>false
 | x::xs,y::ys=>if x=y then Dp xs ys else decide (x < y)
theorem fV: ∀{h g:List Nat},h.length=g.length->(∀x∈h,x < B)->(∀x∈g,x < B)->(code B h < code B g↔Dp h g=true)
 | [],[],_,_,_=>by simp [code,Dp]
 | x::xs,y::ys,l,hx,hy=>by
  have l':xs.length=ys.length:=by simpa using l
  have ih:=fV l' (fun z hz=>hx z 409) fun z hz=>hy z 409;obtain⟨a1,a2⟩:=gA (h:=xs) fun z hz=>hx z 409;obtain⟨b1,b2⟩:=gA (h:=ys) fun z hz=>hy z 409;have p:=ny (B:=B) (by have:=hx x ac4;lia) xs.length;unfold code Dp;rw[<-l'] at b2 ⊢;generalize (B:Int)^xs.length=P at*;by_cases c:x=y
  . subst c;rw[if_pos rfl,<-ih];constructor <;> intro <;> lia
  . rw[if_neg c,decide_eq_true_iff];rcases ap3 c with d | d
    . have e2:((x:Int)+1)*P<=(y:Int)*P:=ah0 101 101;rw[aq5,aw2] at e2;exact⟨fun _=>d,fun _=>by lia⟩
    . have e2:((y:Int)+1)*P<=(x:Int)*P:=ah0 101 101;rw[aq5,aw2] at e2;exact⟨fun z=>by lia,fun z=>by lia⟩
theorem code_inj: ∀{h g:List Nat},h.length=g.length->(∀x∈h,x < B)->(∀x∈g,x < B)->code B h=code B g->h=g
 | [],[],_,_,_,_=>rfl
 | x::xs,y::ys,l,hx,hy,e=>by
  have l':xs.length=ys.length:=by simpa using l
  obtain⟨a1,a2⟩:=gA (h:=xs) fun z hz=>hx z 409;obtain⟨b1,b2⟩:=gA (h:=ys) fun z hz=>hy z 409;have p:=ny (B:=B) (by have:=hx x ac4;lia) xs.length;unfold code at e;rw[<-l'] at b2 e;have c:x=y:=by
   generalize (B:Int)^xs.length=P at*;rcases Nat.lt_trichotomy x y with d | d | d
   . have e2:((x:Int)+1)*P<=(y:Int)*P:=ah0 101 101;rw[aq5,aw2] at e2;lia
   . exact d
   . have e2:((y:Int)+1)*P<=(x:Int)*P:=ah0 101 101;rw[aq5,aw2] at e2;lia
  subst c;rw[code_inj l' (fun z hz=>hx z 409) (fun z hz=>hy z 409) 101]
def wr(n:Nat)(w:Nat->Nat->Wo)(i o:Nat):Wo:=(w i o).map fun v=>v*233^n - (o:Int)*233^(n - i)
theorem mv(n:Nat)(w:Nat->Nat->Wo): ∀(h:List Nat) (i:Nat),i+h.length=n+1->1<=i->dH (wr n w) i h=(dH w i h).map fun v=>v*233^n - code (n+1) h
 | [],i,e,_=>by simp [dH,code]
 | x::xs,i,e,i1=>by
  have e':i+1+xs.length=n+1:=by rw[ac1] at e;lia
  rw[dH,dH,mv n w xs (i+1) e' 101];unfold wr;rw[show n - i=xs.length by lia];have ec:code (n+1) (x::xs)=(x:Int)*233^xs.length+code (n+1) xs:=by
   rw[code];push_cast
   rfl
  rw[ec];cases w i x with
  | none=>rfl
  | some a=>
   cases dH w (i+1) xs with
   | none=>rfl
   | some b=>
    show some ((a*233^n - (x:Int)*233^xs.length)+(b*233^n - code (n+1) xs))=some ((a+b)*233^n - ((x:Int)*233^xs.length+code (n+1) xs));congr 1
    rw[aq5];generalize a*233^n=p;generalize b*233^n=q;generalize (x:Int)*233^xs.length=r;lia
theorem Gj{v u c d P:Int}(c0:0<=c)(cP:c < P)(d0:0<=d)(dP:d < P)(h:u*P - d<=v*P - c):u < v\/(u=v/\c<=d):=by
 rcases Int.lt_trichotomy u v with z | z | z
 . exact .inl z
 . subst z;exact .inr ⟨rfl,by lia⟩
 . have e2:(v+1)*P<=u*P:=ah0 101 101;rw[aq5,aw2] at e2;lia
theorem mT: ∀{h:List Nat} {i:Nat},(∀j,i<=j->j < i+h.length-> ∀o,w j o=w' j o)->dH w i h=dH w' i h
 | [],_,_=>rfl
 | x::xs,i,e=>by
  rw[dH,dH,e i (aa4 _) (by rw[ac1];lia) x,mT fun j h1 h2 o=>e j 101 (by rw[ac1];lia) o]
theorem tx(c:Prop) [Decidable c]: ∀{h:List Nat} {i:Nat},i<=word->word < i+h.length->(∀j,j≠word-> ∀o,w j o=w' j o)->(w' word (h.getD (word - i) 0)=if c then w word (h.getD (word - i) 0) else none)->dH w' i h=if c then dH w i h else none
 | [],i,h1,h2,_,_=>by rw[an8] at h2;lia
 | x::xs,i,h1,h2,e,e2=>by
  by_cases z:i=word
  . subst z;rw[as8] at e2;have e2:w' i x=if c then w i x else none:=e2
    have er:dH w' (i+1) xs=dH w (i+1) xs:=mT fun j j1 j2 o=>(e j 101 o).symm;rw[dH,dH,e2,er];by_cases d:c
    . rw[if_pos d,if_pos d]
    . rw[if_neg d,if_neg d];rfl
  . rw[dH,dH,<-e i z x];have ih:=tx c (h:=xs) (i:=i+1) (w:=w) (w':=w') (word:=word) 101 (by rw[ac1] at h2;lia) e (by
     have:word - i=(word - (i+1))+1:=by lia
     rw[this] at e2;exact e2)
    rw[ih];by_cases d:c
    . rw[if_pos d,if_pos d]
    . rw[if_neg d,if_neg d,zi]
abbrev at'(h:List Nat)(word:Nat):Nat:=h.getD (word - 1) 0
theorem JP{h:List Nat}(h1:1<=word)(h2:word<=h.length)(e:fZ w h=some v):w word (at' h word)≠none:=fun z=>by
 have:=tx (w:=w) (w':=w) (word:=word) False (h:=h) (i:=1) h1 101 (fun _ _ _=>rfl) (by rw[if_neg id];exact z);rw[if_neg id] at this;unfold fZ at e;rw[this] at e;cases e
abbrev Rs:=Int × List Nat
structure Ia(n:Nat)(r:Rs):Prop where
 l:r.2.length=n
 b: ∀x∈r.2,x<=n
def ahead(a b:Rs):Bool:=decide (a.1 > b.1) || (decide (a.1=b.1) && Dp a.2 b.2)
def good(n:Nat)(b x:Rs):Prop:=x.1 < b.1\/(x.1=b.1/\code (n+1) b.2<=code (n+1) x.2)
theorem kM(ha:Ia n a)(hb:Ia n b):ahead a b=false↔good n b a:=by
 have e:=fV (B:=n+1) (h:=a.2) (g:=b.2) (by rw[ha.l,hb.l]) (fun x hx=>ah5 (ha.b x hx)) fun x hx=>ah5 (hb.b x hx);unfold ahead good;rw[Bool.or_eq_false_iff,Bool.and_eq_false_iff,am2,am2];cases c:Dp a.2 b.2 with
 | true=>
  have:=e.mpr c;constructor
  . rintro⟨h1,h2 | h2⟩
    . exact .inl 101
    . cases h2
  . rintro(h | ⟨h,h2⟩)
    . exact⟨by lia,.inl 101⟩
    . lia
 | false=>
  have nn: ¬code (n+1) a.2 < code (n+1) b.2:=fun z=>by rw[e.mp z] at c;cases c
  constructor
  . rintro⟨h1,_⟩
    rcases Int.lt_trichotomy a.1 b.1 with z | z | z
    . exact .inl z
    . exact .inr ⟨z,by lia⟩
    . exact absurd z h1
  . rintro(h | ⟨h,_⟩)
    . exact⟨by lia,.inr rfl⟩
    . exact⟨by lia,.inr rfl⟩
end mh
namespace ME
abbrev Tb:=Nat->Nat->Option Int
def gi(G:List 137)(i:Nat):List Nat:=G.getD i []
def wi(W:List 178)(i:Nat):Nat × Nat:=W.getD i (0,0)
def bi(B:List Int)(i:Nat):Int:=B.getD i 0
def val(o:Option Int):Int:=o.getD 0
def cG(n:Nat)(f:Nat->Int):Int:=((120).map f).sum
def jf(k:Nat)(f:Nat->Int):Int:=((List.range k).map f).sum
def cnt(n:Nat)(S:List Nat)(g:Nat->Nat):Int:=cG n fun v=>if v∈S/\g v∉S then 1 else 0
def off(L:Tb)(S:List Nat)(x:Int):Tb:=fun v u=>if v∈S/\u∉S then(L v u).map (· - x) else L v u
theorem sum_add{α:Type}(l:List α)(f g:α->Int):(l.map fun v=>f v+g v).sum=(l.map f).sum+(l.map g).sum:=by
 induction l with
 | nil=>rfl
 | cons a l ih=>simp only [ac2,ak5,ih];lia
theorem jv{α:Type}(l:List α)(c:Int)(f:α->Int):(l.map fun v=>c*f v).sum=c*(l.map f).sum:=by
 induction l with
 | nil=>simp
 | cons a l ih=>simp only [ac2,ak5,ih,Int.mul_add]
theorem fv{α:Type}(l:List α)(f g:α->Int)(h: ∀v∈l,f v<=g v):(l.map f).sum<=(l.map g).sum:=by
 induction l with
 | nil=>exact ae8 _
 | cons a l ih=>
  have h1:=h a ac4;have h2:=ih fun v hv=>h v (ab6 _ hv);simp only [ac2,ak5];lia
theorem mY{α:Type}(l:List α)(f:α->Int)(h: ∀v∈l,0<=f v){a:α}(ha:a∈l)(h1:1<=f a):1<=(l.map f).sum:=by
 induction l with
 | nil=>cases ha
 | cons b l ih=>
  have hb:=h b ac4;simp only [ac2,ak5];have rest:0<=(l.map f).sum:=by
   have:=fv l (fun _=>0) f fun v hv=>h v (ab6 _ hv);have z:(l.map fun _=>(0:Int)).sum=0:=by
    have:=jv l 0 f;simpa using this
   lia
  rcases ad1.mp ha with rfl | ha
  . lia
  . have:=ih (fun v hv=>h v (ab6 _ hv)) ha;lia
theorem jc{l:List Nat}(nd:l.Nodup)(a:Nat)(f:Nat->Int)(h: ∀v∈l,f v<=if v=a then 1 else 0):(l.map f).sum<=1:=by
 have key: ∀{l:List Nat},l.Nodup->(l.map fun v=>if v=a then(1:Int) else 0).sum<=1/\(a∉l->(l.map fun v=>if v=a then(1:Int) else 0).sum=0):=by
  intro l;induction l with
  | nil=>intro _;exact⟨by simp,fun _=>rfl⟩
  | cons b l ih=>
   intro nd;obtain⟨h1,h2⟩:=ak8.mp nd;obtain⟨i1,i2⟩:=ih h2;simp only [ac2,ak5];by_cases e:b=a
   . subst e;have:=i2 h1;rw[if_pos rfl,this];exact⟨by lia,fun z=>absurd ac4 z⟩
   . rw[if_neg e];exact⟨by lia,fun z=>by rw[i2 fun y=>z (ab6 _ y)];rfl⟩
 exact Int.le_trans (fv l _ _ h) (key nd).1
theorem br:v∈List.range' 1 n↔1<=v/\v<=n:=by rw[aj6];lia
def la(G:List 137)(v:Nat):Nat->Option Nat
 | 0=>none
 | k+1=>if v∈gi G k then some k else la G v k
theorem aN: ∀{k:Nat},la G v k=some c->c < k/\v∈gi G c/\ ∀d,c < d->d < k->v∉gi G d
 | 0,h=>by cases h
 | k+1,h=>by
  unfold la at h;by_cases e:v∈gi G k
  . rw[if_pos e] at h;cases h;exact⟨at3 _,e,fun d h1 h2=>by lia⟩
  . rw[if_neg e] at h;obtain⟨h1,h2,h3⟩:=aN h;exact⟨by lia,h2,fun d h4 h5=>by
     by_cases z:d=k
     . rw[z];exact e
     . exact h3 d h4 101⟩
theorem uJ: ∀{k:Nat},c < k->v∈gi G c->(∀d,c < d->d < k->v∉gi G d)->la G v k=some c
 | 0,h,_,_=>by lia
 | k+1,h,hv,hd=>by
  unfold la;by_cases z:c=k
  . subst z;rw[if_pos hv]
  . rw[if_neg (hd k 101 101)];exact uJ 101 hv fun d h1 h2=>hd d h1 101
theorem Dw: ∀{k:Nat},c < k->v∈gi G c-> ∃c',la G v k=some c'/\c<=c'
 | 0,h,_=>by lia
 | k+1,h,hv=>by
  unfold la;by_cases e:v∈gi G k
  . rw[if_pos e];exact⟨k,rfl,by lia⟩
  . rw[if_neg e];have:c≠k:=fun z=>e (z▸hv);exact Dw 101 hv
inductive Ch(G:List 137)(W:List 178)(j:Nat):Nat->Nat->Prop
 | base {v v' c:Nat}:la G v j=some c->c < W.length->v'∈gi G c->Ch G W j v v'
 | step {v v' c:Nat}:la G v j=some c->c < W.length->Ch G W j (wi W c).2 v'->Ch G W j v v'
structure dN(n:Nat)(G:List 137)(W:List 178):Prop where
 wu:n<=G.length
 oV: ∀v,1<=v->v<=n->gi G (v - 1)= [v]
 mem: ∀i,i < G.length-> ∀v∈gi G i,1<=v/\v<=n
 ne: ∀i,i < G.length->gi G i≠ []
 Cs: ∀i,i < G.length->(286).Pairwise (· < ·)
 lam: ∀i j v,i < j->j < G.length->v∈gi G i->v∈gi G j->(∀u∈gi G i,u∈gi G j)/\i < W.length/\(wi W i).2∈gi G j
 ring: ∀j v v',n<=j->j < G.length->v∈gi G j->v'∈gi G j->Ch G W j v v'
 way: ∀i,i < W.length->(wi W i).1∈gi G i/\(wi W i).2∉gi G i/\(wi W i).2<=n
 wl:W.length<=G.length
structure zk(n:Nat)(w:Tb)(G:List 137)(W:List 178)(B:List Int)(L:Tb):Prop where
 bl:B.length=W.length
 aC: ∀v u,L v u=none↔w v u=none
 BW: ∀i,i < W.length->L (wi W i).1 (wi W i).2=some 0
 neg: ∀i,i < W.length-> ∀v∈gi G i,∀u,u<=n->u∉gi G i-> ∀x,L v u=some x->x<=0
 HM: ∀i,n<=i->i < W.length->bi B i<=0
 sum: ∀g:Nat->Nat,(∀v,1<=v->v<=n->w v (g v)≠none)->cG n (fun v=>val (w v (g v)))=cG n (fun v=>val (L v (g v)))+jf W.length fun i=>bi B i*cnt n 286 g
theorem qQ{W:List 178}(h:i < W.length):wi (W++ [p]) i=wi W i:=by
 unfold wi;rw[ab7,ab7,ad7 h]
theorem BL:wi (W++ [p]) W.length=p:=by
 unfold wi;rw[ab7,ae7 (aa4 _),as8];rfl
theorem Fc{B:List Int}(h:i < B.length):bi (B++ [x]) i=bi B i:=by
 unfold bi;rw[ab7,ab7,ad7 h]
theorem Fd:bi (B++ [x]) B.length=x:=by
 unfold bi;rw[ab7,ae7 (aa4 _),as8];rfl
theorem bI{G N:List 137}(h:i < G.length):gi (G++N) i=gi G i:=by
 unfold gi;rw[ab7,ab7,ad7 h]
theorem kR{G N:List 137}(h:G.length<=i):gi (G++N) i=gi N (i - G.length):=by
 unfold gi;rw[ab7,ab7,ae7 h]
theorem wJ{G N:List 137}: ∀{k:Nat},k<=G.length->la (G++N) v k=la G v k
 | 0,_=>rfl
 | k+1,h=>by unfold la;rw[bI 101,wJ 101]
theorem MU(h:Ch G W j v v'):Ch G (W++ [p]) j v v':=by
 induction h with
 | base e l m=>exact .base e (by rw[ab8];lia) m
 | step e l _ ih=>exact .step e (by rw[ab8];lia) (by rw[qQ l];exact ih)
theorem MV{G N:List 137}(hj:j<=G.length)(h:Ch G W j v v'):Ch (G++N) W j v v':=by
 induction h with
 | base e l m=>
  have:=(aN e).1;exact .base (by rw[wJ hj];exact e) l (by rw[bI 101];exact m)
 | step e l _ ih=>exact .step (by rw[wJ hj];exact e) l ih
theorem Jv(h:Ch G W j v v'): ∃c,la G v j=some c/\c < W.length:=by
 cases h with
 | base e l _=>exact⟨_,e,l⟩
 | step e l _=>exact⟨_,e,l⟩
theorem dN.more(h:dN n G W)(hk:W.length < G.length)(h1:a∈gi G W.length)(h2:b∉gi G W.length)(h3:b<=n):dN n G 295:=by
 refine⟨h.wu,h.oV,h.mem,h.ne,h.Cs,fun i j v ij jl v1 v2=>?_,fun j v v' nj jl v1 v2=>MU (h.ring j v v' nj jl v1 v2),fun i hi=>?_,by rw[ab8];exact hk⟩
 . obtain⟨q1,q2,q3⟩:=h.lam i j v ij jl v1 v2;exact⟨q1,by rw[ab8];lia,by rw[qQ q2];exact q3⟩
 . by_cases c:i < W.length
   . rw[qQ c];exact h.way i c
   . have:i=W.length:=by rw[ab8,List.length_singleton] at hi;lia
     subst this;rw[BL];exact⟨h1,h2,h3⟩
theorem zF(k:Nat)(f:Nat->Int):jf (k+1) f=jf k f+f k:=by
 unfold jf;rw[List.range_succ,ae4,List.sum_append];simp
theorem mZ(h: ∀i,i < k->f i=g i):jf k f=jf k g:=by
 unfold jf;rw[ae9 fun i hi=>h i (af8.mp hi)]
theorem jd(h: ∀v,1<=v->v<=n->f v=g v):cG n f=cG n g:=by
 unfold cG;rw[ae9 fun i hi=>h i (br.mp hi).1 (br.mp hi).2]
theorem zk.more(h:dN n G W)(p:zk n w G W B L)(hk:W.length < G.length)(h1:a∈gi G W.length)(h2:b∉gi G W.length)(h3:b<=n)(hx:L a b=some x)(mx: ∀v∈gi G W.length,∀u,u<=n->u∉gi G W.length-> ∀y,L v u=some y->y<=x):zk n w G 295 (B++ [x]) (off L 386 x):=by
 have wl:(295).length=W.length+1:=by rw[ab8];rfl
 have blt: ∀{i},i < W.length->i < B.length:=fun hi=>by rw[p.bl];exact hi
 refine⟨by rw[ab8,ab8,p.bl];rfl,fun v u=>?_,fun i hi=>?_,fun i hi v hv u hu hn y hy=>?_,fun i ni hi=>?_,fun g hg=>?_⟩
 . unfold off;by_cases c:v∈gi G W.length/\u∉gi G W.length
   . rw[if_pos c,Option.map_eq_none_iff];exact p.aC v u
   . rw[if_neg c];exact p.aC v u
 . by_cases c:i < W.length
   . rw[qQ c];unfold off;rw[if_neg fun z=>z.2 (h.lam i W.length _ c hk (h.way i c).1 z.1).2.2];exact p.BW i c
   . have:i=W.length:=by lia
     subst this;rw[BL];unfold off;rw[if_pos ⟨h1,h2⟩,hx];show some (x - x)=some 0;rw[Int.sub_self]
 . unfold off at hy;by_cases c:v∈gi G W.length/\u∉gi G W.length
   . rw[if_pos c] at hy;obtain⟨z,hz,rfl⟩:=ae6.mp hy;have:=mx v c.1 u hu c.2 z hz;lia
   . rw[if_neg c] at hy;by_cases d:i < W.length
     . exact p.neg i d v hv u hu hn y hy
     . have:i=W.length:=by lia
       subst this;exact absurd ⟨hv,hn⟩ c
 . by_cases c:i < W.length
   . rw[Fc (blt c)];exact p.HM i ni c
   . have e:i=W.length:=by lia
     subst e;rw[show W.length=B.length from p.bl.symm,Fd];obtain⟨d,hd,dl⟩:=Jv (h.ring W.length a a ni hk h1 h1);obtain⟨q1,q2,_⟩:=aN hd;exact p.neg d dl a q2 b h3 (fun z=>h2 ((h.lam d W.length a q1 hk q2 h1).1 b z)) x hx
 . have e0:=p.sum g hg;rw[e0,wl,zF];have e1:jf W.length (fun i=>bi (B++ [x]) i*cnt n 286 g)=jf W.length fun i=>bi B i*cnt n 286 g:=mZ fun i hi=>by rw[Fc (blt hi)]
   rw[e1,show bi (B++ [x]) W.length=x by rw[<-p.bl];exact Fd];have e2:cG n (fun v=>val (L v (g v)))=cG n (fun v=>val (off L 386 x v (g v)))+x*cnt n 386 g:=by
    unfold cnt cG;rw[<-jv,<-sum_add];refine ai5 List.sum (ae9 fun v hv=>?_);obtain⟨v1,v2⟩:=br.mp hv;obtain⟨y,hy⟩:=aj1.mp (fun z=>hg v v1 v2 ((p.aC v (g v)).mp z));unfold off;by_cases c:v∈gi G W.length/\g v∉gi G W.length
    . rw[if_pos c,if_pos c,hy];show y=(y - x)+x*1;lia
    . rw[if_neg c,if_neg c];lia
   rw[e2];lia
def ones(n:Nat):List 137:=(120).map fun v=> [v]
theorem fN(n:Nat):(ones n).length=n:=by unfold ones;simp
theorem yB(h:i < n):gi (ones n) i= [i+1]:=by
 unfold gi ones;rw[ab7,aa6,aj3 h,Nat.one_mul,au4];rfl
theorem Aj(n:Nat):dN n (ones n) []:=by
 have at': ∀{i},i < (ones n).length->gi (ones n) i= [i+1]:=fun h=>yB (by rw[fN] at h;exact h);refine⟨by rw[fN];exact aa4 _,fun v v1 v2=>?_,fun i hi v hv=>?_,fun i hi=>?_,fun i hi=>?_,fun i j v ij jl v1 v2=>?_,fun j v v' nj jl=>?_,fun i hi=>absurd hi (Nat.not_lt_zero _),ae3 _⟩
 . rw[yB 101,show v - 1+1=v by lia]
 . rw[at' hi,aa9] at hv;rw[fN] at hi;lia
 . rw[at' hi];simp
 . rw[at' hi];exact List.pairwise_singleton _ _
 . rw[at' 101,aa9] at v1;rw[at' jl,aa9] at v2;lia
 . rw[fN] at jl;lia
theorem zJ(n:Nat)(w:Tb):zk n w (ones n) [] [] w:=by
 refine⟨rfl,fun v u=>Iff.rfl,fun i hi=>absurd hi (Nat.not_lt_zero _),fun i hi=>absurd hi (Nat.not_lt_zero _),fun i _ hi=>absurd hi (Nat.not_lt_zero _),fun g _=>?_⟩;show _=_+(0:Int);rw[Int.add_zero]
end ME
namespace ME
open vA bW
def hd(G:List 137)(v k:Nat):Nat:=match la G v k with
 | some c=>(gi G c).headD 0
 | none=>0
theorem di(h:la G v k=some c):hd G v k=(gi G c).headD 0:=by unfold hd;rw[h]
theorem head_mem(h:l≠ []):l.headD 0∈l:=by
 cases l with
 | nil=>exact absurd rfl h
 | cons a l=>exact ac4
theorem yR{l:List Nat}(h:l.Pairwise (· < ·))(hx:x∈l):l.headD 0<=x:=by
 cases l with
 | nil=>cases hx
 | cons a l=>
  rcases ad1.mp hx with rfl | hx
  . exact aa4 _
  . exact al3 ((ap4.mp h).1 x hx)
section
variable{n:Nat}{G:List 137}{W:List 178}
theorem dN.last(h:dN n G W)(v1:1<=v)(v2:v<=n): ∃c,la G v G.length=some c:=by
 have:=h.wu;obtain⟨c,e,_⟩:=Dw (G:=G) (v:=v) (c:=v - 1) (k:=G.length) 101 (by rw[h.oV v v1 v2];exact aa9.mpr rfl);exact⟨c,e⟩
theorem dN.same(h:dN n G W)(e:la G v G.length=some c)(hu:u∈gi G c):la G u G.length=some c:=by
 obtain⟨c1,c2,c3⟩:=aN e;exact uJ c1 hu fun d d1 d2 z=>c3 d d1 d2 ((h.lam c d u d1 d2 hu z).1 v c2)
theorem dN.IT(h:dN n G W)(e:la G v G.length=some c):hd G v G.length∈gi G c:=by
 rw[di e];exact head_mem (h.ne c (aN e).1)
theorem dN.qf(h:dN n G W)(e:la G v G.length=some c):la G 331 G.length=some c/\hd G 331 G.length=hd G v G.length:=by
 have e2:=h.same e (h.IT e);exact⟨e2,by rw[di e2,di e]⟩
theorem dN.uS(h:dN n G W)(v1:1<=v)(v2:v<=n):1<=hd G v G.length/\hd G v G.length<=n:=by
 obtain⟨c,e⟩:=h.last v1 v2;exact h.mem c (aN e).1 _ (h.IT e)
theorem dN.ND(h:dN n G W)(hk:k<=G.length):hd G 0 k=0:=by
 unfold hd;cases e:la G 0 k with
 | none=>rfl
 | some c=>
  obtain⟨c1,c2,_⟩:=aN e;have:=h.mem c 101 0 c2;lia
theorem dN.PX(h:dN n G W)(v2:v<=n):hd G v G.length<=n:=by
 by_cases v1:1<=v
 . exact(h.uS v1 v2).2
 . rw[show v=0 by lia,h.ND (aa4 _)];exact ae3 _
theorem dN.one(h:dN n G W)(u1:1<=u)(u2:u<=n)(e:la G v G.length=some c)(he:hd G u G.length=hd G v G.length):la G u G.length=some c:=by
 obtain⟨d,e2⟩:=h.last u1 u2;have q1:=(h.qf e2).1;rw[he,(h.qf e).1] at q1;cases q1;exact e2
def Nr(G:List 137)(W:List 178)(x:Nat):Option Nat:=if hd G x G.length=x then(la G x G.length).map fun c=>hd G (wi W c).2 G.length else none
def aM(n:Nat)(G:List 137)(W:List 178):List 194:=(120).map (Nr G W)
theorem rP(h:dN n G W)(full:W.length=G.length):JA n 180:=by
 refine⟨by unfold aM;simp,fun a ha k e=>?_⟩;subst e;unfold aM at ha;obtain⟨x,hx,e⟩:=ac9.mp ha;unfold Nr at e;by_cases c:hd G x G.length=x
 . rw[if_pos c] at e;obtain⟨d,e1,rfl⟩:=ae6.mp e;exact h.PX (h.way d (by rw[full];exact(aN e1).1)).2.2
 . rw[if_neg c] at e;cases e
theorem Dd(x1:1<=x)(x2:x<=n):nx 180 (some x)=Nr G W x:=by
 match x,x1 with
 | k+1,_=>
  show(180).getD k none=_;unfold aM;rw[ab7,aa6,aj3 101,Nat.one_mul,au4];rfl
theorem jN(h:dN n G W)(e:la G v G.length=some c):nx 180 (some 331)=some (hd G (wi W c).2 G.length):=by
 obtain⟨c1,c2,_⟩:=aN e;obtain⟨v1,v2⟩:=h.mem c c1 v c2;obtain⟨h1,h2⟩:=h.uS v1 v2;obtain⟨q1,q2⟩:=h.qf e;rw[Dd h1 h2];unfold Nr;rw[if_pos q2,q1];rfl
theorem ET(h:dN n G W)(x1:1<=x)(x2:x<=n)(c:vC 180 x):hd G x G.length=x:=by
 obtain⟨p,p1,e⟩:=c;refine ah3 fun z=>?_;have:nx 180 (some x)=none:=by rw[Dd x1 x2];unfold Nr;rw[if_neg z]
 match p,p1,e with
 | p+1,_,e=>
  rw[dh] at e;rw[show it 180 1 (some x)=none from this,rW] at e;cases e
structure oE(n:Nat)(G:List 137)(W:List 178)(v:Nat)(L:List Int):Prop where
 v1:1<=v
 v2:v<=n
 Xf:vC 180 v
 ring:dr 180 v L
theorem oE.of(full:W.length=G.length)(h:dN n G W){v:Nat}{L:List Int}(r:oE n G W v L){x:Nat}(hx:(x:Int)∈L):1<=x/\x<=n/\vC 180 x/\hd G x G.length=x/\(∀y:Int,y∈L↔HR 180 x y):=by
 have o:=(r.ring.2 _).mp hx;have p:=rO (rP h full) r.v1 r.v2 r.Xf _ o;obtain⟨c,s⟩:=vc r.Xf o;have x2:x<=n:=by
  obtain⟨q,q1,e⟩:=c;match q,q1,e with
  | q+1,_,e=>exact nF (rP h full) e
 exact⟨by lia,x2,c,ET h 101 x2 c,fun y=>(r.ring.2 y).trans (s y).symm⟩
theorem oE.next(full:W.length=G.length)(h:dN n G W)(r:oE n G W v L)(e:la G u G.length=some c)(hu:(hd G u G.length:Int)∈L):((hd G (wi W c).2 G.length:Nat):Int)∈L:=
 ((r.of full h hu).2.2.2.2 _).mpr ⟨1,_,jN h e,rfl⟩
def df(n:Nat)(G:List 137)(L:List Int):List Nat:=(120).filter fun v=>decide ((hd G v G.length:Int)∈L)
theorem bS:v∈df n G L↔(1<=v/\v<=n)/\(hd G v G.length:Int)∈L:=by
 unfold df;rw[ag8,br,ai9]
theorem kS{R:List (List Int)}(hk:k < R.length):gi (R.map (df n G)) k=df n G R[k]:=by
 unfold gi;rw[ab7,aa6,aa1 hk];rfl
theorem fM(up:pB 180 n R)(hk:k < R.length): ∃v,oE n G W v R[k]/\Bt R[k]=(v:Int):=by
 obtain⟨v,v1,v2,c,r,e⟩:=(up.2 R[k]).mp (ag9 hk);exact⟨v,⟨v1,v2,c,r⟩,e⟩
theorem pP(full:W.length=G.length)(h:dN n G W)(up:pB 180 n R){i j:Nat}(hi:i < R.length)(hj:j < R.length){x:Nat}(xi:(x:Int)∈R[i])(xj:(x:Int)∈R[j]):i=j:=by
 obtain⟨v,r,ev⟩:=fM up hi;obtain⟨u,s,eu⟩:=fM up hj;have q1:=(r.of full h xi).2.2.2.2;have q2:=(s.of full h xj).2.2.2.2;have:R[i]=R[j]:=nY r.ring.1 s.ring.1 fun y=>(q1 y).trans (q2 y).symm;refine ah3 fun ne=>?_;have pw:=al0.mp up.1;rcases ap3 ne with l | l
 . have:=pw i j hi hj l;rw[‹R[i]=R[j]›] at this;lia
 . have:=pw j i hj hi l;rw[‹R[i]=R[j]›] at this;lia
theorem dN.round(h:dN n G W)(full:W.length=G.length)(up:pB 180 n R):dN n 113 W:=by
 have gl:(113).length=G.length+R.length:=by rw[ab8,aa2]
 have nH: ∀{i},¬i < G.length->i < (113).length-> ∃hk:i - G.length < R.length,gi 113 i=df n G R[i - G.length]:=fun{i} h1 h2=>by
  have hk:i - G.length < R.length:=by lia
  exact⟨hk,by rw[kR 101,kS hk]⟩
 have apart: ∀{i j v},¬i < G.length->i < (113).length-> ¬j < G.length->j < (113).length->v∈gi 113 i->v∈gi 113 j->i=j:=fun{i j v} i1 i2 j1 j2 vi vj=>by
  obtain⟨ki,ei⟩:=nH i1 i2;obtain⟨kj,ej⟩:=nH j1 j2;rw[ei,bS] at vi;rw[ej,bS] at vj;have:=pP full h up ki kj vi.2 vj.2;lia
 refine⟨by have:=h.wu;lia,fun v v1 v2=>?_,fun i hi v hv=>?_,fun i hi=>?_,fun i hi=>?_,fun i j v ij jl vi vj=>?_,fun j v v' nj jl vj Rr=>?_,fun i hi=>?_,by rw[gl];have:=h.wl;lia⟩
 . rw[bI (by have:=h.wu;lia)];exact h.oV v v1 v2
 . by_cases c:i < G.length
   . rw[bI c] at hv;exact h.mem i c v hv
   . obtain⟨k,e⟩:=nH c hi;rw[e,bS] at hv;exact hv.1
 . by_cases c:i < G.length
   . rw[bI c];exact h.ne i c
   . obtain⟨k,e⟩:=nH c hi;rw[e];obtain⟨v,r,_⟩:=fM up k;have hv:=(r.ring.2 _).mpr (jL _ v);obtain⟨a1,a2,_,a4,_⟩:=r.of full h hv;have:v∈df n G R[i - G.length]:=bS.mpr ⟨⟨a1,a2⟩,by rw[a4];exact hv⟩;exact List.ne_nil_of_mem this
 . by_cases c:i < G.length
   . rw[bI c];exact h.Cs i c
   . obtain⟨k,e⟩:=nH c hi;rw[e];exact an9 _ av7
 . by_cases cj:j < G.length
   . rw[bI cj,bI 101] at*;exact h.lam i j v ij cj vi vj
   . by_cases ci:i < G.length
     . obtain⟨k,e⟩:=nH cj jl;obtain⟨u,r,_⟩:=fM up k;rw[bI ci] at vi ⊢;rw[e,bS] at vj;rw[e];obtain⟨c,ec⟩:=h.last vj.1.1 vj.1.2;obtain⟨c1,c2,c3⟩:=aN ec;have ic:i<=c:=Nat.le_of_not_lt fun z=>c3 i z ci vi;refine⟨fun x hx=>?_,by rw[full];exact ci,?_⟩
       . have xc : x ∈ gi G c := by
           by_cases z:i=c
           . rw[<-z];exact hx
           . exact(h.lam i c v 101 c1 vi c2).1 x hx
         exact bS.mpr ⟨h.mem i ci x hx,by rw[di (h.same ec xc),<-di ec];exact vj.2⟩
       . have key : ((hd G (wi W i).2 G.length : Nat) : Int) ∈ R[j - G.length] := by
           by_cases z:i=c
           . subst z;exact r.next full h ec vj.2
           . have:=(h.lam i c v 101 c1 vi c2).2.2;rw[di (h.same ec this),<-di ec];exact vj.2
         refine bS.mpr ⟨⟨ar9 fun z=>?_,(h.way i (by rw[full];exact ci)).2.2⟩,key⟩;rw[z,h.ND (aa4 _)] at key;have:=(r.of full h (x:=0) key).1;lia
     . have:=apart ci 101 cj jl vi vj;lia
 . by_cases cj:j < G.length
   . rw[bI cj] at vj Rr;exact MV (al3 cj) (h.ring j v v' nj cj vj Rr)
   . obtain⟨k,e⟩:=nH cj jl;obtain⟨u,r,_⟩:=fM up k;have Wm: ∀{x c},x∈gi 113 j->la G x G.length=some c->la 113 x j=some c:=fun{x c} hx ec=>by
      obtain⟨c1,c2,c3⟩:=aN ec;refine uJ 101 (by rw[bI c1];exact c2) fun d d1 d2 z=>?_;by_cases dd:d < G.length
      . rw[bI dd] at z;exact c3 d d1 dd z
      . have:=apart dd 101 cj jl z hx;lia
     have Nv: ∀{x},x∈gi 113 j↔(1<=x/\x<=n)/\(hd G x G.length:Int)∈R[j - G.length]:=fun{x}=>by rw[e,bS]
     have go: ∀(t v:Nat),v∈gi 113 j->it 180 t (some 331)=some (hd G v' G.length)->Ch 113 W j v v':=by
      intro t;induction t with
      | zero=>
       intro v hv q;have q':hd G v G.length=hd G v' G.length:=Option.some.inj q;have iv:=Nv.mp hv;obtain⟨c,ec⟩:=h.last iv.1.1 iv.1.2;have RG:=Nv.mp Rr;have ZJ:=h.one RG.1.1 RG.1.2 ec q'.symm;obtain⟨c1,c2,_⟩:=aN ZJ;exact .base (Wm hv ec) (by rw[full];exact c1) (by rw[bI c1];exact c2)
      | succ t ih=>
       intro v hv q;have iv:=Nv.mp hv;obtain⟨c,ec⟩:=h.last iv.1.1 iv.1.2;have c1:=(aN ec).1;have nh:=jN h ec;rw[dh,show it 180 1 (some 331)=some (hd G (wi W c).2 G.length) from nh] at q;have key:=r.next full h ec iv.2;refine .step (Wm hv ec) (by rw[full];exact c1) (ih _ (Nv.mpr ⟨⟨ar9 fun z=>?_,(h.way c (by rw[full];exact c1)).2.2⟩,key⟩) q);rw[z,h.ND (aa4 _)] at key;have:=(r.of full h (x:=0) key).1;lia
     have iv:=Nv.mp vj;have RG:=Nv.mp Rr;obtain⟨t,y,et,ey⟩:=((r.of full h iv.2).2.2.2.2 _).mp RG.2;have:y=hd G v' G.length:=by lia
     subst this;exact go t v vj et
 . have:=h.wl;rw[bI 101];exact h.way i hi
def heads(n:Nat)(G:List 137):List Nat:=(120).filter fun v=>decide (hd G v G.length=v)
theorem DV(n:Nat)(G:List 137):(heads n G).length<=n:=by
 unfold heads;have:=aj7 (fun v=>decide (hd G v G.length=v)) 120;rwa [ae2] at this
theorem Qc(h:dN n G W)(full:W.length=G.length)(up:pB 180 n R)(ne:R≠ []):(heads n 113).length+1<=(heads n G).length:=by
 have h':=h.round full up;have gl:(113).length=G.length+R.length:=by rw[ab8,aa2]
 have r0:0 < R.length:=List.length_pos_iff.mpr ne;have O1: ∀{v k},(hk:k < R.length)->v∈df n G R[k]->la 113 v (113).length=some (G.length+k):=fun{v k} hk hv=>by
  refine uJ 101 (by rw[kR 101,kS 101];simpa using hv) fun d d1 d2 z=>?_;rw[kR 101,kS 101] at z;have:=pP full h up hk 101 (bS.mp hv).2 (bS.mp z).2;lia
 have IC: ∀{v k},(hk:k < R.length)->v∈df n G R[k]->hd 113 v (113).length=(df n G R[k]).headD 0:=fun{v k} hk hv=>by
  rw[di (O1 hk hv),kR 101,show G.length+k - G.length=k by lia,kS hk]
 have OT: ∀{v},(∀k,(hk:k < R.length)->v∉df n G R[k])->hd 113 v (113).length=hd G v G.length:=fun{v} no=>by
  have:la 113 v (113).length=la G v G.length:=by
   cases e:la G v G.length with
   | some c=>
    obtain⟨c1,c2,c3⟩:=aN e;refine uJ 101 (by rw[bI c1];exact c2) fun d d1 d2 z=>?_;by_cases dd:d < G.length
    . rw[bI dd] at z;exact c3 d d1 dd z
    . rw[kR 101,kS 101] at z;exact no _ _ z
   | none=>
    cases e2:la 113 v (113).length with
    | none=>rfl
    | some c=>
     obtain⟨c1,c2,c3⟩:=aN e2;by_cases dd:c < G.length
     . rw[bI dd] at c2;obtain⟨c',e3,_⟩:=Dw dd c2;rw[e] at e3;cases e3
     . rw[kR 101,kS 101] at c2;exact absurd c2 (no _ _)
  unfold hd;rw[this];cases e:la G v G.length with
  | none=>rfl
  | some c=>show(gi _ c).headD 0=(gi G c).headD 0;rw[bI (aN e).1]
 obtain⟨u,r,_⟩:=fM up r0;have hu:=(r.ring.2 _).mpr (jL _ u);obtain⟨u1,u2,uc,uh,_⟩:=r.of full h hu;obtain⟨c,ec⟩:=h.last u1 u2;have hn:=r.next full h ec (by rw[uh];exact hu);have c1:=(aN ec).1;obtain⟨x1,x2,xc,xh,_⟩:=r.of full h hn;have XH:hd G (wi W c).2 G.length≠u:=fun z=>by
  have wy:=h.way c (by rw[full];exact c1);have w1:1<=(wi W c).2:=ar9 fun y=>by rw[y,h.ND (aa4 _)] at z;lia
  have:=h.one w1 wy.2.2 ec (by rw[z,uh]);exact wy.2.1 (aN this).2.1
 have XS:u∈df n G R[0]:=bS.mpr ⟨⟨u1,u2⟩,by rw[uh];exact hu⟩;have XI:hd G (wi W c).2 G.length∈df n G R[0]:=bS.mpr ⟨⟨x1,x2⟩,by rw[xh];exact hn⟩;obtain⟨z,VY,zh,Xu⟩: ∃z,z∈df n G R[0]/\hd G z G.length=z/\(df n G R[0]).headD 0≠z:=by
  by_cases q:(df n G R[0]).headD 0=u
  . exact⟨_,XI,xh,fun y=>XH (by rw[<-y,q])⟩
  . exact⟨u,XS,uh,q⟩
 have Sz:=(bS.mp VY).1;have nd:(z::heads n 113).Nodup:=by
  refine ak8.mpr ⟨fun y=>?_,an9 _ ao1⟩;have:=ad6 (ag8.mp y).2;rw[IC r0 VY] at this;exact Xu this
 have:=HX.jO (ts:=heads n G) nd fun y hy=>by
  rcases ad1.mp hy with rfl | hy
  . exact ag8.mpr ⟨br.mpr Sz,ad3 zh⟩
  . obtain⟨q1,q2⟩:=ag8.mp hy;have q2:=ad6 q2;refine ag8.mpr ⟨q1,ad3 ?_⟩;by_cases no: ∀k,(hk:k < R.length)->y∉df n G R[k]
    . rw[OT no] at q2;exact q2
    . obtain⟨k,no⟩:=Classical.not_forall.mp no;obtain⟨hk,no⟩:=Classical.not_forall.mp no;have V0:=Classical.not_not.mp no;rw[IC hk V0] at q2;obtain⟨⟨y1,y2⟩,yl⟩:=bS.mp V0;obtain⟨cy,ey⟩:=h.last y1 y2;have PR:hd G y G.length∈df n G R[k]:=bS.mpr ⟨h.uS y1 y2,by rw[(h.qf ey).2];exact yl⟩;have l1:hd G y G.length<=y:=by rw[di ey];exact yR (h.Cs cy (aN ey).1) (aN ey).2.1
      have l2:=yR (l:=df n G R[k]) (an9 _ av7) PR;lia
 simpa using this
theorem GR(h:dN n G W)(full:W.length=G.length)(up:pB 180 n [])(x1:1<=x)(x2:x<=n)(hx:hd G x G.length=x): ∃k,it 180 k (some x)=some 0:=by
 have o:=rP h full;have Yk: ∀y,1<=y->y<=n-> ¬vC 180 y:=fun y y1 y2 c=>by
  classical
  let L:List Int:=((120).filter fun(v:Nat)=>decide (HR 180 y (v:Int))).map fun(v:Nat)=>(v:Int)
  have rl:dr 180 y L:=by
   refine⟨as5.mpr ((an9 _ av7).imp fun{a b:Nat} (z:a < b)=>show(a:Int) < (b:Int) by lia),fun z=>⟨fun hz=>?_,fun hz=>?_⟩⟩
   . obtain⟨v,hv,rfl⟩:=ac9.mp hz;exact ad6 (ag8.mp hv).2
   . have z1:=rO o y1 y2 c z hz;obtain⟨k,v,e,rfl⟩:=hz;refine ac9.mpr ⟨v,ag8.mpr ⟨br.mpr ⟨by lia,?_⟩,ad3 ⟨k,v,e,rfl⟩⟩,rfl⟩;match k,e with
     | 0,e=>cases e;exact y2
     | k+1,e=>exact nF o e
  obtain⟨m1,m2⟩:=rl.hd;have o1:=(rl.2 _).mp m1;have p1:=rO o y1 y2 c _ o1;have ev:Bt L=((Bt L).toNat:Int):=by lia
  rw[ev] at o1;obtain⟨c',s⟩:=vc c o1;have le:=m2 _ ((rl.2 _).mpr (jL _ y));exact absurd ((up.2 L).mpr ⟨(Bt L).toNat,by lia,by lia,c',⟨rl.1,fun z=>(rl.2 z).trans (s z).symm⟩,ev⟩) aa8
 obtain⟨p,p1,wk,st⟩:=qj o (n - 1) 1 rfl (aa4 _) (vK x1 x2);have LN: ∀k y,it 180 k (some x)=some y->1<=y->hd G y G.length=y:=by
  intro k;induction k with
  | zero=>intro y e _;cases e;exact hx
  | succ k ih=>
   intro y e y1;have e':nx 180 (it 180 k (some x))=some y:=e;cases q:it 180 k (some x) with
   | none=>rw[q] at e';cases e'
   | some z=>
    rw[q] at e';by_cases z1:1<=z
    . have zn : z <= n := by
        match k,q with
        | 0,q=>cases q;exact x2
        | k+1,q=>exact nF o q
      have hz:=ih z q z1;obtain⟨c,ec⟩:=h.last z1 zn;have:=jN h ec;rw[hz] at this;rw[this] at e';cases e';have wy:=h.way c (by rw[full];exact(aN ec).1);have w1:1<=(wi W c).2:=ar9 fun y=>by rw[y,h.ND (aa4 _)] at y1;lia
      obtain⟨d,ed⟩:=h.last w1 wy.2.2;exact(h.qf ed).2
    . rw[show z=0 by lia] at e';cases e';lia
 have Iq: ∀k,it 180 k (some x)≠none:=by
  intro k;induction k with
  | zero=>intro e;cases e
  | succ k ih=>
   intro e;have e':nx 180 (it 180 k (some x))=none:=e;cases q:it 180 k (some x) with
   | none=>exact ih q
   | some z=>
    rw[q] at e';by_cases z1:1<=z
    . have zn : z <= n := by
        match k,q with
        | 0,q=>cases q;exact x2
        | k+1,q=>exact nF o q
      have hz:=LN k z q z1;obtain⟨c,ec⟩:=h.last z1 zn;have:=jN h ec;rw[hz] at this;rw[this] at e';cases e'
    . rw[show z=0 by lia] at e';cases e'
 rcases st with st | st | ⟨k,kp,st⟩
 . exact absurd st (Iq p)
 . exact⟨p,st⟩
 . cases q:it 180 k (some x) with
   | none=>exact absurd q (Iq k)
   | some y=>
    obtain⟨y',e',y1,y2⟩:=wk.at' k kp;rw[q] at e';cases e';refine absurd ⟨p - k,by lia,?_⟩ (Yk y y1 y2);rw[<-q,<-dh,show p - k+k=p by lia,<-st]
end
end ME
namespace ME
open vA bW mh
def Ent(G:List 137)(W:List 178)(a:Nat)(T:Nat->Nat × Nat):Prop:= ∀i,i < G.length->
 (∃j,i < j/\a<=j/\j < G.length/\(T j).1∈gi G i/\T i=T j/\ ∀j',i < j'->a<=j'->j' < j->(T j').1∉gi G i)\/
 (T i=wi W i/\ ∀j,i < j->a<=j->j < G.length->(T j).1∉gi G i)
theorem AM:Ent G W G.length (wi W):=fun i hi=> .inr ⟨rfl,fun j _ h1 h2=>by lia⟩
theorem Ek(h:Ent G W (a+1) T)(ha:a < G.length):Ent G W a fun i=>if i < a/\(T a).1∈gi G i then T a else T i:=by
 intro i hi;have ge: ∀{j},a<=j->(if j < a/\(T a).1∈gi G j then T a else T j)=T j:=fun h=>if_neg fun z=>by lia
 by_cases ia:i < a
 . by_cases c:(T a).1∈gi G i
   . refine .inl ⟨a,ia,aa4 _,ha,?_,?_,fun j' h1 h2 h3=>by lia⟩
     . show(if a < a/\_ then T a else T a).1∈_;rw[ge (aa4 _)];exact c
     . show(if i < a/\_ then T a else T i)=(if a < a/\_ then T a else T a)
       rw[ge (j:=a) (aa4 _),if_pos ⟨ia,c⟩]
   . have self:(if i < a/\(T a).1∈gi G i then T a else T i)=T i:=if_neg fun z=>c z.2;rcases h i hi with ⟨j,j1,j2,j3,j4,j5,j6⟩ | ⟨e,q⟩
     . refine .inl ⟨j,j1,by lia,j3,?_,?_,fun j' h1 h2 h3=>?_⟩
       . show(234).1∈_;rw[ge 101];exact j4
       . show(if i < a/\_ then T a else T i)=234
         rw[ge (j:=j) 101,self];exact j5
       . show(if j' < a/\_ then T a else T j').1∉_;rw[ge h2];by_cases z:j'=a
         . rw[z];exact c
         . exact j6 j' h1 101 h3
     . refine .inr ⟨self.trans e,fun j j1 j2 j3=>?_⟩;show(234).1∉_;rw[ge j2];by_cases z:j=a
       . rw[z];exact c
       . exact q j j1 101 j3
 . rcases h i hi with ⟨j,j1,j2,j3,j4,j5,j6⟩ | ⟨e,q⟩
   . refine .inl ⟨j,j1,by lia,j3,?_,?_,fun j' h1 h2 h3=>?_⟩
     . show(234).1∈_;rw[ge 101];exact j4
     . show(if i < a/\_ then T a else T i)=234
       rw[ge (j:=i) 101,ge (j:=j) 101];exact j5
     . show(if j' < a/\_ then T a else T j').1∉_;rw[ge h2];exact j6 j' h1 101 h3
   . refine .inr ⟨(ge 101).trans e,fun j j1 j2 j3=>?_⟩;show(234).1∉_;rw[ge j2];exact q j j1 101 j3
section
variable{n:Nat}{G:List 137}{W:List 178}{T:Nat->Nat × Nat}
theorem kW(h:dN n G W)(full:W.length=G.length)(en:Ent G W 0 T): ∀(f i:Nat),i < G.length->G.length - i<=f->(T i).1∈gi G i/\(T i).2∉gi G i/\(T i).2<=n/\ ∃k,k < G.length/\T i=wi W k:=by
 intro f;induction f with
 | zero=>intro i h1 h2;lia
 | succ f ih=>
  intro i hi hf;rcases en i hi with ⟨j,j1,_,j3,j4,j5,_⟩ | ⟨e,_⟩
  . obtain⟨q1,q2,q3,q4⟩:=ih j j3 101;have:=(h.lam i j _ j1 j3 j4 q1).1;rw[j5];exact⟨j4,fun z=>q2 (this _ z),q3,q4⟩
  . rw[e];obtain⟨q1,q2,q3⟩:=h.way i 101;exact⟨q1,q2,q3,i,hi,rfl⟩
theorem xk(h:dN n G W)(full:W.length=G.length)(en:Ent G W 0 T): ∀(f i j:Nat),G.length - i<=f->i < j->j < G.length->(T j).1∈gi G i->T i=T j:=by
 intro f;induction f with
 | zero=>intro i j h1 h2 h3;lia
 | succ f ih=>
  intro i j hf ij jl hm;rcases en i 101 with ⟨k,k1,_,k3,k4,k5,k6⟩ | ⟨_,q⟩
  . by_cases z:k=j
    . rw[k5,z]
    . have kj : k < j := by
        rcases ap3 z with y | y
        . exact y
        . exact absurd hm (k6 j ij (ae3 _) y)
      have i1:=(kW h full en G.length k k3 101).1;have:=(h.lam i k _ k1 k3 k4 i1).1 _ hm;rw[k5];exact ih k j 101 kj jl this
  . exact absurd hm (q j ij (ae3 _) jl)
theorem Mg(h:dN n G W)(full:W.length=G.length)(en:Ent G W 0 T): ∀(f i v:Nat),i < f->i < G.length->v∈gi G i->T (v - 1)=T i\/(T (v - 1)).2∈gi G i:=by
 intro f;induction f with
 | zero=>intro i v h1;lia
 | succ f ih=>
  intro i v hf hi hv;by_cases c:i < n
  . have:=h.oV (i+1) 101 101;rw[show i+1 - 1=i by lia] at this;rw[this,aa9] at hv;left;rw[hv];congr 1
  . obtain⟨d,ed,dl⟩:=Jv (h.ring i v v 101 hi hv hv);obtain⟨d1,d2,d3⟩:=aN ed;have sub:=(h.lam d i v d1 hi d2 hv)
    rcases ih d v 101 101 d2 with e | e
    . rcases en d 101 with ⟨j,j1,_,j3,j4,j5,_⟩ | ⟨e2,_⟩
      . have i1:=(kW h full en G.length j j3 101).1;have vj:=(h.lam d j _ j1 j3 j4 i1).1 v d2;left;by_cases z:j=i
        . rw[e,j5,z]
        . have ij : i < j := by
            rcases ap3 z with y | y
            . exact absurd vj (d3 j j1 y)
            . exact y
          rw[e,j5];exact(xk h full en G.length i j 101 ij j3 (sub.1 _ j4)).symm
      . right;rw[e,e2];exact sub.2.2
    . right;exact sub.1 _ e
inductive Go(f:Nat->Nat):Nat->Nat->Prop
 | here (v:Nat):Go f v v
 | on {v u:Nat}:1<=v->Go f (f v) u->Go f v u
theorem Go.trans(h:Go f a b)(h':Go f b c):Go f a c:=by
 induction h with
 | here=>exact h'
 | on h1 _ ih=>exact .on h1 (ih h')
def fT(T:Nat->Nat × Nat)(v:Nat):Nat:=(T (v - 1)).2
theorem Mf(h:dN n G W)(full:W.length=G.length)(en:Ent G W 0 T): ∀(f i v:Nat),i < f->i < G.length->v∈gi G i->Go (fT T) v (T i).2:=by
 intro f;induction f with
 | zero=>intro i v h1;lia
 | succ f ih=>
  intro i v hf hi hv;by_cases c:i < n
  . have:=h.oV (i+1) 101 101;rw[show i+1 - 1=i by lia] at this;rw[this,aa9] at hv;subst hv;exact .on 101 (.here _)
  . have i1:=(kW h full en G.length i hi 101).1;have ch:=h.ring i v (T i).1 101 hi hv i1;have out: ∀{v d},v∈gi G i->la G v i=some d->T d=T i\/T d=wi W d:=fun{v d} hv ed=>by
     obtain⟨d1,d2,d3⟩:=aN ed;have sub:=(h.lam d i v d1 hi d2 hv)
     rcases en d 101 with ⟨j,j1,_,j3,j4,j5,_⟩ | ⟨e2,_⟩
     . have i1:=(kW h full en G.length j j3 101).1;have vj:=(h.lam d j _ j1 j3 j4 i1).1 v d2;left;by_cases z:j=i
       . rw[j5,z]
       . have ij : i < j := by
           rcases ap3 z with y | y
           . exact absurd vj (d3 j j1 y)
           . exact y
         rw[j5];exact(xk h full en G.length i j 101 ij j3 (sub.1 _ j4)).symm
     . right;exact e2
    generalize et:(T i).1=t at ch i1;induction ch with
    | base e l m=>
     obtain⟨d1,d2,d3⟩:=aN e;have:=ih _ _ 101 101 d2;rw[xk h full en G.length _ i 101 d1 hi (by rw[et];exact m)] at this;exact this
    | @step v t d e l _ TH=>
     obtain⟨d1,d2,d3⟩:=aN e;have g1:=ih _ _ 101 101 d2;rcases out hv e with z | z
     . rw[z] at g1;exact g1
     . rw[z] at g1;exact g1.trans (TH (h.lam d i v d1 hi d2 hv).2.2 et i1)
theorem Ej(h:dN n G W)(full:W.length=G.length)(en:Ent G W 0 T)(up:pB 180 n [])(v1:1<=v)(v2:v<=n):Go (fT T) v 0:=by
 have key: ∀(k v:Nat),1<=v->v<=n->it 180 k (some 331)=some 0->Go (fT T) v 0:=by
  intro k;induction k with
  | zero=>
   intro v v1 v2 e;have:=(h.uS v1 v2).1;have e':hd G v G.length=0:=Option.some.inj e;lia
  | succ k ih=>
   intro v v1 v2 e;obtain⟨c,ec⟩:=h.last v1 v2;obtain⟨c1,c2,c3⟩:=aN ec;have tc:T c=wi W c:=by
    rcases en c c1 with ⟨j,j1,_,j3,j4,_,_⟩ | ⟨e,_⟩
    . have i1:=(kW h full en G.length j j3 101).1;exact absurd ((h.lam c j _ j1 j3 j4 i1).1 v c2) (c3 j j1 j3)
    . exact e
   have g:=Mf h full en G.length c v c1 c1 c2;rw[tc] at g;rw[dh,show it 180 1 (some 331)=some (hd G (wi W c).2 G.length) from jN h ec] at e;by_cases z:(wi W c).2=0
   . rw[z] at g;exact g
   . exact g.trans (ih _ 101 (h.way c 101).2.2 e)
 obtain⟨c,ec⟩:=h.last v1 v2;obtain⟨r1,r2⟩:=h.uS v1 v2;obtain⟨k,e⟩:=GR h full up r1 r2 (h.qf ec).2;exact key k v v1 v2 e
theorem EV(hS: ∀v∈S,1<=v/\v<=n)(ne:S≠ [])(hg: ∀v,1<=v->v<=n->Go g v 0):(∃v∈S,g v∉S)/\1<=cnt n S g:=by
 have z0:0∉S:=fun z=>by have:=hS 0 z;lia
 have: ∀{v u},Go g v u->u∉S->v∈S-> ∃v∈S,g v∉S:=by
  intro v u h;induction h with
  | here v=>intro h1 h2;exact absurd h2 h1
  | @on v u _ _ ih=>
   intro h1 h2;by_cases c:g v∈S
   . exact ih h1 c
   . exact⟨v,h2,c⟩
 obtain⟨x,hx⟩:=List.exists_mem_of_ne_nil S ne;obtain⟨x1,x2⟩:=hS x hx;obtain⟨v,hv,hn⟩:=this (hg x x1 x2) z0 hx;refine⟨⟨v,hv,hn⟩,?_⟩;unfold cnt cG;refine mY _ _ (fun u _=>?_) (br.mpr (hS v hv)) (by rw[if_pos ⟨hv,hn⟩];exact ae8 _);by_cases c:u∈S/\g u∉S
 . rw[if_pos c];decide
 . rw[if_neg c];decide
theorem oo(hg:g v≠v)(v1:1<=v)(v2:v<=n):cnt n [v] g=1:=by
 have l:cnt n [v] g<=1:=by
  unfold cnt cG;refine jc ao1 v _ fun u _=>?_;by_cases c:u=v
  . rw[if_pos c];split <;> decide
  . rw[if_neg c,if_neg fun z=>c (aa9.mp z.1)];exact ae8 _
 have r:1<=cnt n [v] g:=by
  unfold cnt cG;refine mY _ _ (fun u _=>?_) (br.mpr ⟨v1,v2⟩) (by rw[if_pos ⟨aa9.mpr rfl,fun z=>hg (aa9.mp z)⟩];exact ae8 _);split <;> decide
 lia
theorem x8(h: ∀i,i < k->f i<=g i):jf k f<=jf k g:=fv _ _ _ fun i hi=>h i (af8.mp hi)
theorem Kv(h:dN n G W)(full:W.length=G.length)(p:zk n w G W B L)(hg: ∀v,1<=v->v<=n->Go g v 0)(le: ∀v,1<=v->v<=n->g v<=n)(self: ∀v,1<=v->v<=n->g v≠v)(nn: ∀v,1<=v->v<=n->w v (g v)≠none):cG n (fun v=>val (w v (g v)))<=jf W.length (bi B):=by
 rw[p.sum g nn];have e1:cG n (fun v=>val (L v (g v)))<=0:=by
  have z:cG n (fun _=>0)=0:=by
   unfold cG;have:=jv 120 0 fun _=>0;simpa using this
  rw[<-z];refine fv _ _ _ fun v hv=>?_;obtain⟨v1,v2⟩:=br.mp hv;cases e:L v (g v) with
  | none=>exact ae8 _
  | some x=>
   have:=h.wu;exact p.neg (v - 1) 101 v (by rw[h.oV v v1 v2];exact aa9.mpr rfl) _ (le v v1 v2) (by rw[h.oV v v1 v2];exact fun z=>self v v1 v2 (aa9.mp z)) x e
 have e2:jf W.length (fun i=>bi B i*cnt n 286 g)<=jf W.length (bi B):=x8 fun i hi=>by
  by_cases c:i < n
  . have:=h.oV (i+1) 101 101;rw[show i+1 - 1=i by lia] at this;rw[this,oo (self _ 101 101) 101 101,Int.mul_one];exact ae8 _
  . have b:=p.HM i 101 hi;have:=(EV (h.mem i 101) (h.ne i 101) hg).2;have q:bi B i*cnt n 286 g<=bi B i*1:=Int.mul_le_mul_of_nonpos_left b this;lia
 lia
theorem Kw(h:dN n G W)(full:W.length=G.length)(p:zk n w G W B L)(en:Ent G W 0 T):jf W.length (bi B)<=cG n (fun v=>val (w v (fT T v)))/\(∀v,1<=v->v<=n->w v (fT T v)≠none/\fT T v<=n/\fT T v≠v):=by
 have nl:=h.wu;have tv: ∀v,1<=v->v<=n->(T (v - 1)).1=v/\(T (v - 1)).2≠v/\(T (v - 1)).2<=n/\L v (T (v - 1)).2=some 0:=fun v v1 v2=>by
  obtain⟨q1,q2,q3,k,k1,k2⟩:=kW h full en G.length (v - 1) 101 101;rw[h.oV v v1 v2,aa9] at q1 q2;have:=p.BW k 101;rw[<-k2,q1] at this;exact⟨q1,q2,q3,this⟩
 have all: ∀v,1<=v->v<=n->w v (fT T v)≠none:=fun v v1 v2 z=>by
  have:=(tv v v1 v2).2.2.2;rw[show L v (T (v - 1)).2=none from(p.aC v _).mpr z] at this;cases this
 refine⟨?_,fun v v1 v2=>⟨all v v1 v2,(tv v v1 v2).2.2.1,(tv v v1 v2).2.1⟩⟩;rw[p.sum (fT T) all];have e1:cG n (fun v=>val (L v (fT T v)))=0:=by
  have z:cG n (fun _=>0)=0:=by
   unfold cG;have:=jv 120 0 fun _=>0;simpa using this
  rw[<-z];exact jd fun v v1 v2=>by show val (L v (T (v - 1)).2)=0;rw[(tv v v1 v2).2.2.2];rfl
 rw[e1,Int.zero_add];refine x8 fun i hi=>?_;by_cases c:i < n
 . have:=h.oV (i+1) 101 101;rw[show i+1 - 1=i by lia] at this;rw[this,oo (tv _ 101 101).2.1 101 101,Int.mul_one];exact ae8 _
 . have b:=p.HM i 101 hi;have:cnt n 286 (fT T)<=1:=by
    unfold cnt cG;refine jc ao1 (T i).1 _ fun v hv=>?_;obtain⟨v1,v2⟩:=br.mp hv;by_cases q:v∈gi G i/\fT T v∉gi G i
    . rw[if_pos q];rcases Mg h full en G.length i v 101 101 q.1 with e | e
      . rw[if_pos (by rw[<-e];exact(tv v v1 v2).1.symm)];exact ae8 _
      . exact absurd e q.2
    . rw[if_neg q];split <;> decide
   have q:bi B i*1<=bi B i*cnt n 286 (fT T):=Int.mul_le_mul_of_nonpos_left b this;lia
end
end ME
namespace ME
open vA bW mh MH
def low(K:Int)(w:Tb):Tb:=fun v u=>if u=0 then(w v u).map (· - K) else w v u
def Gk(f:Nat->Nat):Nat->Nat->Prop
 | 0,v=>v=0
 | k+1,v=>1<=v/\Gk f k (f v)
theorem wX: ∀{k k' v:Nat},Gk f k v->Gk f k' v->k=k'
 | 0,0,_,_,_=>rfl
 | 0,k'+1,v,h,h'=>by have e:v=0:=h;have:=h'.1;lia
 | k+1,0,v,h,h'=>by have e:v=0:=h';have:=h.1;lia
 | k+1,k'+1,v,h,h'=>by rw[wX h.2 h'.2]
theorem P8(h:Go f v u)(hu:u=0): ∃k,Gk f k v:=by
 induction h with
 | here v=>exact⟨0,hu⟩
 | on h1 _ ih=>obtain⟨k,hk⟩:=ih hu;exact⟨k+1,h1,hk⟩
open Classical in
theorem iS{n:Nat}{f:Nat->Nat}(hg: ∀v,1<=v->v<=n->Go f v 0): ∃rk:Nat->Nat,∀w,1<=w->w<=n->f w≠0->rk (f w) < rk w:=by
 refine⟨fun v=>if h: ∃k,Gk f k v then choose h else 0,fun w w1 w2 _=>?_⟩;obtain⟨k,hk⟩:=P8 (hg w w1 w2) rfl;have ex: ∃k,Gk f k w:=⟨k,hk⟩
 have e1:(if h: ∃k,Gk f k w then choose h else 0)=k:=by rw[dif_pos ex];exact wX (choose_spec ex) hk
 match k,hk with
 | 0,hk=>have:w=0:=hk;lia
 | k+1,hk=>
  have WS: ∃k,Gk f k (f w):=⟨k,hk.2⟩
  have e2:(if h: ∃k,Gk f k (f w) then choose h else 0)=k:=by rw[dif_pos WS];exact wX (choose_spec WS) hk.2
  show(if h: ∃k,Gk f k (f w) then choose h else 0) < (if h: ∃k,Gk f k w then choose h else 0);rw[e1,e2];lia
theorem go_top(le: ∀v,1<=v->v<=n->f v<=n)(h:Go f v u)(hu:u=0):1<=v->v<=n-> ∃t,1<=t/\t<=n/\f t=0:=by
 induction h with
 | here v=>intro h1;lia
 | @on v u _ _ ih=>
  intro h1 h2;by_cases c:f v=0
  . exact⟨v,h1,h2,c⟩
  . exact ih hu 101 (le v h1 h2)
theorem IS(h:Hg g): ∀v,1<=v->v<=g.length->Go (up g) v 0:=by
 obtain⟨rk,hr⟩:=h.rk;have: ∀(m v:Nat),rk v<=m->1<=v->v<=g.length->Go (up g) v 0:=by
  intro m;induction m with
  | zero=>
   intro v hm v1 v2;by_cases e:up g v=0
   . exact .on v1 (by rw[e];exact .here _)
   . have:=hr v v1 v2 e;lia
  | succ m ih=>
   intro v hm v1 v2;by_cases e:up g v=0
   . exact .on v1 (by rw[e];exact .here _)
   . have:=hr v v1 v2 e;exact .on v1 (ih _ 101 101 (h.mU v1 v2))
 exact fun v=>this _ v (aa4 _)
theorem yQ(h:Hg g)(v1:1<=v)(v2:v<=g.length):up g v≠v:=fun e=>by
 obtain⟨rk,hr⟩:=h.rk;have:=hr v v1 v2 (by rw[e];lia);rw[e] at this;lia
theorem tq: ∀{h:List Nat} {i:Nat},(∀v,i<=v->v < i+h.length->w v (h.getD (v - i) 0)≠none)->dH w i h=some (((299).map fun v=>val (w v (h.getD (v - i) 0))).sum)
 | [],_,_=>rfl
 | x::h,i,hn=>by
  have h0:=hn i (aa4 _) (by rw[ac1];lia);rw[as8] at h0;obtain⟨y,hy⟩:=aj1.mp h0;have sh: ∀v,i+1<=v->(x::h).getD (v - i) 0=h.getD (v - (i+1)) 0:=fun v hv=>by
   rw[show v - i=(v - (i+1))+1 by lia];rfl
  have ih:=tq (w:=w) (h:=h) (i:=i+1) fun v v1 v2=>by
   have:=hn v 101 (by rw[ac1];lia);rw[sh v v1] at this;exact this
  have Lx:w i x=some y:=hy;rw[dH,ih,Lx,ac1,an0,ac2,ak5];show some (y+_)=some (val (w i ((x::h).getD (i - i) 0))+_);rw[as8];show some (y+_)=some (val (w i x)+_);rw[Lx];congr 2
  refine ai5 List.sum (ae9 fun v hv=>?_);rw[sh v (aj6.mp hv).1]
theorem xS{h:List Nat}(hn: ∀v,1<=v->v<=h.length->w v (up h v)≠none):fZ w h=some (cG h.length fun v=>val (w v (up h v))):=tq fun v v1 v2=>hn v v1 101
theorem qO(e:fZ w h=some x):(∀v,1<=v->v<=h.length->w v (up h v)≠none)/\x=cG h.length fun v=>val (w v (up h v)):=by
 have a: ∀v,1<=v->v<=h.length->w v (up h v)≠none:=fun v v1 v2=>JP v1 v2 e;have:=xS a;rw[e] at this;exact⟨a,Option.some.inj this⟩
def pI(n:Nat)(g:Nat->Nat):Int:=cG n fun v=>if g v=0 then 1 else 0
theorem yF(hn: ∀v,1<=v->v<=n->w v (g v)≠none):cG n (fun v=>val (low K w v (g v)))=cG n (fun v=>val (w v (g v)))+(0 - K)*pI n g:=by
 unfold pI cG;rw[<-jv,<-sum_add];refine ai5 List.sum (ae9 fun v hv=>?_);obtain⟨v1,v2⟩:=br.mp hv;obtain⟨y,hy⟩:=aj1.mp (hn v v1 v2);unfold low;by_cases c:g v=0
 . rw[if_pos c,if_pos c,hy];show y - K=y+(0 - K)*1;lia
 . rw[if_neg c,if_neg c];lia
theorem nQ:low K w v u=none↔w v u=none:=by
 unfold low;split
 . exact Option.map_eq_none_iff
 . exact Iff.rfl
theorem qt: ∀{h:List Nat} {i:Nat},((299).map fun v=>if h.getD (v - i) 0=0 then(1:Int) else 0).sum=((h.count 0:Nat):Int)
 | [],_=>rfl
 | x::h,i=>by
  rw[ac1,an0,ac2,ak5,as8];have ih:=qt (h:=h) (i:=i+1);have:((List.range' (i+1) h.length).map fun v=>if (x::h).getD (v - i) 0=0 then(1:Int) else 0)=(List.range' (i+1) h.length).map fun v=>if h.getD (v - (i+1)) 0=0 then(1:Int) else 0:=ae9 fun v hv=>by
   have:=(aj6.mp hv).1;rw[show v - i=(v - (i+1))+1 by lia];rfl
  rw[this,ih,List.count_cons];show(if x=0 then(1:Int) else 0)+_=_;by_cases c:x=0
  . subst c;simp
    lia
  . rw[if_neg c];have:(x==0)=false:=ar1.mpr c;rw[this];simp
theorem i9{h:List Nat}:pI h.length (up h)=((h.count 0:Nat):Int):=qt (h:=h) (i:=1)
theorem ky: ∀{h:List Nat} {i j:Nat},i < j->h[i]?=some 0->h[j]?=some 0->2<=h.count 0
 | [],_,_,_,e,_=>by simp at e
 | x::h,0,j+1,_,e,e'=>by
  have:x=0:=by simpa using e
  subst this;have m:0∈h:=ac7 (by simpa using e');rw[List.count_cons_self];have:=List.count_pos_iff.mpr m;lia
 | x::h,i+1,j+1,l,e,e'=>by
  have:=ky (h:=h) (i:=i) (j:=j) 101 (by simpa using e) (by simpa using e');rw[List.count_cons];lia
 | x::h,i+1,0,l,_,_=>by lia
theorem DT(h:Hg g):g.count 0=1:=by
 obtain⟨t,e,u⟩:=h.one;have p:0 < g.count 0:=List.count_pos_iff.mpr (ac7 e);have l:=jc (l:=List.range' 1 g.length) ao1 (t+1) (fun v=>if up g v=0 then 1 else 0) fun v hv=>by
  obtain⟨v1,v2⟩:=br.mp hv;by_cases c:up g v=0
  . have:=u (v - 1) (by rw[gn v1 v2,c]);rw[if_pos c,if_pos 101];exact ae8 _
  . rw[if_neg c];split <;> decide
 have:=i9 (h:=g);unfold pI cG at this;rw[this] at l;lia
def l6(n:Nat)(T:Nat->Nat × Nat):List Nat:=(340).map fun i=>(T i).2
theorem gu:(l6 n T).length=n:=by unfold l6;simp
theorem qb(v1:1<=v)(v2:v<=n):up (l6 n T) v=fT T v:=by
 unfold up l6 fT;rw[ab7,aa6,af4 101];rfl
section
variable{n:Nat}{G:List 137}{W:List 178}{T:Nat->Nat × Nat}{w L:Tb}{B:List Int}{K mn mx:Int}
theorem K2(h:dN n G W)(p:zk n (low K w) G W B L)(hk:k < G.length)(no: ∀v∈gi G k,∀u,u<=n->u∉gi G k->L v u=none)(hg:Hg g)(gl:g.length=n):fZ w g=none:=by
 refine ah3 fun z=>?_;obtain⟨x,e⟩:=aj1.mp z;obtain⟨a,_⟩:=qO e;subst gl;obtain⟨⟨v,hv,hn⟩,_⟩:=EV (h.mem k hk) (h.ne k hk) (IS hg);obtain⟨v1,v2⟩:=h.mem k hk v hv;exact a v v1 v2 (nQ.mp ((p.aC v _).mp (no v hv _ (hg.mU v1 v2) hn)))
theorem Ca(hf: ∀v,1<=v->v<=n->lo<=f v/\f v<=hi):(n:Int)*lo<=cG n f/\cG n f<=(n:Int)*hi:=by
 have e: ∀c:Int,cG n (fun _=>c)=(n:Int)*c:=fun c=>by
  unfold cG;have:(120).map (fun _=>c)=List.replicate n c:=by
   rw[List.map_const'];simp
  rw[this,List.sum_replicate_int]
 rw[<-e,<-e];exact⟨fv _ _ _ fun v hv=>(hf v (br.mp hv).1 (br.mp hv).2).1,fv _ _ _ fun v hv=>(hf v (br.mp hv).1 (br.mp hv).2).2⟩
theorem solved(n1:1<=n)(hb: ∀v u x,1<=v->v<=n->u<=n->w v u=some x->mn<=x/\x<=mx)(mm:mn<=mx)(hK:K=(n:Int)*(mx - mn)+1)
  (h:dN n G W) (full:W.length=G.length) (p:zk n (low K w) G W B L) (en:Ent G W 0 T) (XO:pB 180 n []):
  (1 < (l6 n T).count 0-> ∀g,Hg g->g.length=n->fZ w g=none)/\(¬1 < (l6 n T).count 0->Hg (l6 n T)/\ ∃x,fZ w (l6 n T)=some x/\ ∀g u,Hg g->g.length=n->fZ w g=some u->u<=x)/\(∀x∈l6 n T,x<=n):=by
 obtain⟨ge,al⟩:=Kw h full p en;have zero: ∀v,1<=v->v<=n->Go (fT T) v 0:=fun v v1 v2=>Ej h full en XO v1 v2;have nn: ∀v,1<=v->v<=n->w v (fT T v)≠none:=fun v v1 v2 z=>(al v v1 v2).1 (nQ.mpr z);have hle: ∀x∈l6 n T,x<=n:=fun x hx=>by
  obtain⟨i,hi,rfl⟩:=ac9.mp hx;have:=(al (i+1) 101 (by have:=af8.mp hi;lia)).2.1;exact this
 have Vu:pI n (fT T)=308:=by
  have:=i9 (h:=l6 n T);rw[gu] at this;rw[<-this];exact jd fun v v1 v2=>by rw[qb v1 v2]
 have wh:fZ w (l6 n T)=some (cG n fun v=>val (w v (fT T v))):=by
  have:=xS (w:=w) (h:=l6 n T) fun v v1 v2=>by rw[gu] at v2;rw[qb v1 v2];exact nn v v1 v2
  rw[gu] at this;rw[this];exact ai5 some (jd fun v v1 v2=>by rw[qb v1 v2])
 rw[yF nn,Vu] at ge;have best: ∀g u,Hg g->g.length=n->fZ w g=some u->u - K<=cG n (fun v=>val (w v (fT T v)))+(0 - K)*308:=fun g u hg gl e=>by
  obtain⟨a,eu⟩:=qO e;rw[gl] at a eu;have:=Kv h full p (g:=up g) (fun v v1 v2=>IS hg v v1 101) (fun v v1 v2=>by have:=hg.mU v1 101;lia) (fun v v1 v2=>yQ hg v1 101) fun v v1 v2 z=>a v v1 v2 (nQ.mp z);rw[yF a] at this;have t1:pI n (up g)=1:=by rw[<-gl,i9,DT hg];rfl
  rw[t1] at this;lia
 refine⟨fun many g hg gl=>?_,fun Zo=>⟨⟨by rw[gu];exact n1,by rw[gu];exact hle,?_,?_⟩,_,wh,fun g u hg gl e=>?_⟩,hle⟩
 . refine ah3 fun z=>?_;obtain⟨u,e⟩:=aj1.mp z;have b:=best g u hg gl e;obtain⟨a,eu⟩:=qO e;rw[gl] at a eu;have q1:=(Ca (n:=n) (f:=fun v=>val (w v (up g v))) (lo:=mn) (hi:=mx) fun v v1 v2=>by
    obtain⟨y,hy⟩:=aj1.mp (a v v1 v2);have:=hb v _ y v1 v2 (by have:=hg.mU v1 101;lia) hy;rw[hy];exact this).1
   have q2:=(Ca (n:=n) (f:=fun v=>val (w v (fT T v))) (lo:=mn) (hi:=mx) fun v v1 v2=>by
    obtain⟨y,hy⟩:=aj1.mp (nn v v1 v2);have:=hb v _ y v1 v2 (al v v1 v2).2.1 hy;rw[hy];exact this).2
   have q3:(n:Int)*(mx - mn)=(n:Int)*mx - (n:Int)*mn:=Int.mul_sub _ _ _;have q4:0<=(n:Int)*(mx - mn):=Int.mul_nonneg 101 101;have q5:K*2<=K*308:=Int.mul_le_mul_of_nonneg_left 101 101;have q6:(0 - K)*308=0 - K*308:=by rw[Int.sub_mul,Int.zero_mul]
   lia
 . obtain⟨rk,hr⟩:=iS zero;refine⟨rk,fun v v1 v2 hv=>?_⟩;rw[gu] at v2;rw[qb v1 v2] at hv ⊢;exact hr v v1 v2 hv
 . obtain⟨t,t1,t2,te⟩:=go_top (fun v v1 v2=>(al v v1 v2).2.1) (zero 1 (aa4 _) n1) rfl (aa4 _) n1;have e0:(l6 n T)[t - 1]?=some 0:=by rw[gn t1 (by rw[gu];exact t2),qb t1 t2,te]
   refine⟨t - 1,e0,fun j ej=>?_⟩;refine ah3 fun ne=>Zo ?_;rcases ap3 ne with l | l
   . exact ky l ej e0
   . exact ky l e0 ej
 . have b:=best g u hg gl e;have c1:(l6 n T).count 0=1:=by
    obtain⟨t,t1,t2,te⟩:=go_top (fun v v1 v2=>(al v v1 v2).2.1) (zero 1 (aa4 _) n1) rfl (aa4 _) n1;have e0:(l6 n T)[t - 1]?=some 0:=by rw[gn t1 (by rw[gu];exact t2),qb t1 t2,te]
    have:=List.count_pos_iff.mpr (ac7 e0);lia
   rw[c1] at b;have:(0 - K)*((1:Nat):Int)=0 - K:=Int.mul_one _;lia
end
inductive kn(n:Nat)(w:Tb):Option Rs->Prop
 | no (h: ∀g,Hg g->g.length=n->fZ w g=none):kn n w none
 | of {v:Int} {h:List Nat} (h1:Hg h) (h2:h.length=n) (h3:fZ w h=some v) (h4: ∀g u,Hg g->g.length=n->fZ w g=some u->good n (v,h) (u,g)):kn n w (some (v,h))
theorem zc(hg:Hg h)(hl:h.length=n):0<=code (n+1) h/\code (n+1) h < 233^n:=by
 have:=gA (B:=n+1) (h:=h) fun x hx=>by have:=hg.le x hx;lia
 rw[hl] at this;exact this
theorem vh(hg:Hg h)(hl:h.length=n)(e:fZ (wr n w) h=some x)(mx: ∀g u,Hg g->g.length=n->fZ (wr n w) g=some u->u<=x): ∃v,fZ w h=some v/\kn n w (some (v,h)):=by
 have e1:fZ (wr n w) h=_:=mv n w h 1 101 (aa4 _);rw[e] at e1;obtain⟨v,ev,ex⟩:=ae6.mp e1.symm;refine⟨v,ev,.of hg hl ev fun g u gg gl eu=>?_⟩;have e2:fZ (wr n w) g=_:=mv n w g 1 101 (aa4 _);have ZH:dH w 1 g=some u:=eu;rw[ZH] at e2;have le:=mx g _ gg gl e2;obtain⟨c1,c2⟩:=zc hg hl;obtain⟨d1,d2⟩:=zc gg gl;rw[<-ex] at le;exact Gj c1 c2 d1 d2 le
theorem uq(h: ∀g,Hg g->g.length=n->fZ (wr n w) g=none):kn n w none:= .no fun g gg gl=>by
 have e2:fZ (wr n w) g=_:=mv n w g 1 101 (aa4 _);rw[h g gg gl] at e2;exact Option.map_eq_none_iff.mp e2.symm
end ME
namespace bU
open PySem L2 LB LD PyProof.Rows
def top(i:Nat):Stmt:=PySem.Challenge.pw_hungwords_k20_the_best_of_all.main.body.getD i (.Pass ⟨0,0,0,0⟩)
abbrev kI:Stmt:=top 1
abbrev gT:Stmt:=top 2
abbrev jA:Stmt:=top 3
abbrev vX:Stmt:=top 4
abbrev ng:Stmt:=top 6
abbrev vY:Stmt:=top 7
abbrev kJ:Stmt:=top 8
abbrev m9:Stmt:=top 9
abbrev gX:Stmt:=top 10
abbrev gV:Stmt:=top 11
abbrev tX:Stmt:=top 12
abbrev gZ:Stmt:=top 13
abbrev gU:Stmt:=top 14
abbrev bf:Stmt:=top 15
abbrev nc:Stmt:=top 16
abbrev gY:Stmt:=top 17
abbrev rF:Stmt:=top 19
abbrev rD:Stmt:=top 20
abbrev dg:Stmt:=top 21
abbrev jB:Stmt:=top 22
abbrev rC:Stmt:=top 23
abbrev rE:Stmt:=top 24
abbrev fL:Stmt:=top 25
abbrev eF:Stmt:=top 26
abbrev gW:Stmt:=top 27
abbrev Ka:Stmt:=top 28
structure Txt(mg:Str->Option Value):Prop where
 oH:mg "isinstance"=none
 len:mg "len"=none
 Me:mg "enumerate"=none
 tup:mg "tuple"=none
 int:mg "int"=none
 bool:mg "bool"=none
 tZ:mg "range"=none
 lst:mg "list"=none
 ZY:mg "divmod"=none
 all:mg "all"=none
 str:mg "str"=none
 sum:mg "sum"=none
 zip:mg "zip"=none
 Ip:mg "sorted"=none
 max:mg "max"=none
 min:mg "min"=none
 Ql:mg "dict"=none
 rev:mg "reversed"=none
theorem vW:aH ["worths"] ["worths"] (ab kI):=103
theorem zI:aH ["w","h"] ["w","h"] (ab gT):=103
theorem tV:aH ["w","scale"] ["w"] (ab jA):=103
theorem rA:aH ["base","many","scale","place"] ["base","many"] (ab vX):=103
theorem kH:aH ["w","solved","h"] ["w"] (ab ng):=103
theorem mB:aH ["ons","found","word","ring"] ["ons"] (ab vY):=103
theorem gp:aH ["ons","word","walked","at"] ["ons","word"] (ab kJ):=103
theorem jy:aH ["w","hook","drawn","groups","bests","ways","h"] ["w"] (ab m9):=103
theorem pN:aH ["w","worths"] ["w"] (ab gX):=103
theorem jz:aH ["row","hook","first"] ["row","hook"] (ab gV):=103
theorem jg:aH ["left","groups","bests","ways","group","way","best"] ["left"] (ab tX):=103
theorem pO:aH ["left","group","ways"] ["left","group"] (ab gZ):=103
theorem kG:aH ["left","group","best","word","row"] ["left","group","best"] (ab gU):=103
theorem cR:aH ["groups","ways","many","heads","ons","group","way"] ["groups","ways","many"] (ab bf):=103
theorem iD:aH ["groups","heads","group","word"] ["groups"] (ab nc):=103
theorem iE:aH ["groups","ways","many","taken","at","inner"] ["groups","ways","many"] (ab gY):=103
theorem Ck:aH ["_law_script"] ["_law_script"] (ab rF):=103
theorem gq:aH ["_law_box","_law_many","_law_turn","_law_place","_law_cell","_law_digit","_law_mixed"] ["_law_box","_law_many"] (ab rD):=103
theorem iC:aH ["_law_h","_law_placed","_law_turn","_law_more"] ["_law_h"] (ab dg):=103
theorem fw:aH ["_law_n","_law_found","_law_first","_law_rows","_law_place","_law_ons","_law_longer","_law_one"] ["_law_n"] (ab jB):=103
theorem Cj:aH ["_law_box","_law_way"] ["_law_box","_law_way"] (ab rC):=103
theorem eC:aH ["_law_box","_law_n","_law_way","_law_bars","_law_rows","_law_word","_law_row","_law_on","_law_barred"] ["_law_box","_law_n"] (ab rE):=103
theorem m8:aH ["_law_w","_law_h","_law_some"] ["_law_w","_law_h"] (ab fL):=103
theorem pM:aH ["_law_w","_law_some","_law_found"] ["_law_w","_law_some"] (ab eF):=103
theorem yb:aH ["_law_found","_law_due"] ["_law_found","_law_due"] (ab gW):=103
theorem lD:aH ["_law_script","_law_box","_law_n","_law_some","_law_turn","_law_w","_law_ranked_here","_law_kept","_law_due"] ["_law_script"] (ab Ka):=103
end bU
namespace bU
open PySem PySem.Spec L2 LB LD PyProof.Rows mh
theorem nW{c A B:Prop} [Decidable c](hc:c)(h:A):if c then A else B:=by rw[if_pos hc];exact h
theorem o4{c A B:Prop} [Decidable c](hc: ¬c)(h:B):if c then A else B:=by rw[if_neg hc];exact h
def cZ:Wo->Dt
 | none=> .aC
 | some v=> .int v
def pJ:DN:=fun ds Q=> ∃L:List Wo,ds= [.lst (L.map cZ)]/\Q (cZ (Ii L))
theorem xU(L:List Wo):(L.map cZ).all cC=true:=by
 induction L with
 | nil=>rfl
 | cons x xs ih=>rw[ac2,aw3,ih,Bool.and_true];cases x <;> rfl
theorem Ig(L:List Wo):inD .aC (L.map cZ)=decide (none∈L):=by
 induction L with
 | nil=>rfl
 | cons x xs ih=>
  unfold inD at ih ⊢;rw[ac2,ao3,ih];cases x with
  | none=>simp [cZ,Ee]
  | some v=>simp [cZ,Ee]
theorem mV: ∀{L:List Wo},none∈L->Ii L=none
 | x::xs,h=>by
  rcases ad1.mp h with e | e
  . rw[<-e];rfl
  . rw[Ii,mV e,zi]
theorem mW: ∀(L:List Wo),none∉L-> ∃ns:List Int,L=ns.map some/\Ii L=some ns.sum
 | [],_=>⟨[],rfl,rfl⟩
 | none::xs,h=>absurd ac4 h
 | some v::xs,h=>by
  obtain⟨ns,e1,e2⟩:=mW xs fun z=>h (ab6 _ z);exact⟨v::ns,by rw[e1];rfl,by rw[Ii,e2];rfl⟩
theorem xT(ns:List Int):(ns.map some).map cZ=ns.map Dt.int:=by rw[ae1];rfl
section
variable{P:Program}{w:World}{K:PySem.W.Frag}{mg:Str->Option Value}{base:Heap}
theorem uf(F:gC K "together" "together" kI f fd)(T:Txt mg):bh P w K mg base dY 1 f fd ["worths"] (fg pJ):=by
 refine sv F vW 158 (fun bK A outer s H E hr=>⟨_,(ag (dy (B4 fU (dv 0))
 (aD (aL fU))
 bF)
 (aD (aL (Jf rfl T.sum 167)))),fun ds Qd h=>?_⟩)
 . obtain⟨L,rfl,_⟩:=h;rfl
 . obtain⟨L,rfl,q⟩:=h;refine⟨_,rfl,⟨_, .inl rfl,rfl,xU L,?_⟩⟩;rw[Ig];by_cases c:none∈L
   . rw[ad3 c];rw[mV c] at q;exact⟨true,rfl,cw q⟩
   . rw[ad4 c];obtain⟨ns,e1,e2⟩:=mW L c;rw[e2] at q;exact⟨false,rfl,a9 ⟨_,rfl,ns,by rw[e1,xT],q⟩⟩
end
def jF(b:Int)(m:Nat):List Int:=(List.range (m+1)).map fun i=>b^i
def BO:DN:=fun ds Q=> ∃(b:Int) (m:Nat),ds= [.int b,.int (m:Int)]/\0<=b/\b < 2^60/\m<=60/\Q (.lst ((jF b m).reverse.map .int))
inductive UnI(b:Int)(m:Nat)(i:Nat)(δ:List Sl):Prop
 | mk (s:Sl) (h1:δ= [.im (.int b),.im (.int (m:Int)),.ow ((jF b i).map .int),s]) (h2:s.bo=false)
theorem pQ(b:Int)(m:Nat):jF b (m+1)=jF b m++ [b^(m+1)]:=by
 unfold jF;rw[List.range_succ,ae4];rfl
section
variable{P:Program}{w:World}{K:PySem.W.Frag}{mg:Str->Option Value}{base:Heap}
theorem CZ(F:gC K "units" "units" vX f fd)(T:Txt mg):bh P w K mg base dY 1 f fd ["base","many"] (fg BO):=by
 refine sv F rA 158 (fun bK A outer s H E hr=>⟨_,(ag (eD 2 rA.nd (g9 395))
 (ag (eE rfl (jm T.tZ 206) (dj 3 rA.nd)
 (aD (dz (eS 2 (pv 2) (aa (u6 (u7 2 (pv 2) (Qo ao)) (dv 0)) af)))) ag4)
 (ag (dz (AR 2 (pv 2)))
 (aD (gR 2 (aL (dv 2))))))),fun ds Qd h=>?_⟩)
 . obtain⟨b,m,rfl,_⟩:=h;rfl
 . obtain⟨b,m,rfl,b0,b1,m1,q⟩:=h;refine⟨by show 1<=sizeLine;decide,⟨_,rfl,rfl⟩,?_⟩;refine 319;refine bZ (UnI b m) ⟨.no,by rw[show jF b 0= [1] from by simp [jF]];rfl,rfl⟩ 193 235
   . obtain⟨s,rfl,hs⟩:=hP;have il:i < m:=by have:=(348).1;rw[aa2,ac0] at this;lia
     refine⟨⟨_,rfl,hs⟩,?_⟩;have hl:ke ((jF b i).map Dt.int) (-1)=some (.int (b^i)):=by
      cases i with
      | zero=>rw[show jF b 0= [1] from by simp [jF]];rw[Int.pow_zero];exact vp (α:=Dt) [] _
      | succ i=>rw[pQ,ae4];exact vp _ _
     refine⟨⟨_,rfl⟩,⟨_,rfl⟩,_,rfl,_,_,_,rfl,rfl,hl,_,rfl,?_⟩;refine⟨_,_,rfl,rfl,.inr 205,_,_,rfl,rfl,?_,qc _ ⟨.im d,?_,rfl⟩⟩
     . rw[aa2];exact ac8 (show(jF b i).length < 100 by rw[jF,aa2,ac0];lia) 105
     . rw[pQ,ae4,Int.pow_succ];rfl
   . obtain⟨s,rfl,hs⟩:=hP;rw[aa2,ac0,ae5];refine⟨_,rfl,_,rfl,?_⟩;rw[List.map_reverse] at q;exact⟨_,rfl,q⟩
end
def eY(n:Nat)(w:Nat->Nat->Wo)(i:Nat):Dt:= .tup ((148).map fun o=>cZ (w i o))
def kB(n:Nat)(w:Nat->Nat->Wo):Dt:= .tup ((120).map (eY n w))
def xI(x:Nat):Dt:= .int (x:Int)
def aJ(h:List Nat):Dt:= .tup 272
def jq:DN:=fun ds Q=> ∃(n:Nat) (w:Nat->Nat->Wo) (h:List Nat),ds= [kB n w,aJ h]/\h.length=n/\(∀x∈h,x<=n)/\n<=60/\Q (cZ (fZ w h))
theorem rG{n:Nat}{w:Nat->Nat->Wo}(h:x<=n):ke ((148).map fun o=>cZ (w i o)) (x:Int)=some (cZ (w i x)):=
 aI (j:=x) (by rw[aa6,af4 101];rfl)
def Qf:Dt->Dt
 | .tup [.tup ds,.int v]=>(ke ds v).getD .aC
 | _=> .aC
theorem xR: ∀{h:List Nat} {i:Nat},(∀x∈h,x<=n)->(ez ((299).map (eY n w)) 272).map Qf=(List.zipWith w 299 h).map cZ
 | [],_,_=>rfl
 | x::h,i,hx=>by
  have ih:=xR (n:=n) (w:=w) (h:=h) (i:=i+1) fun y hy=>hx y (ab6 _ hy);rw[ac1,an0,ac2,ac2,am8,ac2,<-ih];unfold ez;rw[am8,ac2];congr 1
  show(ke ((148).map fun o=>cZ (w i o)) (x:Int)).getD .aC=_;rw[rG (hx x ac4)];rfl
theorem BD: ∀{h:List Nat} {i:Nat} {d:Dt},d∈ez ((299).map (eY n w)) 272-> ∃j x,x∈h/\d= .tup [eY n w j,xI x]
 | [],_,d,hd=>by cases hd
 | x::h,i,d,hd=>by
  rw[ac1,an0,ac2,ac2] at hd;unfold ez at hd;rw[am8] at hd;rcases ad1.mp hd with e | e
  . exact⟨i,x,ac4,e⟩
  . obtain⟨j,y,hy,e⟩:=BD (i:=i+1) e;exact⟨j,y,ab6 _ hy,e⟩
theorem qS: ∀{h:List Nat} {i:Nat},Ii (List.zipWith w 299 h)=dH w i h
 | [],_=>rfl
 | x::h,i=>by rw[ac1,an0,am8,Ii,qS,dH]
section
variable{P:Program}{w:World}{K:PySem.W.Frag}{mg:Str->Option Value}{base:Heap}
theorem wa(F:gC K "worth_of" "worth_of" gT f fd)(T:Txt mg)(Be:iL P w K mg base "together" 1 ["worths"] (fg pJ)):bh P w K mg base dY 2 f fd ["w","h"] (fg jq):=by
 refine sv F zI 158 (fun bK A outer s H E hr=>⟨_,(aD (aL (cJ Be (hr.mono 105) (aa (Ov.ev (cM (N:= ["row","on"]) (nt:=2) (js:= []) ⟨rfl,by decide+kernel,by decide,rfl,by decide+kernel,(by show∀x∈(_:List 132),x.2=NameKind.free->(ab gT).names.lookup x.1=some .cell\/(ab gT).names.lookup x.1=some .free;decide+kernel)⟩ rfl 198 (fun _ _ _ _ _=>cU rfl (aF (aA (i:=0) (show(["row","on"]:List Str).Nodup by decide+kernel) rfl 102) (aF (aA (i:=1) (show(["row","on"]:List Str).Nodup by decide+kernel) rfl 102) bP))) bH aW 160 (fun _ _ _ _ _=>(de (dv 0) (dv 1))))) af)))),fun ds Qd h=>?_⟩)
 . obtain⟨n,w,h,rfl,_⟩:=h;rfl
 . obtain⟨n,w,h,rfl,l,hx,n1,q⟩:=h;subst l;refine⟨_,rfl,_,rfl,true,true,_,_,rfl,?_⟩;have zl:(ez ((391).map (eY h.length w)) 272).length<=60:=by
    unfold ez;rw[am5,aa2,aa2,ae2];lia
   refine⟨ac6 zl 105,fun _=>true,Qf,fun d hd=>?_,?_⟩
   . obtain⟨j,x,hm,rfl⟩:=BD hd;refine 163;exact⟨_,rfl,_,rfl,_,_,_,.inr rfl,rfl,rG (hx x hm),by show cZ (w j x)=(ke _ _).getD _;rw[rG (hx x hm)];rfl⟩
   . rw[af9.mpr fun _ _=>rfl,xR hx];exact⟨_,rfl,by rw[qS];exact q⟩
end
theorem vV{env:Env}: ∀x∈([]:List 132),x.2= .free->env.kindOf x.1=some .cell\/env.kindOf x.1=some .free:=fun x hx=>absurd hx aa8
theorem rq{env:Env}{p:Str × NameKind}(h:p.2≠ .free)(r: ∀x∈l,x.2= .free->env.kindOf x.1=some .cell\/env.kindOf x.1=some .free): ∀x∈p::l,x.2= .free->env.kindOf x.1=some .cell\/env.kindOf x.1=some .free:=fun x hx e=>by
 rcases ad1.mp hx with z | z
 . subst z;exact absurd e h
 . exact r x z e
theorem rp{env:Env}{p:Str × NameKind}(h:env.kindOf p.1=some .cell\/env.kindOf p.1=some .free)(r: ∀x∈l,x.2= .free->env.kindOf x.1=some .cell\/env.kindOf x.1=some .free): ∀x∈p::l,x.2= .free->env.kindOf x.1=some .cell\/env.kindOf x.1=some .free:=fun x hx e=>by
 rcases ad1.mp hx with z | z
 . subst z;exact h
 . exact r x z e
def Sm(w:Nat->Nat->Wo):Prop:= ∀i o v,w i o=some v-> -(2^60) < v/\v < 2^60
def yi:DN:=fun ds Q=> ∃(n:Nat) (w:Nat->Nat->Wo),ds= [kB n w]/\n<=60/\Sm w/\Q (kB n (wr n w))
def Ot(n i:Nat):Dt->Dt
 | .tup [.int o,.int v]=> .int (v*233^n - o*233^(n - i))
 | _=> .aC
def V7(n:Nat):Dt->Dt
 | .tup [.int i,.tup ds]=> .tup ((aX 0 ds).map (Ot n i.toNat))
 | _=> .aC
theorem sC(h:d∈aX k ds): ∃j e,ds[j]?=some e/\d= .tup [.int ((j+k:Nat):Int),e]:=by
 unfold aX at h;obtain⟨j,hj,e⟩:=List.mem_mapIdx.mp h;exact⟨j,_,aa1 hj,e.symm⟩
theorem Ki(n:Nat)(w:Nat->Nat->Wo)(i:Nat):(aX 0 ((148).map fun o=>cZ (w i o))).map (Ot n i)=(148).map fun o=>cZ (wr n w i o):=by
 apply ai1;intro j;unfold aX;rw[aa6,am0,aa6,aa6];cases e:(148)[j]? with
 | none=>rfl
 | some o=>
  have:o=j:=by
   have:=aa5.mp e;obtain⟨h1,h2⟩:=this;rw[List.getElem_range] at h2;exact h2.symm
  subst this;show some (Ot n i (.tup [.int ((o+0:Nat):Int),cZ (w i o)]))=some (cZ (wr n w i o));unfold wr;cases w i o <;> rfl
theorem Kk(n:Nat)(w:Nat->Nat->Wo):(aX 1 ((120).map (eY n w))).map (V7 n)=(120).map (eY n (wr n w)):=by
 apply ai1;intro j;unfold aX;rw[aa6,am0,aa6,aa6];cases e:(120)[j]? with
 | none=>rfl
 | some i=>
  have:i=j+1:=by
   obtain⟨h1,h2⟩:=aa5.mp e;rw[List.getElem_range'] at h2;lia
  subst this;show some (Dt.tup ((aX 0 _).map (Ot n (((j+1:Nat):Int)).toNat)))=some (eY n (wr n w) (j+1));rw[ae5,Ki];rfl
theorem CD{n k:Nat}(h:k<=n):ke ((jF 233 n).reverse.map Dt.int) (k:Int)=some (.int (233^(n - k))):=
 aI (j:=k) (by
  unfold jF;rw[aa6,List.getElem?_reverse (by rw[aa2,ac0];lia),aa2,ac0,aa6,af4 101];rw[show n+1 - 1 - k=n - k by lia];rfl)
section
variable{P:Program}{w:World}{K:PySem.W.Frag}{mg:Str->Option Value}{base:Heap}
theorem zV(F:gC K "ranked" "ranked" jA f fd)(T:Txt mg)(M9:iL P w K mg base "units" 1 ["base","many"] (fg BO)):bh P w K mg base dY 2 f fd ["w"] (fg yi):=by
 refine sv F tV 158 (fun bK A outer s H E hr=>⟨_,(ag (cm 1 tV.nd (cJ M9 (hr.mono 105) (aa (i4 (eR T.len 167) ao) (aa (eR T.len 167) af))))
 (aD (aL (mM T.tup (aa (Ov.ev (cM (N:= ["word","row","scale"]) (nt:=2) (js:= [1]) ⟨rfl,by decide+kernel,by decide,rfl,by decide+kernel,(by show∀x∈(_:List 132),x.2=NameKind.free->(ab jA).names.lookup x.1=some .cell\/(ab jA).names.lookup x.1=some .free;decide+kernel)⟩ rfl (G2 T.Me 167 ao) (fun _ _ _ _ _=>cU rfl (aF (aA (i:=0) (show(["word","row","scale"]:List Str).Nodup by decide+kernel) rfl 102) (aF (aA (i:=1) (show(["word","row","scale"]:List Str).Nodup by decide+kernel) rfl 102) bP))) bH aW 160 (fun _ _ _ _ _=>(mM T.tup (aa (Ov.ev (cM (N:= ["on","worth","scale","word"]) (nt:=2) (js:= [2,0]) ⟨rfl,by decide+kernel,by decide,rfl,by decide+kernel,(by repeat (first | exact vV | refine rp 102 ?_ | refine rq 186 ?_))⟩ rfl (yM T.Me 206) (fun _ _ _ _ _=>cU rfl (aF (aA (i:=0) (show(["on","worth","scale","word"]:List Str).Nodup by decide+kernel) rfl 102) (aF (aA (i:=1) (show(["on","worth","scale","word"]:List Str).Nodup by decide+kernel) rfl 102) bP))) bH aW 160 (fun _ _ _ _ _=>(gy (lB (dv 1)) fU (dw (u6 (dv 1) (de (dv 2) ao)) (u6 (dv 0) (de (dv 2) (dv 3)))))))) af))))) af))))),fun ds Qd h=>?_⟩)
 . obtain⟨n,w,rfl,_⟩:=h;rfl
 . obtain⟨n,w,rfl,n1,sm,q⟩:=h;have hl:((120).map (eY n w)).length=n:=by rw[aa2,ae2]
   have Ui:(aX 1 ((120).map (eY n w))).length=n:=by unfold aX;rw[ap6,hl]
   refine⟨_,rfl,_,.inr rfl,_,_,rfl,rfl,_,rfl,_,.inr rfl,?_⟩;rw[hl];refine⟨(n:Int)+1,n,rfl,by lia,by lia,n1,⟨_,rfl,rfl⟩,?_⟩;refine⟨_,rfl,_,rfl,rfl,by rw[Ui];exact ac6 n1 105,fun _=>true,V7 n,fun d hd=>?_,?_⟩
   . obtain⟨j,e,he,rfl⟩:=sC hd;have jl:j < n:=by have:=(aa5.mp he).1;rw[hl] at this;exact this
     have ee:e=eY n w (j+1):=by
      rw[aa6,aj3 jl] at he;have:=(Option.some.inj he).symm;rw[this];congr 1;lia
     subst ee;have rl:(aX 0 ((148).map fun o=>cZ (w (j+1) o))).length=n+1:=by unfold aX;rw[ap6,aa2,ac0]
     refine 163;refine⟨_,rfl,_,rfl,by rw[rl];exact ac6 (show n+1<=61 by lia) 105,fun _=>true,Ot n (j+1),fun d hd=>?_,?_⟩
     . obtain⟨o,e,he,rfl⟩:=sC hd;have ol:o<=n:=by have:=(aa5.mp he).1;rw[aa2,ac0] at this;lia
       have ee:e=cZ (w (j+1) o):=by
        rw[aa6,af4 101] at he;exact(Option.some.inj he).symm
       subst ee;refine 163;cases ew:w (j+1) o with
       | none=>exact⟨_,rfl,true,rfl,cw rfl⟩
       | some v=>
        have vs:=sm _ _ _ ew;refine⟨_,rfl,false,rfl,a9 ?_⟩;have o1:Bk ((o+0:Nat):Int) (233^(n - (j+1))):= .inl 205;have v1:Bk v (233^(n - 0)):= .inl 205;exact⟨_,rfl,_,rfl,_,_,_,.inl rfl,rfl,CD (k:=0) (ae3 _),_,_,rfl,rfl,v1,_,rfl,_,rfl,_,rfl,_,_,_,.inl rfl,rfl,CD (k:=j+1) jl,_,_,rfl,rfl,o1,_,_,rfl,rfl,rfl⟩
     . rw[af9.mpr fun _ _=>rfl];exact⟨_,.inl rfl,rfl⟩
   . rw[af9.mpr fun _ _=>rfl,Kk];exact⟨_,.inl rfl,q⟩
end
end bU
namespace LD
open PySem PySem.Spec L2 LB PyProof.Rows LW
section
variable{X:Cx}{a b c e:Expr}{es:List Expr}{ta tb tc t:ba}{tA:fb}{pos p pb apos bp:Pos}
inductive MM(neg:Bool)(i:Nat)(Q:Dt->List Sl->Prop)(d:Dt)(δ':List Sl):Prop
 | mk (ds:_) (h1:δ'[i]?=some 405) (h2:cC d=true) (h3:ds.all cC=true) (h4:Q (.bl (if neg then !inD d ds else inD d ds)) δ')
def QG(neg:Bool)(i:Nat)(ta:ba):ba:=fun δ Q=>ta δ fun d δ'=>MM neg i Q d δ'
theorem DE: ∀σ H Q,lE (QG neg i ta) σ H Q->JY (Rz X.K neg) (lE ta) (fu i) σ H Q:=fun σ H Q cK=>(by obtain⟨W,M,α,δ,Qd,E,q,k⟩:=cK;exact(
 ⟨W,M,α,δ,_,E,q,fun d δ' H' x eU E1 c1 r1=>(by obtain⟨ds,hd,f1,f2,q1⟩:=eU;exact(by
  obtain⟨l,xs,h1,h2,h3,rr⟩:=E1.ow hd;refine⟨_,h1,l,xs,rfl,.inl (bL.of h3),fS r1 f1,kU rr f2,?_⟩;rw[rX r1 f1 rr f2];exact k _ _ _ _ q1 E1 c1 (.bl _)))⟩))
theorem BZ(i:Nat)(ha:Ev X a ta)(ho:PE X (.Name y pb) (fu i))(hm:behindInMarks .NotIn (.Name y pb)=false:=by rfl):Tv X (.Compare a [.NotIn] [.Name y pb] pos) (dT (QG true i ta)):=PT.imp (jD jM ha ho hm) fun σ H Q h=>DE _ _ _ (cF _ _ _ h)
end
theorem iB{Δ:dW}(Q:List Sl->Prop)(h: ∀Δ':dW,(∀δ',Q δ'->Δ'.nx δ')->380->T Δ' δ)(fin: ∀δ',Q δ'->R Δ δ'):Qt T R Δ δ:=h _ fin fun _ _ z=>z
end LD
namespace bU
open PySem PySem.Spec L2 LB LD PyProof.Rows vA bW
abbrev nI(x:Nat):Dt:= .int (x:Int)
def oD:Option Nat->Dt
 | none=> .aC
 | some k=>nI k
def v8(os:List 194):Dt:= .tup (os.map oD)
theorem CT{n:Nat}{os:List 194}(o:JA n os){v:Nat}(h1:1<=v)(h2:v<=n):ke (os.map oD) ((v:Int) - 1)=some (oD (nx os 356)):=by
 match v,h1 with
 | k+1,_=>
  have hk:k < os.length:=by have:=o.1;lia
  rw[show((k+1:Nat):Int) - 1=(k:Int) by lia];refine aI ?_;show(os.map oD)[k]?=some (oD (os.getD k none));rw[aa6,aa1 hk,ab7,aa1 hk];rfl
theorem FY{os:List 194}{w p:Nat}:((wl os w p).map Dt.int).all cC=true:=by
 rw[List.all_map];exact ah9.mpr fun _ _=>rfl
theorem mJ: ∀{l:List Int},inD (.int v) (l.map .int)=decide (v∈l)
 | []=>rfl
 | x::l=>by
  show(Ee (.int x) (.int v) || inD (.int v) (l.map .int))=_;rw[mJ,ak9,Bool.or_eq_true,ai9,ai9,ad1];show(x==v)=true\/_↔_;rw[ab9];exact⟨fun z=>z.elim (fun e=> .inl e.symm) .inr,fun z=>z.elim (fun e=> .inl e.symm) .inr⟩
def V9:DN:=fun ds Q=> ∃(n:Nat) (os:List 194) (w:Nat),ds= [v8 os,nI w]/\JA n os/\1<=w/\w<=n/\n<=60/\ ∀L:List Int,(vC os w->dr os w L)->(¬vC os w->L= [])->Q (Lb L)
def WhI(n:Nat)(os:List 194)(w:Nat)(m:Nat)(δ:List Sl):Prop:= ∃p,δ= [.im (v8 os),.im (nI w),.ow ((wl os w p).map .int),.im (oD (it os p 251))]/\1<=p/\Wk n os w p/\m=n - p
section
variable{P:Program}{w:World}{K:PySem.W.Frag}{mg:Str->Option Value}{base:Heap}
theorem ug(F:gC K "ring_from" "ring_from" kJ f fd)(T:Txt mg):bh P w K mg base dY 1 f fd ["ons","word"] (fg V9):=by
 refine sv F gp 158 (fun bK A outer s H E hr=>⟨_,(ag (eD 2 gp.nd (g9 206))
 (ag (cm 3 gp.nd (de (dv 0) (dw (dv 1) ao)))
 (ag (yd (PW.pt (w_and (qU (dv 3)) (w_and (qV (dv 3) ao) (qR (BZ 2 (dv 3) (pv 2))))))
 (ag (dz (eS 2 (pv 2) (aa (dv 3) af)))
 (aD (cm 3 gp.nd (de (dv 0) (dw (dv 3) ao))))) ag4)
 (aD (gR 2 (aL (gy (qW (dv 3) (dv 1)) (EC T.Ip 378) (lX af)))))))),fun ds Qd h=>?_⟩)
 . obtain⟨n,os,wd,rfl,_⟩:=h;rfl
 . obtain⟨n,os,wd,rfl,o,w1,w2,iH,q⟩:=h;have q': ∀L:List Int,(vC os wd->dr os wd L)->(¬vC os wd->L= [])->Qd (Lb L):=q;refine⟨_,rfl,by show 1<=sizeLine;decide,⟨_,rfl,rfl⟩,?_⟩;refine⟨_,rfl,_,rfl,_,_,rfl,rfl,_,_,_, .inr rfl,rfl,CT o w1 w2,⟨_,rfl,rfl⟩,?_⟩;dsimp only;refine iB (fun δ=> ∃p,δ= [.im (v8 os), .im (nI wd), .ow ((wl os wd p).map .int), .im (oD (it os p (some wd)))]/\1<=p/\Wk n os wd p/\Stop os wd p) (fun Δ0 IP _=>?_) ?_
   . refine pF (WhI n os wd) ⟨_,1,rfl,aa4 _,vK w1 w2,rfl⟩ fun m δ hI Δ2 sY _=>?_;obtain⟨p,rfl,p1,h,rfl⟩:=hI;have stop:Stop os wd p->Δ0.nx [.im (v8 os), .im (nI wd), .ow ((wl os wd p).map .int), .im (oD (it os p (some wd)))]:=fun s=>IP _ ⟨p,rfl,p1,h,s⟩;cases e:it os p (some wd) with
     | none=>
      rw[e] at stop;exact⟨_,rfl,_,rfl,a9 (stop (.inl e))⟩
     | some v=>
      rw[e] at stop;refine⟨_,rfl,_,rfl,cw ⟨_,rfl,decide (v=0),?_,_,rfl,?_⟩⟩
      . show some (decide ((v:Int)=0))=_;rw[show decide ((v:Int)=0)=decide (v=0) from ak1.mpr 101]
      by_cases z:v=0
      . subst z;exact a9 (stop (.inr (.inl e)))
      . refine nW (by rw[ad4 z];rfl) ⟨_,rfl,_,rfl,rfl,FY,_,rfl,?_⟩;show if (!inD (.int (v:Int)) ((wl os wd p).map .int))=true then _ else _
        rw[mJ];by_cases c:(v:Int)∈wl os wd p
        . refine o4 (by rw[ad3 c];decide) (stop (.inr (.inr ?_)));obtain⟨k,hk,ek⟩:=(wB h).mp c;exact⟨k,hk,by rw[ek,e]⟩
        . have hv : v <= n := by
            match p,p1,e with
            | p+1,_,e=>exact nF o e
          have h':=qP h e 101 hv fun k hk ek=>c ((wB h).mpr ⟨k,hk,by rw[ek,e]⟩);have lp:=xV h';refine nW (by rw[ad4 c];rfl) ⟨⟨_,rfl⟩,_,rfl,_,_,rfl,rfl,by rw[aa2,vJ];exact ac8 (show p < 100 by lia) 105,?_⟩;refine⟨_,rfl,_,rfl,_,_,rfl,rfl,_,_,_,.inr rfl,rfl,CT o 101 hv,⟨_,rfl,rfl⟩,sY (n - (p+1)) _ 101 ⟨p+1,?_,by lia,h',rfl⟩⟩;rw[FX e,ae4];show _= [Sl.im (v8 os),.im (nI wd),.ow (_++ [Dt.int (v:Int)]),.im (oD (nx os (it os p (some wd))))]
          rw[e];rfl
   . rintro _ ⟨p,rfl,p1,h,s⟩
     refine⟨_,rfl,_,rfl,_,rfl,decide (it os p (some wd)=some wd),?_,_,rfl,?_⟩
     . cases e:it os p (some wd) with
       | none=>rfl
       | some v=>
        show some (decide ((v:Int)=(wd:Int)))=_;rw[show decide ((v:Int)=(wd:Int))=decide (some v=some wd) from ak1.mpr ⟨fun z=>by rw[show v=wd by lia],fun z=>by cases z;rfl⟩]
     by_cases c:it os p (some wd)=some wd
     . refine nW (ad3 c) ⟨_,rfl,wl os wd p,rfl,by rw[vJ];have:=xV h;lia,fun ms pm so=>q' ms (fun _=>⟨Lr so (pm.nodup_iff.mpr (Ih h)),fun x=>pm.mem_iff.trans (t4 h p1 c x)⟩) fun z=>absurd ⟨p,p1,c⟩ z⟩
     . refine o4 (fun z=>c (ad6 z)) ⟨by show 0<=sizeLine;decide,q' [] (fun z=>?_) fun _=>rfl⟩;obtain⟨k,k1,hk⟩:=z;exact absurd hk (x9 h p1 w1 s c k k1)
end
def V8:DN:=fun ds Q=> ∃(n:Nat) (os:List 194),ds= [v8 os]/\JA n os/\n<=60/\ ∀R:List (List Int),pB os n R->Q (.lst (R.map Lb))
def RiI(n:Nat)(os:List 194)(i:Nat)(δ:List Sl):Prop:= ∃(R:List (List Int)) (s2 s3:Sl),δ= [.im (v8 os),.ow (R.map Lb),s2,s3]/\s2.bo=false/\s3.bo=false/\pB os i R
section
variable{P:Program}{w:World}{K:PySem.W.Frag}{mg:Str->Option Value}{base:Heap}
theorem C4(F:gC K "rings" "rings" vY f fd)(T:Txt mg)(Bf:iL P w K mg base "ring_from" 1 ["ons","word"] (fg V9)):bh P w K mg base dY 2 f fd ["ons"] (fg V8):=by
 refine sv F mB 158 (fun bK A outer s H E hr=>⟨_,(ag (eD 1 mB.nd (g9 af))
 (ag (eE rfl (n4 T.tZ (aa ao (aa (i4 (eR T.len 167) ao) af))) (dj 2 mB.nd)
 (ag (cm 3 mB.nd (cJ Bf (hr.mono 105) (aa (dv 0) 378)))
 (aD (dy (PW.pt (w_and (NY (dv 3)) (qR (qW (de (dv 3) ao) (dv 2)))))
 (aD (dz (eS 1 (pv 1) (aa (dv 3) af))))
 bF))) ag4)
 (aD (gR 1 (aL (dv 1)))))),fun ds Qd h=>?_⟩)
 . obtain⟨n,os,rfl,_⟩:=h;rfl
 . obtain⟨n,os,rfl,o,iH,q⟩:=h;refine 304;refine⟨_,rfl,_, .inr rfl,_,_,rfl,rfl,_,_,rfl,by rw[aa2,o.1];lia,?_⟩;refine bZ (RiI n os) ⟨[], .no, .no,rfl,rfl,rfl,Gg os⟩ 193 235
   . obtain⟨R,s2,s3,rfl,b2,b3,up⟩:=hP;have il:i < n:=by have:=(348).1;rw[aa2,ac0,aa2,o.1] at this;lia
     have ed:d=nI (i+1):=by
      rw[aa6,af4 (by rw[aa2,o.1];lia)] at hi;have:Dt.int (1+(i:Int))=d:=by simpa using hi
      rw[<-this];show Dt.int _=Dt.int _;rw[show(1:Int)+(i:Int)=((i+1:Nat):Int) by lia]
     subst ed;refine⟨⟨_,rfl,b2⟩,_,rfl,_,rfl,n,os,i+1,rfl,o,by lia,by lia,iH,fun L c1 c2=>⟨⟨_,rfl,b3⟩,_,rfl,?_⟩⟩;by_cases c:vC os (i+1)
     . have r:=c1 c;match L,r with
       | [],r=>exact absurd rfl r.ne
       | x::L,r=>
        refine⟨true,rfl,cw ⟨_,rfl,_,_,.int x,.inl rfl,rfl,aI (j:=0) rfl,_,rfl,decide (x=((i+1:Nat):Int)),rfl,_,rfl,?_⟩⟩;by_cases e:x=((i+1:Nat):Int)
        . refine nW (ad3 e) ⟨⟨_,rfl⟩,_,rfl,_,_,rfl,rfl,by rw[aa2];exact ac8 (show R.length < 100 by have:=up.len;lia) 105,qc _ ⟨R++ [x::L],.im (nI (i+1)),.im (Lb (x::L)),?_,rfl,rfl,Gh up c r e⟩⟩;rw[ae4];rfl
        . exact o4 (fun z=>e (ad6 z)) (qc _ ⟨R,.im (nI (i+1)),.im (Lb (x::L)),rfl,rfl,rfl,tY up fun L' c' r' e'=>by rw[r'.uniq r] at e';exact e e'⟩)
     . rw[c2 c];exact⟨false,rfl,a9 (a9 (qc _ ⟨R,.im (nI (i+1)),.im (Lb []),rfl,rfl,rfl,tY up fun L' c'=>absurd c' c⟩))⟩
   . obtain⟨R,s2,s3,rfl,b2,b3,up⟩:=hP;rw[aa2,ac0,aa2,o.1,show((n:Int)+1 - 1).toNat=n by lia] at up;exact⟨_,rfl,_,rfl,q R up⟩
end
end bU
namespace bU
open PySem PySem.Spec L2 LB LD PyProof.Rows vA mh bW ME
def da(g:List Nat):Dt:= .tup (g.map nI)
def sj(G:List 137):Dt:= .lst (G.map da)
def lZ(p:Nat × Nat):Dt:= .tup [nI p.1,nI p.2]
def zw(W:List 178):Dt:= .lst (W.map lZ)
def kK(n:Nat)(L:Tb)(v:Nat):Dt:= .lst ((148).map fun u=>cZ (L v u))
def fh(n:Nat)(L:Tb):List Dt:=(120).map (kK n L)
def gN(n:Nat)(w:Tb):List Int:=(120).flatMap fun v=>(148).filterMap fun u=>w v u
theorem Di:x∈gN n w↔ ∃v u,1<=v/\v<=n/\u<=n/\w v u=some x:=by
 unfold gN;rw[List.mem_flatMap];constructor
 . rintro⟨v,hv,hx⟩
   obtain⟨u,hu,e⟩:=ap5.mp hx;obtain⟨v1,v2⟩:=br.mp hv;have hu:=af8.mp hu;exact⟨v,u,v1,v2,by lia,e⟩
 . rintro⟨v,u,v1,v2,hu,e⟩
   exact⟨v,br.mpr ⟨v1,v2⟩,ap5.mpr ⟨u,af8.mpr 101,e⟩⟩
def Pe:Dt->Bool
 | .aC=>false
 | _=>true
theorem zy(L:List Wo):(L.map cZ).filter Pe=(L.filterMap id).map Dt.int:=by
 induction L with
 | nil=>rfl
 | cons x xs ih=>
  cases x with
  | none=>exact ih
  | some v=>show Dt.int v::((xs.map cZ).filter Pe)=_;rw[ih];rfl
theorem BS{δ:List Sl}{A B:List Sl->Prop}(h:A δ):Jk δ (fun b δ3=>if b=true then A δ3 else B δ3):=by
 show if true=true then A δ else B δ
 rw[if_pos rfl];exact h
def IM:DN:=fun ds Q=> ∃(n:Nat) (w:Tb),ds= [kB n w]/\n<=60/\ ∀mn mx:Int,(∀v u x,1<=v->v<=n->u<=n->w v u=some x->mn<=x/\x<=mx)->mn<=mx->Q (.int ((n:Int)*(mx - mn)+1))
def Oq:Dt->List Dt
 | .tup ds=>ds.filter Pe
 | _=> []
theorem uP(n:Nat)(w:Tb):((120).map (eY n w)).flatMap Oq=(gN n w).map Dt.int:=by
 unfold gN;rw[List.flatMap_map,List.map_flatMap];congr 1
 funext v
 show((148).map fun o=>cZ (w v o)).filter Pe=_;have:=zy ((148).map fun o=>w v o);rw[ae1,List.filterMap_map] at this;exact this
theorem BM(h:n<=60)(w:Tb):(gN n w).length < sizeLine:=by
 have:(gN n w).length<=n*61:=by
  unfold gN;rw[List.length_flatMap];have: ∀l:List Nat,(l.map fun v=>((148).filterMap fun u=>w v u).length).sum<=l.length*61:=fun l=>by
   induction l with
   | nil=>simp
   | cons a l ih=>
    rw[ac2,ak5,ac1,as7];have:=List.length_filterMap_le (fun u=>w a u) 148;rw[ac0] at this;lia
  have:=this 120;rw[ae2] at this;exact this
 exact an1 (ac6 this (al9 _ h)) 105
section
variable{P:Program}{w:World}{K:PySem.W.Frag}{mg:Str->Option Value}{base:Heap}
theorem we(F:gC K "hook_for" "hook_for" gX f fd)(T:Txt mg):bh P w K mg base dY 1 f fd ["w"] (fg IM):=by
 refine sv F pN 158 (fun bK A outer s H E hr=>⟨_,(ag (tW 1 1 (N:= ["row","worth"]) (nt:=2) (js:= []) pN.nd ⟨rfl,by decide+kernel,by decide,rfl,by decide+kernel,(by show∀x∈(_:List 132),x.2=NameKind.free->(ab gX).names.lookup x.1=some .cell\/(ab gX).names.lookup x.1=some .free;decide+kernel)⟩ rfl
 (nZ (dv 0)) (fun _ _ _ _ _=>aA (i:=0) (show(["row","worth"]:List Str).Nodup by decide+kernel) rfl 102) bz aS 160 (fun _ _ _ _ _=>(nZ (dv 0))) (fun _ _ _ _ _=>aA (i:=1) (show(["row","worth"]:List Str).Nodup by decide+kernel) rfl 102) AB aS (fun _ _ _ _ _=>lU (qU (dv 1))) (fun _ _ _ _ _=>(dv 1)))
 (aD (aL (i4 (u6 (eR T.len 167) (dw (Mr rfl T.max 206) (Mq rfl T.min 206))) ao)))),fun ds Qd h=>?_⟩)
 . obtain⟨n,w,rfl,_⟩:=h;rfl
 . obtain⟨n,w,rfl,iH,q⟩:=h;refine⟨_,rfl,_,rfl,Oq,by rw[uP,aa2];exact BM iH w,fun d hd=>?_,?_⟩
   . obtain⟨v,_,rfl⟩:=ac9.mp hd;refine 144;refine BS ⟨_,rfl,_,rfl,Pe,id,fun e he=>?_,?_⟩
     . obtain⟨u,_,rfl⟩:=ac9.mp he;refine 144;cases e:w v u with
       | none=>exact⟨_,rfl,false,rfl,rfl,fun z=>by cases z⟩
       | some x=>exact⟨_,rfl,true,rfl,rfl,fun _=>⟨_,rfl,rfl⟩⟩
     . rw[at7];rfl
   . rw[uP];refine 144;have hl:((120).map (eY n w)).length=n:=by rw[aa2,ae2]
     have fin: ∀mx mn:Int,(∀x∈gN n w,mn<=x/\x<=mx)->mn<=mx->Qd (.int ((n:Int)*(mx - mn)+1)):=fun mx mn hb hm=>q mn mx (fun v u x v1 v2 hu e=>hb x (Di.mpr ⟨v,u,v1,v2,hu,e⟩)) hm;refine⟨_,rfl,_,.inr rfl,?_⟩;rw[hl];refine⟨_,rfl,gN n w,rfl,fun z=>⟨_,rfl,gN n w,rfl,fun _=>⟨_,_,rfl,rfl,_,_,rfl,rfl,.inl 205,_,_,rfl,rfl,fin 0 0 (fun x hx=>by rw[z] at hx;cases hx) (ae8 _)⟩,fun m hm _=>by rw[z] at hm;cases hm⟩,fun mx FK IK=>⟨_,rfl,gN n w,rfl,fun z=>(by rw[z] at FK;cases FK),fun mn Pz sY=>⟨_,_,rfl,rfl,_,_,rfl,rfl,.inl 205,_,_,rfl,rfl,fin mx mn (fun x hx=>⟨sY x hx,IK x hx⟩) (sY mx FK)⟩⟩⟩
theorem EU:LD.cutD (x::l) (some 1) none=l:=by
 have e1:HT.cT (l.length+1) 0 (some 1)=1:=by unfold HT.cT;simp
 have e2:HT.cT (l.length+1) (l.length+1) none=l.length+1:=rfl;unfold LD.cutD;rw[ac1,e1,e2,List.drop_succ_cons,List.drop_zero,al8,ak2]
def uF:DN:=fun ds Q=> ∃(n v:Nat) (w:Tb) (k:Int),ds= [eY n w v,.int k]/\n<=60/\Q (kK n (low k w) v)
theorem oZ(F:gC K "lowered_top" "lowered_top" gV f fd)(T:Txt mg):bh P w K mg base dY 1 f fd ["row","hook"] (fg uF):=by
 refine sv F jz 158 (fun bK A outer s H E hr=>⟨_,(ag (cm 2 jz.nd (gy (lB (de (dv 0) ao)) fU (dw (de (dv 0) ao) (dv 1))))
 (aD (aL (Mu (lX 378) (Ov.ev (Dc T.lst (aa (Qm (dv 0) (CN ao) CO) af))))))),fun ds Qd h=>?_⟩)
 . obtain⟨n,v,w,k,rfl,_⟩:=h;rfl
 . obtain⟨n,v,w,k,rfl,iH,q⟩:=h;have er:(148).map (fun o=>cZ (w v o))=cZ (w v 0)::(120).map fun o=>cZ (w v o):=by
    rw[List.range_eq_range',an0,ac2]
   have el:kK n (low k w) v= .lst (cZ ((w v 0).map (· - k))::(120).map fun o=>cZ (w v o)):=by
    unfold kK;rw[List.range_eq_range',an0,ac2];congr 2
    refine ae9 fun u hu=>?_;obtain⟨u1,_⟩:=br.mp hu;show cZ (if u=0 then _ else _)=_;rw[if_neg 101]
   rw[el] at q;unfold eY;rw[er];have hl: ∀a:Wo,([cZ a]++(120).map fun o=>cZ (w v o)).length<=61:=fun a=>by rw[ab8,aa2,ae2];show 1+n<=61;lia
   have c:=EU (x:=cZ (w v 0)) (l:=(120).map fun o=>cZ (w v o));have tail: ∀a:Wo,Qd (.lst (cZ a::(120).map fun o=>cZ (w v o)))->Qx (qo xM (dO (MB (oj (AV 2) xu))) (dO (dList (oj (Qs (AV 0) (Jl (dC (Dt.int 1))) QA) xu)))) {nx:=fun _=>Qd .aC,rt:=fun d _=>Qd d} [.im (.tup (cZ (w v 0)::(120).map fun o=>cZ (w v o))),.im (.int k),.im (cZ a)]:=fun a qa=>by
    refine⟨_,rfl,by show 1<=sizeLine;decide,_,rfl,_,rfl,_,rfl,_,.inr rfl,_,_,rfl,rfl,?_,?_⟩
    . rw[c];exact ac6 (by have:=hl a;rw[ab8] at this;exact this) 105
    . rw[c];exact qa
   cases e:w v 0 with
   | none=>
    rw[e] at q tail;refine⟨_,rfl,_,_,_,.inr rfl,rfl,aI (j:=0) rfl,true,rfl,cw 144⟩;exact tail none q
   | some x=>
    rw[e] at q tail;refine⟨_,rfl,_,_,_,.inr rfl,rfl,aI (j:=0) rfl,false,rfl,a9 ⟨_,rfl,_,_,_,.inr rfl,rfl,aI (j:=0) rfl,_,rfl,_,_,rfl,rfl,⟨_,rfl,rfl⟩,tail (some (x - k)) q⟩⟩
end
end bU
namespace LD
open PySem PySem.Spec L2 LB PyProof.Rows
structure Ng(K:PySem.W.Frag)(x qual:Str)(st:Stmt)(f:Addr)(fd:FuncData)(c P:Addr):Prop where
 ex: ∃(oc:Value) (od:Option Addr) (kV doc pm:Value) (an:Option Addr) (ct:Value) (zR:Array 410),
  fd=PySem.W.fnOf x qual (fq st) (bT st) (ab st) .none kV doc pm an (.ref c) ct/\K.lookup f=some ⟨oc,od,.func fd,zR⟩/\PySem.W.codeIn K (.ref c) qual=true
 tab:PySem.W.tabIn K x=some (c,P)
 hd:PySem.W.codeHdIn K c P=true
section
variable{P:Program}{w:World}{K:PySem.W.Frag}{mg:Str->Option Value}{base:Heap}
theorem US {x qual : Str} {st : Stmt} {k : Nat} (F : Ng K x qual st f fd c Pt) (sc : aH N ps (ab st)) (len : ∀ ds Qd, S ds Qd -> ds.length = ps.length) (eO : ∀ (A : Around) (outer : List Env) (s : Shared) (H : Hp) (E : XK), ck k (A.deeper (envOfC qual (ab st) s.heap.objs.size f (.ref c))) ->
   ∃T,zp (k9 dY P w K mg base N qual (ab st) f (.ref c) A outer s H E).Bq (bT st) T/\ ∀ds Qd,S ds Qd->T {nx:=fun _=>Qd .aC,rt:=fun d _=>Qd d} (ds.map .im++List.replicate 135 .no)):
  bh P w K mg base dY (k+1) f fd ps (fg S):=by
 obtain⟨oc,od,kV,doc,pm,an,ct,zR,rfl,lk,tf⟩:=F.ex;refine IZ lk tf sc 273 (fun A outer s H vs Q E hr h=>?_)
 . obtain⟨M,ds,Qd,al,r,q,_⟩:=h;rw[r.1];exact len ds Qd q
 . obtain⟨M,ds,Qd,al,r,q,kk⟩:=h;obtain⟨T,hT,hq⟩:=eO A outer s H E hr;refine⟨lS T,qG.Bq hT,[⟨H,fun _=>False,M,M,none⟩],M,List.replicate (ds.length+135) [],ds.map .im++List.replicate 135 .no,_,?_,?_,hq ds Qd q⟩
   . have e:L2.start N vs=vs.map some++List.replicate 135 none:=by unfold L2.start;rw[r.1,len ds Qd q]
     rw[e];refine iJ al r fun W hW=>?_;rw[aa9.mp hW];have bG:(List.replicate (ds.length+135) 176).flatten= []:=by simp
     refine 208;rw[ad2] at h2;split at h2
     . cases h2;exact absurd ha aa8
     . cases h2
   . have same : ∀ {M' α' H' σ' δ'}, aB [⟨H, fun _ => False, M, M, none⟩] M' α' H' σ' δ' -> aq H H' /\ ∀ a, M a -> M' a := fun E' => by
       have k:=E'.w _ (aa9.mpr rfl);exact⟨fun b o e=>k.bs b o e (fun z=>z),k.m0⟩
     refine 161
end
end LD
namespace L2
open PySem PySem.Spec PyProof.Rows
open AutoSeq1 (wpAny_loadPart')
theorem AL(t:Addr):Meets (Builtin.«enumerate.__new__» ⟨[.type "enumerate",.ref t],[]⟩) (AI t 0):=
 .of_wp fun prog w A R s ⟨⟨items,hT⟩,h⟩=>by
  obtain⟨hp,g,d,tk,os⟩:=s;have Aq:=sub_enumerate;obtain⟨⟨c,Ql,dt,sl⟩,hl,hc,n,hd⟩:=id hT;replace hc:c= .type "list":=hc
  replace hd:dt= .seq items n:=hd
  subst hc hd;wp_walk using af1 hl
  refine wpAny_stack_any fun st=>aa7 ?_;split
  . rename_i c _ _ _ _ _;cases 367 <;> (wp_walk using af1 hl,ai8 hT;exact⟨_,rfl,h⟩)
  . wp_walk using af1 hl,ai8 hT
    exact⟨_,rfl,h⟩
section
variable{X:Cx}{pos:Pos}
def Ls(K:PySem.W.Frag)(k:Nat)(ta:TA):TI:=fun σ H R=>ta σ H fun vs H1=> ∃a,vs= [.ref a]/\(∃xs,bL K H1 a xs)/\R (FA K a k) H1
theorem zO{x1}(hg:Gl X "enumerate")(hm:X.mg "enumerate"=none)(ha:PA X [e] t)(hs:starEach [e] X.env= [(false,eval e X.env)]:=by rfl):
  PI X 171 (.Call 241 [e] [] pos) (Ls X.K 0 t):=by
 intro pins s σ H R I h;refine Call_ (bV I hg hm boot_enumerate (ag7 (aU 156 fun us s1 eU=>?_) hs rfl));obtain⟨vs,H1,I1,r1,q1⟩:=eU;obtain⟨p,rfl,⟨xs,hq⟩,q⟩:=q1;obtain⟨u,rfl,ru⟩:=vals1 r1;cases ru;obtain⟨ai,rv,pt,hz⟩:=I1.list hq;exact iy au7 105 (F.typeCall_enumerate_1 _) (F.newCall_enumerate_1 _) (fun obj=>F.args_object_init_2 obj _) at0 (AL p) ⟨⟨_,pt.isList⟩,⟨_,ab4 _ rfl,rfl⟩,sD (k:=0) I1 q⟩
end
end L2
namespace LD
open PySem PySem.Spec L2 LB PyProof.Rows
section
variable{X:Cx}{tg e a b:Expr}{ta t:ba}{tA:fb}{p pos:Pos}
def HD(t:fb):qI:=fun δ Q=>t δ fun es δ'=> ∃ds,es= [.lst ds]/\Q (aX 0 ds) δ'
theorem uO{x1}(hm:X.mg "enumerate"=none)(ha:Av X [e] tA)(hg:Gl X "enumerate":=by rfl)(hs:starEach [e] X.env= [(false,eval e X.env)]:=by rfl):Iv X 171 (.Call 241 [e] [] pos) (HD tA):=PI.imp (zO hg hm ha hs) fun σ H R gk=>(by obtain⟨W,M,α,δ,Qd,E,q,k⟩:=gk;exact(
 ⟨W,M,α,δ,_,E,q,fun es δ' H' vs fG E1 c1 r1=>(by obtain⟨ds,e,q1⟩:=fG;exact(by
  subst e;obtain⟨x,ys,rfl,r2,r3⟩:=r1.aO;cases r3.eA;obtain⟨a,xs,rfl,ha,n,rr⟩:=r2.bO;exact⟨a,rfl,⟨xs,bL.of ha⟩,k _ _ _ _ q1 E1 c1 (BF ha n rr)⟩))⟩))
end
end LD
namespace bU
open PySem PySem.Spec L2 LB LD PyProof.Rows vA mh bW ME
theorem gr:(fh n L).length=n:=by unfold fh;rw[aa2,ae2]
theorem ye(v1:1<=v)(v2:v<=n):(fh n L)[v - 1]?=some (kK n L v):=by
 unfold fh;rw[aa6,aj3 101];show some _=some _;rw[show 1+1*(v - 1)=v by lia]
theorem yf(v1:1<=v)(v2:v<=n):ke (fh n L) ((v:Int) - 1)=some (kK n L v):=by
 rw[show(v:Int) - 1=((v - 1:Nat):Int) by lia];exact aI (ye v1 v2)
theorem EW{n v u:Nat}{L:Tb}(hu:u<=n):ke ((148).map fun u=>cZ (L v u)) (u:Int)=some (cZ (L v u)):=
 aI (by rw[aa6,af4 101];rfl)
theorem yY:aX 0 ((List.range m).map g)=(List.range m).map fun u=> .tup [nI u,g u]:=by
 unfold aX;apply ai1;intro i;rw[am0,aa6,aa6];by_cases h:i < m
 . rw[af4 h];rfl
 . rw[ad9 (by rw[ac0];lia)];rfl
theorem DG{S:List Nat}:inD (nI x) (S.map nI)=decide (x∈S):=by
 have:=mJ (v:=(x:Int)) (l:=S.map Int.ofNat);rw[ae1] at this;refine Eq.trans this (ak1.mpr ?_);rw[ac9];exact⟨fun⟨y,hy,e⟩=>by rw[show x=y from Int.ofNat.inj e.symm];exact hy,fun h=>⟨x,h,rfl⟩⟩
def kL(L:Tb)(S R:List Nat)(x:Int):Tb:=fun v u=>if v∈R/\u∉S then(L v u).map (· - x) else L v u
theorem Cq(v1:1<=v)(v2:v<=n)(h: ∀v',v'≠v->L' v'=L v'):(fh n L).set (v - 1) (kK n L' v)=fh n L':=by
 apply ai1;intro i;rw[aw0];by_cases c:v - 1=i
 . subst c;rw[if_pos rfl,if_pos (by rw[gr];lia),ye v1 v2]
 . rw[if_neg c];by_cases d:i < n
   . have e1:=ye (n:=n) (v:=i+1) (L:=L) 101 101;have e2:=ye (n:=n) (v:=i+1) (L:=L') 101 101;rw[al8] at e1 e2;rw[e1,e2];unfold kK;rw[h (i+1) 101]
   . rw[ad9 (by rw[gr];lia),ad9 (by rw[gr];lia)]
def tQ:Rn:=fun ds as Q=> ∃(n:Nat) (L:Tb) (S:List Nat) (x:Int),ds=fh n L/\as= [da S,.int x]/\n<=60/\S.Pairwise (· < ·)/\(∀v∈S,1<=v/\v<=n)/\Q (fh n (off L S x))
inductive TaI(a:Addr)(n:Nat)(L:Tb)(S:List Nat)(x:Int)(i:Nat)(δ:List Sl):Prop
 | mk (s3 s4:Sl) (e:δ= [sr a (fh n (kL L S (S.take i) x)),.im (da S),.im (.int x),s3,s4]) (b3:s3.bo=false) (b4:s4.bo=false)
theorem mK{S:List Nat}:(S.map nI).all cC=true:=by rw[List.all_map];exact ah9.mpr fun _ _=>rfl
def isE:Dt->Dt
 | .tup [.int u,.int w]=> .int w
 | _=> .aC
def J3(S:List Nat)(x:Int):Dt->Dt
 | .tup [.int u,.int w]=>if u.toNat∈S then .int w else .int (w - x)
 | _=> .aC
theorem BX{S:List Nat}{i v:Nat}(hv:S[i]?=some v):S.take (i+1)=S.take i++ [v]:=by rw[aq2,hv];rfl
theorem off_ne(hv:S[i]?=some v)(h:v'≠v):kL L S (S.take (i+1)) x v'=kL L S (S.take i) x v':=by
 funext u
 unfold kL;rw[BX hv];have:v'∈S.take i++ [v]↔v'∈S.take i:=by
  rw[af6];exact⟨fun z=>z.elim id fun z=>absurd (aa9.mp z) h,.inl⟩
 simp only [this]
theorem Gi{S:List Nat}(Cs:S.Pairwise (· < ·))(hv:S[i]?=some v):v∉S.take i:=fun z=>by
 obtain⟨hi,e⟩:=aa5.mp hv;obtain⟨j,hj,e2⟩:=ah2 z;rw[al6] at hj;rw[List.getElem_take] at e2;have:=al0.mp Cs j i 101 hi 101;lia
theorem F4{S:List Nat}(Cs:S.Pairwise (· < ·))(hv:S[i]?=some v):Dt.lst (((148).map fun u=>Dt.tup [nI u,cZ (kL L S (S.take i) x v u)]).map (J3 S x))=kK n (kL L S (S.take (i+1)) x) v:=by
 unfold kK;rw[ae1];congr 1
 refine ae9 fun u _=>?_;have h1:v∉S.take i:=Gi Cs hv;have h2:v∈S.take (i+1):=by rw[BX hv];simp
 show J3 S x (.tup [nI u,cZ (kL L S (S.take i) x v u)])=cZ (kL L S (S.take (i+1)) x v u);unfold kL;rw[if_neg fun z=>h1 z.1];cases e:L v u with
 | none=>
  split
  . rfl
  . rfl
 | some w=>
  show(if ((u:Int)).toNat∈S then Dt.int w else .int (w - x))=_;rw[ae5];by_cases c:u∈S
  . rw[if_pos c,if_neg fun z=>z.2 c];rfl
  . rw[if_neg c,if_pos ⟨h2,c⟩];rfl
section
variable{P:Program}{w:World}{K:PySem.W.Frag}{mg:Str->Option Value}{base:Heap}
theorem wb(F:gC K "take_off" "take_off" gU f fd)(T:Txt mg):bh P w K mg base dY 1 f fd ["left","group","best"] (Ce tQ):=by
 refine UR F kG (fun ds as Qd h=>?_) (fun bK A outer s H E hr=>⟨_,(aD (eE rfl (nZ (dv 1)) (dj 3 kG.nd)
 (ag (cm 4 kG.nd (Qp 0 (pv 0) (dw (dv 3) ao)))
 (aD (F9 0 (Ov.ev (cM (N:= ["on","worth","best","group"]) (nt:=2) (js:= [2,1]) ⟨rfl,by decide+kernel,by decide,rfl,by decide+kernel,(by show∀x∈(_:List 132),x.2=NameKind.free->(ab gU).names.lookup x.1=some .cell\/(ab gU).names.lookup x.1=some .free;decide+kernel)⟩ rfl (uO T.Me (aa (dv 4) af)) (fun _ _ _ _ _=>cU rfl (aF (aA (i:=0) (show(["on","worth","best","group"]:List Str).Nodup by decide+kernel) rfl 102) (aF (aA (i:=1) (show(["on","worth","best","group"]:List Str).Nodup by decide+kernel) rfl 102) bP))) bH aW 160 (fun _ _ _ _ _=>(gy (PW.pt (w_or (lB (dv 1)) (xW (B4 (dv 0) (dv 3))))) (dv 1) (dw (dv 1) (dv 2)))))) (pv 0) (dw (dv 3) ao)))) ag4)),fun a ds as Qd h=>?_⟩)
 . obtain⟨n,L,S,x,_,rfl,_⟩:=h;rfl
 . obtain⟨n,L,S,x,rfl,rfl,iH,Cs,mem,q⟩:=h;refine⟨_,rfl,_,rfl,?_⟩;refine bZ (TaI a n L S x) ⟨.no, .no,?_,rfl,rfl⟩ 193 235
   . have e : kL L S (S.take 0) x = L := by
       funext v u
       unfold kL;rw[ao6,if_neg fun z=>absurd z.1 aa8]
     rw[e];rfl
   . obtain⟨s3,s4,rfl,b3,b4⟩:=hP;have il:i < S.length:=by have:=(348).1;rw[aa2] at this;exact this
     obtain⟨v,hv⟩: ∃v,S[i]?=some v:=⟨_,aa1 il⟩
     rw[aa6,hv] at hi;cases hi;obtain⟨v1,v2⟩:=mem v (ac7 hv);refine⟨⟨_,rfl,b3⟩,?_⟩;refine⟨⟨_,_,rfl⟩,_,rfl,_,_,rfl,rfl,a,_,_,_,rfl,rfl,yf v1 v2,⟨_,rfl,b4⟩,?_⟩;refine⟨_,rfl,_,rfl,?_,fun _=>true,J3 S x,fun e he=>?_,?_⟩
     . unfold aX;rw[ap6,aa2,ac0];exact ac6 (show n+1<=61 by lia) 105
     . rw[yY] at he;obtain⟨u,hu,rfl⟩:=ac9.mp he;refine 163;cases ew:kL L S (S.take i) x v u with
       | none=>exact⟨_,rfl,true,rfl,cw ⟨_,rfl,rfl⟩⟩
       | some w=>
        refine⟨_,rfl,false,rfl,a9 ⟨_,rfl,_,rfl,⟨_,.inr rfl,rfl,mK,?_⟩⟩⟩;rw[DG];by_cases c:u∈S
        . rw[ad3 c];refine⟨true,rfl,cw 376⟩;show Dt.int w=if ((u:Int)).toNat∈S then _ else _
          rw[ae5,if_pos c]
        . rw[ad4 c];refine⟨false,rfl,a9 ⟨_,rfl,_,rfl,_,_,rfl,rfl,?_⟩⟩;show Dt.int (w - x)=if ((u:Int)).toNat∈S then _ else _
          rw[ae5,if_neg c]
     . refine⟨⟨_,_,rfl⟩,_,rfl,_,_,rfl,rfl,a,_,_,v - 1,rfl,rfl,?_,?_⟩
       . rw[gr];unfold uK;rw[if_pos 101,if_pos 101];congr 1;lia
       . refine qc _ ⟨.im (nI v),.im (kK n (kL L S (S.take i) x) v),?_,rfl,rfl⟩;rw[af9.mpr fun _ _=>rfl,yY,F4 Cs hv,<-Cq v1 v2 (fun v' hn=>off_ne hv hn)];rfl
   . obtain⟨s3,s4,rfl,b3,b4⟩:=hP;rw[aa2,ak2];exact⟨_,rfl,q⟩
end
theorem AA{n1 nt i j:Nat}{K:PySem.W.Frag}(h1:n1<=i:=by decide)(hi:i < nt:=by decide)(h2:n1<=j:=by decide)(hj:j < nt:=by decide):Bh n1 nt (AD K 2 (gG (cI i) (gG (cI j) wZ))):=fun v σ H Q zz=>(by
 obtain⟨a,xs,e,sq,l,v1,r1,e1,v2,r2,e2,e3,q⟩:=zz;exact⟨a,xs,e,sq,l,v1,r1,e1,v2,r2,e2,e3,q,by simp,fun k hk=>by rw[ab2 101,ab2 101]⟩)
def jK(n:Nat)(L:Tb)(S:List Nat)(v:Nat):List 178:=((148).filter fun u=>(L v u).isSome && decide (u∉S)).map fun u=>(v,u)
def jJ(n:Nat)(L:Tb)(S:List Nat):List 178:=S.flatMap (jK n L S)
theorem jP:(a,b)∈jJ n L S↔a∈S/\b<=n/\b∉S/\ ∃x,L a b=some x:=by
 unfold jJ jK;rw[List.mem_flatMap];constructor
 . rintro⟨v,hv,hx⟩
   obtain⟨u,hu,e⟩:=ac9.mp hx;cases e;obtain⟨h1,h2⟩:=ag8.mp hu;have h1:=af8.mp h1;rw[ak3,ai9] at h2;exact⟨hv,by lia,h2.2,av1.mp h2.1⟩
 . rintro⟨h1,h2,h3,x,h4⟩
   refine⟨a,h1,ac9.mpr ⟨b,ag8.mpr ⟨af8.mpr 101,?_⟩,rfl⟩⟩;rw[h4,ad3 h3];rfl
theorem nC{S:List Nat}(hn:n<=60)(hS:S.length<=60):(jJ n L S).length<=3660:=by
 unfold jJ;rw[List.length_flatMap];have: ∀l:List Nat,(l.map fun v=>(jK n L S v).length).sum<=l.length*61:=fun l=>by
  induction l with
  | nil=>simp
  | cons a l ih=>
   rw[ac2,ak5,ac1,as7];have:(jK n L S a).length<=n+1:=by
    unfold jK;rw[aa2];have:=aj7 (fun u=>(L a u).isSome && decide (u∉S)) 148;rwa [ac0] at this
   lia
 have:=this S;lia
def outF(n:Nat)(L:Tb)(S:List Nat):Dt->List Dt
 | .int v=>(jK n L S v.toNat).map lZ
 | _=> []
theorem ua{S:List Nat}:(S.map nI).flatMap (outF n L S)=(jJ n L S).map lZ:=by
 unfold jJ;rw[List.flatMap_map,List.map_flatMap];congr 1
def GH(S:List Nat):Dt->Bool
 | .tup [.int u,.int _]=>decide (u.toNat∉S)
 | _=>false
def ON(v:Nat):Dt->Dt
 | .tup [u,_]=> .tup [nI v,u]
 | _=> .aC
theorem GG:(((148).map fun u=>Dt.tup [nI u,cZ (L v u)]).filter (GH S)).map (ON v)=(jK n L S v).map lZ:=by
 unfold jK;rw[ar7,ae1,ae1];have:(GH S ∘ fun u=>Dt.tup [nI u,cZ (L v u)])=fun u=>(L v u).isSome && decide (u∉S):=by
  funext u
  show GH S (.tup [nI u,cZ (L v u)])=_;cases L v u with
  | none=>rfl
  | some x=>
   show decide (((u:Int)).toNat∉S)=_;rw[ae5];simp
 rw[this];rfl
def vm:DN:=fun ds Q=> ∃(n:Nat) (L:Tb) (S:List Nat),ds= [.lst (fh n L),da S]/\n<=60/\S.length<=60/\(∀v∈S,1<=v/\v<=n)/\((∀v∈S,∀u,u<=n->u∉S->L v u=none)->Q .aC)/\
 ∀a b x,a∈S->b<=n->b∉S->L a b=some x->(∀v∈S,∀u,u<=n->u∉S-> ∀y,L v u=some y->y<=x)->Q (lZ (a,b))
section
variable{P:Program}{w:World}{K:PySem.W.Frag}{mg:Str->Option Value}{base:Heap}
theorem wm(F:Ng K "best_way" "best_way" gZ f fd c Pt)(T:Txt mg):bh P w K mg base dY 1 f fd ["left","group"] (fg vm):=by
 refine US F pO 158 (fun A outer s H E hr=>⟨_,(ag (tW 2 1 (N:= ["word","on","worth","left","group"]) (nt:=3) (js:= [0,1]) pO.nd ⟨rfl,by decide+kernel,by decide,rfl,by decide+kernel,(by show∀x∈(_:List 132),x.2=NameKind.free->(ab gZ).names.lookup x.1=some .cell\/(ab gZ).names.lookup x.1=some .free;decide+kernel)⟩ rfl
 (nZ (dv 1)) (fun _ _ _ _ _=>aA (i:=0) 222 rfl 102) bz aS 160 (fun _ _ _ _ _=>(uO T.Me (aa (de (dv 3) (dw (dv 0) ao)) af))) (fun _ _ _ _ _=>cU rfl (aF (aA (i:=1) 222 rfl 102) (aF (aA (i:=2) 222 rfl 102) bP))) AA aW (fun _ _ _ _ _=>lU (PW.pt (w_and (qU (dv 2)) (qR (F2 (dv 1) (dv 4)))))) (fun _ _ _ _ _=>(iu (aa (dv 0) 206))))
 (aD (aL (ED (x:="best_way") (c:=c) (P:=Pt) (p:="way") (caps:= ["left"]) (js:= [0]) (dv 2) ⟨rfl,rfl,rfl,by decide+kernel,rfl,rfl,(fun y hy=>by rw[aa9.mp hy];rfl),(by repeat (first | exact vV | refine rp 102 ?_ | refine rq 186 ?_)),fun _ _ _ _ _ _=>rfl⟩ rfl hr 105 F.tab F.hd rfl rfl rfl (fun _ _ _ _ _ _=>(de (de (dv 1) (dw (de (dv 0) ao) ao)) (de (dv 0) ao))) rfl T.max)))),fun ds Qd h=>?_⟩)
 . obtain⟨n,L,S,rfl,_⟩:=h;rfl
 . obtain⟨n,L,S,rfl,iH,X7,mem,q1,q2⟩:=h;refine⟨_,rfl,_,rfl,outF n L S,by rw[ua,aa2];exact an1 (nC iH X7) 105,fun d hd=>?_,?_⟩
   . obtain⟨v,hv,rfl⟩:=ac9.mp hd;obtain⟨v1,v2⟩:=mem v hv;refine 144;refine BS ⟨_,rfl,_,rfl,_,_,rfl,rfl,_,_,_, .inl rfl,rfl,yf v1 v2,_,rfl,GH S,ON v,fun e he=>?_,?_⟩
     . rw[yY] at he;obtain⟨u,hu,rfl⟩:=ac9.mp he;refine⟨_,_,rfl,⟨_,rfl,rfl⟩,⟨_,rfl,rfl⟩,?_⟩;cases ew:L v u with
       | none=>exact⟨_,rfl,false,rfl,a9 ⟨rfl,fun z=>by cases z⟩⟩
       | some x=>
        refine⟨_,rfl,true,rfl,cw ⟨_,rfl,_,rfl,_,.inr rfl,rfl,mK,?_⟩⟩;rw[if_pos rfl,DG];refine⟨_,rfl,?_,fun _=>⟨_,rfl,_,rfl,by show 2<=sizeLine;decide,rfl⟩⟩;show _=decide (((u:Int)).toNat∉S);rw[ae5];simp
     . rw[yY,GG];show(jK n L S ((v:Int)).toNat).map lZ=_;rw[ae5]
   . rw[ua];refine 144;refine⟨_,rfl,(jJ n L S).map lZ,fun i=>(((jJ n L S)[i]?).bind fun p=>L p.1 p.2).getD 0,rfl,fun i d' hd=>?_,fun hn=>q1 fun v hv u hu hs=>?_,fun i d' hd hm=>?_⟩
     . rw[aa6] at hd;obtain⟨p,hp,rfl⟩:=ae6.mp hd;obtain⟨a,b⟩:=p;obtain⟨a1,a2,a3,x,ex⟩:=jP.mp (ac7 hp);obtain⟨v1,v2⟩:=mem a a1;refine⟨_,rfl,_,rfl,_,_,_,.inr rfl,rfl,aI (j:=0) rfl,_,_,rfl,rfl,_,_,_,.inl rfl,rfl,yf v1 v2,_,rfl,_,_,_,.inr rfl,rfl,aI (j:=1) rfl,_,_,_,.inl rfl,rfl,EW a2,?_⟩;show cZ (L a b)=Dt.int ((((jJ n L S)[i]?).bind fun p=>L p.1 p.2).getD 0);rw[hp];show cZ (L a b)=Dt.int ((L a b).getD 0);rw[ex];rfl
     . cases e:L v u with
       | none=>rfl
       | some x=>
        have:=jP.mpr ⟨hv,hu,hs,x,e⟩;rw[List.map_eq_nil_iff.mp hn] at this;cases this
     . rw[aa6] at hd;obtain⟨p,hp,rfl⟩:=ae6.mp hd;obtain⟨a,b⟩:=p;obtain⟨a1,a2,a3,x,ex⟩:=jP.mp (ac7 hp);refine q2 a b x a1 a2 a3 ex fun v hv u hu hs y ey=>?_;obtain⟨j,hj⟩:=List.getElem?_of_mem (jP.mpr ⟨hv,hu,hs,y,ey⟩);have:=(hm j (by rw[aa2];exact(aa5.mp hj).1)).1;rw[hp,hj,Option.bind_some,Option.bind_some,ex,ey] at this;exact this
end
theorem DF{a b:Nat}:((Sum.inl (a:Int):Key)=Sum.inl (b:Int))↔a=b:=⟨fun z=>by have:=Sum.inl.inj z;lia,fun z=>by rw[z]⟩
def DK(G:List 137)(i j:Nat)(ks:List Key)(vs:List Dt):Prop:=ks.length=vs.length/\ ∀v:Nat,cN ks vs (.inl (v:Int))=if v=0 then some (nI 0) else if v∈(286).take j then some (nI ((286).headD 0)) else(la G v i).map fun c=>nI ((gi G c).headD 0)
theorem Ep(G:List 137):DK G 0 0 [.inl 0] [nI 0]:=⟨rfl,fun v=>by
 rw[cN];by_cases c:v=0
 . subst c;exact(if_pos rfl).trans (if_pos rfl).symm
 . rw[if_neg c,ao6,if_neg aa8];exact if_neg fun z=>c (DF (a:=0).mp z).symm⟩
theorem Mm(h:DK G i j ks vs)(hx:(286)[j]?=some x)(x1:1<=x):DK G i (j+1) (jC ks (.inl (x:Int))) (lF ks vs (.inl (x:Int)) (nI ((286).headD 0))):=by
 obtain⟨l,h⟩:=h;refine⟨Gr l,fun v=>?_⟩;rw[BN l,h v,aq2,hx];by_cases c:x=v
 . subst c;rw[if_pos rfl,if_neg 101,if_pos (af6.mpr (.inr 112))]
 . rw[if_neg (fun z=>c (DF.mp z))];by_cases d:v=0
   . rw[if_pos d,if_pos d]
   . rw[if_neg d,if_neg d];have:(v∈(286).take j++(some x).toList)↔v∈(286).take j:=by
      rw[af6];exact⟨fun z=>z.elim id fun z=>absurd (by simpa using z) (Ne.symm c),.inl⟩
     simp only [this]
theorem Hk(h:DK G i (286).length ks vs):DK G (i+1) 0 ks vs:=by
 refine⟨h.1,fun v=>?_⟩;rw[h.2 v,ak2,ao6,if_neg (fun z:v∈ []=>absurd z aa8)];by_cases d:v=0
 . rw[if_pos d,if_pos d]
 . rw[if_neg d,if_neg d];show _=Option.map _ (if v∈gi G i then some i else la G v i);by_cases c:v∈gi G i
   . rw[if_pos c,if_pos c];rfl
   . rw[if_neg c,if_neg c]
def JB(n:Nat)(G:List 137)(ks:List Key)(vs:List Dt):Prop:= ∀v:Nat,(v=0\/1<=v/\v<=n)->cN ks vs (.inl (v:Int))=some (nI 331)
theorem Mn(L:dN n G W)(h:DK G G.length 0 ks vs):JB n G ks vs:=fun v hv=>by
 rw[h.2 v,ao6,if_neg (fun z:v∈ []=>absurd z aa8)];by_cases d:v=0
 . rw[if_pos d,d,L.ND (aa4 _)]
 . rw[if_neg d];obtain⟨v1,v2⟩:=hv.resolve_left d;obtain⟨c,e⟩:=L.last v1 v2;rw[e,di e];rfl
theorem yh: ∀{l:List Nat} {a:Nat},l.Pairwise (· < ·)->(∀v∈l,a<=v/\v<=n)->a<=n+1->l.length+a<=n+1
 | [],a,_,_,h=>by rw[an8];lia
 | x::l,a,p,h,ha=>by
  obtain⟨p1,p2⟩:=ap4.mp p;obtain⟨x1,x2⟩:=h x ac4;have:=yh (n:=n) (a:=x+1) p2 (fun v hv=>⟨p1 v hv,(h v (ab6 _ hv)).2⟩) 101;rw[ac1];lia
theorem sk(L:dN n G W)(hi:i < G.length):(286).length<=n:=by
 have:=yh (n:=n) (a:=1) (L.Cs i hi) (L.mem i hi) 101;lia
theorem D3{G:List 137}(hi:i < G.length):(G.map da)[i]?=some (da 286):=by
 rw[aa6,aa1 hi];unfold gi;rw[ab7,aa1 hi];rfl
theorem yS(h:g≠ []):(g.map nI)[0]?=some (nI (g.headD 0)):=by
 cases g with
 | nil=>exact absurd rfl h
 | cons a l=>rfl
def DW:DN:=fun ds Q=> ∃(n:Nat) (G:List 137) (W:List 178),ds= [sj G]/\dN n G W/\n<=60/\G.length<=4000/\ ∀ks vs,JB n G ks vs->Q (.jn ks vs)
inductive HoI(G:List 137)(i:Nat)(δ:List Sl):Prop
 | mk (ks:List Key) (vs:List Dt) (s2 s3:Sl) (e:δ= [.im (sj G),.dk ks vs,s2,s3]) (b2:s2.bo=false) (b3:s3.bo=false) (h:DK G i 0 ks vs) (l:ks.length<=1+i*60)
inductive HoJ(G:List 137)(i j:Nat)(δ:List Sl):Prop
 | mk (ks:List Key) (vs:List Dt) (s3:Sl) (e:δ= [.im (sj G),.dk ks vs,.im (da 286),s3]) (b3:s3.bo=false) (h:DK G i j ks vs) (l:ks.length<=1+i*60+j)
section
variable{P:Program}{w:World}{K:PySem.W.Frag}{mg:Str->Option Value}{base:Heap}
theorem wg(F:gC K "heads_of" "heads_of" nc f fd)(T:Txt mg):bh P w K mg base dY 1 f fd ["groups"] (fg DW):=by
 refine sv F iD 158 (fun bK A outer s H E hr=>⟨_,(@ag _ _ _ _ _ (F8 1 iD.nd ao ao (hd:=yz (nv ao ao yu) rfl rfl 112 105))
 (@ag _ _ _ _ _ (eE rfl (gs (dv 0)) (dj 2 iD.nd)
 (aD (eE rfl (nZ (dv 2)) (dj 3 iD.nd)
 (aD (J9 1 (lM hr) (pv 1) (dv 3) (de (dv 2) ao))) ag4)) ag4)
 (aD (J8 1 (aL (dv 1)))))),fun ds Qd h=>?_⟩)
 . obtain⟨n,G,W,rfl,_⟩:=h;rfl
 . obtain⟨n,G,W,rfl,L,iH,gl,q⟩:=h;refine⟨_,rfl,⟨_,rfl,rfl⟩,?_⟩;refine⟨_,rfl,_,rfl,?_⟩;refine bZ (HoI G) ⟨_,_, .no, .no,rfl,rfl,rfl,Ep G,by decide⟩ 193 235
   . obtain⟨ks,vs,s2,s3,rfl,b2,b3,h,l⟩:=hP;have il:i < G.length:=by have:=(348).1;rw[aa2] at this;exact this
     rw[D3 il] at hi;cases hi;refine⟨⟨_,rfl,b2⟩,_,rfl,_,rfl,?_⟩;refine bZ (HoJ G i) ⟨ks,vs,s3,rfl,b3,h,by lia⟩ (fun j d δ hj hP Δ2 sY wO=>?_) 235
     . obtain⟨ks,vs,s3,rfl,b3,h,l⟩:=hP;have jl:j < (286).length:=by have:=(aa5.mp hj).1;rw[aa2] at this;exact this
       obtain⟨x,hx⟩: ∃x,(286)[j]?=some x:=⟨_,aa1 jl⟩
       rw[aa6,hx] at hj;cases hj;have x1:=(L.mem i il x (ac7 hx)).1;have Zj:=sk L il;refine⟨⟨_,rfl,b3⟩,_,rfl,_,_,_,.inr rfl,rfl,aI (j:=0) (yS (L.ne i il)),⟨_,_,rfl⟩,_,rfl,_,_,_,rfl,rfl,?_,?_⟩
       . exact an1 l (ac8 (show 1+i*60+j < 1+4000*60+60 by lia) 105)
       . refine sY _ ⟨_,_, .im (nI x),rfl,rfl,Mm h hx x1,?_⟩;unfold jC;split
         . lia
         . rw[ab8];show ks.length+1<=_;lia
     . obtain⟨ks,vs,s3,rfl,b3,h,l⟩:=hP;rw[aa2] at h l;have Zj:=sk L il;exact qc _ ⟨ks,vs,_,s3,rfl,rfl,b3,Hk h,by lia⟩
   . obtain⟨ks,vs,s2,s3,rfl,b2,b3,h,l⟩:=hP;rw[aa2] at h;exact⟨_,_,rfl,_,rfl,q ks vs (Mn L h)⟩
end
def lh(G:List 137)(x:Nat):Nat->Option Nat
 | 0=>none
 | k+1=>if (gi G k).headD 0=x then some k else lh G x k
theorem ID: ∀{k:Nat},c < k->(gi G c).headD 0=x->(∀d,c < d->d < k->(gi G d).headD 0≠x)->lh G x k=some c
 | 0,h,_,_=>by lia
 | k+1,h,hv,hd=>by
  unfold lh;by_cases z:c=k
  . subst z;rw[if_pos hv]
  . rw[if_neg (hd k 101 101)];exact ID 101 hv fun d h1 h2=>hd d h1 101
def KY(G:List 137)(W:List 178)(i x:Nat):Option Nat:=if hd G x G.length=x then(lh G x i).map fun c=>hd G (wi W c).2 G.length else none
def v9(n:Nat)(G:List 137)(W:List 178)(i:Nat):List Dt:=(120).map fun x=>oD (KY G W i x)
theorem rQ:(v9 n G W i).length=n:=by unfold v9;rw[aa2,ae2]
theorem CW(x1:1<=x)(x2:x<=n):(v9 n G W i)[x - 1]?=some (oD (KY G W i x)):=by
 unfold v9;rw[aa6,aj3 101];show some _=some _;rw[show 1+1*(x - 1)=x by lia]
theorem CV:v9 n G W 0=List.replicate n .aC:=by
 unfold v9;rw[as9];refine⟨by rw[aa2,ae2],fun b hb=>?_⟩;obtain⟨x,_,rfl⟩:=ac9.mp hb;unfold KY lh;split <;> rfl
theorem GK(h:hd G ((286).headD 0) G.length≠(286).headD 0):v9 n G W (i+1)=v9 n G W i:=by
 unfold v9;refine ae9 fun x _=>?_;unfold KY;by_cases c:hd G x G.length=x
 . rw[if_pos c,if_pos c,lh,if_neg fun z=>h (by rw[z];exact c)]
 . rw[if_neg c,if_neg c]
theorem KQ(x1:1<=(286).headD 0)(x2:(286).headD 0<=n)(h:hd G ((286).headD 0) G.length=(286).headD 0):
  (v9 n G W i).set ((286).headD 0 - 1) (nI (hd G (wi W i).2 G.length))=v9 n G W (i+1):=by
 apply ai1;intro j;rw[aw0];by_cases c:(286).headD 0 - 1=j
 . subst c;rw[if_pos rfl,if_pos (by rw[rQ];lia),CW x1 x2];unfold KY;rw[if_pos h,lh,if_pos rfl];rfl
 . rw[if_neg c];by_cases d:j < n
   . have e1:=CW (n:=n) (G:=G) (W:=W) (i:=i) (x:=j+1) 101 101;have e2:=CW (n:=n) (G:=G) (W:=W) (i:=i+1) (x:=j+1) 101 101;rw[al8] at e1 e2;rw[e1,e2];unfold KY;by_cases f:hd G (j+1) G.length=j+1
     . rw[if_pos f,if_pos f,lh,if_neg fun z=>by lia]
     . rw[if_neg f,if_neg f]
   . rw[ad9 (by rw[rQ];lia),ad9 (by rw[rQ];lia)]
theorem KR(L:dN n G W):v9 n G W G.length=(180).map oD:=by
 unfold v9 aM;rw[ae1];refine ae9 fun x hx=>?_;obtain⟨x1,x2⟩:=br.mp hx;show oD _=oD _;congr 1
 unfold KY Nr;by_cases c:hd G x G.length=x
 . rw[if_pos c,if_pos c];obtain⟨k,e⟩:=L.last x1 x2;obtain⟨k1,k2,k3⟩:=aN e;rw[e,ID k1 (by rw[<-di e];exact c) fun d d1 d2 z=>k3 d d1 d2 (by rw[<-z];exact head_mem (L.ne d d2))]
 . rw[if_neg c,if_neg c]
def Rt:Dt->Int
 | .int i=>i
 | _=>0
def Ou(n:Nat)(G:List 137):Dt->Dt
 | .lst ds=>da (df n G (ds.map Rt))
 | _=> .aC
def inR(G:List 137)(L:List Int):Dt->Bool
 | .int v=>decide ((hd G v.toNat G.length:Int)∈L)
 | _=>false
theorem D1:(((335).filter (inR G L)).map id)=(df n G L).map nI:=by
 have e:(340).map (fun k=>Dt.int (1+(k:Nat)))=(120).map nI:=by
  rw[av2,ae1];refine ae9 fun k _=>?_;show Dt.int _=Dt.int _;congr 1
 rw[e,at7,ar7];unfold df;congr 1
theorem Hf:eq2 (nI x) (nI y)=some (decide (x=y)):=by
 show some (decide ((x:Int)=(y:Int)))=_;congr 1
 exact ak1.mpr Int.natCast_inj
theorem JL{G:List 137}{W:List 178}(h:(ez (G.map da) (W.map lZ))[i]?=some d):i < G.length/\i < W.length/\d= .tup [da 286,lZ (wi W i)]:=by
 unfold ez at h;obtain⟨hi,e⟩:=aa5.mp h;rw[am5,aa2,aa2] at hi;have h1:i < G.length:=by lia
 have h2:i < W.length:=by lia
 refine⟨h1,h2,?_⟩;rw[<-e,List.getElem_zipWith,aq8,aq8];unfold gi wi;rw[ab7,aa1 h1,ab7,aa1 h2];rfl
def En:DN:=fun ds Q=> ∃(n:Nat) (G:List 137) (W:List 178),ds= [sj G,zw W,nI n]/\dN n G W/\W.length=G.length/\n<=60/\G.length<=4000/\ ∀R,pB 180 n R->Q (.lst (R.map fun r=>da (df n G r)))
inductive DrI(n:Nat)(G:List 137)(W:List 178)(ks:List Key)(vs:List Dt)(i:Nat)(δ:List Sl):Prop
 | mk (s5 s6:Sl) (e:δ= [.im (sj G),.im (zw W),.im (nI n),.im (.jn ks vs),.ow (v9 n G W i),s5,s6]) (b5:s5.bo=false) (b6:s6.bo=false)
section
variable{P:Program}{w:World}{K:PySem.W.Frag}{mg:Str->Option Value}{base:Heap}
theorem C5(F:gC K "drawn_together" "drawn_together" bf f fd)(T:Txt mg)(Fv:iL P w K mg base "heads_of" 1 ["groups"] (fg DW))(Nb:iL P w K mg base "rings" 2 ["ons"] (fg V8)):bh P w K mg base dY 3 f fd ["groups","ways","many"] (fg En):=by
 refine sv F cR 158 (fun bK A outer s H E hr=>⟨_,(ag (cm 3 cR.nd (cJ Fv (hr.mono 105) 167))
 (ag (rB 4 cR.nd (N:= ["word"]) (nt:=1) (js:= []) ⟨rfl,by decide+kernel,by decide,rfl,by decide+kernel,(by show∀x∈(_:List 132),x.2=NameKind.free->(ab bf).names.lookup x.1=some .cell\/(ab bf).names.lookup x.1=some .free;decide+kernel)⟩ rfl (jm T.tZ 378) (fun _ _ _ _ _=>aA (i:=0) (show(["word"]:List Str).Nodup by decide+kernel) rfl 102) bz aS 160 (fun _ _ _ _ _=>fU))
 (ag (eE rfl 198 (LY 5 6 rfl cR.nd)
 (aD (dy (qW (xr (lM hr) (dv 3) (de (dv 5) ao)) (de (dv 5) ao))
 (aD (Cn 4 (xr (lM hr) (dv 3) (de (dv 6) ao)) (pv 4) (dw (de (dv 5) ao) ao)))
 bF)) ag4)
 (aD (aL (Ov.ev (cM (N:= ["ring","many","heads"]) (nt:=1) (js:= [2,3]) ⟨rfl,by decide+kernel,by decide,rfl,by decide+kernel,(by show∀x∈(_:List 132),x.2=NameKind.free->(ab bf).names.lookup x.1=some .cell\/(ab bf).names.lookup x.1=some .free;decide+kernel)⟩ rfl (gs (cJ Nb (hr.mono 105) (aa (xo 4 T.tup (pv 4)) af))) (fun _ _ _ _ _=>aA (i:=0) (show(["ring","many","heads"]:List Str).Nodup by decide+kernel) rfl 102) bz aS 160 (fun _ _ _ _ _=>(mM T.tup (aa (Ov.ev (cM (N:= ["word","ring","heads"]) (nt:=1) (js:= [0,2]) ⟨rfl,by decide+kernel,by decide,rfl,by decide+kernel,(by repeat (first | exact vV | refine rp 102 ?_ | refine rq 186 ?_))⟩ rfl (n4 T.tZ (aa ao (aa (i4 (dv 1) ao) af))) (fun _ _ _ _ _=>aA (i:=0) (show(["word","ring","heads"]:List Str).Nodup by decide+kernel) rfl 102) bz aS (fun _ _ _ _ _=>lU (B4 (xr (lM hr) (dv 2) (dv 0)) (dv 1))) (fun _ _ _ _ _=>(dv 0)))) af)))))))))),fun ds Qd h=>?_⟩)
 . obtain⟨n,G,W,rfl,_⟩:=h;rfl
 . obtain⟨n,G,W,rfl,L,full,iH,gl,q⟩:=h;refine⟨_,rfl,n,G,W,rfl,L,iH,gl,fun ks vs hh=>144⟩;refine 319;refine⟨by rw[aa2,ac0];exact ac6 (show((n:Int)).toNat<=60 by lia) 105,fun _=>true,fun _=> .aC,fun e he=>⟨⟨_,rfl,rfl⟩,rfl,fun _=>rfl⟩,?_⟩;have e0:(((List.range ((n:Int)).toNat).map fun k=>Dt.int (0+(k:Nat))).filter fun _=>true).map (fun _=>Dt.aC)=v9 n G W 0:=by
    rw[af9.mpr fun _ _=>rfl,ae1,CV,as9];refine⟨by rw[aa2,ac0];lia,fun b hb=>?_⟩;obtain⟨x,_,rfl⟩:=ac9.mp hb;rfl
   rw[e0];refine 144;refine⟨_,rfl,_,rfl,false,false,_,_,rfl,?_⟩;refine bZ (DrI n G W ks vs) ⟨.no,.no,rfl,rfl,rfl⟩ 193 235
   . obtain⟨s5,s6,rfl,b5,b6⟩:=hP;obtain⟨iG,iW,rfl⟩:=JL hi;obtain⟨x1,x2⟩:=L.mem i iG _ (head_mem (L.ne i iG));obtain⟨_,_,y2⟩:=L.way i iW;have hx:=yS (L.ne i iG);refine⟨_,_,rfl,⟨_,rfl,b5⟩,⟨_,rfl,b6⟩,?_⟩;refine⟨_,rfl,_,rfl,_,_,_, .inr rfl,rfl,aI (j:=0) hx,_,_,_,_,rfl,rfl,hh _ (.inr ⟨x1,x2⟩),_,rfl,_,_,_, .inr rfl,rfl,aI (j:=0) hx,_,Hf,_,rfl,?_⟩;by_cases c:hd G ((286).headD 0) G.length=(286).headD 0
     . refine nW (ad3 c) ⟨_,rfl,_,rfl,_,_,_, .inr rfl,rfl,aI (j:=1) rfl,_,_,_,_,rfl,rfl,hh _ (show(wi W i).2=0\/1<=(wi W i).2/\(wi W i).2<=n by lia),⟨_,rfl⟩,_,rfl,_,_,_, .inr rfl,rfl,aI (j:=0) hx,_,_,rfl,rfl,_,_,(286).headD 0 - 1,rfl,rfl,?_,qc _ ⟨.im (da 286), .im (lZ (wi W i)),?_,rfl,rfl⟩⟩
       . rw[rQ];unfold uK;rw[if_pos 101,if_pos 101];congr 1;lia
       . rw[<-KQ x1 x2 c];rfl
     . refine o4 (fun z=>c (ad6 z)) (qc _ ⟨.im (da 286),.im (lZ (wi W i)),?_,rfl,rfl⟩);rw[GK c];rfl
   . obtain⟨s5,s6,rfl,b5,b6⟩:=hP;have zl:(ez (G.map da) (W.map lZ)).length=G.length:=by unfold ez;rw[am5,aa2,aa2];lia
     rw[zl,KR L];refine⟨_,rfl,n,aM n G W,rfl,rP L full,iH,fun R up=>?_⟩;have rl:=up.len;refine⟨_,rfl,by rw[aa2];exact ac6 (show R.length<=60 by lia) 105,fun _=>true,Ou n G,fun e he=>?_,?_⟩
     . obtain⟨r,_,rfl⟩:=ac9.mp he;have er:(r.map Dt.int).map Rt=r:=by rw[ae1];exact at7 _
       refine⟨⟨_,rfl,rfl⟩,rfl,fun _=>?_⟩;have e1:((n:Int)+1 - 1).toNat=n:=by lia
       refine⟨_,rfl,_,_,rfl,rfl,_,_,rfl,by lia,by rw[aa2,ac0,e1];exact ac6 iH 105,inR G r,id,fun e he=>?_,?_⟩
       . rw[e1] at he;obtain⟨k,hk,rfl⟩:=ac9.mp he;have hk:=af8.mp hk;have ek:(1:Int)+(k:Nat)=((k+1:Nat):Int):=by lia
         rw[ek];refine 144;refine⟨_,rfl,_,rfl,_,_,_,_,rfl,rfl,hh (k+1) (.inr 205),_,rfl,_,.inl rfl,rfl,by rw[List.all_map];exact ah9.mpr fun _ _=>rfl,?_⟩;rw[mJ];exact⟨_,rfl,rfl,fun _=>⟨_,rfl,rfl⟩⟩
       . rw[e1,D1];refine⟨_,.inl rfl,?_⟩;show da (df n G r)=da (df n G ((r.map Dt.int).map Rt));rw[er]
     . rw[af9.mpr fun _ _=>rfl,ae1];have:=q R up;refine Eq.mp (ai5 (fun l=>Qd (.lst l)) (ae9 fun r _=>?_)) this;show da (df n G r)=da (df n G ((r.map Dt.int).map Rt));rw[ae1];exact ai5 (fun z=>da (df n G z)) (at7 r).symm
end
def Pl(s:Sl):Prop:=s= .no\/ ∃d,s= .im d
theorem Pl.nb(h:Pl s):s.bo=false:=by rcases h with rfl | ⟨_,rfl⟩ <;> rfl
theorem D7(p:Pl s)(h:vB δ δ0):vB (s::δ) (s::δ0):=by
 rcases p with rfl | ⟨_,rfl⟩
 . exact .no h
 . exact .im h
theorem CF:Pl (.im d):= .inr ⟨_,rfl⟩
theorem L4:Bw (lZ p):= .tup fun d hd=>by
 rcases ad1.mp hd with rfl | hd
 . exact .int _
 . cases aa9.mp hd;exact .int _
theorem He:Bw (da g):= .tup fun d hd=>by
 obtain⟨x,_,rfl⟩:=ac9.mp hd;exact .int _
theorem zK{G N:List 137}{W:List 178}(wl:W.length<=G.length)(p:zk n w G W B L):zk n w (G++N) W B L:=by
 refine⟨p.bl,p.aC,p.BW,fun i hi=>?_,p.HM,fun g hg=>?_⟩
 . rw[bI 101];exact p.neg i hi
 . rw[p.sum g hg];congr 1
   refine mZ fun i hi=>?_;rw[bI 101]
def rT(n:Nat)(G:List 137)(W:List 178):Nat:=(heads n G).length*(n+1)+(G.length - W.length)
theorem Ad{G:List 137}{W:List 178}(h:W.length < G.length):rT n G (W++ [p]) < rT n G W:=by
 unfold rT;rw[ab8];show _+(G.length - (W.length+1)) < _;lia
theorem Cr(h:dN n G W)(full:W.length=G.length)(up:pB 180 n R):
  rT n 113 W<=rT n G W/\(113).length+(heads n 113).length*n<=G.length+(heads n G).length*n:=by
 by_cases c:R= []
 . subst c;rw[au5,ah8];exact⟨aa4 _,aa4 _⟩
 . have f:=Qc h full up c;have rl:=up.len;unfold rT;generalize (heads n 113).length=a at f ⊢;generalize (heads n G).length=b at f ⊢;rw[ab8,aa2];have e1:(a+1)*(n+1)<=b*(n+1):=al9 _ f;have e2:(a+1)*n<=b*n:=al9 _ f;rw[as7] at e1 e2;lia
theorem CU:((340).map fun k=>Dt.tup [.int (1+(k:Nat))])=(ones n).map da:=by
 unfold ones;rw[av2,ae1,ae1];refine ae9 fun k _=>?_;show Dt.tup _=Dt.tup _;rfl
def Jb:VT:=fun ds Q=> ∃(n:Nat) (w:Tb),ds=fh n w/\1<=n/\n<=60/\
 (∀G W B L,dN n G W->zk n w G W B L->W.length < G.length->(∀v∈gi G W.length,∀u,u<=n->u∉gi G W.length->L v u=none)->Q .aC)/\
 ∀G W B L,dN n G W->zk n w G W B L->W.length=G.length->G.length<=4000->pB 180 n []->Q (.tup [sj G,.lst (B.map .int),zw W])
inductive DwI(n:Nat)(w:Tb)(m:Nat)(δ:List Sl):Prop
 | mk (G:List 137) (W:List 178) (B:List Int) (L:Tb) (s4 s5 s6:Sl) (e:δ= [.ow (fh n L),.ow (G.map da),.ow (B.map .int),.ow (W.map lZ),s4,s5,s6]) (p4:Pl s4) (p5:Pl s5) (p6:Pl s6)
  (h:dN n G W) (p:zk n w G W B L) (sz:G.length+(heads n G).length*n<=n+n*n) (up:W.length=G.length->pB 180 n []) (em:m=rT n G W)
section
variable{P:Program}{w:World}{K:PySem.W.Frag}{mg:Str->Option Value}{base:Heap}
theorem GO(F:gC K "draw" "draw" tX f fd)(T:Txt mg)(Fy:iL P w K mg base "best_way" 1 ["left","group"] (fg vm))(Fo:iL P w K mg base "take_off" 1 ["left","group","best"] (Ce tQ))(oC:iL P w K mg base "drawn_together" 3 ["groups","ways","many"] (fg En)):bh P w K mg base dY 4 f fd ["left"] (Cd Jb):=by
 refine UQ F jg rfl (fun bK A outer s H E hr=>⟨_,(ag (rB 1 jg.nd (N:= ["word"]) (nt:=1) (js:= []) ⟨rfl,by decide+kernel,by decide,rfl,by decide+kernel,(by show∀x∈(_:List 132),x.2=NameKind.free->(ab tX).names.lookup x.1=some .cell\/(ab tX).names.lookup x.1=some .free;decide+kernel)⟩ rfl (n4 T.tZ (aa ao (aa (i4 (kZ 0 T.len (pv 0)) ao) af))) (fun _ _ _ _ _=>aA (i:=0) (show(["word"]:List Str).Nodup by decide+kernel) rfl 102) bz aS 160 (fun _ _ _ _ _=>(iu 167)))
 (ag (eD 2 jg.nd (g9 af))
 (ag (eD 3 jg.nd (g9 af))
 (ag (yd (SJ (kZ 3 T.len (pv 3)) (kZ 1 T.len (pv 1)))
 (ag (cm 4 jg.nd (u7 1 (pv 1) (kZ 3 T.len (pv 3))))
 (ag (cm 5 jg.nd (Hn (cJ Fy (hr.mono 105) (aa (dv 0) (aa (dv 4) af)))))
 (ag (dy (lB (dv 5))
 (aD (aL fU))
 bF)
 (ag (cm 6 jg.nd (de (u7 0 (pv 0) (dw (de (dv 5) ao) ao)) (de (dv 5) ao)))
 (ag (dz (U6 0 Fo (hr.mono 105) (pv 0) (aa (dv 4) (aa (dv 6) af))))
 (ag (dz (eS 2 (pv 2) (aa (dv 6) af)))
 (ag (dz (eS 3 (pv 3) (aa (dv 5) af)))
 (aD (dy (qW (kZ 3 T.len (pv 3)) (kZ 1 T.len (pv 1)))
 (aD (dz (Ms 1 (pv 1) (cJ oC (hr.mono 105) (aa (dv 1) (aa (dv 3) (aa (eR T.len 167) af)))))))
 bF))))))))) ag4)
 (aD (gR 1 (gR 2 (gR 3 (aL (iu (aa (dv 1) (aa (dv 2) (aa (dv 3) af))))))))))))),fun ds Qd h=>?_⟩)
 obtain⟨n,w,rfl,n1,iH,q1,q2⟩:=h;have nn:n*n<=60*n:=al9 _ iH;refine⟨_,rfl,_,_,rfl,rfl,_,_,rfl,by rw[gr];lia,?_⟩;rw[gr,show((n:Int)+1 - 1).toNat=n by lia];refine⟨by rw[aa2,ac0];exact ac6 iH 105,fun _=>true,fun d=> .tup [d],fun e he=>⟨⟨_,rfl,rfl⟩,rfl,fun _=>⟨_,rfl,by show 1<=sizeLine;decide,rfl⟩⟩,?_⟩;have e0:((335).filter fun _=>true).map (fun d=>Dt.tup [d])=(ones n).map da:=by
  rw[af9.mpr fun _ _=>rfl,ae1,<-CU];rfl
 rw[e0];refine⟨⟨_,rfl,rfl⟩,by show 0<=sizeLine;decide,⟨_,rfl,rfl⟩,by show 0<=sizeLine;decide,⟨_,rfl,rfl⟩,?_⟩;refine pF (DwI n w) ⟨_,ones n,[],[],w,.no,.no,.no,rfl,.inl rfl,.inl rfl,.inl rfl,Aj n,zJ n w,?_,fun z=>?_,rfl⟩ fun m δ hI Δ' hn FL=>?_
 . rw[fN];exact Nat.add_le_add_left (al9 _ (DV n _)) _
 . rw[fN] at z;have:(0:Nat)=n:=z;lia
 obtain⟨G,W,B,L,s4,s5,s6,rfl,p4,p5,p6,h,p,sz,up,rfl⟩:=hI;have gl:G.length<=3660:=by lia
 have wl:=h.wl;refine⟨_,rfl,_,rfl,_,_,rfl,rfl,_,rfl,?_⟩;rw[aa2,aa2];by_cases hk:W.length < G.length
 . refine nW (ad3 101) ?_;have Jx:ke (G.map da) (((W.map lZ).length:Nat):Int)=some (da 386):=by rw[aa2];exact aI (D3 hk)
   have mem:=h.mem _ hk;have Zk:=sk h hk;refine⟨⟨_,rfl⟩,_,rfl,_,_,_,rfl,rfl,Jx,⟨_,rfl,p4.nb⟩,?_⟩;refine⟨_,.ow (.ow (.ow (.ow (.im (D7 p5 (D7 p6 .nil)))))),_,rfl,_,rfl,n,L,gi G W.length,rfl,iH,by lia,mem,fun no=>⟨.aC,⟨_,rfl,p5.nb⟩,_,rfl,true,rfl,cw (FL _ _ (q1 G W B L h p hk no))⟩,fun a b x a1 b2 b3 ex mx=>⟨L4,⟨_,rfl,p5.nb⟩,_,rfl,false,rfl,a9 ?_⟩⟩;obtain⟨v1,v2⟩:=mem a a1;have cx:ke ((148).map fun u=>cZ (L a u)) (b:Int)=some (.int x):=by
    have:=EW (n:=n) (v:=a) (u:=b) (L:=L) b2;rw[ex] at this;exact this
   refine⟨⟨_,rfl⟩,_,rfl,_,_,_,.inr rfl,rfl,aI (j:=0) rfl,_,_,rfl,rfl,_,_,_,rfl,rfl,yf v1 v2,_,rfl,_,_,_,.inr rfl,rfl,aI (j:=1) rfl,_,_,_,.inl rfl,rfl,cx,⟨_,rfl,p6.nb⟩,?_⟩;have GY:=h.more hk a1 b3 b2;have OG:=p.more h hk a1 b3 b2 ex mx;have bl:B.length < sizeLine:=by rw[p.bl];exact ac8 (show W.length < 4000 by lia) 105
   have XM:W.length < sizeLine:=ac8 (show W.length < 4000 by lia) 105;have eB:B.map Dt.int++ [.int x]=(B++ [x]).map Dt.int:=by rw[ae4];rfl
   have eW:W.map lZ++ [lZ (a,b)]=(295).map lZ:=by rw[ae4];rfl
   refine⟨⟨_,rfl⟩,_,rfl,_,rfl,_,rfl,n,L,gi G W.length,x,rfl,rfl,iH,h.Cs _ hk,mem,?_⟩;refine⟨⟨_,rfl⟩,_,rfl,_,_,rfl,rfl,by rw[aa2];exact bl,?_⟩;refine⟨⟨_,rfl⟩,_,rfl,_,_,rfl,rfl,by rw[aa2];exact XM,?_⟩;rw[eB,eW];have lW:(295).length=W.length+1:=by rw[ab8];rfl
   have inv: ∀(G':List 137),rT n G' 295<=rT n G 295->dN n G' 295->zk n w G' 295 (B++ [x]) (off L 386 x)->G'.length+(heads n G').length*n<=n+n*n->((295).length=G'.length->pB (aM n G' 295) n [])->
     Δ'.nx [.ow (fh n (off L 386 x)),.ow (G'.map da),.ow ((B++ [x]).map .int),.ow ((295).map lZ),.im (da 386),.im (lZ (a,b)),.im (.int x)]:=fun G' m1 m2 m3 m4 m5=>
    hn _ _ (an1 m1 (Ad hk)) ⟨G',_,_,_,_,_,_,rfl,CF,CF,CF,m2,m3,m4,m5,rfl⟩
   refine⟨_,rfl,_,rfl,_,Hf,_,rfl,?_⟩;rw[aa2,aa2];by_cases c:(295).length=G.length
   . refine nW (ad3 c) ?_;refine⟨_,rfl,_, .ow (.ow (.ow (.ow (.im (.im (.im .nil)))))),_,rfl,_,rfl,_,rfl,_, .inl rfl,n,G,W++ [(a,b)],by rw[gr];rfl,GY,c,iH,by lia,fun R ur=>?_⟩;obtain⟨r1,r2⟩:=Cr GY c ur;have rl:=ur.len;have eG:G.map da++R.map (fun r=>da (df n G r))=(113).map da:=by rw[ae4,ae1];rfl
     refine⟨_,rfl,fun z hz=>?_,?_,?_⟩
     . obtain⟨r,_,rfl⟩:=ac9.mp hz;exact He
     . rw[aa2,aa2];exact ac6 (show G.length+R.length<=4000 by lia) 105
     . rw[eG];refine inv 113 r1 (GY.round c ur) (zK 101 OG) 101 fun z=>?_;have:R= []:=by
        rw[c,ab8,aa2] at z;exact ao4.mp 101
       subst this;rw[au5,ah8];exact ur
   . exact o4 (fun z=>c (ad6 z)) (inv G (aa4 _) GY OG sz fun z=>absurd z c)
 . refine o4 (fun z=>hk (by have:=ad6 z;lia)) ?_;have full:W.length=G.length:=by lia
   exact⟨_,rfl,_,rfl,_,rfl,_,rfl,_,rfl,_,rfl,by show 3<=sizeLine;decide,q2 G W B L h p full 101 (up full)⟩
end
def xY(m:Nat)(T:Nat->Nat × Nat):List Dt:=(List.range m).map fun i=>lZ (T i)
theorem ja:(xY m T).length=m:=by unfold xY;rw[aa2,ac0]
theorem tN(h:i < m):(xY m T)[i]?=some (lZ (T i)):=by unfold xY;rw[aa6,af4 h];rfl
theorem SG{W:List 178}:W.map lZ=xY W.length (wi W):=by
 apply ai1;intro i;by_cases h:i < W.length
 . rw[tN h,aa6,aa1 h];unfold wi;rw[ab7,aa1 h];rfl
 . rw[ad9 (by rw[aa2];lia),ad9 (by rw[ja];lia)]
theorem JT(h:j < m)(hn: ∀i,i≠j->T' i=T i):(xY m T).set j (lZ (T' j))=xY m T':=by
 apply ai1;intro i;rw[aw0];by_cases c:j=i
 . subst c;rw[if_pos rfl,if_pos (by rw[ja];exact h),tN h]
 . rw[if_neg c];by_cases d:i < m
   . rw[tN d,tN d,hn i (Ne.symm c)]
   . rw[ad9 (by rw[ja];lia),ad9 (by rw[ja];lia)]
theorem MR{l:List Dt}(h:n<=l.length):LD.cutD l none (some (n:Int))=l.take n:=by
 have e1:HT.cT l.length 0 none=0:=rfl;have e2:HT.cT l.length l.length (some (n:Int))=n:=by
  show min _ _=n;lia
 unfold LD.cutD;rw[e1,e2];rfl
def XJ:Dt->Dt
 | .tup [_,b]=>b
 | _=> .aC
def vQ(G:List 137)(T:Nat->Nat × Nat)(a j:Nat):Nat->Nat × Nat:=fun i=>if i < j/\(T a).1∈gi G i then T a else T i
def uU:DN:=fun ds Q=> ∃(n:Nat) (G:List 137) (W:List 178),ds= [sj G,zw W,nI n]/\dN n G W/\W.length=G.length/\n<=60/\G.length<=4000/\ ∀T,Ent G W 0 T->Q (.tup ((l6 n T).map nI))
inductive EnI(n:Nat)(G:List 137)(W:List 178)(k:Nat)(δ:List Sl):Prop
 | mk (T:Nat->Nat × Nat) (s4 s5:Sl) (e:δ= [.im (sj G),.im (zw W),.im (nI n),.ow (xY G.length T),s4,s5]) (b4:s4.bo=false) (b5:s5.bo=false) (h:Ent G W (G.length - k) T)
inductive EnJ(n:Nat)(G:List 137)(W:List 178)(T:Nat->Nat × Nat)(a j:Nat)(δ:List Sl):Prop
 | mk (s5:Sl) (e:δ= [.im (sj G),.im (zw W),.im (nI n),.ow (xY G.length (vQ G T a j)),.im (nI a),s5]) (b5:s5.bo=false)
section
variable{P:Program}{w:World}{K:PySem.W.Frag}{mg:Str->Option Value}{base:Heap}
theorem wj(F:gC K "entered" "entered" gY f fd)(T:Txt mg):bh P w K mg base dY 1 f fd ["groups","ways","many"] (fg uU):=by
 refine sv F iE 158 (fun bK A outer s H E hr=>⟨_,(ag (eD 3 iE.nd (Dc T.lst 206))
 (ag (eE rfl (TJ T.rev T.tZ (aa (eR T.len 167) af)) (dj 4 iE.nd)
 (aD (eE rfl (jm T.tZ (aa (dv 4) af)) (dj 5 iE.nd)
 (aD (dy (B4 (de (u7 3 (pv 3) (dv 4)) ao) (de (dv 0) (dv 5)))
 (aD (Cn 3 (u7 3 (pv 3) (dv 4)) (pv 3) (dv 5)))
 bF)) ag4)) ag4)
 (aD (gR 3 (aL (mM T.tup (aa (Ov.ev (cM (N:= ["word","on"]) (nt:=2) (js:= []) ⟨rfl,by decide+kernel,by decide,rfl,by decide+kernel,(by show∀x∈(_:List 132),x.2=NameKind.free->(ab gY).names.lookup x.1=some .cell\/(ab gY).names.lookup x.1=some .free;decide+kernel)⟩ rfl (gs (Qn (dv 3) CO (CN (dv 2)))) (fun _ _ _ _ _=>cU rfl (aF (aA (i:=0) (show(["word","on"]:List Str).Nodup by decide+kernel) rfl 102) (aF (aA (i:=1) (show(["word","on"]:List Str).Nodup by decide+kernel) rfl 102) bP))) bH aW 160 (fun _ _ _ _ _=>(dv 1)))) af))))))),fun ds Qd h=>?_⟩)
 . obtain⟨n,G,W,rfl,_⟩:=h;rfl
 . obtain⟨n,G,W,rfl,L,full,iH,gl,q⟩:=h;refine⟨_,rfl,_, .inl rfl,⟨_,rfl,rfl⟩,?_⟩;refine⟨_,rfl,_, .inl rfl,G.length,by rw[aa2],by lia,?_⟩;refine bZ (EnI n G W) ⟨wi W, .no, .no,by rw[SG,full];rfl,rfl,rfl,by rw[au3];exact AM⟩ (fun k d δ hi hP Δ' qc FL=>?_) 235
   . obtain⟨T,s4,s5,rfl,b4,b5,h⟩:=hP;have kl:k < G.length:=by have:=(348).1;rw[aa2,ac0] at this;exact this
     obtain⟨a,ea⟩: ∃a,G.length - k=a+1:=⟨G.length - k - 1,by lia⟩
     rw[aa6,af4 kl] at hi;have hi:Dt.int ((G.length:Int) - 1 - (k:Nat))=d:=Option.some.inj hi;rw[show(G.length:Int) - 1 - (k:Nat)=(a:Int) by lia] at hi;subst hi;rw[ea] at h;have al:a < G.length:=by lia
     refine⟨⟨_,rfl,b4⟩,_,rfl,_,rfl,by lia,by lia,?_⟩;refine bZ (EnJ n G W T a) ⟨s5,?_,b5⟩ (fun j d δ hj hP Δ2 sY wO=>?_) 235
     . have:vQ G T a 0=T:=by funext i;unfold vQ;rw[if_neg fun z=>by lia]
       rw[this];rfl
     . obtain⟨s5,rfl,b5⟩:=hP;have jl:j < a:=by have:=(aa5.mp hj).1;rw[aa2,ac0] at this;lia
       rw[aa6,af4 101] at hj;have hj:Dt.int (j:Int)=d:=by have:=Option.some.inj hj;simpa using this
       subst hj;have ta:vQ G T a j a=T a:=by unfold vQ;rw[if_neg fun z=>by lia]
       refine⟨⟨_,rfl,b5⟩,?_⟩;have aT:ke (xY G.length (vQ G T a j)) (a:Int)=some (lZ (T a)):=by rw[<-ta];exact aI (tN al)
       refine⟨⟨_,rfl⟩,_,rfl,_,_,_,rfl,rfl,aT,_,_,_,.inr rfl,rfl,aI (j:=0) rfl,_,rfl,_,rfl,_,_,_,.inl rfl,rfl,aI (D3 101),_,.inr rfl,rfl,mK,?_⟩;rw[DG];by_cases c:(T a).1∈gi G j
       . rw[ad3 c];refine⟨true,rfl,cw ⟨⟨_,rfl⟩,_,rfl,_,_,_,rfl,rfl,aT,⟨_,rfl⟩,_,rfl,_,_,j,rfl,rfl,?_,sY _ ⟨.im (nI j),?_,rfl⟩⟩⟩
         . rw[ja];unfold uK;rw[if_pos 101,if_pos 101];rfl
         . have e1:vQ G T a (j+1) j=T a:=by unfold vQ;rw[if_pos ⟨at3 _,c⟩]
           have e2:=JT (m:=G.length) (j:=j) (T:=vQ G T a j) (T':=vQ G T a (j+1)) 101 fun i hi=>by
            unfold vQ;by_cases d:i < j
            . simp only [d,show i < j+1 by lia]
            . rw[if_neg (fun z=>by lia),if_neg (fun z=>d z.1)]
           rw[e1] at e2;rw[<-e2];rfl
       . rw[ad4 c];refine⟨false,rfl,a9 (sY _ ⟨.im (nI j),?_,rfl⟩)⟩;have:vQ G T a (j+1)=vQ G T a j:=by
          funext i
          unfold vQ;by_cases d:i < j
          . simp only [d,show i < j+1 by lia]
          . by_cases e:i=j
            . subst e;rw[if_neg (fun z=>c z.2),if_neg (fun z=>c z.2)]
            . rw[if_neg (fun z=>by lia),if_neg (fun z=>d z.1)]
         rw[this];rfl
     . obtain⟨s5,rfl,b5⟩:=hP;rw[aa2,ac0,show((a:Int)).toNat=a by lia];exact qc _ ⟨vQ G T a a,.im (nI a),s5,rfl,rfl,b5,by rw[show G.length - (k+1)=a by lia];exact Ek h al⟩
   . obtain⟨T,s4,s5,rfl,b4,b5,h⟩:=hP;rw[aa2,ac0,as8] at h;have nl:=L.wu;have ec:LD.cutD (xY G.length T) none (some (n:Int))=xY n T:=by
      rw[MR (by rw[ja];exact nl)];unfold xY;rw[<-List.map_take,List.take_range,Nat.min_eq_left nl]
     refine⟨_,rfl,_,rfl,_,rfl,_,rfl,_,rfl,_,rfl,?_,fun _=>true,XJ,fun e he=>?_,?_⟩
     . rw[ec,ja];exact ac6 iH 105
     . rw[ec] at he;obtain⟨i,hi,rfl⟩:=ac9.mp he;exact⟨_,_,rfl,⟨_,rfl,rfl⟩,⟨_,rfl,rfl⟩,rfl,fun _=>⟨_,rfl,rfl⟩⟩
     . rw[ec,af9.mpr fun _ _=>rfl];refine⟨_,.inl rfl,?_⟩;have:=q T h;unfold l6 at this;rw[ae1] at this;unfold xY;rw[ae1];exact this
end
end bU
namespace bU
open PySem PySem.Spec L2 LB LD PyProof.Rows vA mh bW ME MH
def Tc:Option Rs->Dt
 | none=> .aC
 | some (v,h)=> .tup [.int v,aJ h]
def Cf:DN:=fun ds Q=> ∃(n:Nat) (w:Tb),ds= [kB n w]/\1<=n/\n<=60/\((∀g,Hg g->g.length=n->fZ w g=none)->Q .aC)/\
 ∀h x rest,Hg h->h.length=n->fZ w h=some x->(∀g u,Hg g->g.length=n->fZ w g=some u->u<=x)->Q (.tup (aJ h::rest))
theorem BV{h:List Nat}:(h.map nI).countP (fun d=>Ee d (.int 0))=h.count 0:=by
 rw[List.countP_map];unfold List.count;congr 1
 funext x
 show(((x:Int)==0))=(x==0)
 rw[ak9,ab9,ab9];lia
def O6(k:Int):Dt->Dt
 | .int x=> .int (x - k)
 | d=>d
def O5(k:Int):Dt->Dt
 | .tup (d::ds)=> .lst (O6 k d::ds)
 | _=> .aC
theorem yG:O5 k (eY n w v)=kK n (low k w) v:=by
 unfold eY kK;rw[List.range_eq_range',an0,ac2,ac2];show Dt.lst (O6 k (cZ (w v 0))::_)=_;congr 2
 . show _=cZ ((w v 0).map (· - k));cases w v 0 <;> rfl
 . refine ae9 fun u hu=>?_;obtain⟨u1,_⟩:=br.mp hu;show _=cZ (if u=0 then _ else _);rw[if_neg 101]
section
variable{P:Program}{w:World}{K:PySem.W.Frag}{mg:Str->Option Value}{base:Heap}
theorem C2(F:gC K "solve" "solve" m9 f fd)(T:Txt mg)(Ft:iL P w K mg base "hook_for" 1 ["w"] (fg IM))(vt:iL P w K mg base "lowered_top" 1 ["row","hook"] (fg uF))(Fx:iL P w K mg base "draw" 4 ["left"] (Cd Jb))(Fw:iL P w K mg base "entered" 1 ["groups","ways","many"] (fg uU)):bh P w K mg base dY 5 f fd ["w"] (fg Cf):=by
 refine sv F jy 158 (fun bK A outer s H E hr=>⟨_,(ag (cm 1 jy.nd (cJ Ft (hr.mono 105) 167))
 (ag (cm 2 jy.nd (U2 Fx (hr.mono 105) (cM (N:= ["row","hook"]) (nt:=1) (js:= [1]) ⟨rfl,by decide+kernel,by decide,rfl,by decide+kernel,(by show∀x∈(_:List 132),x.2=NameKind.free->(ab m9).names.lookup x.1=some .cell\/(ab m9).names.lookup x.1=some .free;decide+kernel)⟩ rfl (nZ (dv 0)) (fun _ _ _ _ _=>aA (i:=0) (show(["row","hook"]:List Str).Nodup by decide+kernel) rfl 102) bz aS 160 (fun _ _ _ _ _=>(cJ vt (hr.mono 105) (aa (dv 0) 206))))))
 (ag (dy (lB (dv 2))
 (aD (aL fU))
 bF)
 (ag (Ol (dv 2) (LX 3 4 5 rfl jy.nd))
 (ag (cm 6 jy.nd (cJ Fw (hr.mono 105) (aa (dv 3) (aa (dv 5) (aa (eR T.len 167) af)))))
 (ag (dy (SK (Ho (dv 6) 395) ao)
 (aD (aL fU))
 bF)
 (aD (aL (iu (aa (dv 6) (aa (dv 1) (aa (dv 3) (aa (dv 4) af))))))))))))),fun ds Qd h=>?_⟩)
 . obtain⟨n,w,rfl,_⟩:=h;rfl
 . obtain⟨n,w,rfl,n1,iH,q1,q2⟩:=h;have tl:((120).map (eY n w)).length=n:=by rw[aa2,ae2]
   refine⟨_,rfl,n,w,rfl,iH,fun mn mx hb mm=>144⟩;generalize eK:(n:Int)*(mx - mn)+1=k;refine⟨_,rfl,_,rfl,by rw[tl];exact ac6 iH 105,fun _=>true,O5 k,fun e he=>?_,?_⟩
   . obtain⟨v,_,rfl⟩:=ac9.mp he;exact⟨⟨_,rfl,rfl⟩,rfl,fun _=>⟨_,rfl,_,rfl,n,v,w,k,rfl,iH,yG.symm⟩⟩
   . refine⟨n,low k w,?_,n1,iH,fun G W B L h p hk no=>⟨⟨_,rfl,rfl⟩,_,rfl,true,rfl,cw (q1 fun g hg gl=>K2 h p hk no hg gl)⟩,fun G W B L h p full gl up=>⟨⟨_,rfl,rfl⟩,_,rfl,false,rfl,a9 ?_⟩⟩
     . rw[af9.mpr fun _ _=>rfl,ae1];exact ae9 fun v _=>yG
     . refine⟨_,rfl,_,_,_,rfl,⟨_,rfl,rfl⟩,⟨_,rfl,rfl⟩,⟨_,rfl,rfl⟩,?_⟩;refine⟨_,rfl,_,rfl,_,rfl,_, .inr rfl,n,G,W,by rw[tl],h,full,iH,gl,fun T en=>144⟩;obtain⟨s1,s2,s3⟩:=solved n1 hb mm eK.symm h full p en up;refine⟨_,rfl,⟨_,rfl⟩,_,_,rfl,rfl,rfl,mK,_,_,rfl,rfl,_,rfl,?_⟩;rw[BV];by_cases c:1 < (l6 n T).count 0
       . exact nW (ad3 101) (q1 (s1 c))
       . refine o4 (fun z=>c (by have:=ad6 z;lia)) ?_;obtain⟨g1,x,g2,g3⟩:=s2 c;exact⟨_,rfl,_,rfl,_,rfl,_,rfl,by show 4<=sizeLine;decide,q2 (l6 n T) x _ g1 gu g2 g3⟩
def vn:DN:=fun ds Q=> ∃(n:Nat) (w:Tb),ds= [kB n w]/\1<=n/\n<=60/\Sm w/\ ∀r,kn n w r->Q (Tc r)
theorem wo(F:gC K "best_any" "best_any" ng f fd)(T:Txt mg)(Na:iL P w K mg base "solve" 5 ["w"] (fg Cf))(HU:iL P w K mg base "ranked" 2 ["w"] (fg yi))(Fn:iL P w K mg base "worth_of" 2 ["w","h"] (fg jq)):bh P w K mg base dY 6 f fd ["w"] (fg vn):=by
 refine sv F kH 158 (fun bK A outer s H E hr=>⟨_,(ag (cm 1 kH.nd (cJ Na (hr.mono 105) (aa (cJ HU (hr.mono 105) 167) af)))
 (ag (dy (lB (dv 1))
 (aD (aL fU))
 bF)
 (ag (cm 2 kH.nd (de (dv 1) ao))
 (aD (aL (iu (aa (cJ Fn (hr.mono 105) (aa (dv 0) 378)) 378))))))),fun ds Qd h=>?_⟩)
 . obtain⟨n,w,rfl,_⟩:=h;rfl
 . obtain⟨n,w,rfl,n1,iH,sm,q⟩:=h;refine⟨_,rfl,n,w,rfl,iH,sm,n,wr n w,rfl,n1,iH,fun no=>⟨⟨_,rfl,rfl⟩,_,rfl,true,rfl,cw (q none (uq no))⟩,fun h x rest hg hl hw best=>⟨⟨_,rfl,rfl⟩,_,rfl,false,rfl,a9 ?_⟩⟩;obtain⟨v,ev,b⟩:=vh hg hl hw best;have hle: ∀y∈h,y<=n:=fun y hy=>by have:=hg.le y hy;lia
   refine⟨_,rfl,_,_,_,.inr rfl,rfl,aI (j:=0) rfl,⟨_,rfl,rfl⟩,?_⟩;refine⟨_,rfl,_,rfl,n,w,h,rfl,hl,hle,iH,_,rfl,by show 2<=sizeLine;decide,?_⟩;have:=q _ b;rw[ev];exact this
end
end bU
namespace bU
open PySem PySem.Spec L2 LB LD PyProof.Rows vA bW
def wD:Option Int->Dt
 | none=> .aC
 | some i=> .int i
def Kg(r:List (Option Int)):Dt:= .tup (r.map wD)
def SI(T:List 334):Dt:= .tup (T.map Kg)
theorem xa:eq2 (nI x) (nI y)=some (decide (x=y)):=by
 show some (decide ((x:Int)=(y:Int)))=_;congr 1
 exact ak1.mpr Int.natCast_inj
def vI:DB:=fun t ds Q=> ∃y:Nat,ds= [nI y]/\y < 5/\t+1<=1000000/\ ∀(i:Int) (t':Int),t'<=t+1->i.natAbs<=2000000000->Q 392 t'
theorem cp:FH 10 9:=⟨by decide,by decide,by decide⟩
section
variable{P:Program}{w:World}{K:PySem.W.Frag}{mg:Str->Option Value}{base:Heap}
theorem CY(F:gC K "_law_worth" "_law_worth" rC f fd)(T:Txt mg)(fF:iL P w K mg base "_law_take" 1 ["_law_box","_law_many"] (Bn tP)):bh P w K mg base dY 2 f fd ["_law_box","_law_way"] (Bn vI):=by
 refine WQ F Cj (fun t ds Qd h=>?_) (fun bK A outer s H E hr=>⟨_,(ag (dy (qW (dv 1) ao)
 (aD (aL (i3 0 fF (hr.mono 105) (pv 0) 395)))
 bF)
 (ag (dy (qW (dv 1) ao)
 (aD (aL (dw (i3 0 fF (hr.mono 105) (pv 0) 395) ao)))
 bF)
 (ag (dy (qW (dv 1) ao)
 (aD (aL ao))
 bF)
 (ag (dy (qW (dv 1) ao)
 (aD (aL (de (lX (aa (u5 ao ao) (aa (dw ao (u5 ao ao)) (aa (dw (u5 ao ao) ao) 395)))) (i3 0 fF (hr.mono 105) (pv 0) 395))))
 bF)
 (aD (aL (dw (i3 0 fF (hr.mono 105) (pv 0) (aa (i4 (u6 ao (u5 ao ao)) ao) af)) (u5 ao ao)))))))),fun t ds Qd h=>?_⟩)
 . obtain⟨y,rfl,_⟩:=h;rfl
 . obtain⟨y,rfl,hy,ht,q⟩:=h;match y,hy with
   | 0,_=>exact⟨_,rfl,true,rfl,_,rfl,cw ⟨⟨_,rfl⟩,_,rfl,_,rfl,by lia,by decide,by decide,fun r h0 h1=>⟨_,rfl,q r _ (ae8 _) 101⟩⟩⟩
   | 1,_=>exact⟨_,rfl,false,rfl,_,rfl,a9 ⟨_,rfl,true,rfl,_,rfl,cw ⟨⟨_,rfl⟩,_,rfl,_,rfl,by lia,by decide,by decide,fun r h0 h1=>⟨_,_,rfl,rfl,_,rfl,q (r - 9) _ (ae8 _) 101⟩⟩⟩⟩
   | 2,_=>exact⟨_,rfl,false,rfl,_,rfl,a9 ⟨_,rfl,false,rfl,_,rfl,a9 ⟨_,rfl,true,rfl,_,rfl,cw ⟨_,rfl,q 5 _ 101 105⟩⟩⟩⟩
   | 3,_=>
    refine⟨_,rfl,false,rfl,_,rfl,a9 ⟨_,rfl,false,rfl,_,rfl,a9 ⟨_,rfl,false,rfl,_,rfl,a9 ⟨_,rfl,true,rfl,_,rfl,cw ?_⟩⟩⟩⟩;refine⟨_,_,rfl,rfl,cp,_,_,rfl,rfl,cp,_,_,rfl,rfl,_,_,rfl,rfl,cp,_,_,rfl,rfl,by show 4<=sizeLine;decide,⟨_,rfl⟩,_,rfl,_,rfl,by lia,by decide,by decide,fun r h0 h1=>?_⟩;obtain⟨z,rfl,hz⟩: ∃z:Nat,r=(z:Int)/\z < 4:=⟨r.toNat,by lia,by lia⟩
    match z,hz with
    | 0,_=>exact⟨_,_,_,.inl rfl,rfl,aI (j:=0) rfl,_,rfl,q _ _ (ae8 _) 105⟩
    | 1,_=>exact⟨_,_,_,.inl rfl,rfl,aI (j:=1) rfl,_,rfl,q _ _ (ae8 _) 105⟩
    | 2,_=>exact⟨_,_,_,.inl rfl,rfl,aI (j:=2) rfl,_,rfl,q _ _ (ae8 _) 105⟩
    | 3,_=>exact⟨_,_,_,.inl rfl,rfl,aI (j:=3) rfl,_,rfl,q _ _ (ae8 _) 105⟩
   | 4,_=>
    refine⟨_,rfl,false,rfl,_,rfl,a9 ⟨_,rfl,false,rfl,_,rfl,a9 ⟨_,rfl,false,rfl,_,rfl,a9 ⟨_,rfl,false,rfl,_,rfl,a9 ?_⟩⟩⟩⟩;refine⟨⟨_,rfl⟩,_,_,rfl,rfl,cp,_,_,rfl,rfl,.inl 105,_,_,rfl,rfl,_,rfl,_,rfl,by lia,by decide,by decide,fun r h0 h1=>?_⟩;have iN:r < 2000000001:=h1;exact⟨_,_,rfl,rfl,cp,_,_,rfl,rfl,_,rfl,q (r - 1000000000) _ (ae8 _) 101⟩
end
def RS(n:Nat)(T:List 334):Prop:= ∀r∈T,r.length=n+1/\ ∀i,some i∈r->i.natAbs<=2000000000
def x4:DB:=fun t ds Q=> ∃n:Nat,ds= [nI n]/\n<=12/\t+402<=1000000/\ ∀(T:List 334) (t':Int),t'<=t+402->T.length=n->RS n T->Q (SI T) t'
def TbO(n y b:Nat)(t:Int)(i:Nat)(δ:List Sl):Prop:= ∃(T:List 334) (t':Int) (s5 s6 s7 s8:Sl),δ= [.bx t',.im (nI n),.im (nI y),.im (nI b),.ow (T.map Kg),s5,s6,s7,s8]/\s5.bo=false/\s6.bo=false/\s7.bo=false/\s8.bo=false/\T.length=i/\RS n T/\t'<=t+2+26*i
def TbI(n y b:Nat)(T:List 334)(wd:Nat)(t:Int)(i:Nat)(δ:List Sl):Prop:= ∃(r:List (Option Int)) (t':Int) (s7 s8:Sl),δ= [.bx t',.im (nI n),.im (nI y),.im (nI b),.ow (T.map Kg),.im (nI wd),.ow (r.map wD),s7,s8]/\s7.bo=false/\s8.bo=false/\r.length=i/\(∀j,some j∈r->j.natAbs<=2000000000)/\t'<=t+2*i
section
variable{P:Program}{w:World}{K:PySem.W.Frag}{mg:Str->Option Value}{base:Heap}
theorem C1(F:gC K "_law_table" "_law_table" rE f fd)(T:Txt mg)(fF:iL P w K mg base "_law_take" 1 ["_law_box","_law_many"] (Bn tP))(HV:iL P w K mg base "_law_worth" 2 ["_law_box","_law_way"] (Bn vI)):bh P w K mg base dY 3 f fd ["_law_box","_law_n"] (Bn x4):=by
 refine WQ F eC (fun t ds Qd h=>?_) (fun bK A outer s H E hr=>⟨_,(ag (Cm 2 3 rfl eC.nd (G9 (i3 0 fF (hr.mono 105) (pv 0) 395) (G9 (de (lX (aa ao (aa ao (aa ao 395)))) (i3 0 fF (hr.mono 105) (pv 0) 395)) IW)))
 (ag (eD 4 eC.nd (g9 af))
 (ag (eE rfl (n4 T.tZ (aa ao (aa (i4 (dv 1) ao) af))) (dj 5 eC.nd)
 (ag (eD 6 eC.nd (g9 af))
 (ag (eE rfl (jm T.tZ (aa (i4 (dv 1) ao) af)) (dj 7 eC.nd)
 (ag (cm 8 eC.nd (U3 (l7 (dv 7) (dv 5)) (i0 (iw (U5 (dv 3) ao) (i0 (l7 (i3 0 fF (hr.mono 105) (pv 0) (aa (dv 3) af)) ao))))))
 (aD (dz (eS 6 (pv 6) (aa (gy (jZ (dv 8)) fU (i3 0 HV (hr.mono 105) (pv 0) 378)) af))))) ag4)
 (aD (dz (eS 4 (pv 4) (aa (xo 6 T.tup (pv 6)) af)))))) ag4)
 (aD (aL (xo 4 T.tup (pv 4))))))),fun t ds Qd h=>?_⟩)
 . obtain⟨n,rfl,_⟩:=h;rfl
 . obtain⟨n,rfl,n12,ht,q⟩:=h;refine⟨⟨_,rfl⟩,_,rfl,_,rfl,by lia,by decide,by decide,fun y y0 y1=>?_⟩;obtain⟨y,rfl,hy⟩: ∃z:Nat,y=(z:Int)/\z < 5:=⟨y.toNat,by lia,by lia⟩
   refine⟨by show 4<=sizeLine;decide,⟨_,rfl⟩,_,rfl,_,rfl,by lia,by decide,by decide,fun r h0 h1=>?_⟩;obtain⟨z,rfl,hz⟩: ∃z:Nat,r=(z:Int)/\z < 4:=⟨r.toNat,by lia,by lia⟩
   obtain⟨b,em,m2⟩: ∃m:Nat,[Dt.int 0,Dt.int 0,Dt.int 2,Dt.int 5][z]?=some (nI m)/\m<=5:=by
    match z,hz with
    | 0,_=>exact⟨0,rfl,by decide⟩
    | 1,_=>exact⟨0,rfl,by decide⟩
    | 2,_=>exact⟨2,rfl,by decide⟩
    | 3,_=>exact⟨5,rfl,by decide⟩
   refine⟨_,_,nI b,.inl rfl,rfl,aI em,_,_,rfl,⟨_,rfl,rfl⟩,⟨_,rfl,rfl⟩,?_⟩;dsimp only;refine 304;refine⟨_,rfl,_,_,rfl,rfl,_,_,rfl,by lia,?_⟩;refine bZ (TbO n y b t) ⟨[],_,.no,.no,.no,.no,rfl,rfl,rfl,rfl,rfl,rfl,fun r hr=>absurd hr aa8,by lia⟩ 193 235
   . obtain⟨t0,t',s5,s6,s7,s8,rfl,b5,b6,b7,b8,tl,tk,TV⟩:=hP;have il:i < n:=by have:=(348).1;rw[aa2,ac0] at this;lia
     have ed:d=nI (i+1):=by
      rw[aa6,af4 101] at hi;have:Dt.int (1+(i:Int))=d:=by simpa using hi
      rw[<-this];show Dt.int _=Dt.int _;rw[show(1:Int)+(i:Int)=((i+1:Nat):Int) by lia]
     subst ed;refine⟨⟨_,rfl,b5⟩,by show 0<=sizeLine;decide,⟨_,rfl,b6⟩,?_⟩;refine⟨_,rfl,_,_,rfl,rfl,_,rfl,by lia,by lia,?_⟩;refine bZ (TbI n y b t0 (i+1) t') ⟨[],_,s7,s8,rfl,b7,b8,rfl,fun j hj=>absurd hj aa8,by lia⟩ (fun j d δ hj hP Δ2 sY wO=>?_) 235
     . obtain⟨r,JZ,s7,s8,rfl,b7,b8,rl,rk,Pp⟩:=hP;have jl:j < n+1:=by have:=(aa5.mp hj).1;rw[aa2,ac0] at this;lia
       have ed:d=nI j:=by
        rw[aa6,af4 101] at hj;have:Dt.int (0+(j:Int))=d:=by simpa using hj
        rw[<-this];show Dt.int _=Dt.int _;rw[show(0:Int)+(j:Int)=((j:Nat):Int) by lia]
       subst ed;have fin: ∀(x:Option Int) (t3:Int) (c:Bool),t3<=JZ+2->(∀i,x=some i->i.natAbs<=2000000000)->ER 6 (fun _ δ'=>Δ2.nx δ') [wD x] [.bx t3,.im (nI n),.im (nI y),.im (nI b),.ow (t0.map Kg),.im (nI (i+1)),.ow (r.map wD),.im (nI j),.im (.bl c)]:=fun x t3 c h3 hx=>by
        refine⟨_,_,rfl,rfl,?_,sY _ ⟨r++ [x],t3,.im (nI j),.im (.bl c),?_,rfl,rfl,by rw[ab8,rl];rfl,fun k hk=>?_,by lia⟩⟩
        . rw[aa2,rl];exact ac8 (show j < 100 by lia) 105
        . rw[ae4];rfl
        . rcases af6.mp hk with h | h
          . exact rk k h
          . exact hx k (aa9.mp h).symm
       have mid: ∀(c:Bool) (t2:Int),t2<=JZ+1->Jp (QO 6 (oj (WX (dT (AV 8)) (dC Dt.aC) (QI vI 0 (oj (AV 2) xu))) xu)) Δ2 [.bx t2,.im (nI n),.im (nI y),.im (nI b),.ow (t0.map Kg),.im (nI (i+1)),.ow (r.map wD),.im (nI j),.im (.bl c)]:=fun c t2 h2=>by
        refine⟨⟨_,rfl⟩,_,rfl,c,rfl,?_⟩;cases c with
        | true=>exact cw (fin none t2 true 101 fun i h=>by cases h)
        | false=>exact a9 ⟨⟨_,rfl⟩,_,rfl,_,rfl,y,rfl,hy,by lia,fun v t3 h3 hv=>fin 356 t3 false 101 fun i h=>by cases h;exact hv⟩
       refine⟨⟨_,rfl,b7⟩,_,rfl,_,rfl,_,xa,decide (j=i+1),rfl,?_⟩;by_cases c:j=i+1
       . exact nW (ad3 c) ⟨⟨_,rfl,b8⟩,mid true JZ 101⟩
       . refine o4 (fun z=>c (ad6 z)) ⟨_,rfl,_,_,rfl,rfl,decide ((b:Int) > 0),rfl,?_⟩;by_cases e:(b:Int) > 0
         . exact nW (ad3 e) ⟨⟨_,rfl⟩,_,rfl,_,rfl,_,rfl,by lia,e,by lia,fun v v0 v1=>⟨decide (v=0),rfl,⟨_,rfl,b8⟩,mid _ (JZ+1) 101⟩⟩
         . exact o4 (fun z=>e (ad6 z)) ⟨⟨_,rfl,b8⟩,mid false JZ 101⟩
     . obtain⟨r,JZ,s7,s8,rfl,b7,b8,rl,rk,Pp⟩:=hP;rw[aa2,ac0] at rl Pp;refine⟨⟨_,rfl⟩,_,rfl,_,_,rfl,rfl,?_,qc _ ⟨t0++ [r],JZ, .im (nI (i+1)), .ow (r.map wD),s7,s8,?_,rfl,rfl,b7,b8,by rw[ab8,tl];rfl,fun r' Pu=>?_,by lia⟩⟩
       . rw[aa2,tl];exact ac8 (show i < 100 by lia) 105
       . rw[ae4];rfl
       . rcases af6.mp Pu with h | h
         . exact tk r' h
         . cases aa9.mp h;exact⟨by lia,rk⟩
   . obtain⟨t0,t',s5,s6,s7,s8,rfl,b5,b6,b7,b8,tl,tk,TV⟩:=hP;rw[aa2,ac0] at tl TV;exact⟨_,rfl,_,rfl,q t0 t' 101 101 tk⟩
end
end bU
namespace bU
open PySem L2 LB LD PyProof.Rows
section
variable{P:Program}{w:World}{K:PySem.W.Frag}{mg:Str->Option Value}{base:Heap}
theorem GL(F:gC K "_law_take" "_law_take" rD f fd)(T:Txt mg):bh P w K mg base dY 1 f fd ["_law_box","_law_many"] Cc:=by
 refine F.ok gq 273 182
 . obtain⟨d,c,t,m,rfl,_⟩:=h;rfl
 . obtain⟨d,c,t,m,rfl,B,ht,RI,YT,q⟩:=h;have hu:=lM hr;have Wj:=B.ne;have t0:=B.t0;obtain⟨ns,hc,IP,Pz⟩:=B.cs;refine⟨_,cQ (fA (i:=2) gq.nd rfl 401 (bM jj 337 bq))
    (cQ (yr hu (pv 0) ji (pv 2) rfl)
    (cQ (fA (i:=3) gq.nd rfl 401 (bM g8 (pv 2) (eI dX 199 T.len av4 (aj 337 aK))))
    (cQ (fA (i:=4) gq.nd rfl 401 (yy mI 337 (pv 3) (fun _ _=>rfl)))
    (cQ (IA (jD OQ (pv 4) (bM CP bq bq) (fB _))
     (cQ (rK (eI sO 199 T.ZY sP (aj (pv 4) (aj (pv 1) aK))) (cU rfl (aF (v7 337 (pv 3) set_list) (aF (aA (i:=5) gq.nd rfl 401) bP))))
      (mD (rJ (pv 5)))) yq)
    (cQ (fA (i:=6) gq.nd rfl 401 (bM g8 (bM g6 (bM jj (bM jj (bM jj (bM g8 (pv 4) bq) (bM g6 (bM g6 bq (pv 2)) (pv 2))) (bM g6 bq (pv 2))) bq) bq) bq))
    (cQ (fA (i:=6) gq.nd rfl 401 (bM g8 (bM g6 (pv 6) (bM jj (bM g8 (pv 6) bq) (bM g6 bq (pv 2)))) bq))
    (mD (rJ (bM g8 (bM GI (bM g8 (bM g6 (pv 6) (bM jj (bM g8 (pv 6) bq) (pv 2))) bq) bq) (pv 1)))))))))),?_⟩
   refine⟨_,rfl,d,_,rfl,by rw[<-HJ c t];exact iQ.k (k:=Sum.inr "turn") B.dc,_,_,rfl,rfl,?_⟩;refine⟨_,rfl,_,rfl,d,_,rfl,Bj.k (k:=Sum.inr "turn") B.dc (by show 2 < sizeLine;decide),?_⟩;rw[MW];have NC:262 d=some (.dK (bx c (t+1))):=ae;have G8:262 c=some (.lst 131):=by rw[ah Wj.symm];exact hc
   have gc:iQ 262 d (.str "cells") (some (.ref c)):=by rw[<-vf c (t+1)];exact iQ.k (k:=Sum.inr "cells") NC
   have hl:(0:Int) < ((131).length:Int):=by rw[aa2];omega
   refine⟨_,rfl,_,rfl,d,_,rfl,gc,c,_,rfl,.inl (bL.of G8),_,_,rfl,rfl,hl,?_⟩;have Pw:0<=(t+1) % ((131).length:Int):=au1 _ 149;have Nx:(t+1) % ((131).length:Int) < ((131).length:Int):=as2 _ hl;obtain⟨cell,lN⟩: ∃cell,(131)[((t+1) % ((131).length:Int)).toNat]?=some (V.int cell):=by
    have hpn:((t+1) % ((131).length:Int)).toNat < ns.length:=by rw[aa2] at Pw Nx ⊢;omega
    exact⟨ns[((t+1) % ((131).length:Int)).toNat],by simp⟩
   refine⟨_,rfl,d,_,rfl,gc,_,rfl,c,_,_,_,rfl,rfl,bL.of G8,HN Pw lN,?_⟩;refine⟨_,rfl,_,_,rfl,rfl,(show FH 10 18 from by unfold FH;decide),_,_,rfl,rfl,_,rfl,?_⟩;refine Tw (fun _=>?_) (fun _=>?_)
   . refine⟨_,rfl,_,rfl,_,_,rfl,⟨RI,YT⟩,fun p hp=>?_⟩;have hd2:(upd 262 p (.tup [.int (cell / m), .int (cell % m)])) d=some (.dK (bx c (t+1))):=by rw[ah (az NC hp)];exact NC
     have Ay:(upd 262 p (.tup [.int (cell / m),.int (cell % m)])) c=some (.lst 131):=by rw[ah (az G8 hp)];exact G8
     refine⟨p,_,rfl,dF.of ae,rfl,_,_,rfl,?_⟩;refine⟨_,rfl,d,_,rfl,by rw[<-vf c (t+1)];exact iQ.k (k:=Sum.inr "cells") hd2,_,rfl,c,_,_,_,rfl,rfl,Ay,GZ Pw Nx,?_⟩;refine⟨_,_,rfl,rfl,?_⟩;refine 376;refine q _ _ (au1 _ 149) (as2 _ RI) ⟨by rw[ah Wj];exact hd2,⟨ns.set ((t+1) % ((131).length:Int)).toNat (cell / m),?_,by rw[ad5];exact IP,by rw[ad5];exact Pz⟩,by omega,by omega⟩ fun b o e h1 h2=>?_
     . rw[ae,List.map_set]
     . have e1:262 b=some o:=by rw[ah h1];exact e
       rw[ah h2,ah (az e1 hp)];exact e1
   . refine⟨_,rfl,_,_,rfl,rfl,(by show(0:Int) < 2147483629;decide),_,rfl,_,_,rfl,rfl, .inl 341,_,rfl,_,_,rfl,rfl, .inr ⟨by omega,by omega⟩,_,_,rfl,rfl,_,rfl,_,_,rfl,rfl, .inl 341,_,_,rfl,rfl,_,_,rfl,rfl,_,_,rfl,rfl, .inr 341,_,_,rfl,rfl,(by show(0:Int) < 2147483647;decide),?_⟩;generalize WA:((cell % 2147483629+3*(t+1)*(t+1)+17*(t+1)+5)*48271 % 2147483647:Int)=mx;have m0:0<=mx:=by rw[<-WA];exact au1 _ 105
     have m1:mx < 2147483647:=by rw[<-WA];exact as2 _ 105
     refine⟨_,rfl,_,rfl,_,_,rfl,rfl,(by show(0:Int) < 998244353;decide),_,rfl,_,_,rfl,rfl,.inl 341,_,_,rfl,rfl,_,_,rfl,rfl,.inl ⟨by omega,by omega⟩,_,_,rfl,rfl,(by show(0:Int) < 2147483587;decide),?_⟩;generalize Wz:(mx*(mx % 998244353+7919*(t+1)) % 2147483587:Int)=my;have y0:0<=my:=by rw[<-Wz];exact au1 _ 105
     have y1:my < 2147483587:=by rw[<-Wz];exact as2 _ 105
     refine⟨_,rfl,_,rfl,_,_,rfl,rfl,(by show(0:Int) < 1000003;decide),_,rfl,_,_,rfl,rfl,_,_,rfl,rfl,.inl ⟨by omega,by omega⟩,_,_,rfl,rfl,(by show(0:Int) < 2147483563;decide),_,_,rfl,rfl,341,_,rfl,_,_,rfl,rfl,RI,?_⟩;refine q _ _ (au1 _ 149) (as2 _ RI) ⟨NC,⟨ns,G8,IP,Pz⟩,by omega,by omega⟩ fun b o e h1 h2=>?_;rw[ah h1];exact e
theorem C6(F:gC K "_law_begin" "_law_begin" rF f fd)(T:Txt mg):bh P w K mg base dY 1 f fd ["_law_script"] (rg K):=by
 refine F.ok Ck 273 182
 . obtain⟨a,ns,rfl,_⟩:=h;rfl
 . obtain⟨a,ns,rfl,hS,hn,q⟩:=h;have hu:=lM hr;refine⟨_,mD (rJ (yz (nv ji (bM CS (eg kc 199 T.lst cW (aj (nA ya (pv 0) yw (yv bq)) aK))
    (bM KO (rN (aj bq aK)) (eg A4 199 T.int lq (aj (yA CQ (eI dX 199 T.len av4 (aj (pv 0) aK)) bq (fB _)) aK)))) (nv ji bq yu)) rfl rfl 112 105)),?_⟩
   intro d hd;have s0:aq H (upd H d (.dK [])):=aq.new hd;have d0:(upd H d (.dK [])) d=some (.dK []):=ae;generalize upd H d (.dK [])=H0 at s0 d0;refine⟨_,rfl,_,rfl,a,_,rfl,s0.seq hS,fun p hp=>?_⟩;have UX:l9 131 none (some 63)=ns.map V.int:=by
    unfold l9;rw[HT.Co,show((63:Int))=((63:Nat):Int) from rfl,HT.Gd,List.drop_zero,au3,aa2];exact List.take_of_length_le (by rw[aa2];omega)
   rw[UX];have s1:aq H0 (upd H0 p (.lst 131)):=aq.new hp;have e1:(upd H0 p (.lst 131)) p=some (.lst 131):=ae;generalize upd H0 p (.lst 131)=H1 at s1 e1;refine⟨p,_,rfl,.inl (bL.of e1),fun l hl=>?_⟩;have s2:aq H1 (upd H1 l (.lst 131)):=aq.new hl;have e2:(upd H1 l (.lst 131)) l=some (.lst 131):=ae;generalize upd H1 l (.lst 131)=H2 at s2 e2;refine⟨by show 1<=sizeLine;decide,fun g hg=>?_⟩;have s3:aq H2 (upd H2 g (.lst [V.int 5])):=aq.new hg;have e3:(upd H2 g (.lst [V.int 5])) g=some (.lst [V.int 5]):=ae;generalize upd H2 g (.lst [V.int 5])=H3 at s3 e3;have V5:aq H H3:=aq.tr (aq.tr (aq.tr s0 s1) s2) s3;refine⟨_,rfl,a,_,rfl,.inl (V5.seq hS),rfl,.inr 376⟩;have fin: ∀(k:Int) (ms:List Int),0<=k->k<=1->131++(216).flatten=ms.map V.int->0 < ms.length->ms.length<=63->Oz (.ref g) (.int k) H3 fun y H4=>Kn (.ref l) y H4 fun y H5=>qX [(tC (.str "turn"),tC (.int 0))] [some 226] H5 fun ps H2=>(fun ps H2=>H2 d=some (.dK [])/\ ∃aG:List 264,ps=aG.map (fun kv=>(kV kv.1,kv.2))/\aG.length<=15/\Q (.ref d) (upd H2 d (.dK (bQ [] aG)))) ((.str "cells",y)::ps) H2:=fun k ms k0 k1 em l0 Wn=>by
    refine⟨g,k,_,rfl,rfl,e3,by omega,by omega,by show 1*_<=sizeLine;exact ac6 (by omega:1*k.toNat<=1) 105,fun r Pu=>?_⟩;have s4:aq H3 (upd H3 r (.lst (216).flatten)):=aq.new Pu;have e4:(upd H3 r (.lst (216).flatten)) r=some (.lst (216).flatten):=ae;generalize upd H3 r (.lst (216).flatten)=H4 at s4 e4;have hlen:(131).length+(216).flatten.length=ms.length:=by rw[<-ab8,em,aa2]
    refine⟨l,r,_,_,rfl,rfl,s4 _ _ (s3 _ _ e2),e4,by rw[hlen];exact ac6 Wn 105,fun c hc=>?_⟩;rw[em];have e5:(upd H4 c 347) c=some 347:=ae;have s5:aq H4 (upd H4 c 347):=aq.new hc;generalize upd H4 c 347=H5 at e5 s5;have d5:H5 d=some (.dK []):=s5 _ _ (s4 _ _ (s3 _ _ (s2 _ _ (s1 _ _ d0))));have nd:c≠d:=Dh e5 d5 (by intro z;cases z);refine⟨d5,[(Sum.inr "cells",.ref c),(Sum.inr "turn",.int 0)],rfl,by show 2<=15;decide,?_⟩;have ZI:bQ [] [((Sum.inr "cells":Key),V.ref c),(Sum.inr "turn",V.int 0)]=bx c 0:=by
     simp [bQ,putK,bx,Tt]
    rw[ZI];refine q d c _ ⟨ae,⟨ms,by rw[ah nd];exact e5,l0,Wn⟩,ae8 _,by decide⟩ fun b o e=>?_;rw[ah (az e hd)];exact s5 _ _ (s4 _ _ (V5 _ _ e))
   cases uQ:ns with
   | nil=>
    subst uQ;exact fin 1 [5] 105 105 rfl 105 105
   | cons n0 nr=>
    rw[<-uQ];have qe: ¬V.int (((131).length:Nat):Int)=V.int 0:=fun z=>by
     injection z with z
     rw[uQ,aa2] at z;simp at z;omega
    rw[ad4 qe];exact fin 0 ns 105 105 112 (by rw[uQ];simp) hn
theorem C0(F:gC K "_law_take" "_law_take" rD f fd)(T:Txt mg):bh P w K mg base dY 1 f fd ["_law_box","_law_many"] (Bn tP):=(GL F T).imp fun _ _ _ _ h=>F1 h
end
end bU
namespace Nc
open PySem L2 LB LD MH bW PyProof.Rows bU
def nD(x:Nat):Dt:= .int (x:Int)
def NU(hs:List Nat):Dt:= .tup (hs.map nD)
theorem xa:eq2 (nD x) (nD y)=some (decide (x=y)):=by
 show some (decide ((x:Int)=(y:Int)))=_;congr 1
 by_cases h:x=y
 . subst h;simp
 . rw[ad4 h,ad4 fun z=>h 101]
theorem Qg(hs:List Nat):aX 1 (hs.map nD)=(List.range' 1 hs.length).map fun x=> .tup [nD x,nD (up hs x)]:=by
 refine ai1 fun i=>?_;unfold aX;rw[am0,aa6,aa6];by_cases hi:i < hs.length
 . have:=gn (hs:=hs) (w:=i+1) 101 101;rw[al8] at this;rw[this,aj3 101];show some _=some _;rw[show 1+1*i=i+1 by lia];rfl
 . rw[ad9 101,ad9 (by rw[ae2];lia)];rfl
def onN(f:Nat->Dt):Dt->Dt | .int i=>f i.toNat | d=>d
def yJ:DN:=fun ds Q=> ∃hs:List Nat,ds= [NU hs]/\1<=hs.length/\hs.length<=12/\(∀x∈hs,x<=hs.length)/\ ∀b,(b=true↔Hg hs)->Q (.bl b)
def cz(L:List Nat):List Int:=L.map Int.ofNat
theorem sI:(cz L).length=L.length:=aa2 ..
theorem xv:cz (L++M)=cz L++cz M:=ae4 ..
theorem Jr{L:List Nat}(h:L.Nodup):(cz L).Nodup:=List.Pairwise.map _ (fun a b (n:a≠b) (z:Int.ofNat a=Int.ofNat b)=>n (Int.ofNat.inj z)) h
theorem vL{x:Nat}: ∀{L:List Nat},(cN (Ak (cz L)) (FQ (cz L)) (.inl (x:Int))).isSome=decide (x∈L)
 | []=>by simp [cz,Ak,FQ,cN]
 | y::L=>by
  show(cN (.inl (y:Int)::Ak (cz L)) (.bl true::FQ (cz L)) (.inl (x:Int))).isSome=_;rw[cN];by_cases c:y=x
  . subst c;rw[if_pos rfl];simp
  . rw[if_neg (fun z=>c (by have:=Sum.inl.inj z;lia)),vL];have:x≠y:=fun z=>c z.symm;simp [this]
def KS(f:Nat->Nat->Bool):Dt->Bool
 | .tup [.int a,.int b]=>f a.toNat b.toNat
 | _=>false
theorem rR:KS f (.tup [nD x,nD y])=f x y:=by
 show f ((x:Int)).toNat ((y:Int)).toNat=_;rw[ae5,ae5]
def Hd:Dt->Dt
 | .tup [a,_]=>a
 | d=>d
section
variable{P:Program}{w:World}{K:PySem.W.Frag}{mg:Str->Option Value}{base:Heap}
theorem zW(F:gC K "_law_is_hung" "_law_is_hung" dg f fd)(T:Txt mg):bh P w K mg base dY 1 f fd ["_law_h"] (fg yJ):=by
 refine sv F iC 158 (fun bK A outer s H E hr=>⟨_,(ag (Ga 1 iC.nd hr.hd T.Ql (aa (Ov.ev (cM (N:= ["_law_word","_law_on"]) (nt:=2) (js:= []) 119 rfl (yL T.Me (aa (dv 0) 395)) (fun _ _ _ _ _=>cU rfl (aF (aA (i:=0) (show(["_law_word","_law_on"]:List Str).Nodup by decide+kernel) rfl 102) (aF (aA (i:=1) (show(["_law_word","_law_on"]:List Str).Nodup by decide+kernel) rfl 102) bP))) bH aW (fun _ _ _ _ _=>lU (qW (dv 1) ao)) (fun _ _ _ _ _=>iu (aa (dv 0) (aa xt af))))) af))
 (ag (dy (qV (xq 1 T.len (pv 1)) ao) (aD (aL xt)) bF)
 (ag (eE rfl (nZ (dv 0)) (dj 2 iC.nd)
 (ag (Gb 3 1 iC.nd (N:= ["_law_word","_law_on","_law_placed"]) (nt:=2) (js:= [1]) 119 rfl (yL T.Me (aa (dv 0) 395)) (fun _ _ _ _ _=>cU rfl (aF (aA (i:=0) (show(["_law_word","_law_on","_law_placed"]:List Str).Nodup by decide+kernel) rfl 102) (aF (aA (i:=1) (show(["_law_word","_law_on","_law_placed"]:List Str).Nodup by decide+kernel) rfl 102) bP))) bH aW (fun _ _ _ _ _=>lU (PW.pt (w_and (N0 (lM hr) (dv 1) (dv 2)) (qR (B6 (lM hr) (dv 0) (dv 2)))))) (fun _ _ _ _ _=>dv 0))
 (ag (dz (Mp 1 hr.hd (pv 1) (aa (Ov.ev (cM (N:= ["_law_word"]) (nt:=1) (js:= []) 119 rfl (gs (dv 3)) (fun _ _ _ _ _=>aA (i:=0) (show(["_law_word"]:List Str).Nodup by decide+kernel) rfl 102) bz aS 160 (fun _ _ _ _ _=>iu (aa (dv 0) (aa xt af))))) af)))
 (aD (dy (B5 hr.BP (dv 3)) (aD (aL (l7 (xq 1 T.len (pv 1)) (eR T.len 167)))) bF)))) ag4)
 (aD (aL (l7 (xq 1 T.len (pv 1)) (eR T.len 167))))))),fun ds Qd h=>?_⟩)
 . obtain⟨hs,rfl,_⟩:=h;rfl
 . obtain⟨hs,rfl,h1,WM,hle,q⟩:=h;have hl:(aX 1 (hs.map nD)).length=hs.length:=by rw[Qg,aa2,ae2]
   have dl:(hs.map nD).length=hs.length:=aa2 ..;refine⟨_,rfl,_,rfl,by rw[hl];exact al3 (fJ 101),KS fun _ y=>decide (y=0),fun d=> .tup [Hd d,.bl true],fun d hd=>?_,?_⟩
   . rw[Qg] at hd;obtain⟨x,_,rfl⟩:=ac9.mp hd;refine⟨_,_,rfl,⟨_,rfl,rfl⟩,⟨_,rfl,rfl⟩,_,rfl,_,xa (y:=0),_,rfl,?_,fun _=>⟨_,rfl,by show 2<=sizeLine;decide,rfl⟩⟩;rw[rR]
   have e0:List.map (fun d=>Dt.tup [Hd d,.bl true]) (List.filter (KS fun _ y=>decide (y=0)) (aX 1 (hs.map nD)))=(cz (gK hs)).map Nq:=by
    rw[Qg,ar7,ae1];have:(KS (fun _ y=>decide (y=0)) ∘ fun x=>Dt.tup [nD x,nD (up hs x)])=fun x=>decide (up hs x=0):=by funext x;exact rR
    rw[this];unfold cz gK;rw[ae1];rfl
   rw[e0];have tl:(gK hs).length<=12:=ac6 (aj7 _ _) (by rw[ae2];exact WM);refine⟨cz (gK hs),rfl,Jr xX,by rw[sI];lia,⟨_,rfl,rfl⟩,?_⟩;have kl: ∀L:List Nat,(Ak (cz L)).length=L.length:=fun L=>by unfold Ak;rw[aa2,sI]
   refine⟨_,_,rfl,decide ((gK hs).length=1),by rw[kl];exact xa (x:=(gK hs).length) (y:=1),_,rfl,?_⟩;by_cases c1:(gK hs).length=1
   . obtain ⟨t, ht⟩ : ∃ t, gK hs = [t] := by
       match h:gK hs,c1 with
       | [t],_=>exact⟨t,rfl⟩
     rw[ad3 c1];refine a9 ?_;rw[ht];refine⟨_,rfl,_,rfl,fun i δ=> ∃L rk s2 s3,δ= [.im (NU hs),.dk (Ak (cz L)) (FQ (cz L)),s2,s3]/\(s2= .no\/ ∃d,s2= .im d)/\(s3= .no\/ ∃d,s3= .im d)/\Bc hs t (i+1) L rk,⟨[t],_,.no,.no,rfl,.inl rfl,.inl rfl,Bc.start ht⟩,fun i d δ hi hP=>?_,fun δ hP=>?_⟩
     . obtain⟨L,rk,s2,s3,rfl,o2,o3,g⟩:=hP;have gl:=g.le;have b2:s2.bo=false:=by rcases o2 with rfl | ⟨_,rfl⟩ <;> rfl
       have b3:s3.bo=false:=by rcases o3 with rfl | ⟨_,rfl⟩ <;> rfl
       refine⟨⟨_,rfl,b2⟩,?_⟩;refine⟨_,_,rfl,?_,_,rfl,_,rfl,by rw[hl];exact al3 (fJ 101),KS fun x y=>decide (y∈L) && !decide (x∈L),Hd,fun e he=>?_,?_⟩
       . intro j s nj hj;match j,nj,hj with
         | 0,_,hj=>cases hj;exact .inr (.inl ⟨_,rfl⟩)
         | 1,nj,_=>exact absurd rfl nj
         | 2,_,hj=>cases hj;exact .inr (.inl ⟨_,rfl⟩)
         | 3,_,hj=>
          cases hj;rcases o3 with rfl | ⟨d3,rfl⟩
          . exact .inl rfl
          . exact .inr (.inl ⟨_,rfl⟩)
         | n+4,_,hj=>cases hj
       . rw[Qg] at he;obtain⟨x,_,rfl⟩:=ac9.mp he;refine⟨_,_,rfl,⟨_,rfl,rfl⟩,⟨_,rfl,rfl⟩,_,rfl,_,rfl,_,_,_,rfl,rfl,_,rfl,?_⟩;rw[rR];rw[if_neg ab3,vL];by_cases cy:up hs x∈L
         . rw[ad3 cy];refine cw ⟨_,rfl,_,rfl,_,_,_,rfl,rfl,_,rfl,?_,fun _=>⟨_,rfl,rfl⟩⟩;rw[if_pos rfl,vL,Bool.true_and]
         . rw[ad4 cy];exact a9 ⟨by rw[av5],fun z=>by cases z⟩
       . have e1 : List.map Hd (List.filter (KS fun x y => decide (y ∈ L) && !decide (x ∈ L)) (aX 1 (hs.map nD))) = (cz (cX hs L)).map .int := by
           rw[Qg,ar7,ae1];have:(KS (fun x y=>decide (y∈L) && !decide (x∈L)) ∘ fun x=>Dt.tup [nD x,nD (up hs x)])=fun x=>decide (up hs x∈L) && !decide (x∈L):=by funext x;exact rR
           rw[this];unfold cz cX;rw[ae1];rfl
         rw[e1];have ml:(cX hs L).length<=12:=ac6 (aj7 _ _) (by rw[ae2];exact WM);refine⟨rfl,⟨_,rfl⟩,⟨_,rfl,b3⟩,?_⟩;refine⟨⟨_,_,rfl⟩,_,rfl,_,rfl,by rw[aa2,sI];exact al3 (fJ 101),fun _=>true,fun d=> .tup [d,.bl true],fun e he=>⟨⟨_,rfl,rfl⟩,rfl,fun _=>⟨_,rfl,by show 2<=sizeLine;decide,rfl⟩⟩,?_⟩;rw[af9.mpr (fun _ _=>rfl)];have e2:(369).map (fun d=>Dt.tup [d,.bl true])=(cz (cX hs L)).map Nq:=by rw[ae1];rfl
         rw[e2];refine⟨cz L,cz (cX hs L),rfl,rfl,by rw[<-xv];exact Jr g.Fh,by rw[<-xv,sI,ab8];lia,?_⟩;rw[<-xv];refine⟨_,rfl,_,rfl,_,rfl,?_⟩;by_cases ce:cX hs L= []
         . rw[ce,ah8];refine cw ?_;refine⟨_,_,rfl,_,rfl,_, .inr rfl,decide (L.length=hs.length),?_,?_⟩
           . rw[kl,dl];exact xa
           . refine q _ ?_;rw[ai9];exact g.iff ht hle ce
         . have ne : (369).isEmpty = false := by
             cases hm:cX hs L with
             | nil=>exact absurd hm ce
             | cons a l=>rfl
           rw[show(if false=true then !(369).isEmpty else(369).isEmpty)=false by rw[if_neg ab3];exact ne];refine a9 ?_;exact⟨L++cX hs L,_,_,_,rfl,.inr ⟨_,rfl⟩,.inr ⟨_,rfl⟩,g.step ce⟩
     . obtain⟨L,rk,s2,s3,rfl,o2,o3,g⟩:=hP;exfalso;have a:=g.len;have b:=g.le;rw[dl] at a;lia
   . rw[ad4 c1];refine cw ?_;refine q false ⟨fun z=>(by cases z),fun hg=>?_⟩;obtain⟨t,ht⟩:=BU hg;rw[ht] at c1;exact absurd rfl c1
end
end Nc
namespace bU
open PySem PySem.Spec L2 LB LD PyProof.Rows mh MH ME bW
def vZ(r:Rs):Dt:= .tup [.int (0 - r.1),aJ r.2]
theorem Cg(g h:List Nat):Jz 1 (aJ g) (aJ h):= .tup fun j d e h1 h2=>by
 rw[aa6] at h1 h2;obtain⟨x,_,rfl⟩:=ae6.mp h1;obtain⟨y,_,rfl⟩:=ae6.mp h2;exact .flat rfl rfl
theorem tU(g h:List Nat):M5 1 (aJ g) (aJ h):= .tup (fun j d e h1 h2=>by
 rw[aa6] at h1 h2;obtain⟨x,_,rfl⟩:=ae6.mp h1;obtain⟨y,_,rfl⟩:=ae6.mp h2;exact .flat rfl rfl) fun j d e h1 h2=>by
 rw[aa6] at h1 h2;obtain⟨x,_,rfl⟩:=ae6.mp h1;obtain⟨y,_,rfl⟩:=ae6.mp h2;exact .int
theorem J5(a b:Rs):M5 2 (vZ a) (vZ b):= .tup (fun j d e h1 h2=>by
 match j with
 | 0=>cases h1;cases h2;exact .flat rfl rfl
 | 1=>cases h1;cases h2;exact Cg _ _
 | j+2=>simp at h1) fun j d e h1 h2=>by
 match j with
 | 0=>cases h1;cases h2;exact .int
 | 1=>cases h1;cases h2;exact tU _ _
 | j+2=>simp at h1
theorem D8(g h:List Nat):yX 1 (aJ g) (aJ h)=decide (g=h):=by
 show((List.range (min (408).length (272).length)).all (fun j=>yX 0 ((408).getD j .aC) ((272).getD j .aC)) && (408).length==(272).length)=decide (g=h);rw[aa2,aa2];by_cases c:g=h
 . subst c;rw[ad3 rfl,al5,Bool.and_true,ah9];intro j hj;rw[af8,Nat.min_self] at hj;have e:(408).getD j .aC=xI g[j]:=by rw[ab7,aa6,aa1 hj];rfl
   rw[e];show(((g[j]:Int)==(g[j]:Int)))=true;exact al5 _
 . rw[ad4 c];rw[Bool.and_eq_false_iff];by_cases l:g.length=h.length
   . left;rw[List.all_eq_false];obtain⟨j,j1,j2⟩: ∃j,∃(hj:j < g.length),g[j]≠h[j]' 101:=by
      refine ah3 fun z=>c (ao9 l fun j h1 h2=>?_);exact ah3 fun y=>z ⟨j,h1,y⟩
     refine⟨j,af8.mpr 101,?_⟩;have e1:(408).getD j .aC=xI g[j]:=by rw[ab7,aa6,aa1 j1];rfl
     have e2:(272).getD j .aC=xI (h[j]' 101):=by rw[ab7,aa6,aa1 101];rfl
     rw[e1,e2];show¬(((g[j]:Int)==((h[j]' 101:Nat):Int)))=true;rw[ab9];lia
   . right;exact ar1.mpr l
theorem Dr:jk n m e l (f+1) i=if e i then jk n m e l f (i+1) else l i:=rfl
theorem uH: ∀(f i:Nat) (g h:List Nat),min g.length h.length - i=f->i<=min g.length h.length->jk g.length h.length (fun j=>yX 0 ((408).getD j .aC) ((272).getD j .aC)) (fun j=>Dn 0 ((408).getD j .aC) ((272).getD j .aC)) f i=Dp (g.drop i) (h.drop i)
 | 0,i,g,h,e,hi=>by
  show decide (g.length < h.length)=_;by_cases c:g.length<=h.length
  . rw[List.drop_of_length_le (i:=i) (l:=g) 101];show _=!(h.drop i).isEmpty;by_cases d:g.length < h.length
    . rw[ad3 d];cases z:h.drop i with
      | nil=>have:=List.drop_eq_nil_iff.mp z;lia
      | cons _ _=>rfl
    . rw[ad4 d,List.drop_of_length_le 101];rfl
  . rw[ad4 101,List.drop_of_length_le (i:=i) (l:=h) 101];cases z:g.drop i with
    | nil=>have:=List.drop_eq_nil_iff.mp z;lia
    | cons _ _=>rfl
 | f+1,i,g,h,e,hi=>by
  have g1:i < g.length:=by lia
  have h1:i < h.length:=by lia
  have e1:(408).getD i .aC=xI g[i]:=by rw[ab7,aa6,aa1 g1];rfl
  have e2:(272).getD i .aC=xI h[i]:=by rw[ab7,aa6,aa1 h1];rfl
  rw[Dr,uH f (i+1) g h 101 101,al1 g1,al1 h1];rw[e1,e2];show(if ((g[i]:Int)==(h[i]:Int))=true then _ else decide ((g[i]:Int) < (h[i]:Int)))=(if g[i]=h[i] then _ else decide (g[i] < h[i]))
  by_cases c:g[i]=h[i]
  . rw[if_pos c,if_pos (by rw[c];exact al5 _)]
  . rw[if_neg c,if_neg (by rw[ab9];lia)];exact ak1.mpr 101
theorem uE(g h:List Nat):Dn 1 (aJ g) (aJ h)=Dp g h:=by
 have:=uH (min g.length h.length) 0 g h (au3 _) (ae3 _);show jk (408).length (272).length _ _ (min (408).length (272).length) 0=_;rw[aa2,aa2];exact this
theorem K8(a b:Rs):Dn 2 (vZ a) (vZ b)=ahead a b:=by
 show(if (((0 - a.1:Int)==(0 - b.1:Int)))=true then(if yX 1 (aJ a.2) (aJ b.2)=true then decide (2 < 2) else Dn 1 (aJ a.2) (aJ b.2)) else Dn 1 (.int (0 - a.1)) (.int (0 - b.1)))=ahead a b;rw[D8,uE,rV];unfold ahead;by_cases c:a.1=b.1
 . rw[if_pos (by rw[c];exact al5 _),ad3 c,ad4 (show¬a.1 > b.1 by lia),Bool.false_or,Bool.true_and];by_cases d:a.2=b.2
   . rw[ad3 d,if_pos rfl,d];have: ∀h:List Nat,Dp h h=false:=fun h=>by
      induction h with
      | nil=>rfl
      | cons x xs ih=>unfold Dp;rw[if_pos rfl];exact ih
     rw[this];rfl
   . rw[ad4 d,if_neg ab3]
 . rw[if_neg (by rw[ab9];lia),ad4 c,av5,Bool.or_false];exact ak1.mpr 101
theorem uz(hr:ck k A)(hj:j<=3:=by decide):A.units+2+j < cLine:=by have:=hr.un;lia
def toN:Dt->Nat
 | .int i=>i.toNat
 | _=>0
theorem fe(h:List Nat):(272).map toN=h:=by
 rw[ae1];have:(toN ∘ xI)=id:=by funext x;show((x:Int)).toNat=x;rw[ae5]
 rw[this,at7]
def An(n:Nat):Dt->Int
 | .tup ds=>code (n+1) (ds.map toN)
 | _=>0
theorem p7(n:Nat)(h:List Nat):An n (aJ h)=code (n+1) h:=by
 show code (n+1) ((272).map toN)=_;rw[fe]
theorem um(h:List Nat):HS (aJ h):= .tup fun d hd=>by
 obtain⟨x,_,rfl⟩:=ac9.mp hd;exact .int _
theorem DY{g h:List Nat}(hg:g.length=n)(hh:h.length=n)(g1: ∀x∈g,x<=n)(h1: ∀x∈h,x<=n):Dn 1 (aJ g) (aJ h)=decide (An n (aJ g) < An n (aJ h)):=by
 have e:=fV (B:=n+1) (h:=g) (g:=h) (by rw[hg,hh]) (fun x hx=>ah5 (g1 x hx)) fun x hx=>ah5 (h1 x hx);rw[uE,p7,p7,ak9,ai9];exact e.symm
def encM(n:Nat)(r:Rs):Int:=enc (233^n) (0 - r.1,code (n+1) r.2)
def Pc(n:Nat):Dt->Int
 | .tup [.int x,.tup ds]=>enc (233^n) (x,code (n+1) (ds.map toN))
 | _=>0
theorem mH(n:Nat)(r:Rs):Pc n (vZ r)=encM n r:=by
 show enc _ (0 - r.1,code (n+1) ((r.2.map xI).map toN))=_;rw[fe];rfl
theorem KZ(r:Rs):HS (vZ r):= .tup fun d hd=>by
 rcases ad1.mp hd with rfl | hd
 . exact .int _
 . cases aa9.mp hd;exact um _
theorem uN(h:Ia n r):0<=code (n+1) r.2/\code (n+1) r.2 < 233^n:=by
 have:=gA (B:=n+1) (h:=r.2) fun x hx=>ah5 (h.b x hx);rw[h.l] at this;exact this
theorem qk(ha:Ia n a)(hb:Ia n b):decide (encM n a < encM n b)=ahead a b:=by
 have e:=Mh (B:=233^n) (p:=(0 - a.1,code (n+1) a.2)) (q:=(0 - b.1,code (n+1) b.2)) (uN ha) (uN hb);have c:=fV (B:=n+1) (h:=a.2) (g:=b.2) (by rw[ha.l,hb.l]) (fun x hx=>ah5 (ha.b x hx)) fun x hx=>ah5 (hb.b x hx);unfold encM;rw[e];unfold ahead;have c':Dp a.2 b.2=decide (code (n+1) a.2 < code (n+1) b.2):=by rw[ak9,ai9];exact c.symm
 rw[c'];generalize code (n+1) a.2=ca;generalize code (n+1) b.2=cb;show(if ((0 - a.1:Int)==0 - b.1)=true then(if (ca==cb)=true then false else decide (ca < cb)) else decide (0 - a.1 < 0 - b.1))=_;by_cases h1:a.1=b.1
 . rw[if_pos (by rw[h1];exact al5 _),ad3 h1,ad4 (show¬a.1 > b.1 by lia),Bool.false_or,Bool.true_and];by_cases h2:ca=cb
   . rw[if_pos (by rw[h2];exact al5 _),ad4 101]
   . rw[if_neg (by rw[ab9];exact h2)]
 . rw[if_neg (by rw[ab9];lia),ad4 h1,av5,Bool.or_false];exact ak1.mpr 101
theorem w6{n:Nat}{w:Tb}{S:List 137}(hS: ∀h,h∈S↔Hg h/\h.length=n){ms:List Rs}(pm:ms.Perm (S.filterMap fun h=>(fZ w h).map fun v=>(v,h)))(so:ms.Pairwise fun a b=>encM n a<=encM n b):kn n w ms.head?:=by
 have mem: ∀r,r∈ms↔r.2∈S/\fZ w r.2=some r.1:=fun r=>by
  rw[pm.mem_iff,ap5];constructor
  . rintro⟨h,hh,e⟩
    obtain⟨v,ev,rfl⟩:=ae6.mp e;exact⟨hh,ev⟩
  . rintro⟨h1,h2⟩
    exact⟨r.2,h1,by rw[h2];rfl⟩
 have inr: ∀r,r∈ms->Ia n r:=fun r hr=>by
  obtain⟨hg,hl⟩:=(hS _).mp ((mem r).mp hr).1;exact⟨hl,fun x hx=>by have:=hg.le x hx;lia⟩
 cases ms with
 | nil=>
  refine .no fun g hg gl=>?_;cases e:fZ w g with
  | none=>rfl
  | some v=>exact absurd ((mem (v,g)).mpr ⟨(hS g).mpr ⟨hg,gl⟩,e⟩) aa8
 | cons b ms=>
  obtain⟨v,h⟩:=b;obtain⟨h1,h2⟩:=(mem (v,h)).mp ac4;obtain⟨hg,hl⟩:=(hS h).mp h1;refine .of hg hl h2 fun g u gg gl e=>?_;have hx:=(mem (u,g)).mpr ⟨(hS g).mpr ⟨gg,gl⟩,e⟩;have ix:=inr _ hx;have ib:=inr _ ac4;refine(kM ix ib).mp ?_;rw[<-qk ix ib,am2];rcases ad1.mp hx with z | z
  . rw[z];lia
  . have:=(ap4.mp so).1 _ z;lia
theorem vk(ha:kn n w a)(hb:kn n w b):a=b:=by
 cases ha with
 | no h=>
  cases hb with
  | no _=>rfl
  | of h1 h2 h3 _=>rw[h _ h1 h2] at h3;cases h3
 | @of v g h1 h2 h3 h4=>
  cases hb with
  | no h=>rw[h _ h1 h2] at h3;cases h3
  | @of u f k1 k2 k3 k4=>
   have e1:=h4 f u k1 k2 k3;have e2:=k4 g v h1 h2 h3;have i1:Ia n (v,g):=⟨h2,fun x hx=>by have:=h1.le x hx;lia⟩
   have i2:Ia n (u,f):=⟨k2,fun x hx=>by have:=k1.le x hx;lia⟩
   have a1:=(kM i2 i1).mpr e1;have a2:=(kM i1 i2).mpr e2;have c:=fV (B:=n+1) (h:=g) (g:=f) (by rw[h2,k2]) (fun x hx=>ah5 (i1.b x hx)) fun x hx=>ah5 (i2.b x hx);have d:=fV (B:=n+1) (h:=f) (g:=g) (by rw[h2,k2]) (fun x hx=>ah5 (i2.b x hx)) fun x hx=>ah5 (i1.b x hx);have e1:u < v\/(u=v/\code (n+1) g<=code (n+1) f):=e1;have e2:v < u\/(v=u/\code (n+1) f<=code (n+1) g):=e2;have uv:u=v:=by lia
   have ce:code (n+1) g=code (n+1) f:=by lia
   have:g=f:=code_inj (B:=n+1) (by rw[h2,k2]) (fun x hx=>ah5 (i1.b x hx)) (fun x hx=>ah5 (i2.b x hx)) ce;rw[uv,this]
def iM(n f p:Nat):List Nat:=if p≠f then(120).filter fun u=>decide (u≠p+1) else [0]
def iT(n f p:Nat)(R:List 137):List 137:=R.flatMap fun r=>(iM n f p).map fun u=>r++ [u]
def bX(n f:Nat):Nat->List 137
 | 0=> [[]]
 | p+1=>iT n f p 371
theorem ue(n1:1<=n):(iM n f p).length<=n:=by
 unfold iM;split
 . have:=aj7 (fun u=>decide (u≠p+1)) 120;rwa [ae2] at this
 . exact n1
theorem ub:u∈iM n f p↔if p=f then u=0 else 1<=u/\u<=n/\u≠p+1:=by
 unfold iM;by_cases c:p=f
 . rw[if_neg (fun z=>z c),if_pos c,aa9]
 . rw[if_pos c,if_neg c,ag8,br,ai9];exact⟨fun⟨⟨a,b⟩,c⟩=>⟨a,b,c⟩,fun⟨a,b,c⟩=>⟨⟨a,b⟩,c⟩⟩
theorem pW(n1:1<=n)(R:List 137):(iT n f p R).length<=R.length*n:=by
 unfold iT;induction R with
 | nil=>simp
 | cons r R ih=>
  rw[List.flatMap_cons,ab8,aa2,ac1,as7];have:=ue (f:=f) (p:=p) n1;lia
theorem iF(n1:1<=n)(n5:n<=5): ∀p,p<=n->(371).length<=5^p
 | 0,_=>aa4 _
 | p+1,h=>by
  have a:=pW (n:=n) (f:=f) (p:=p) n1 371;have b:=iF (f:=f) n1 n5 p 101;have c:(371).length*n<=5^p*5:=Nat.mul_le_mul b n5;rw[Nat.pow_succ];exact ac6 a c
theorem dZ: ∀{p:Nat} {h:List Nat},h∈bX n f p↔h.length=p/\ ∀j u,h[j]?=some u->u∈iM n f j
 | 0,h=>by
  show h∈ [[]]↔_;rw[aa9];constructor
  . rintro rfl;exact⟨rfl,fun j u e=>by simp at e⟩
  . rintro⟨e,_⟩;exact ao4.mp e
 | p+1,h=>by
  show h∈iT n f p 371↔_;unfold iT;rw[List.mem_flatMap];constructor
  . rintro⟨r,hr,hx⟩
    obtain⟨u,hu,rfl⟩:=ac9.mp hx;obtain⟨rl,rm⟩:=dZ.mp hr;refine⟨by rw[ab8,rl];rfl,fun j v e=>?_⟩;by_cases c:j < r.length
    . rw[ad7 c] at e;exact rm j v e
    . rw[ae7 101] at e;by_cases d:j - r.length=0
      . rw[d] at e;cases e;rw[show j=p by lia];exact hu
      . rw[ad9 (by show 1<=_;lia)] at e;cases e
  . rintro⟨hl,hm⟩
    refine⟨h.dropLast,dZ.mpr ⟨by rw[List.length_dropLast,hl];rfl,fun j u e=>?_⟩,?_⟩
    . rw[List.getElem?_dropLast] at e;split at e
      . exact hm j u e
      . cases e
    . have hp:h[p]?=some (h[p]' 101):=aa1 _;refine ac9.mpr ⟨_,hm p _ hp,?_⟩;have:=List.dropLast_concat_getLast (l:=h) (by intro z;rw[z] at hl;cases hl);rw[List.getLast_eq_getElem] at this;simp only [hl,al8] at this;exact this
noncomputable def Bs(h:List Nat):Bool:= @decide (Hg h) (Classical.propDecidable _)
theorem sd:Bs h=true↔Hg h:=by unfold Bs;exact @decide_eq_true_iff _ (Classical.propDecidable _)
noncomputable def dR(n k:Nat):List 137:=(List.range k).flatMap fun f=>(bX n f n).filter Bs
theorem lR(n k:Nat):dR n (k+1)=dR n k++(bX n k n).filter Bs:=by
 unfold dR;rw[List.range_succ,at8];simp
theorem gw(n1:1<=n)(n5:n<=5): ∀k,(dR n k).length<=k*3125
 | 0=>aa4 _
 | k+1=>by
  rw[lR,ab8,as7];have a:=gw n1 n5 k;have b:=aj7 Bs (bX n k n);have c:=iF (f:=k) n1 n5 n (aa4 _);have d:5^n<=5^5:=at6 105 n5;have e:5^5=3125:=by decide
  lia
theorem gv:h∈dR n n↔Hg h/\h.length=n:=by
 unfold dR;rw[List.mem_flatMap];constructor
 . rintro⟨f,_,hx⟩
   obtain⟨h1,h2⟩:=ag8.mp hx;exact⟨sd.mp h2,(dZ.mp h1).1⟩
 . rintro⟨hg,hl⟩
   obtain⟨t,t1,t2⟩:=hg.one;have tl:t < n:=by rw[<-hl];exact(aa5.mp t1).1
   refine⟨t,af8.mpr tl,ag8.mpr ⟨dZ.mpr ⟨hl,fun j u e=>?_⟩,sd.mpr hg⟩⟩;rw[ub];by_cases c:j=t
   . subst c;rw[if_pos rfl];rw[t1] at e;exact(Option.some.inj e).symm
   . rw[if_neg c];have jl:=(aa5.mp e).1;have eu:up h (j+1)=u:=by unfold up;rw[al8,ab7,e];rfl
     refine⟨?_,?_,?_⟩
     . by_cases z:u=0
       . subst z;exact absurd (t2 j e) c
       . lia
     . have:=hg.mU (w:=j+1) 101 101;lia
     . intro z;exact yQ hg (v:=j+1) 101 101 101
end bU
namespace bU
open PySem PySem.Spec L2 LB LD PyProof.Rows mh MH ME bW Nc
def IE:DN:=fun ds Q=> ∃n:Nat,ds= [nI n]/\1<=n/\n<=5/\ ∀S:List 137,(∀h,h∈S↔Hg h/\h.length=n)->S.length<=20000->Q (.lst (S.map aJ))
inductive AlI(n k:Nat)(δ:List Sl):Prop
 | mk (s2 s3 s4 s5 s6 s7:Sl) (e:δ= [.im (nI n),.ow ((dR n k).map aJ),s2,s3,s4,s5,s6,s7]) (b2:s2.bo=false) (b3:s3.bo=false) (b4:s4.bo=false) (b5:s5.bo=false) (b6:s6.bo=false) (b7:s7.bo=false)
inductive Xs(n f p:Nat)(δ:List Sl):Prop
 | mk (s4 s5 s6 s7:Sl) (e:δ= [.im (nI n),.ow ((dR n f).map aJ),.im (nI f),.im (.lst ((371).map aJ)),s4,s5,s6,s7]) (b4:s4.bo=false) (b5:s5.bo=false) (b6:s6.bo=false) (b7:s7.bo=false)
inductive AlK(n f p i:Nat)(δ:List Sl):Prop
 | mk (s7:Sl) (e:δ= [.im (nI n),.ow ((dR n f).map aJ),.im (nI f),.im (.lst ((371).map aJ)),.im (nI p),.im (.lst ((iM n f p).map nI)),.ow ((iT n f p ((371).take i)).map aJ),s7]) (b7:s7.bo=false)
def Wi(p:Nat):Dt->Bool
 | .int u=>!decide (u.toNat=p+1)
 | _=>false
theorem GS(c:p≠f):((335).filter (Wi p)).map id=(iM n f p).map nI:=by
 have e:(340).map (fun k=>Dt.int (1+(k:Nat)))=(120).map nI:=by
  rw[av2,ae1];refine ae9 fun k _=>?_;show Dt.int _=Dt.int _;congr 1
 rw[e,at7,ar7];unfold iM;rw[if_pos c];congr 1
 refine List.filter_congr fun u _=>?_;show(!decide (((u:Int)).toNat=p+1))=decide (u≠p+1);rw[ae5];simp
noncomputable def WD:Dt->Bool
 | .tup ds=>Bs (ds.map toN)
 | _=>false
def QQ(r:List Nat):Dt->Dt
 | .int u=>aJ (r++ [u.toNat])
 | _=> .aC
section
variable{P:Program}{w:World}{K:PySem.W.Frag}{mg:Str->Option Value}{base:Heap}
theorem GN(F:gC K "_law_all" "_law_all" jB f fd)(T:Txt mg)(Fs:iL P w K mg base "_law_is_hung" 1 ["_law_h"] (fg yJ)):bh P w K mg base dY 2 f fd ["_law_n"] (fg IE):=by
 refine sv F fw 158 (fun bK A outer s H E hr=>⟨_,(ag (eD 1 fw.nd (g9 af))
 (ag (eE rfl (jm T.tZ 167) (dj 2 fw.nd)
 (ag (cm 3 fw.nd (lX (aa (iu af) af)))
 (ag (eE rfl (jm T.tZ 167) (dj 4 fw.nd)
 (ag (eD 5 fw.nd (g9 395))
 (ag (dy (qV (dv 4) (dv 2))
 (aD (rB 5 fw.nd (N:= ["_law_on","_law_place"]) (nt:=1) (js:= [4]) 118 rfl (n4 T.tZ (aa ao (aa (i4 (dv 0) ao) af))) (fun _ _ _ _ _=>aA (i:=0) (show(["_law_on","_law_place"]:List Str).Nodup by decide+kernel) rfl 102) bz aS (fun _ _ _ _ _=>lU (qV (dv 0) (i4 (dv 1) ao))) (fun _ _ _ _ _=>(dv 0))))
 bF)
 (ag (eD 6 fw.nd (g9 af))
 (ag (gR 5 (eE rfl (gs (dv 3)) (dj 7 fw.nd)
 (aD (dz (u9 6 (pv 6) (aa (Ov.ev (cM (N:= ["_law_on","_law_one"]) (nt:=1) (js:= [7]) 118 rfl (gs (dv 5)) (fun _ _ _ _ _=>aA (i:=0) (show(["_law_on","_law_one"]:List Str).Nodup by decide+kernel) rfl 102) bz aS 160 (fun _ _ _ _ _=>(Mt (dv 1) (iu 167))))) af)))) ag4))
 (aD (gR 6 (cm 3 fw.nd (dv 6)))))))) ag4)
 (aD (dz (u9 1 (pv 1) (aa (Ov.ev (cM (N:= ["_law_one"]) (nt:=1) (js:= []) 118 rfl (gs (dv 3)) (fun _ _ _ _ _=>aA (i:=0) (show(["_law_one"]:List Str).Nodup by decide+kernel) rfl 102) bz aS (fun _ _ _ _ _=>lU (jZ (cJ Fs (hr.mono 105) 167))) (fun _ _ _ _ _=>(dv 0)))) af)))))) ag4)
 (aD (gR 1 (aL (qm 0 (uz hr) T.Ip 206)))))),fun ds Qd h=>?_⟩)
 . obtain⟨n,rfl,_⟩:=h;rfl
 . obtain⟨n,rfl,n1,n5,q⟩:=h;refine 304;refine 319;refine bZ (AlI n) ⟨.no, .no, .no, .no, .no, .no,rfl,rfl,rfl,rfl,rfl,rfl,rfl⟩ (fun f d δ hi hP Δ' qc FL=>?_) 235
   . obtain⟨s2,s3,s4,s5,s6,s7,rfl,b2,b3,b4,b5,b6,b7⟩:=hP;have fl:f < n:=by have:=(348).1;rw[aa2,ac0] at this;lia
     rw[aa6,af4 101] at hi;have hi:Dt.int (f:Int)=d:=by have:=Option.some.inj hi;simpa using this
     subst hi;refine⟨⟨_,rfl,b2⟩,?_⟩;refine⟨by show 0<=sizeLine;decide,by show 1<=sizeLine;decide,⟨_,rfl,b3⟩,?_⟩;dsimp only;refine iB (Xs n f n) (fun Δ0 IP hr0=>?_) ?_
     . refine 319;refine bZ (Xs n f) ⟨s4,s5,s6,s7,rfl,b4,b5,b6,b7⟩ (fun p d δ hp hP Δ2 sY wO=>?_) 235
       . obtain⟨s4,s5,s6,s7,rfl,b4,b5,b6,b7⟩:=hP;have pl:p < n:=by have:=(aa5.mp hp).1;rw[aa2,ac0] at this;lia
         rw[aa6,af4 101] at hp;have hp:Dt.int (p:Int)=d:=by have:=Option.some.inj hp;simpa using this
         subst hp;refine⟨⟨_,rfl,b4⟩,by show 1<=sizeLine;decide,⟨_,rfl,b5⟩,?_⟩;dsimp only;refine iB (fun δ=>δ= [.im (nI n),.ow ((dR n f).map aJ),.im (nI f),.im (.lst ((371).map aJ)),.im (nI p),.ow ((iM n f p).map nI),s6,s7]) (fun Δ3 Wy hr3=>?_) ?_
         . refine⟨_,rfl,_,rfl,_,Hf,_,rfl,?_⟩;by_cases c:p=f
           . refine o4 (by rw[ad3 c];decide) (Wy _ ?_);have:iM n f p= [0]:=by unfold iM;rw[if_neg fun z=>z c]
             rw[this];rfl
           . refine nW (by rw[ad4 c];rfl) ?_;have e1:((n:Int)+1 - 1).toNat=n:=by lia
             refine⟨_,rfl,_,_,rfl,rfl,_,_,rfl,by lia,by rw[aa2,ac0,e1];exact ac6 (show n<=60 by lia) 105,Wi p,id,fun e he=>?_,?_⟩
             . obtain⟨k,_,rfl⟩:=ac9.mp he;rw[show(1:Int)+(k:Nat)=((k+1:Nat):Int) by lia];refine⟨⟨_,rfl,rfl⟩,_,rfl,_,rfl,_,_,rfl,rfl,_,Hf (x:=k+1) (y:=p+1),_,rfl,?_,fun _=>⟨_,rfl,rfl⟩⟩;show(!decide (k+1=p+1))=!decide (((k+1:Nat):Int).toNat=p+1);rw[ae5]
             . rw[e1,GS c];exact⟨⟨_,rfl,rfl⟩,Wy _ rfl⟩
         . rintro _ rfl
           refine⟨by show 0<=sizeLine;decide,⟨_,rfl,b6⟩,?_⟩;refine⟨_,rfl,_,rfl,_,rfl,?_⟩;refine bZ (AlK n f p) ⟨s7,rfl,b7⟩ (fun i d δ hi hP Δ4 YR hr4=>?_) 235
           . obtain⟨s7,rfl,b7⟩:=hP;rw[aa6] at hi;obtain⟨r,hr,rfl⟩:=ae6.mp hi;obtain⟨rl,_⟩:=dZ.mp (ac7 hr);have ol:=ue (f:=f) (p:=p) n1;refine⟨⟨_,rfl,b7⟩,⟨_,rfl⟩,_,rfl,_,rfl,by rw[aa2];exact ac6 (ac6 ol n5) 105,fun _=>true,QQ r,fun e he=>?_,?_⟩
             . obtain⟨u,_,rfl⟩:=ac9.mp he;refine⟨⟨_,rfl,rfl⟩,rfl,fun _=>⟨_,rfl,_,rfl,by show 1<=sizeLine;decide,_,_,rfl,rfl,?_,?_⟩⟩
               . rw[aa2,rl];exact ac6 (show p+1<=6 by lia) 105
               . show Dt.tup (r.map xI++ [nI u])= .tup ((r++ [((u:Int)).toNat]).map xI);rw[ae4,ae5];rfl
             . have e1 : (((iM n f p).map nI).filter fun _ => true).map (QQ r) = ((iM n f p).map fun u => r ++ [u]).map aJ := by
                 rw[af9.mpr fun _ _=>rfl,ae1,ae1];refine ae9 fun u _=>?_;show aJ (r++ [((u:Int)).toNat])=aJ (r++ [u]);rw[ae5]
               rw[e1];have ml:=pW (f:=f) (p:=p) n1 ((371).take i);have tl:((371).take i).length*n<=3125*5:=Nat.mul_le_mul (by
                rw[al6];have:=iF (f:=f) n1 n5 p 101;have d:5^p<=5^5:=at6 105 101;have e:5^5=3125:=by decide
                lia) n5
               refine⟨_,_,rfl,rfl,?_,YR _ ⟨.im (aJ r),?_,rfl⟩⟩
               . rw[aa2,aa2,aa2];exact ac6 (show(iT n f p ((371).take i)).length+(iM n f p).length<=20000 by lia) 105
               . rw[<-ae4];have:iT n f p ((371).take (i+1))=iT n f p ((371).take i)++(iM n f p).map fun u=>r++ [u]:=by
                  unfold iT;rw[aq2,hr,at8];simp
                 rw[this];rfl
           . obtain⟨s7,rfl,b7⟩:=hP;rw[aa2,ak2];exact⟨_,rfl,_,rfl,⟨_,rfl,rfl⟩,sY _ ⟨_,_,_,_,rfl,rfl,rfl,rfl,b7⟩⟩
       . rw[aa2,ac0,show((n:Int)).toNat=n by lia] at hP;exact IP _ hP
     . rintro _ ⟨s4,s5,s6,s7,rfl,b4,b5,b6,b7⟩
       have rl:=iF (f:=f) n1 n5 n (aa4 _);have d5:5^n<=5^5:=at6 105 n5;have e5:5^5=3125:=by decide
       refine⟨⟨_,rfl⟩,_,rfl,_,rfl,by rw[aa2];exact ac6 (show(bX n f n).length<=3125 by lia) 105,WD,id,fun e he=>?_,?_⟩
       . obtain⟨r,hr,rfl⟩:=ac9.mp he;obtain⟨rl,rm⟩:=dZ.mp hr;refine⟨⟨_,rfl,rfl⟩,_,rfl,r,rfl,by lia,by lia,fun x hx=>?_,fun b hb=>⟨_,rfl,?_,fun _=>⟨_,rfl,rfl⟩⟩⟩
         . obtain⟨j,hj⟩:=List.getElem?_of_mem hx;have:=ub.mp (rm j x hj);split at this <;> lia
         . show b=Bs ((r.map xI).map toN);rw[fe,ak9,hb,sd]
       . have e1 : (((bX n f n).map aJ).filter WD).map id = ((bX n f n).filter Bs).map aJ := by
           rw[at7,ar7];congr 1
           refine List.filter_congr fun r _=>?_;show Bs ((r.map xI).map toN)=Bs r;rw[fe]
         rw[e1];have fl':=gw n1 n5 f;have gl:=aj7 Bs (bX n f n);refine⟨_,_,rfl,rfl,?_,qc _ ⟨.im (nI f),.im (.lst ((bX n f n).map aJ)),_,_,_,_,?_,rfl,rfl,b4,b5,b6,b7⟩⟩
         . rw[aa2,aa2];exact ac6 (show(dR n f).length+((bX n f n).filter Bs).length<=20000 by lia) 105
         . rw[lR,ae4];rfl
   . obtain⟨s2,s3,s4,s5,s6,s7,rfl,b2,b3,b4,b5,b6,b7⟩:=hP;rw[aa2,ac0,show((n:Int)).toNat=n by lia];refine⟨_,rfl,_,rfl,(dR n n).map aJ,An n,rfl,?_,fun d hd=>?_,fun d hd d' sZ=>?_,fun ms pm _=>?_⟩
     . rw[aa2];have:=gw n1 n5 n;lia
     . obtain⟨h,hh,rfl⟩:=ac9.mp hd;refine⟨um h,?_⟩;obtain⟨hg,hl⟩:=gv.mp hh;cases h with
       | nil=>exact absurd hg.pos (af2 _)
       | cons x xs=>exact⟨_,_,rfl⟩
     . obtain⟨g,hg,rfl⟩:=ac9.mp hd;obtain⟨h,hh,rfl⟩:=ac9.mp sZ;obtain⟨g1,gl⟩:=gv.mp hg;obtain⟨h1,hl⟩:=gv.mp hh;exact⟨tU g h,DY gl hl (fun x hx=>by have:=g1.le x hx;lia) fun x hx=>by have:=h1.le x hx;lia⟩
     . obtain⟨S,pS,rfl⟩:=nz pm rfl;have fl:=gw n1 n5 n;exact q S (fun h=>by rw[pS.mem_iff,gv]) (by rw[pS.length_eq];lia)
end
end bU
namespace bU
open PySem PySem.Spec L2 LB LD PyProof.Rows mh MH ME bW
def WT(w:Tb):Dt->Dt
 | .tup [.int p,.int o]=>cZ (w (p.toNat+1) o.toNat)
 | _=> .aC
theorem AN{h:List Nat}:((aX 0 272).filter fun _=>true).map (WT w)=(List.zipWith w 391 h).map cZ:=by
 rw[af9.mpr fun _ _=>rfl];refine ai1 fun j=>?_;unfold aX;rw[aa6,am0,aa6,aa6,List.getElem?_zipWith];by_cases c:j < h.length
 . rw[aj3 c,aa1 c];show some (cZ (w (((j+0:Nat):Int).toNat+1) ((h[j]:Nat):Int).toNat))=some (cZ (w (1+1*j) h[j]));rw[ae5,ae5,Nat.one_mul,al4,au4]
 . rw[ad9 101,ad9 (by rw[ae2];lia)];rfl
def S3(r:Rs):Dt:= .tup [.int r.1,aJ r.2]
def pR(w:Tb):Dt->Bool
 | .tup ds=>(fZ w (ds.map toN)).isSome
 | _=>false
def fR(w:Tb):Dt->Dt
 | .tup ds=>vZ ((fZ w (ds.map toN)).getD 0,ds.map toN)
 | _=> .aC
def bR:Dt->Dt
 | .tup [.int x,d]=> .tup [.int (0 - x),d]
 | _=> .aC
def qx(w:Tb)(S:List 137):List Rs:=S.filterMap fun h=>(fZ w h).map fun v=>(v,h)
theorem AY(S:List 137):((S.map aJ).filter (pR w)).map (fR w)=(qx w S).map vZ:=by
 induction S with
 | nil=>rfl
 | cons h S ih=>
  rw[ac2,List.filter_cons];have e:pR w (aJ h)=(fZ w h).isSome:=by show(fZ w ((272).map toN)).isSome=_;rw[fe]
  have e2:fR w (aJ h)=vZ ((fZ w h).getD 0,h):=by show vZ ((fZ w ((272).map toN)).getD 0,(272).map toN)=_;rw[fe]
  unfold qx at ih ⊢;rw[e,at9];cases c:fZ w h with
  | none=>exact ih
  | some v=>
   rw[c] at e2;show(fR w (aJ h)::_)=vZ (v,h)::_;rw[e2,ih];rfl
def Dq:DN:=fun ds Q=> ∃(n:Nat) (w:Tb) (S:List 137),ds= [kB n w,.lst (S.map aJ)]/\n<=60/\S.length<=20000/\(∀h∈S,h.length=n/\ ∀x∈h,x<=n)/\
 ∀ms:List Rs,ms.Perm (qx w S)->ms.Pairwise (fun a b=>encM n a<=encM n b)->Q (.lst (ms.map S3))
section
variable{P:Program}{w:World}{K:PySem.W.Frag}{mg:Str->Option Value}{base:Heap}
theorem ui(F:gC K "_law_worth_of" "_law_worth_of" fL f fd)(T:Txt mg):bh P w K mg base dY 1 f fd ["_law_w","_law_h"] (fg jq):=by
 refine sv F m8 158 (fun bK A outer s H E hr=>⟨_,(ag (rB 2 m8.nd (N:= ["_law_place","_law_on","_law_w"]) (nt:=2) (js:= [0]) ⟨rfl,by decide+kernel,by decide,rfl,by decide+kernel,(by show∀x∈(_:List 132),x.2=NameKind.free->(ab fL).names.lookup x.1=some .cell\/(ab fL).names.lookup x.1=some .free;decide+kernel)⟩ rfl (yM T.Me 206) (fun _ _ _ _ _=>cU rfl (aF (aA (i:=0) (show(["_law_place","_law_on","_law_w"]:List Str).Nodup by decide+kernel) rfl 102) (aF (aA (i:=1) (show(["_law_place","_law_on","_law_w"]:List Str).Nodup by decide+kernel) rfl 102) bP))) bH aW 160 (fun _ _ _ _ _=>(de (de (dv 2) (dv 0)) (dv 1))))
 (aD (gR 2 (aL (gy (B4 fU (dv 2)) fU (Jf rfl T.sum 378)))))),fun ds Qd h=>?_⟩)
 . obtain⟨n,w,h,rfl,_⟩:=h;rfl
 . obtain⟨n,w,h,rfl,l,hx,n1,q⟩:=h;subst l;refine⟨_,rfl,_,rfl,by unfold aX;rw[ap6,aa2];exact ac6 n1 105,fun _=>true,WT w,fun e he=>?_,?_⟩
   . obtain⟨j,d,hj,rfl⟩:=sC he;rw[aa6] at hj;obtain⟨o,ho,rfl⟩:=ae6.mp hj;have jl:=(aa5.mp ho).1;refine 163;have r1:ke ((391).map (eY h.length w)) ((j+0:Nat):Int)=some (eY h.length w (j+1)):=aI (by
      rw[aa6,aj3 101];show some _=some _;rw[show 1+1*(j+0)=j+1 by lia])
     refine⟨_,rfl,_,rfl,_,_,_,.inr rfl,rfl,r1,_,rfl,_,_,_,.inr rfl,rfl,rG (hx o (ac7 ho)),?_⟩;show cZ _=cZ (w (((j+0:Nat):Int).toNat+1) ((o:Nat):Int).toNat);rw[ae5,ae5,al4]
   . rw[AN];refine 144;have q:Qd (cZ (dH w 1 h)):=q;rw[<-qS] at q;generalize List.zipWith w 391 h=L at q ⊢;refine⟨_,rfl,_,rfl,_, .inl rfl,rfl,xU L,?_⟩;rw[Ig];by_cases c:none∈L
     . rw[ad3 c];rw[mV c] at q;exact⟨true,rfl,cw q⟩
     . rw[ad4 c];obtain⟨ns,e1,e2⟩:=mW L c;rw[e2] at q;exact⟨false,rfl,a9 ⟨_,rfl,ns,by rw[e1,xT],q⟩⟩
theorem wc(F:gC K "_law_ranked" "_law_ranked" eF f fd)(T:Txt mg)(qH:iL P w K mg base "_law_worth_of" 1 ["_law_w","_law_h"] (fg jq)):bh P w K mg base dY 2 f fd ["_law_w","_law_some"] (fg Dq):=by
 refine sv F pM 158 (fun bK A outer s H E hr=>⟨_,(ag (cm 2 pM.nd (qm 1 (uz hr) T.Ip (aa (Ov.ev (cM (N:= ["_law_h","_law_w"]) (nt:=1) (js:= [0]) ⟨rfl,by decide+kernel,by decide,rfl,by decide+kernel,(by show∀x∈(_:List 132),x.2=NameKind.free->(ab eF).names.lookup x.1=some .cell\/(ab eF).names.lookup x.1=some .free;decide+kernel)⟩ rfl (gs (dv 1)) (fun _ _ _ _ _=>aA (i:=0) (show(["_law_h","_law_w"]:List Str).Nodup by decide+kernel) rfl 102) bz aS (fun _ _ _ _ _=>lU (qU (cJ qH (hr.mono 105) (aa (dv 1) 167)))) (fun _ _ _ _ _=>(iu (aa (dw ao (cJ qH (hr.mono 105) (aa (dv 1) 167))) 167))))) af)))
 (aD (aL (Ov.ev (cM (N:= ["_law_less","_law_h"]) (nt:=2) (js:= []) ⟨rfl,by decide+kernel,by decide,rfl,by decide+kernel,(by show∀x∈(_:List 132),x.2=NameKind.free->(ab eF).names.lookup x.1=some .cell\/(ab eF).names.lookup x.1=some .free;decide+kernel)⟩ rfl (gs (dv 2)) (fun _ _ _ _ _=>cU rfl (aF (aA (i:=0) (show(["_law_less","_law_h"]:List Str).Nodup by decide+kernel) rfl 102) (aF (aA (i:=1) (show(["_law_less","_law_h"]:List Str).Nodup by decide+kernel) rfl 102) bP))) bH aW 160 (fun _ _ _ _ _=>(iu (aa (dw ao (dv 0)) 206)))))))),fun ds Qd h=>?_⟩)
 . obtain⟨n,w,S,rfl,_⟩:=h;rfl
 . obtain⟨n,w,S,rfl,iH,sl,hS,q⟩:=h;have inr: ∀r∈qx w S,Ia n r:=fun r hr=>by
    obtain⟨h,hh,e⟩:=ap5.mp hr;obtain⟨v,_,rfl⟩:=ae6.mp e;exact⟨(hS h hh).1,(hS h hh).2⟩
   have cl:(qx w S).length<=20000:=ac6 (List.length_filterMap_le _ _) sl;refine⟨_,rfl,_,rfl,by rw[aa2];exact ac6 sl 105,pR w,fR w,fun e he=>?_,?_⟩
   . obtain⟨h,hh,rfl⟩:=ac9.mp he;obtain⟨hl,hx⟩:=hS h hh;refine 144;have e1:pR w (aJ h)=(fZ w h).isSome:=by show(fZ w ((272).map toN)).isSome=_;rw[fe]
     have e2:fR w (aJ h)=vZ ((fZ w h).getD 0,h):=by show vZ ((fZ w ((272).map toN)).getD 0,(272).map toN)=_;rw[fe]
     rw[e1,e2];refine⟨_,rfl,_,rfl,n,w,h,rfl,hl,hx,iH,?_⟩;cases c:fZ w h with
     | none=>exact⟨false,rfl,rfl,fun z=>by cases z⟩
     | some v=>
      refine⟨true,rfl,rfl,fun _=>⟨_,rfl,_,rfl,n,w,h,rfl,hl,hx,iH,?_⟩⟩;rw[c];exact⟨_,_,rfl,rfl,_,rfl,by show 2<=sizeLine;decide,rfl⟩
   . rw[AY];refine⟨(qx w S).map vZ,Pc n,rfl,by rw[aa2];lia,fun d hd=>?_,fun d hd d' sZ=>?_,fun ms pm so=>?_⟩
     . obtain⟨r,_,rfl⟩:=ac9.mp hd;exact⟨KZ r,_,_,rfl⟩
     . obtain⟨a,ha,rfl⟩:=ac9.mp hd;obtain⟨b,hb,rfl⟩:=ac9.mp sZ;refine⟨J5 a b,?_⟩;rw[K8,mH,mH,qk (inr a ha) (inr b hb)]
     . obtain⟨rs,We,rfl⟩:=nz pm rfl;have X4:rs.Pairwise fun a b=>encM n a<=encM n b:=(as5.mp so).imp fun{a b} h=>by rw[mH,mH] at h;exact h
       refine 144;refine⟨_,rfl,_,rfl,by rw[aa2,We.length_eq];exact ac6 cl 105,fun _=>true,bR,fun e he=>?_,?_⟩
       . obtain⟨r,_,rfl⟩:=ac9.mp he;exact⟨_,_,rfl,⟨_,rfl,rfl⟩,⟨_,rfl,rfl⟩,rfl,fun _=>⟨_,rfl,_,_,rfl,rfl,_,rfl,by show 2<=sizeLine;decide,rfl⟩⟩
       . rw[af9.mpr fun _ _=>rfl,ae1];have e1:rs.map (bR ∘ vZ)=rs.map S3:=ae9 fun r _=>by
          show Dt.tup [.int (0 - (0 - r.1)),aJ r.2]= .tup [.int r.1,aJ r.2];rw[show(0:Int) - (0 - r.1)=r.1 by lia]
         rw[e1];exact q rs We X4
end
def P0(d:Dt):Prop:=d= .aC\/ ∃i:Int,d= .int i
def Up(p:Dt->Prop)(d:Dt):Prop:= ∃es:List Dt,(d= .lst es\/d= .tup es)/\es.length<=60/\ ∀e∈es,p e
def yc(p:Dt->Prop):DN:=fun ds Q=> ∃d,ds= [d,d]/\p d/\Q (.bl true)
section
variable{P:Program}{w:World}{K:PySem.W.Frag}{mg:Str->Option Value}{base:Heap}
theorem C3(F:gC K "_law_same" "_law_same" gW f fd)(T:Txt mg):bh P w K mg base dY 1 f fd ["_law_found","_law_due"] (fg (yc P0)):=by
 refine sv F yb 158 (fun bK A outer s H E hr=>⟨_,(ag (dy (lB (dv 1))
 (aD (aL (Jh (dv 0))))
 bF)
 (ag (dy (jZ (cY (T:="bool") 105 T.oH (aj (dv 1) 154)))
 (aD (aL (iw (cY (T:="bool") 105 T.oH (aj (dv 0) 154)) 310)))
 bF)
 (ag (dy (jZ (EE (dv 1) T.oH T.lst T.tup))
 (ag (dy (PW.pt (w_or (qV (cY (T:="list") 105 T.oH (aj (dv 0) (aj (a8 (v:= .ty "list") 199 T.lst cW rfl) aK))) (cY (T:="list") 105 T.oH (aj (dv 1) (aj (a8 (v:= .ty "list") 199 T.lst cW rfl) aK)))) (xW (qV (cY (T:="tuple") 105 T.oH (aj (dv 0) (aj (a8 (v:= .ty "tuple") 199 T.tup cE rfl) aK))) (cY (T:="tuple") 105 T.oH (aj (dv 1) (aj (a8 (v:= .ty "tuple") 199 T.tup cE rfl) aK)))))))
 (aD (aL xt))
 bF)
 (aD (aL (iw (l7 (eR T.len 167) (eR T.len 206)) (i0 (Jj rfl T.all (aa (Ov.ev (cM (N:= ["_law_one","_law_other"]) (nt:=2) (js:= []) ⟨rfl,by decide+kernel,by decide,rfl,by decide+kernel,(by show∀x∈(_:List 132),x.2=NameKind.free->(ab gW).names.lookup x.1=some .cell\/(ab gW).names.lookup x.1=some .free;decide+kernel)⟩ rfl 198 (fun _ _ _ _ _=>cU rfl (aF (aA (i:=0) 187 rfl 102) (aF (aA (i:=1) 187 rfl 102) bP))) bH aW 160 (fun _ _ _ _ _=>Hm))) af)))))))
 bF)
 (ag (dy (jZ (cY (T:="str") 105 T.oH (aj (dv 1) (aj (a8 (v:= .ty "str") 199 T.str fW rfl) aK))))
 (aD (aL (iw (cY (T:="str") 105 T.oH (aj (dv 0) (aj (a8 (v:= .ty "str") 199 T.str fW rfl) aK))) 310)))
 bF)
 (aD (aL (iw (cY (T:="int") 105 T.oH (aj (dv 0) (aj (a8 (v:= .ty "int") 199 T.int lq rfl) aK))) (iw (Jg (cY (T:="bool") 105 T.oH (aj (dv 0) 154))) 310)))))))),fun ds Qd h=>?_⟩)
 . obtain⟨d,rfl,_⟩:=h;rfl
 . obtain⟨d,rfl,a,q⟩:=h;rcases a with rfl | ⟨i,rfl⟩
   . exact⟨_,rfl,_,rfl,cw ⟨_,rfl,q⟩⟩
   . refine 284;exact 227
theorem nE(F:gC K "_law_same" "_law_same" gW f fd)(T:Txt mg)(xH:iL P w K mg base "_law_same" (k+1) ["_law_found","_law_due"] (fg (yc p))):bh P w K mg base dY (k+2) f fd ["_law_found","_law_due"] (fg (yc fun d=>P0 d\/Up p d)):=by
 refine sv F yb 158 (fun bK A outer s H E hr=>⟨_,(ag (dy (lB (dv 1))
 (aD (aL (Jh (dv 0))))
 bF)
 (ag (dy (jZ (cY (T:="bool") 105 T.oH (aj (dv 1) 154)))
 (aD (aL (iw (cY (T:="bool") 105 T.oH (aj (dv 0) 154)) 310)))
 bF)
 (ag (dy (jZ (EE (dv 1) T.oH T.lst T.tup))
 (ag (dy (PW.pt (w_or (qV (cY (T:="list") 105 T.oH (aj (dv 0) (aj (a8 (v:= .ty "list") 199 T.lst cW rfl) aK))) (cY (T:="list") 105 T.oH (aj (dv 1) (aj (a8 (v:= .ty "list") 199 T.lst cW rfl) aK)))) (xW (qV (cY (T:="tuple") 105 T.oH (aj (dv 0) (aj (a8 (v:= .ty "tuple") 199 T.tup cE rfl) aK))) (cY (T:="tuple") 105 T.oH (aj (dv 1) (aj (a8 (v:= .ty "tuple") 199 T.tup cE rfl) aK)))))))
 (aD (aL xt))
 bF)
 (aD (aL (iw (l7 (eR T.len 167) (eR T.len 206)) (i0 (Jj rfl T.all (aa (Ov.ev (cM (N:= ["_law_one","_law_other"]) (nt:=2) (js:= []) ⟨rfl,by decide+kernel,by decide,rfl,by decide+kernel,(by show∀x∈(_:List 132),x.2=NameKind.free->(ab gW).names.lookup x.1=some .cell\/(ab gW).names.lookup x.1=some .free;decide+kernel)⟩ rfl 198 (fun _ _ _ _ _=>cU rfl (aF (aA (i:=0) 187 rfl 102) (aF (aA (i:=1) 187 rfl 102) bP))) bH aW 160 (fun _ _ _ _ _=>(cJ xH (hr.mono (aa4 _)) (aa (dv 0) 206))))) af)))))))
 bF)
 (ag (dy (jZ (cY (T:="str") 105 T.oH (aj (dv 1) (aj (a8 (v:= .ty "str") 199 T.str fW rfl) aK))))
 (aD (aL (iw (cY (T:="str") 105 T.oH (aj (dv 0) (aj (a8 (v:= .ty "str") 199 T.str fW rfl) aK))) 310)))
 bF)
 (aD (aL (iw (cY (T:="int") 105 T.oH (aj (dv 0) (aj (a8 (v:= .ty "int") 199 T.int lq rfl) aK))) (iw (Jg (cY (T:="bool") 105 T.oH (aj (dv 0) 154))) 310)))))))),fun ds Qd h=>?_⟩)
 . obtain⟨d,rfl,_⟩:=h;rfl
 . obtain⟨d,rfl,a,q⟩:=h;rcases a with a | ⟨es,hd,el,pe⟩
   . rcases a with rfl | ⟨i,rfl⟩
     . exact⟨_,rfl,_,rfl,cw ⟨_,rfl,q⟩⟩
     . refine 284;exact 227
   rcases hd with rfl | rfl
   . refine⟨_,rfl,_,rfl,a9 ⟨_,rfl,_,rfl,_,rfl,a9 ⟨_,rfl,_,rfl,_,rfl,cw ?_⟩⟩⟩;refine 303;refine⟨_,rfl,_, .inl rfl,_,rfl,_, .inl rfl,true,xa.trans 112,_,rfl,cw ?_⟩;refine⟨_,rfl,_,rfl,false,false,_,_,rfl,?_,fun _=>true,fun _=> .bl true,fun e he=>?_,?_⟩
     . unfold ez;rw[am5,Nat.min_self];exact ac6 el 105
     . obtain⟨i,hi,ei⟩:=ah2 he;unfold ez at hi ei;rw[List.getElem_zipWith] at ei;subst ei;exact 305
     . refine⟨List.replicate (ez es es).length true,?_,?_⟩
       . rw[af9.mpr (fun _ _=>rfl),List.map_replicate];congr 2
         exact as9.mpr ⟨by rw[aa2],fun b hb=>by obtain⟨_,_,rfl⟩:=ac9.mp hb;rfl⟩
       rw[show(List.replicate (ez es es).length true).all id=true from ah9.mpr fun b hb=>(List.eq_of_mem_replicate hb)];exact q
   . refine⟨_,rfl,_,rfl,a9 ⟨_,rfl,_,rfl,_,rfl,a9 ⟨_,rfl,_,rfl,_,rfl,cw ?_⟩⟩⟩;refine 303;refine⟨_,rfl,_, .inr rfl,_,rfl,_, .inr rfl,true,xa.trans 112,_,rfl,cw ?_⟩;refine⟨_,rfl,_,rfl,true,true,_,_,rfl,?_,fun _=>true,fun _=> .bl true,fun e he=>?_,?_⟩
     . unfold ez;rw[am5,Nat.min_self];exact ac6 el 105
     . obtain⟨i,hi,ei⟩:=ah2 he;unfold ez at hi ei;rw[List.getElem_zipWith] at ei;subst ei;exact 305
     . refine⟨List.replicate (ez es es).length true,?_,?_⟩
       . rw[af9.mpr (fun _ _=>rfl),List.map_replicate];congr 2
         exact as9.mpr ⟨by rw[aa2],fun b hb=>by obtain⟨_,_,rfl⟩:=ac9.mp hb;rfl⟩
       rw[show(List.replicate (ez es es).length true).all id=true from ah9.mpr fun b hb=>(List.eq_of_mem_replicate hb)];exact q
end
def wT(T:List 334):Tb:=fun v u=>(T.getD (v - 1) []).getD u none
def Bd(w:Tb):Prop:= ∀i o v,w i o=some v->v.natAbs<=2000000000
theorem NW(h:RS n T):Bd (wT T):=fun i o v e=>by
 unfold wT at e;rw[ab7,ab7] at e;cases c:T[i - 1]? with
 | none=>rw[c] at e;simp at e
 | some r=>
  rw[c] at e;have e:r[o]?.getD none=some v:=e;cases d:r[o]? with
  | none=>rw[d] at e;cases e
  | some x=>
   rw[d] at e;have e:x=some v:=e;subst e;exact(h r (ac7 c)).2 v (ac7 d)
theorem JU{T:List 334}(l:T.length=n)(h:RS n T):SI T=kB n (wT T):=by
 unfold SI kB;congr 1
 apply ai1;intro j;rw[aa6,aa6];by_cases c:j < n
 . have c':j < T.length:=by lia
   rw[aj3 c,aa1 c'];show some (Kg T[j])=some (eY n (wT T) (1+1*j));congr 1
   unfold Kg eY;congr 1
   have hl:=(h T[j] (ag9 c')).1;apply ai1;intro u;rw[aa6,aa6];by_cases d:u < n+1
   . rw[af4 d,aa1 101];show some (wD _)=some (cZ (wT T (1+1*j) u));congr 1
     have:wT T (1+1*j) u=(T[j])[u]' 101:=by
      unfold wT;rw[ab7,ab7,show 1+1*j - 1=j by lia,aa1 c'];show((T[j])[u]?).getD none=_;rw[aa1 101];rfl
     rw[this];cases (T[j])[u]' 101 <;> rfl
   . rw[ad9 101,ad9 (by rw[ac0];lia)];rfl
 . rw[ad9 101,ad9 (by rw[ae2];lia)];rfl
theorem QT(h:Bd w):Sm w:=fun i o v e=>by have:=h i o v e;lia
theorem Dm(n5:n<=5)(h:Bd w):Lv 9 6088 (kB n w):=by
 refine Lv.le (j:=2) (.inr ⟨_,5,1215,.inr rfl,by rw[aa2,ae2];exact n5,by decide,fun e he=>?_⟩) 105;obtain⟨i,_,rfl⟩:=ac9.mp he;refine .inr ⟨_,6,200,.inr rfl,by rw[aa2,ac0];lia,by decide,fun e he=>?_⟩;obtain⟨o,_,rfl⟩:=ac9.mp he;refine⟨?_,aa4 _⟩;cases c:w i o with
 | none=>exact trivial
 | some v=>
  have:=h i o v c;show v.natAbs < 2^140;lia
def L1(d:Dt):Prop:=P0 d\/Up P0 d
def VM(d:Dt):Prop:=P0 d\/Up L1 d
def L3(d:Dt):Prop:=P0 d\/Up VM d
theorem O9(n5:n<=60)(h:kn n w r):VM (Tc r):=by
 cases h with
 | no _=>exact .inl 301
 | @of v h h1 h2 h3 h4=>
  refine .inr ⟨_,.inr rfl,by show 2<=60;decide,fun e he=>?_⟩;rcases ad1.mp he with rfl | he
  . exact .inl (.inr ⟨_,rfl⟩)
  . cases aa9.mp he;refine .inr ⟨_,.inr rfl,by rw[aa2];lia,fun e he=>?_⟩;obtain⟨x,_,rfl⟩:=ac9.mp he;exact .inr ⟨_,rfl⟩
theorem Lc(h:VM d):L3 (.lst [d,d]):= .inr ⟨_,.inl rfl,by show 2<=60;decide,fun e he=>by
 rcases ad1.mp he with rfl | he
 . exact h
 . cases aa9.mp he;exact h⟩
inductive LwI(n:Nat)(S:List 137)(i:Nat)(δ:List Sl):Prop
 | mk (t:Int) (s4 s5 s6 s7 s8:Sl) (e:δ= [.no,.bx t,.im (nI n),.im (.lst (S.map aJ)),s4,s5,s6,s7,s8]) (b4:s4.bo=false) (b5:s5.bo=false) (b6:s6.bo=false) (b7:s7.bo=false) (b8:s8.bo=false) (ht:t<=1+402*i)
section
variable{P:Program}{w:World}{K:PySem.W.Frag}{mg:Str->Option Value}{base:Heap}
theorem KU(F:gC K "law" "law" Ka f fd)(T:Txt mg)(NB:iL P w K mg base "_law_begin" 1 ["_law_script"] (rg K))(fF:iL P w K mg base "_law_take" 1 ["_law_box","_law_many"] (Bn tP))(Q5:iL P w K mg base "_law_all" 2 ["_law_n"] (fg IE))(HW:iL P w K mg base "_law_table" 3 ["_law_box","_law_n"] (Bn x4))(Fq:iL P w K mg base "_law_ranked" 2 ["_law_w","_law_some"] (fg Dq))(vv:iL P w K mg base "best_any" 6 ["w"] (fg vn))(xH:iL P w K mg base "_law_same" 4 ["_law_found","_law_due"] (fg (yc L3))):
  bh P w K mg base dY 7 f fd ["_law_script"] (tT K):=by
 refine O8 F lD 105 (fun bK A outer s H E hr=>⟨_,_,_,rfl,fA (i:=1) lD.nd rfl 102 (nB NB (hr.mono 105) rfl (aj (pv 0) aK)),(@ag _ _ _ _ _ (@cm _ _ _ _ 2 _ _ lD.nd (de (@lX _ _ _ _ (@aa _ _ _ _ _ ao (@aa _ _ _ _ _ ao (@aa _ _ _ _ _ ao (@aa _ _ _ _ _ ao (@aa _ _ _ _ _ ao (@aa _ _ _ _ _ ao (@aa _ _ _ _ _ ao af rfl) rfl) rfl) rfl) rfl) rfl) rfl)) (i3 1 fF (hr.mono 105) (pv 1) (@aa _ _ _ _ _ ao af rfl))) rfl 102 rfl 202)
 (@ag _ _ _ _ _ (@cm _ _ _ _ 3 _ _ lD.nd (cJ Q5 (hr.mono 105) (@aa _ _ _ _ _ (dv 2) af rfl)) rfl 102 rfl 202)
 (@ag _ _ _ _ _ (eE rfl (jm T.tZ (@aa _ _ _ _ _ ao af rfl)) (dj 4 lD.nd)
 (@ag _ _ _ _ _ (@cm _ _ _ _ 5 _ _ lD.nd (i3 1 HW (hr.mono 105) (pv 1) (@aa _ _ _ _ _ (dv 2) af rfl)) rfl 102 rfl 202)
 (@ag _ _ _ _ _ (Cm 6 7 rfl lD.nd (G9 (cJ Fq (hr.mono 105) (@aa _ _ _ _ _ (dv 5) (@aa _ _ _ _ _ (dv 3) af rfl) rfl)) (G9 (EB hr T.str 359) IW)))
 (@ag _ _ _ _ _ (@cm _ _ _ _ 8 _ _ lD.nd (gy (B0 hr.BP (dv 6)) (de (dv 6) ao) fU) rfl 102 rfl 202)
 (aD (dy (PW.pt (w_or (NZ (jZ (cJ xH (hr.mono 105) (@aa _ _ _ _ _ (@lX _ _ _ _ (@aa _ _ _ _ _ (cJ vv (hr.mono 105) 359) (@aa _ _ _ _ _ (cJ vv (hr.mono 105) 359) af rfl) rfl)) (@aa _ _ _ _ _ (@lX _ _ _ _ (@aa _ _ _ _ _ (dv 8) (@aa _ _ _ _ _ (dv 8) af rfl) rfl)) af rfl) rfl)))) (xW (qV (EB hr T.str 359) (dv 7)))))
 (aD (aL xt))
 bF))))) ag4)
 (aD (aL xt))))),?_⟩)
 refine iB (fun δ'=> ∃n:Nat,δ'= [.no,.bx 1,.im (nI n),.no,.no,.no,.no,.no,.no]/\1<=n/\n<=5) (fun Δ0 IP _=>?_) (fun δ' hQ=>?_)
 . refine⟨by show 7<=sizeLine;decide,⟨_,rfl⟩,_,rfl,_,rfl,by decide,by decide,by decide,fun r h0 h1=>?_⟩;obtain⟨z,rfl,hz⟩: ∃z:Nat,r=(z:Int)/\z < 7:=⟨r.toNat,by lia,by lia⟩
   obtain⟨m,em,m1,m2⟩: ∃m:Nat,[Dt.int 1,Dt.int 2,Dt.int 3,Dt.int 4,Dt.int 4,Dt.int 5,Dt.int 5][z]?=some (nI m)/\1<=m/\m<=5:=by
    match z,hz with
    | 0,_=>exact⟨1,rfl,by decide,by decide⟩
    | 1,_=>exact⟨2,rfl,by decide,by decide⟩
    | 2,_=>exact⟨3,rfl,by decide,by decide⟩
    | 3,_=>exact⟨4,rfl,by decide,by decide⟩
    | 4,_=>exact⟨4,rfl,by decide,by decide⟩
    | 5,_=>exact⟨5,rfl,by decide,by decide⟩
    | 6,_=>exact⟨5,rfl,by decide,by decide⟩
   exact⟨_,_,_,.inl rfl,rfl,aI em,⟨_,rfl,rfl⟩,IP _ ⟨m,rfl,m1,m2⟩⟩
 . obtain⟨n,rfl,n1,n5⟩:=hQ;refine⟨_,rfl,n,rfl,n1,n5,fun S hS sl=>144⟩;refine⟨_,rfl,by decide,by decide,?_⟩;rw[show(3:Int).toNat=3 from rfl];refine bZ (LwI n S) ⟨1, .no, .no, .no, .no, .no,rfl,rfl,rfl,rfl,rfl,rfl,by decide⟩ 193 235
   . obtain⟨t,s4,s5,s6,s7,s8,rfl,b4,b5,b6,b7,b8,ht⟩:=hP;have il:i < 3:=by have:=(348).1;rw[aa2,ac0] at this;exact this
     refine⟨⟨_,rfl,b4⟩,?_⟩;dsimp only;refine iB (fun δ'=> ∃(w:Tb) (t':Int),δ'= [.no,.bx t',.im (nI n),.im (.lst (S.map aJ)),.im d,.im (kB n w),s6,s7,s8]/\t'<=t+402/\Bd w) (fun Δ1 Pz _=>?_) (fun δ' hQ=>?_)
     . refine⟨⟨_,rfl⟩,_,rfl,_,rfl,n,rfl,by lia,by lia,fun T0 t1 YF XT V1=>⟨⟨_,rfl,b5⟩,Pz _ ⟨wT T0,t1,?_,YF,NW V1⟩⟩⟩;rw[JU XT V1];rfl
     . obtain⟨w,t',rfl,TV,bd⟩:=hQ;refine⟨_,rfl,_,rfl,n,w,S,rfl,by lia,sl,fun h hh=>⟨((hS h).mp hh).2,fun x hx=>by have:=((hS h).mp hh).1.le x hx;have:=((hS h).mp hh).2;lia⟩,fun ms pm so=>?_⟩;have best:=w6 hS pm so;refine⟨_,rfl,_,_,rfl,Dm n5 bd,by decide,_,_,rfl,⟨_,rfl,b6⟩,⟨_,rfl,b7⟩,?_⟩;dsimp only;refine iB (fun δ'=>δ'= [.no, .bx t', .im (nI n), .im (.lst (S.map aJ)), .im d, .im (kB n w), .im (.lst (ms.map S3)), .im (.str (J4 (kB n w))), .im (Tc ms.head?)]) (fun Δ2 sY _=>?_) (fun δ' hQ=>?_)
       . refine 376;cases ms with
         | nil=>exact⟨_,rfl,_,rfl,a9 ⟨⟨_,rfl,b8⟩,sY _ rfl⟩⟩
         | cons a ms=>
          obtain⟨v,h⟩:=a;exact⟨_,rfl,_,rfl,cw ⟨_,rfl,_,_,_,.inl rfl,rfl,aI (j:=0) rfl,⟨_,rfl,b8⟩,sY _ rfl⟩⟩
       . subst hQ;have sm:=QT bd;refine⟨_,rfl,n,w,rfl,n1,by lia,sm,fun r hr=>⟨_,rfl,n,w,rfl,n1,by lia,sm,fun r' Pu=>?_⟩⟩;obtain rfl:=vk hr best;obtain rfl:=vk Pu hr;refine⟨by show 2<=sizeLine;decide,_,rfl,_,rfl,by show 2<=sizeLine;decide,_,rfl,Lc (O9 101 hr),_,rfl,?_⟩;refine a9 ⟨_,rfl,_,_,rfl,Dm n5 bd,by decide,_,rfl,true,ai5 some (ad3 rfl),_,rfl,a9 (qc _ ⟨t',_,_,_,_,_,rfl,rfl,rfl,rfl,rfl,rfl,?_⟩)⟩;lia
   . obtain⟨t,s4,s5,s6,s7,s8,rfl,b4,b5,b6,b7,b8,ht⟩:=hP;exact rfl
end
end bU
section
namespace bU
open PySem L2 LB LD PyProof.Rows
structure bB(K:PySem.W.Frag)(x:Str)(st:Stmt)(ps:List Str)(f:Addr)(fd:FuncData):Prop where
  a:PySem.W.nsIn K mainGlobals x=some (some 399)
  F:gC K x x st f fd
  b:Binds K fd ps []
theorem aY {K : PySem.W.Frag} {x : Str} {st : Stmt} {ps : List Str} {f : Addr} {oc : Value} {od an : Option Addr} {sl : Array 410} {kV dc pm cd ct : Value} (a : PySem.W.nsIn K mainGlobals x = some (some 399)) (l : K.lookup f = some ⟨oc, od, .func 252, sl⟩) (c : PySem.W.codeIn K cd x = true) (k : PySem.W.keepIn K 399 = true)
    (h: ∀us:List Value,us.length=ps.length->bindArgs 252 ⟨us,[]⟩=pure (ps.zip us)):bB K x st ps f 252:=⟨a,LZ l c k,.all h⟩
section
variable{P:Program}{w:World}{K:PySem.W.Frag}{mg:Str->Option Value}{base h:Heap}{x:Str}{st:Stmt}{ps:List Str}{f:Addr}{fd:FuncData}
theorem bB.has(D:bB K x st ps f fd)(X:K.In h)(G:h.Ns mainGlobals mg){k:Nat}{sp:Sp}(o:bh P w K mg base dY k f fd ps sp):iL P w K mg base x k ps sp:=⟨f,fd,PySem.W.mg_of X G D.a,D.F.kp,D.b,o⟩
end
theorem BY{K:PySem.W.Frag}{x:Str}{f c Pt:Addr}{oc Yj:Value}{od Yh:Option Addr}{sl Ir:Array 410}{fd:FuncData}{vs:Array Value}(a:PySem.W.nsIn K mainGlobals x=some (some 399))(l:K.lookup f=some ⟨oc,od, .func fd,sl⟩)(e:fd.code= .ref c)(l2:K.lookup c=some ⟨Yj,Yh, .fields vs,Ir⟩)(h:(vs[11]?:Option Value)=some (.ref Pt)):PySem.W.tabIn K x=some (c,Pt):=by
  unfold PySem.W.tabIn;rw[a];simp only [l,e,l2,h]
theorem NV{q:Program}{K:PySem.W.Frag}{x:Str}{c Pt:Addr}(hd:((recsOf q).find? fun e=>e.name==x).isSome=true)(h:PySem.W.tabIn K x=some (c,Pt)): ∃d c P,(recsOf q).find? (fun e=>e.name==x)=some d/\PySem.W.tabIn K x=some (c,P):=
  let ⟨d,hd⟩:=av1.mp hd
  ⟨d,c,Pt,hd,h⟩
theorem Qe{K:PySem.W.Frag}{x:Str}{st:Stmt}{f c Pt:Addr}{fd:FuncData}(F:gC K x x st f fd)(e:fd.code= .ref c)(t:PySem.W.tabIn K x=some (c,Pt))(h:PySem.W.codeHdIn K c Pt=true):Ng K x x st f fd c Pt:=by
  obtain⟨oc,od,kV,doc,pm,an,bK,ct,zR,rfl,lk,tf⟩:=F.ex;have e:bK= .ref c:=e;subst e;exact⟨⟨oc,od,kV,doc,pm,an,ct,zR,rfl,lk,tf⟩,t,h⟩
theorem all_mk {l:PySem.W.OpenLaw}{w:World}{K:PySem.W.Frag}{h:Heap}{mg:Str->Option Value}{fa f1 f2 f3 f4 f5 f6 f7 f8 f9 ZG ZF ZE ZD ZC ZA Zz Zy Zx Zw Zv Zu Zt Zs Zr Zq Zp:Addr}{e1 e2 e3 e4 e5 e6 e7 e8 e9 ZX UY WV ZW ZV ZU ZT ZS ZR ZQ ZP ZO ZN ZM ZL ZK WU:FuncData}{cA Pt:Addr}(X:K.In h)(G:h.Ns mainGlobals mg)(Y2:mg "law" = some (.ref fa))
    (d1:bB K "together" kI ["worths"] f1 e1)
    (d2:bB K "worth_of" gT ["w","h"] f2 e2)
    (d3:bB K "ranked" jA ["w"] f3 e3)
    (d4:bB K "units" vX ["base","many"] f4 e4)
    (d5:bB K "best_any" ng ["w"] f5 e5)
    (d6:bB K "rings" vY ["ons"] f6 e6)
    (d7:bB K "ring_from" kJ ["ons","word"] f7 e7)
    (d8:bB K "solve" m9 ["w"] f8 e8)
    (d9:bB K "hook_for" gX ["w"] f9 e9)
    (Xe:bB K "lowered_top" gV ["row","hook"] ZG ZX)
    (Xd:bB K "draw" tX ["left"] ZF UY)
    (Xc:bB K "best_way" gZ ["left","group"] ZE WV)
    (Xb:bB K "take_off" gU ["left","group","best"] ZD ZW)
    (Xa:bB K "drawn_together" bf ["groups","ways","many"] ZC ZV)
    (W9:bB K "heads_of" nc ["groups"] ZA ZU)
    (W8:bB K "entered" gY ["groups","ways","many"] Zz ZT)
    (W7:bB K "_law_begin" rF ["_law_script"] Zy ZS)
    (W6:bB K "_law_take" rD ["_law_box","_law_many"] Zx ZR)
    (W5:bB K "_law_is_hung" dg ["_law_h"] Zw ZQ)
    (W4:bB K "_law_all" jB ["_law_n"] Zv ZP)
    (W3:bB K "_law_worth" rC ["_law_box","_law_way"] Zu ZO)
    (W0:bB K "_law_table" rE ["_law_box","_law_n"] Zt ZN)
    (WZ:bB K "_law_worth_of" fL ["_law_w","_law_h"] Zs ZM)
    (WY:bB K "_law_ranked" eF ["_law_w","_law_some"] Zr ZL)
    (Jq:bB K "_law_same" gW ["_law_found","_law_due"] Zq ZK)
    (Vs:bB K "law" Ka ["_law_script"] Zp WU)
    (t1:WV.code= .ref cA) (t2:PySem.W.tabIn K "best_way"=some (cA,Pt)) (t3:PySem.W.codeHdIn K cA Pt=true)
    (z1:PySem.W.nsIn K mainGlobals "isinstance"=some none) (z2:PySem.W.nsIn K mainGlobals "len"=some none) (z3:PySem.W.nsIn K mainGlobals "enumerate"=some none) (z4:PySem.W.nsIn K mainGlobals "tuple"=some none) (z5:PySem.W.nsIn K mainGlobals "int"=some none) (z6:PySem.W.nsIn K mainGlobals "bool"=some none) (z7:PySem.W.nsIn K mainGlobals "range"=some none) (z8:PySem.W.nsIn K mainGlobals "list"=some none) (z9:PySem.W.nsIn K mainGlobals "divmod"=some none) (XE:PySem.W.nsIn K mainGlobals "all"=some none) (XD:PySem.W.nsIn K mainGlobals "str"=some none) (Sz:PySem.W.nsIn K mainGlobals "sum"=some none) (XC:PySem.W.nsIn K mainGlobals "zip"=some none) (XA:PySem.W.nsIn K mainGlobals "sorted"=some none) (Xz:PySem.W.nsIn K mainGlobals "max"=some none) (Xy:PySem.W.nsIn K mainGlobals "min"=some none) (Xx:PySem.W.nsIn K mainGlobals "dict"=some none) (Xw:PySem.W.nsIn K mainGlobals "reversed"=some none):
    ∃fd:FuncData,(∀(s:Shared) (v:Value),BindsTo s fd ⟨[v],[]⟩ [("_law_script",v)])/\ ∀base:Heap,K.In base->base.Ns mainGlobals mg->bh l.prog w K mg base dY 7 fa fd ["_law_script"] (tT K):=by
  have e:=Y2.symm.trans (PySem.W.mg_of X G Vs.a);cases e;have T:Txt mg:=⟨af3 X G z1,af3 X G z2,af3 X G z3,af3 X G z4,af3 X G z5,af3 X G z6,af3 X G z7,af3 X G z8,af3 X G z9,af3 X G XE,af3 X G XD,af3 X G Sz,af3 X G XC,af3 X G XA,af3 X G Xz,af3 X G Xy,af3 X G Xx,af3 X G Xw⟩
  refine⟨WU,?_,fun base XB GB=>?_⟩
  . obtain⟨oc,od,kV,doc,pm,an,bK,ct,zR,rfl,lk,tf⟩:=Vs.F.ex;exact fun s v=> .of_eq rfl
  have FC:=Qe Xc.F t1 t2 t3;have VE:=d1.has X G (P:=l.prog) (w:=w) (base:=base) (uf d1.F T);have NWO:=d2.has X G (P:=l.prog) (w:=w) (base:=base) (wa d2.F T VE);have NUn:=d4.has X G (P:=l.prog) (w:=w) (base:=base) (CZ d4.F T);have NRk:=d3.has X G (P:=l.prog) (w:=w) (base:=base) (zV d3.F T NUn);have NRF:=d7.has X G (P:=l.prog) (w:=w) (base:=base) (ug d7.F T);have NRi:=d6.has X G (P:=l.prog) (w:=w) (base:=base) (C4 d6.F T NRF);have Q6:=d9.has X G (P:=l.prog) (w:=w) (base:=base) (we d9.F T);have VH:=Xe.has X G (P:=l.prog) (w:=w) (base:=base) (oZ Xe.F T);have NBW:=Xc.has X G (P:=l.prog) (w:=w) (base:=base) (wm FC T);have NTO:=Xb.has X G (P:=l.prog) (w:=w) (base:=base) (wb Xb.F T);have NHe:=W9.has X G (P:=l.prog) (w:=w) (base:=base) (wg W9.F T);have NDT:=Xa.has X G (P:=l.prog) (w:=w) (base:=base) (C5 Xa.F T NHe NRi);have Fx:=Xd.has X G (P:=l.prog) (w:=w) (base:=base) (GO Xd.F T NBW NTO NDT);have NEn:=W8.has X G (P:=l.prog) (w:=w) (base:=base) (wj W8.F T);have VG:=d8.has X G (P:=l.prog) (w:=w) (base:=base) (C2 d8.F T Q6 VH Fx NEn);have NBA:=d5.has X G (P:=l.prog) (w:=w) (base:=base) (wo d5.F T VG NRk NWO);have NB:=W7.has X G (P:=l.prog) (w:=w) (base:=base) (C6 W7.F T);have Fp:=W6.has X G (P:=l.prog) (w:=w) (base:=base) (C0 W6.F T);have NIH:=W5.has X G (P:=l.prog) (w:=w) (base:=base) (Nc.zW W5.F T);have VJ:=W4.has X G (P:=l.prog) (w:=w) (base:=base) (GN W4.F T NIH);have NLW:=W3.has X G (P:=l.prog) (w:=w) (base:=base) (CY W3.F T Fp);have VF:=W0.has X G (P:=l.prog) (w:=w) (base:=base) (C1 W0.F T Fp NLW);have VI:=WZ.has X G (P:=l.prog) (w:=w) (base:=base) (ui WZ.F T);have NLR:=WY.has X G (P:=l.prog) (w:=w) (base:=base) (wc WY.F T VI);have NS0:=Jq.has X G (P:=l.prog) (w:=w) (base:=base) (C3 Jq.F T);have NS1:=Jq.has X G (P:=l.prog) (w:=w) (base:=base) (nE Jq.F T NS0);have NS2:=Jq.has X G (P:=l.prog) (w:=w) (base:=base) (nE Jq.F T NS1);have NS3:=Jq.has X G (P:=l.prog) (w:=w) (base:=base) (nE Jq.F T NS2);exact KU Vs.F T NB Fp VJ VF NLR NBA NS3
theorem walk {l:PySem.W.OpenLaw}{q:Program}{loose:List Str}{XP:(Str->Option Value)->Heap->Prop}{YP:World->Heap->Prop}{d:DefRec}{K:Params->PySem.W.Frag}(hn:l.most = some 63)(PV:d.params.defaults = [])
    (hY: ∀(w:World) (h:Heap),YP w h->(266).In h)
    (P4: ∀w:World,PySem.W.noTabs 266=true) (P2: ∀w:World,∃d c P,(recsOf q).find? (fun e=>e.name==("best_way":Str))=some d/\PySem.W.tabIn 266 "best_way"=some (c,P))
    (F: ∀(w:World) (mg:Str->Option Value) (fa:Addr) (h:Heap),(266).In h->h.Ns mainGlobals mg->mg d.name=some (.ref fa)->
      ∃fd:FuncData,(∀(s:Shared) (u:Value),BindsTo s fd ⟨[u],[]⟩ [("_law_script",u)])/\ ∀base:Heap,(266).In base->base.Ns mainGlobals mg->bh l.prog w 266 mg base dY 7 fa fd ["_law_script"] (tT 266)):
    PySem.W.WalkO q loose XP YP l.row.toRowW d [] (fun f vs=>PySem.call f vs):=
  L2.F0 (n:=63) (k:=7) (x:="_law_script") (CX:=fun _=>dY) (sp:=fun w=>tT 266) hn 105 PV ⟨rfl,by decide,by decide,rfl⟩ hY F (fun _ _ a ns hl _ hS=>⟨a,ns,rfl,hS,hl,fun _=>rfl⟩) (fun _ _ _ _ _ z=>z) P4 (fun w x hx=>by rw[aa9.mp hx];exact P2 w) fun w x hx y hy _ _ _ _ _=>by rw[aa9.mp hx,aa9.mp hy]
end bU
def bU.vw:PySem.Program:={PySem.Challenge.rw_hungwords_k20_the_best_of_all.row.prog with main:={PySem.Challenge.rw_hungwords_k20_the_best_of_all.row.prog.main with body:=([1,2,3,4,6,7,8,9,10,11,12,13,14,15,16,17,19,20,21,22,23,24,25,26,27,28]:List Nat).filterMap fun i=>PySem.Challenge.rw_hungwords_k20_the_best_of_all.row.prog.main.body[i]?}}
open PySem PySem.W PyProof.Rows
local macro_rules
|`(tactic|o_law)=>`(tactic|refine holds_law (by kernel_rfl) fun said=>?_)
local macro_rules
|`(tactic|o_head $H)=>`(tactic|refine holds_open (q:=bU.vw) (loose:=[]) (Xt:=fun s=>xlAt bU.vw [] s && recOk (RowW.records (OpenRow.toRowW (OpenLaw.row PySem.Challenge.rw_hungwords_k20_the_best_of_all))) s) (XP:=XL bU.vw []) (Yf:=Hook.obs $H) (Ya:=Hook.val $H) (YP:=Hook.says $H) (N:=1682) (by intro w;kernel_rfl) (Hook.of $H) (Hook.keeps $H) (fun s e=>xl_of s (Bool.and_eq_true_iff.mp e).1) XL.keeps (by rfl) (by rfl) (by rfl) (fun s e=>recFacts_of (Bool.and_eq_true_iff.mp e).2) (by rfl) (by first | assumption | decide+kernel) (by decide+kernel) ⟨rfl,rfl,rfl,rfl,rfl,by decide+kernel⟩ ?hw ?hc)
set_option maxRecDepth 100000 in
set_option maxHeartbeats 0 in
theorem PySem.Challenge.cw_hungwords_k20_the_best_of_all_holds : PySem.Challenge.rw_hungwords_k20_the_best_of_all.Holds := by
  w_on;o_law;k_head;(case hw=>w_witness2)
  k_fill
  refine bU.walk (l:=PySem.Challenge.rw_hungwords_k20_the_best_of_all) rfl rfl (fun w h Y=>PySem.W.km_in_of Y) ?NT ?TB ?F
  case NT=>intro w;first | exact rfl | kernel_rfl
  case TB=>
    intro w;refine' bU.NV ?hd (bU.BY ?a ?l ?e ?l2 ?h);all_goals try (first | k_is | exact rfl | kernel_rfl)
  case F=>
    intro w mg fa h KX G PB;refine' bU.all_mk KX G PB (bU.aY ?_ ?_ ?_ ?_ ?_) (bU.aY ?_ ?_ ?_ ?_ ?_) (bU.aY ?_ ?_ ?_ ?_ ?_) (bU.aY ?_ ?_ ?_ ?_ ?_) (bU.aY ?_ ?_ ?_ ?_ ?_) (bU.aY ?_ ?_ ?_ ?_ ?_) (bU.aY ?_ ?_ ?_ ?_ ?_) (bU.aY ?_ ?_ ?_ ?_ ?_) (bU.aY ?_ ?_ ?_ ?_ ?_) (bU.aY ?_ ?_ ?_ ?_ ?_) (bU.aY ?_ ?_ ?_ ?_ ?_) (bU.aY ?_ ?_ ?_ ?_ ?_) (bU.aY ?_ ?_ ?_ ?_ ?_) (bU.aY ?_ ?_ ?_ ?_ ?_) (bU.aY ?_ ?_ ?_ ?_ ?_) (bU.aY ?_ ?_ ?_ ?_ ?_) (bU.aY ?_ ?_ ?_ ?_ ?_) (bU.aY ?_ ?_ ?_ ?_ ?_) (bU.aY ?_ ?_ ?_ ?_ ?_) (bU.aY ?_ ?_ ?_ ?_ ?_) (bU.aY ?_ ?_ ?_ ?_ ?_) (bU.aY ?_ ?_ ?_ ?_ ?_) (bU.aY ?_ ?_ ?_ ?_ ?_) (bU.aY ?_ ?_ ?_ ?_ ?_) (bU.aY ?_ ?_ ?_ ?_ ?_) (bU.aY ?_ ?_ ?_ ?_ ?_) ?_ (bU.BY ?_ ?_ ?_ ?_ ?_) ?_ ?_ ?_ ?_ ?_ ?_ ?_ ?_ ?_ ?_ ?_ ?_ ?_ ?_ ?_ ?_ ?_ ?_ ?_;all_goals try (first | k_is | exact rfl | kernel_rfl | (intro us hl;first | (obtain⟨a,rfl⟩:=List.length_eq_one_iff.mp hl;rfl) | (match us,hl with | [_,_],_=>rfl) | (match us,hl with | [_,_,_],_=>rfl) | (match us,hl with | [_,_,_,_],_=>rfl)))

end
