import PyProof.Rows.All
import PyProof.SetKind
import Wide.All
import OpenK.AllK
import Wide.FinOn
import Lean
import PyProof.EqAt
import PyProof.EqKinds
import PyProof.TupleCall
import PyProof.ListNew
import PyProof.Rows.SetFrom
import PyProof.CollectIter
import PyProof.ZipIter
import PyProof.Rows.TopTwo
import KE.KIsAll
import KE.KTryMore
import PyProof.ExcArgsOwn
import PyProof.NsDelKeeps
import KE.KSortTup
import PyProof.ListRange
import PyProof.NeKinds
import PyProof.FactsAll.tuple_2
import PyProof.FactsAll.tuple_3
import PyProof.Rows.SortShell
import PyProof.Rows.SortWalk
import PyProof.Rows.MinMaxN
import KE.KRevIter
import PyProof.AttrMissHeap
import PyProof.FactsAll.dict_1
import KE.KRevSl
import PyProof.Rows.IntBool
import PyProof.TupleOfSeq
import KE.KIntText
import PyProof.StrWalks
import PyProof.StrCalls2
import PyProof.StrBlock2
import PyProof.FString5
import PyProof.StrLawsTight
import PyProof.StrLawsChain
import PyProof.Rows.SortStr
import KE.KDictSum
import PyProof.StationsW
import PyProof.Rows.Catch
import PyProof.ExcClass3
import PyProof.ExcInit
import PyProof.Ns1
import PyProof.DictCompW
import PyProof.ListMulRoad
import PyProof.PureStr
import PySem.Challenge.RW_hungwords_k06_all_of_few_words
set_option Elab.async false
set_option linter.all false
set_option maxRecDepth 100000
set_option maxHeartbeats 8000000
abbrev Sw:=@PySem.wpAny_bind
abbrev Sx:=@List.length_map
abbrev Sy:=@List.getElem?_eq_getElem
abbrev Sz:=@PySem.Heap.get?_push_of_some
abbrev SA:=@PySem.wpAny_pure
abbrev SD:=@Nat.le_refl
abbrev SE:=@PyProof.Rows.wpS_bind
abbrev SF:=@PyProof.Rows.wpS_pure
abbrev SG:=@Bool.false_ne_true
abbrev SH:=@List.not_mem_nil
abbrev SI:=@PySem.Heap.get?_push_size
abbrev SJ:=@List.getElem?_set_ne
abbrev SK:=@List.size_toArray
abbrev SM:=@List.getElem?_eq_some_iff
abbrev SN:=@Array.length_toList
abbrev SO:=@beq_iff_eq
abbrev SQ:=@PySem.Heap.lt_size
abbrev SR:=@List.getElem?_set_self
abbrev SS:=@List.mem_singleton
abbrev SU:=@List.mem_map
abbrev SV:=@List.length_append
abbrev SW:=@List.mem_of_getElem?
abbrev SX:=@List.getElem?_map
abbrev SY:=@List.getElem?_append_left
abbrev S4:=@Nat.le_trans
abbrev S5:=@List.map_map
abbrev S6:=@List.getElem?_replicate
abbrev S7:=@Array.getElem?_eq_getElem
abbrev S8:=@List.mem_append_right
abbrev S9:=@decide_eq_false
abbrev Ta:=@Array.getElem?_toList
abbrev Tc:=@List.getElem?_append_right
abbrev Td:=@List.mem_range
abbrev Te:=@List.length_set
abbrev Tf:=@List.length_range
abbrev Tg:=@List.mem_cons
abbrev Ti:=@List.map_cons
abbrev Tj:=@Nat.lt_of_lt_of_le
abbrev Tn:=@List.mem_cons_of_mem
abbrev To:=@PySem.wpAny_mono
abbrev Tp:=@Int.toNat_natCast
abbrev Tq:=@List.length_cons
abbrev Tr:=@PySem.W.mg_none_of
abbrev Ts:=@List.mem_append
abbrev Tt:=@Nat.ne_of_lt
abbrev Tu:=@Nat.lt_irrefl
abbrev Tw:=@Nat.zero_le
abbrev Tz:=@List.append_assoc
abbrev TB:=@Array.toList_append
abbrev TC:=@PySem.Heap.size_push
abbrev TF:=@PyProof.Rows.wpS_forRange
abbrev TH:=@List.all_eq_true
abbrev TJ:=@PySem.wpAny_truthy_bool
abbrev TK:=@decide_eq_true
abbrev TL:=@of_decide_eq_false
abbrev TM:=@List.mem_cons_self
abbrev TN:=@List.mem_filter
abbrev TQ:=@List.lookup_cons
abbrev TR:=@PySem.Heap.get?_update_self
abbrev TU:=@PySem.mem_of_lookup
abbrev TV:=@List.map_append
abbrev TX:=@List.append_nil
abbrev TY:=@List.mem_range'_1
abbrev TZ:=@PySem.sizeLine_eq
abbrev T1:=@Option.map_eq_some_iff
abbrev T3:=@List.length_range'
abbrev T4:=@Bool.eq_iff_iff
abbrev T5:=@Nat.le_of_lt
abbrev T6:=@of_decide_eq_true
abbrev T7:=@List.flatten_cons
abbrev T8:=@PySem.wpAny_holding
abbrev T9:=@Bool.and_eq_true
abbrev Ua:=@List.getElem_of_mem
abbrev Ub:=@List.getElem?_eq_none
abbrev Uc:=@PySem.wpAny_newObj_type
abbrev Ud:=@PyProof.Rows.wpS_mono
abbrev Ue:=@Array.perm_iff_toList_perm
abbrev Ug:=@Nat.add_sub_cancel
abbrev Uh:=@List.take_length
abbrev Ui:=@List.map_congr_left
abbrev Uj:=@List.filter_eq_self
abbrev Uk:=@PySem.wpAny_pyIter_list
abbrev Ul:=@PySem.W.kia_one
abbrev Um:=@PySem.PassesOwn.never
abbrev Uo:=@PySem.wpAny_pyIter_tuple
abbrev Uq:=@List.length_eq_zero_iff
abbrev Ur:=@List.getElem_mem
abbrev Us:=@PySem.Around.under_plainId
abbrev Ut:=@PySem.wpAny_standAt
abbrev Uu:=@PySem.wpAny_seqItems
abbrev Uv:=@decide_eq_true_eq
abbrev Uw:=@Array.toList_push
abbrev Ux:=@PySem.Heap.SameBut.update
abbrev Uy:=@PySem.wpAny_loadPart'
abbrev Uz:=@PySem.codeAny_builtin
abbrev UA:=@List.eq_nil_iff_forall_not_mem
abbrev UB:=@List.take_append_drop
abbrev UC:=@List.length_replicate
abbrev UD:=@List.length_filter_le
abbrev UE:=@PySem.wpAny_call_entry
abbrev UG:=@PySem.wpAny_rule
abbrev UH:=@Nat.pow_le_pow_right
abbrev UI:=@congrArg
abbrev UJ:=@Nat.le_of_lt_succ
abbrev UK:=@List.nodup_append
abbrev UL:=@PyProof.Rows.callWith_type1
abbrev UM:=@Nat.pow_le_pow_left
abbrev UN:=@PySem.wpAny_field
abbrev UO:=@Int.le_of_lt
abbrev UP:=@PyProof.Rows.wpS_modify
abbrev UQ:=@Array.getElem?_eq_some_iff
abbrev UR:=@beq_self_eq_true
abbrev US:=@List.length_take
abbrev UT:=@PySem.wpAny_Call_Name_kw
abbrev UU:=@Nat.lt_of_le_of_lt
abbrev UW:=@Array.size_extract
abbrev UX:=@Classical.byContradiction
abbrev UY:=@List.nodup_cons
abbrev UZ:=@List.getElem?_take_of_lt
abbrev U0:=@Nat.lt_succ_of_lt
abbrev U1:=@PySem.wpAny_callSpecial?_slot
abbrev U2:=@beq_eq_false_iff_ne
abbrev U3:=@List.replicate_succ
abbrev U4:=@PySem.wpAny_setField
abbrev U5:=@List.mem_flatMap
abbrev U6:=@Int.le_refl
abbrev U7:=@Nat.pow_succ
abbrev U8:=@PySem.wpAny_setField_rec
abbrev U9:=@List.filter_append
abbrev Va:=@Int.emod_lt_of_pos
abbrev Vb:=@PySem.wpAny_passesOwn
abbrev Vc:=@PySem.builtinLookup_eq_fast
abbrev Vd:=@PySem.plainId_quiet
abbrev Ve:=@List.any_cons
abbrev Vf:=@PySem.F.slot_tuple_iterator_next
abbrev Vg:=@PySem.Heap.get?_push_ne
abbrev Vh:=@Bool.not_eq_true'
abbrev Vi:=@Bool.eq_false_iff
abbrev Vj:=@Nat.mul_le_mul_right
abbrev Vk:=@List.pairwise_iff_getElem
abbrev Vl:=@List.drop_eq_getElem_cons
abbrev Vm:=@PySem.codeAny_mono
abbrev Vn:=@Nat.zero_add
abbrev Vo:=@Option.getD_some
abbrev Vp:=@decide_eq_false_iff_not
abbrev Vq:=@PySem.pushCells_keeps
abbrev Vr:=@List.find?_cons
abbrev Vs:=@List.filter_map
abbrev Vt:=@PySem.IsiPair.tupleOf
abbrev Vu:=@Int.emod_nonneg
abbrev Vv:=@PySem.Calls.spliced_cons
abbrev Vw:=@Int.mul_le_mul_of_nonneg_right
abbrev Vx:=@Array.getElem?_eq_none
abbrev Vy:=@PySem.wpAny_setState_of
abbrev Vz:=@Nat.le_of_succ_le
abbrev VA:=@PyProof.Rows.wpS_get
abbrev VB:=@Nat.ne_of_gt
abbrev VC:=@List.nodup_nil
abbrev VD:=@List.mem_iff_getElem?
abbrev VE:=@List.length_singleton
abbrev VF:=@List.getElem?_toArray
abbrev VG:=@Array.getD_eq_getD_getElem?
abbrev VH:=@List.mem_flatten
abbrev VI:=@List.ext_getElem
abbrev VJ:=@Array.toList_inj
abbrev VL:=@PySem.codeAny_call_builtin
abbrev VM:=@List.getElem?_of_mem
abbrev VN:=@List.Pairwise.filter
abbrev VO:=@List.length_eraseIdx_of_lt
abbrev VP:=@if_true
abbrev VQ:=@List.mem_map_of_mem
abbrev VR:=@List.flatMap_append
abbrev VS:=@PySem.typeLookup_type
abbrev VT:=@PySem.codeAny_of_tree
abbrev VU:=@Nat.not_lt_zero
abbrev VW:=@Nat.succ_pos
abbrev VX:=@Nat.min_self
abbrev VY:=@Nat.lt_trans
abbrev VZ:=@Nat.add_zero
abbrev V0:=@PySem.tupleKind_room_in1
abbrev V1:=@List.getElem?_drop
abbrev V2:=@PySem.wpAny_comprehension_free
abbrev V3:=@PySem.F.args_tuple_add_2
abbrev V4:=@PySem.call_meets
abbrev V5:=@Nat.mod_lt
abbrev V6:=@Int.not_lt
abbrev V7:=@PySem.F.plainAttrs_list
abbrev V8:=@PySem.F.entry_tuple_add
abbrev V9:=@PyProof.Rows.F.plain_set_update_loop
abbrev Wa:=@List.take_sublist
abbrev Wb:=@List.take_add_one
abbrev Wc:=@List.reverse_cons
abbrev We:=@List.pairwise_map
abbrev Wf:=@List.flatMap_cons
abbrev Wg:=@List.ext_getElem?
abbrev Wh:=@PyProof.Rows.listUpdate_at
namespace eF
open PySem
theorem nc{xs:Array Nat}(h:i < xs.size):xs.getD i d=xs[i]:=by simp [Array.getD,h]
structure Cut(l:List Nat)(j b:Nat):Prop where
 le:b<=l.length
 lo: ∀i x,i < b->l[i]?=some x->x < j
 hi: ∀i x,b<=i->l[i]?=some x->j<=x
theorem pw{l:List Nat}(h:l.Pairwise (· < ·)){i j x y:Nat}(bb:i < j)(hx:l[i]?=some x)(hy:l[j]?=some y):x < y:=by
 obtain⟨h1,rfl⟩:=SM.mp hx;obtain⟨h2,rfl⟩:=SM.mp hy;exact Vk.mp h i j h1 h2 bb
theorem qM{xs:Array Nat}(up:xs.toList.Pairwise (· < ·)): ∀(f lo hi:Nat),lo<=hi->hi<=xs.size->hi - lo<=f->(∀i x,i < lo->xs.toList[i]?=some x->x < j)->(∀i x,hi<=i->xs.toList[i]?=some x->j<=x)->Cut xs.toList j (SetTable.below.go xs j f lo hi)
 | 0,lo,hi,h1,h2,h3,a,b=>by
  have:lo=hi:=by lia
  subst this;unfold SetTable.below.go;exact⟨by simpa using h2,a,b⟩
 | f+1,lo,hi,h1,h2,h3,a,b=>by
  unfold SetTable.below.go;by_cases c:lo < hi
  . rw[if_pos c];dsimp only;have hm:(lo+hi) / 2 < xs.size:=by lia
    have em:xs.toList[(lo+hi) / 2]?=some xs[(lo+hi) / 2]:=by rw[Ta];exact S7 hm
    rw[nc hm];by_cases d:xs[(lo+hi) / 2] < j
    . rw[if_pos d];refine qM up f _ _ (by lia) h2 (by lia) (fun i x iy hx=>?_) b;by_cases e:i=(lo+hi) / 2
      . subst e;rw[em] at hx;cases hx;exact d
      . exact VY (pw up (by lia) hx em) d
    . rw[if_neg d];refine qM up f _ _ (by lia) (by lia) (by lia) a fun i x iy hx=>?_;by_cases e:i=(lo+hi) / 2
      . subst e;rw[em] at hx;cases hx;lia
      . have:=pw up (show(lo+hi) / 2 < i by lia) em hx;lia
  . rw[if_neg c];have:lo=hi:=by lia
    subst this;exact⟨by simpa using h2,a,b⟩
theorem iC{xs:Array Nat}(up:xs.toList.Pairwise (· < ·))(j:Nat):Cut xs.toList j (SetTable.below xs j):=
 qM up _ _ _ (Tw _) (SD _) (by lia) (fun i x h _=>absurd h (VU _)) fun i x h e=>by
  have:=(SM.mp e).1;simp at this;lia
structure Tb(b:Bool)(t:SetTable):Prop where
 led:t.led=b
 dm:t.dummies= #[]
 up:t.place.toList.Pairwise (· < ·)
theorem qx(j:Nat):SetTable.has #[] j=false:=by simp [SetTable.has]
theorem uZ(T:Tb b t)(h:t.slot j= .empty):j∉t.place.toList:=fun hm=>by
 obtain⟨i,hi⟩:=VM hm;have c:=iC T.up j;have e:t.place.toList[SetTable.below t.place j]?=some j:=by
  have ge:SetTable.below t.place j<=i:=Nat.le_of_not_lt fun z=>Tu _ (c.lo i j z hi);by_cases q:SetTable.below t.place j=i
  . rw[q];exact hi
  . have il:=(SM.mp hi).1;have bl:SetTable.below t.place j < t.place.toList.length:=by lia
    have hb:=Sy bl;have h1:=c.hi _ _ (SD _) hb;have h2:=pw T.up (show SetTable.below t.place j < i by lia) hb hi;lia
 unfold SetTable.slot at h;dsimp only at h;rw[Ta] at e;rw[if_pos (by rw[e];exact UR _)] at h;cases h
theorem Dv(T:Tb b t)(hj:j∉t.place.toList):Tb b (t.put j).1:=by
 have c:=iC T.up j;refine⟨T.led,?_,?_⟩
 . show(if SetTable.has t.dummies j then _ else t.dummies)= #[];rw[T.dm,qx];rfl
 . show(SetTable.insertAt t.place (SetTable.below t.place j) j).toList.Pairwise (· < ·);rw[SetTable.toList_insertAt];have Gi: ∀x∈t.place.toList.take (SetTable.below t.place j),x < j:=fun x hx=>by
    obtain⟨i,hi⟩:=VM hx;rw[List.getElem?_take] at hi;split at hi
    . rename_i q;exact c.lo i x q hi
    . cases hi
   have Kd: ∀x∈t.place.toList.drop (SetTable.below t.place j),j < x:=fun x hx=>by
    obtain⟨i,hi⟩:=VM hx;rw[V1] at hi;have:=c.hi _ x (Nat.le_add_right _ _) hi;have ne:j≠x:=fun z=>hj (by rw[z];exact SW hi);lia
   refine List.pairwise_append.mpr ⟨T.up.sublist (Wa _ _),List.pairwise_cons.mpr ⟨Kd,T.up.sublist (List.drop_sublist _ _)⟩,fun x hx y hy=>?_⟩;rcases Tg.mp hy with rfl | hy
   . exact Gi x hx
   . exact VY (Gi x hx) (Kd y hy)
theorem AY(h:SetTable.laid m f v led pl hs=some (t,o)):Tb led t:=by
 unfold SetTable.laid at h;cases e:SetTable.layClean m hs with
 | none=>rw[e] at h;cases h
 | some ow=>
  rw[e] at h;cases h;refine⟨rfl,rfl,?_⟩;show List.Pairwise _ (List.map _ _).toArray.toList;rw[We];refine List.Pairwise.filterMap _ (fun a a' QO b hb b' qJ=>?_) List.pairwise_lt_range;obtain⟨x,_,rfl⟩:=T1.mp hb;obtain⟨y,_,rfl⟩:=T1.mp qJ;exact QO
theorem yj(b:Bool):Tb b (.fresh 0 0 b):=⟨rfl,rfl,List.Pairwise.nil⟩
end eF
namespace bZ
open PySem eF
noncomputable def fN:Nat->Nat->Nat
 | 0,x=>x
 | n+1,x=>fN n (x*5+1)
theorem yv(m n:Nat): ∀x,fN (m+n) x=fN n (fN m x):=by
 induction m with
 | zero=>intro x;rw[Vn];rfl
 | succ m ih=>
  intro x;rw[Nat.succ_add];exact ih _
theorem yr: ∀k:Nat,∃u v:Nat,∀x,fN (2^k) x=(1+4*2^k*u)*x+2^k*(1+2*v)
 | 0=>⟨1,0,fun x=>by show x*5+1=_;lia⟩
 | k+1=>by
  obtain⟨u,v,h⟩:=yr k;refine⟨u+2*2^k*u*u,v+2^k*u*(1+2*v),fun x=>?_⟩;rw[show 2^(k+1)=2^k+2^k by rw[U7];lia,yv,h,h];generalize 2^k=P;grind
theorem yu: ∀(k i j:Nat),∃n,n < 2^k/\fN n i % 2^k=j % 2^k
 | 0,i,j=>⟨0,by decide,by rw[Nat.pow_zero,Nat.mod_one,Nat.mod_one]⟩
 | k+1,i,j=>by
  obtain⟨n,hn,e⟩:=yu k i j;obtain⟨u,v,hp⟩:=yr k;have p0:0 < 2^k:=Nat.pow_pos (by decide);rw[U7];by_cases c:fN n i / 2^k % 2=j / 2^k % 2
  . exact⟨n,by lia,by rw[Nat.mod_mul,Nat.mod_mul,e,c]⟩
  . refine⟨n+2^k,by lia,?_⟩;rw[yv,hp];generalize fN n i=y at e c;generalize 2^k=P at*;have e1:(1+4*P*u)*y+P*(1+2*v)=y+P*(1+2*(2*u*y+v)):=by grind
    rw[e1,Nat.mod_mul,Nat.mod_mul,Nat.add_mul_mod_self_left,Nat.add_mul_div_left _ _ p0,e];congr 2
    lia
theorem yt(M:Nat): ∀(n:Nat) {a b:Nat},a % M=b % M->fN n a % M=fN n b % M
 | 0,_,_,h=>h
 | n+1,a,b,h=>yt M n (by
  rw[Nat.add_mod,Nat.mul_mod,h,<-Nat.mul_mod,<-Nat.add_mod])
noncomputable def lp(mask:Nat):Nat->Nat × Nat->Nat × Nat
 | 0,s=>s
 | n+1,s=>lp mask n (SetTable.leap mask s.1 s.2)
theorem Ek(mask m n:Nat): ∀s,lp mask (m+n) s=lp mask n (lp mask m s):=by
 induction m with
 | zero=>intro x;rw[Vn];rfl
 | succ m ih=>
  intro x;rw[Nat.succ_add];exact ih _
theorem Cd: ∀(n:Nat) (s:Nat × Nat),s.1<=mask->(lp mask n s).1<=mask
 | 0,s,h=>h
 | n+1,s,h=>Cd n _ (UJ (V5 _ (VW _)))
theorem sG: ∀(n:Nat) (s:Nat × Nat),(lp mask n s).2=s.2 / 32^n
 | 0,s=>by rw[Nat.pow_zero,Nat.div_one];rfl
 | n+1,s=>by
  show(lp mask n (SetTable.leap mask s.1 s.2)).2=_;rw[sG n];show s.2 / 32 / 32^n=_;rw[Nat.div_div_eq_div_mul,U7,Nat.mul_comm]
theorem sF: ∀(n i:Nat),(lp mask n (i,0)).1 % (mask+1)=fN n i % (mask+1)
 | 0,i=>rfl
 | n+1,i=>by
  have e:SetTable.leap mask i 0=((i*5+1) % (mask+1),0):=by unfold SetTable.leap;rfl
  show(lp mask n (SetTable.leap mask i 0)).1 % _=_;rw[e,sF n];exact yt _ n (Nat.mod_mod _ _)
theorem xH(hk:mask+1=2^k)(hi:i<=mask)(hp:p < 2^64)(hj:j<=mask): ∃n,n < mask+14/\(lp mask n (i,p)).1=j:=by
 obtain⟨n,hn,e⟩:=yu k (lp mask 13 (i,p)).1 j;rw[<-hk] at hn e;refine⟨13+n,by lia,?_⟩;have h2:(lp mask 13 (i,p)).2=0:=by
  rw[sG];exact Nat.div_eq_of_lt (VY hp (by decide))
 have es:lp mask 13 (i,p)=((lp mask 13 (i,p)).1,0):=Prod.ext rfl h2;have e1:=sF (mask:=mask) n (lp mask 13 (i,p)).1;rw[<-es,<-Ek] at e1;have l:=Cd (mask:=mask) (13+n) (i,p) hi;rw[Nat.mod_eq_of_lt (Nat.lt_succ_of_le l)] at e1;rw[e1,e];exact Nat.mod_eq_of_lt (Nat.lt_succ_of_le hj)
theorem wR(h:i<=mask):SetTable.runEnd mask i<=mask/\i<=SetTable.runEnd mask i/\SetTable.runEnd mask i<=i+9:=by
 unfold SetTable.runEnd;split <;> lia
theorem wB(T:Tb b t)(h:j∉t.place.toList):t.slot j= .empty:=by
 unfold SetTable.slot;dsimp only;rw[if_neg,T.dm,qx]
 . rfl
 . intro e;have e:=SO.mp e;exact h (SW (by rw[Ta];exact e))
theorem t9(T:Tb b t)(h:t.slot j≠ .empty): ∃i,t.slot j= .live i/\i < t.place.size:=by
 unfold SetTable.slot at h ⊢;dsimp only at h ⊢;split
 . rename_i e;have e:=SO.mp e;exact⟨_,rfl,(UQ.mp e).1⟩
 . rename_i e;rw[if_neg e,T.dm,qx] at h;exact absurd rfl h
noncomputable def Jp(mask i p:Nat):SetTable.Probe:={j:=i,more:=SetTable.runEnd mask i - i,i:=i,perturb:=p,dummy:=none}
theorem yb(T:Tb b t)(i9: ∀i,i < t.place.size->(ha i==h)=false): ∀(m f:Nat) (p:SetTable.Probe),p.more=m->p.dummy=none->m+1<=f->p.j+m<=t.mask->
  (∃j,SetTable.probe.go t ha h f p=some (.empty j none)/\t.slot j= .empty/\j<=t.mask)\/
  (t.slot p.j≠ .empty/\SetTable.probe.go t ha h f p=SetTable.probe.go t ha h (f - (m+1)) (Jp t.mask (SetTable.leap t.mask p.i p.perturb).1 (SetTable.leap t.mask p.i p.perturb).2))
 | m,f+1,p,hm,hd,hf,hj=>by
  by_cases c:t.slot p.j= .empty
  . refine .inl ⟨p.j,?_,c,by lia⟩;unfold SetTable.probe.go;rw[c,hd]
  . obtain⟨i,e,il⟩:=t9 T c;have step:SetTable.probe.go t ha h (f+1) p=SetTable.probe.go t ha h f (t.advance p):=by
     conv=>lhs;unfold SetTable.probe.go
     rw[e];dsimp only;rw[i9 i il];rfl
    rw[step];cases m with
    | zero=>
     refine .inr ⟨c,?_⟩;have ea:t.advance p=Jp t.mask (SetTable.leap t.mask p.i p.perturb).1 (SetTable.leap t.mask p.i p.perturb).2:=by
      unfold SetTable.advance Jp;rw[if_neg (by rw[hm];decide),hd]
     rw[ea,Vn,Ug]
    | succ m=>
     have ea:t.advance p={p with j:=p.j+1,more:=p.more - 1}:=by
      unfold SetTable.advance;rw[if_pos (by rw[hm];exact VW _)]
     rw[ea];rcases yb T i9 m f {p with j:=p.j+1,more:=p.more - 1} (by show p.more - 1=m;lia) hd (by lia) (by show p.j+1+m<=_;lia) with r | ⟨_,r⟩
     . exact .inl r
     . refine .inr ⟨c,?_⟩;rw[r,show f+1 - (m+1+1)=f - (m+1) by lia]
theorem sR(T:Tb b t)(i9: ∀i,i < t.place.size->(ha i==h)=false): ∀(r f i p:Nat),(∃m,m < r/\t.slot (lp t.mask m (i,p)).1= .empty)->i<=t.mask->10*r<=f->
  ∃j,SetTable.probe.go t ha h f (Jp t.mask i p)=some (.empty j none)/\t.slot j= .empty/\j<=t.mask
 | 0,f,i,p,hm,_,_=>by obtain⟨m,h1,_⟩:=hm;exact absurd h1 (VU _)
 | r+1,f,i,p,hm,hi,hf=>by
  obtain⟨a1,a2,a3⟩:=wR hi;rcases yb (ha:=ha) (h:=h) T i9 (SetTable.runEnd t.mask i - i) f (Jp t.mask i p) rfl rfl (by lia) (by show i+_<=_;lia) with q | ⟨ne,q⟩
  . exact q
  . rw[q];obtain⟨m,h1,h2⟩:=hm;cases m with
    | zero=>exact absurd h2 ne
    | succ m=>
     exact sR T i9 r _ _ _ ⟨m,by lia,h2⟩ (UJ (V5 _ (VW _))) (by lia)
theorem tE(h:Int):SetTable.bits h < 2^64:=by
 unfold SetTable.bits;have h1:=Vu h (show(2^64:Int)≠0 by decide);have h2:=Va h (show(0:Int) < 2^64 by decide);lia
theorem Cc: ∀{l m:List Nat},l.Nodup->(∀x∈l,x∈m)->l.length<=m.length
 | [],_,_,_=>Tw _
 | x::l,m,h,hm=>by
  obtain⟨h1,h2⟩:=UY.mp h;have hx:=hm x TM;have:=Cc (m:=m.erase x) h2 fun k hk=>(List.mem_erase_of_ne (show k≠x from fun z=>h1 (by rw[<-z];exact hk))).mpr (hm k (Tn _ hk));rw[List.length_erase_of_mem hx] at this;have:=List.length_pos_of_mem hx;rw[Tq];lia
theorem qu(T:Tb b t)(hk:t.mask+1=2^k)(room:t.place.size<=t.mask)(i9: ∀i,i < t.place.size->(ha i==h)=false):
  ∃j,t.probe ha h (t.probeStart h)=some (.empty j none)/\j∉t.place.toList/\j<=t.mask:=by
 obtain⟨e,e1,e2⟩: ∃e,e<=t.mask/\e∉t.place.toList:=UX fun z=>by
  have:=Cc (l:=List.range (t.mask+1)) (m:=t.place.toList) List.nodup_range fun x hx=>UX fun y=>z ⟨x,UJ (Td.mp hx),y⟩;rw[Tf,SN] at this;lia
 have hi:SetTable.bits h % (t.mask+1)<=t.mask:=UJ (V5 _ (VW _));obtain⟨m,m1,m2⟩:=xH (i:=SetTable.bits h % (t.mask+1)) (p:=SetTable.bits h) hk hi (tE h) e1;obtain⟨j,j1,j2,j3⟩:=sR (ha:=ha) (h:=h) T i9 (SetTable.turns t.mask) (10*SetTable.turns t.mask) (SetTable.bits h % (t.mask+1)) (SetTable.bits h) ⟨m,by unfold SetTable.turns;lia,by rw[m2];exact wB T e2⟩ hi (SD _);exact⟨j,j1,uZ T j2,j3⟩
structure Th(b:Bool)(n:Nat)(t:SetTable):Prop where
 T:Tb b t
 pw: ∃k,t.mask+1=2^k
 sz:t.place.size=n
 le: ∀j∈t.place.toList,j<=t.mask
 room:n*5 < t.mask*3
theorem pP(n:Nat): ∀(f s:Nat),(∃k,s=2^k)->(∃k,SetTable.sizeAbove.go n f s=2^k)/\(n < s*2^f->n < SetTable.sizeAbove.go n f s)
 | 0,s,h=>⟨h,fun l=>by rw[Nat.pow_zero,Nat.mul_one] at l;exact l⟩
 | f+1,s,h=>by
  unfold SetTable.sizeAbove.go;split
  . obtain⟨k,rfl⟩:=h;obtain⟨a,c⟩:=pP n f (2^k*2) ⟨k+1,(U7 ..).symm⟩;refine⟨a,fun l=>c ?_⟩;rw[Nat.mul_assoc,Nat.mul_comm 2,<-U7];exact l
  . exact⟨h,fun _=>by lia⟩
theorem above(n:Nat)(hn:n < 2^60): ∃k,SetTable.sizeAbove n=2^k/\n < SetTable.sizeAbove n:=by
 obtain⟨⟨k,e⟩,l⟩:=pP n 64 8 ⟨3,rfl⟩;exact⟨k,e,l (VY hn (by decide))⟩
structure Ow(mask:Nat)(ow:Array (Option Nat))(m:Nat):Prop where
 sz:ow.size=mask+1
 pm:(ow.toList.filterMap id).Perm (List.range m)
theorem yn: ∀{l:List (Option Nat)},(∀x∈l,x≠none)->(l.filterMap id).length=l.length
 | [],_=>rfl
 | none::l,h=>absurd rfl (h none TM)
 | some x::l,h=>by
  show(l.filterMap id).length+1=l.length+1;rw[yn fun y hy=>h y (Tn _ hy)]
theorem ym: ∀{l:List (Option Nat)} {j k:Nat},l[j]?=some none->((l.set j (some k)).filterMap id).Perm (k::l.filterMap id)
 | [],j,k,h=>by cases h
 | x::l,0,k,h=>by
  have:x=none:=by simpa using h
  subst this;exact .refl _
 | x::l,j+1,k,h=>by
  have ih:=ym (l:=l) (j:=j) (k:=k) (by simpa using h);cases x with
  | none=>exact ih
  | some y=>
   show(y::(l.set j (some k)).filterMap id).Perm (k::y::l.filterMap id);exact(ih.cons y).trans (.swap ..)
theorem Ow.free(O:Ow mask ow m)(hm:m<=mask): ∃e,e<=mask/\ow.getD e (some 0)=none:=UX fun z=>by
 have:=yn (l:=ow.toList) fun x hx e=>by
  subst e;obtain⟨i,hi⟩:=VM hx;have il:i < ow.size:=by have:=(SM.mp hi).1;rwa [SN] at this
  rw[Ta] at hi;exact z ⟨i,by rw[O.sz] at il;lia,by rw[VG,hi];rfl⟩
 rw[O.pm.length_eq,Tf,SN,O.sz] at this;lia
theorem sS{ow:Array (Option Nat)}: ∀(f i p:Nat),(∃m,m < f/\ow.getD (lp mask m (i,p)).1 (some 0)=none)->i<=mask-> ∃j,j<=mask/\SetTable.layClean.free mask ow f i p=some j/\ow.getD j (some 0)=none
 | 0,i,p,hm,_=>by obtain⟨m,h1,_⟩:=hm;exact absurd h1 (VU _)
 | f+1,i,p,hm,hi=>by
  obtain⟨a1,a2,a3⟩:=wR hi;unfold SetTable.layClean.free;cases e:(List.range (SetTable.runEnd mask i+1 - i)).find? fun k=>(ow.getD (i+k) (some 0)).isNone with
  | some k=>
   have h1:=Td.mp (List.mem_of_find?_eq_some e);have h2:=List.find?_some e;exact⟨i+k,by lia,rfl,Option.isNone_iff_eq_none.mp h2⟩
  | none=>
   have h1:=List.find?_eq_none.mp e 0 (Td.mpr (by lia));obtain⟨m,m1,m2⟩:=hm;cases m with
   | zero=>exact absurd (Option.isNone_iff_eq_none.mpr m2) h1
   | succ m=>exact sS f _ _ ⟨m,by lia,m2⟩ (UJ (V5 _ (VW _)))
theorem oV(hk:mask+1=2^k): ∀(l:List Int) (ow:Array (Option Nat)) (m:Nat),Ow mask ow m->m+l.length<=mask->
  ∃J1,l.foldl (fun acc h=>do
   let (owner,k)<-acc
   let j<-SetTable.layClean.free mask owner (SetTable.turns mask) (SetTable.bits h % (mask+1)) (SetTable.bits h)
   pure (owner.setIfInBounds j (some k),k+1)) (some (ow,m))=some (J1,m+l.length)/\Ow mask J1 (m+l.length)
 | [],ow,m,O,_=>⟨ow,rfl,O⟩
 | h::l,ow,m,O,hm=>by
  rw[Tq] at hm;obtain⟨e,e1,e2⟩:=O.free (by lia);have hi:SetTable.bits h % (mask+1)<=mask:=UJ (V5 _ (VW _));obtain⟨n,n1,n2⟩:=xH (p:=SetTable.bits h) hk hi (tE h) e1;obtain⟨j,j1,j2,j3⟩:=sS (ow:=ow) (SetTable.turns mask) _ (SetTable.bits h) ⟨n,by unfold SetTable.turns;lia,by rw[n2];exact e2⟩ hi;have jl:j < ow.size:=by rw[O.sz];lia
  have jn:ow.toList[j]?=some none:=by
   rw[Ta,S7 jl];rw[VG,S7 jl] at j3;exact UI some j3
  have O2:Ow mask (ow.setIfInBounds j (some m)) (m+1):=⟨by rw[Array.size_setIfInBounds];exact O.sz,by
   rw[Array.toList_setIfInBounds];refine(ym jn).trans ?_;rw[List.range_succ];exact(O.pm.cons m).trans (List.perm_append_singleton m _).symm⟩
  obtain⟨J1,q1,q2⟩:=oV hk l _ _ O2 (by lia);refine⟨J1,?_,by rw[Tq,show m+(l.length+1)=m+1+l.length by lia];exact q2⟩;rw[List.foldl_cons,Tq,show m+(l.length+1)=m+1+l.length by lia,<-q1];congr 1
  show Option.bind (some (ow,m)) _=_;rw[Option.bind_some];dsimp only;rw[j2];rfl
theorem AZ{hs:Array Int}(hk:mask+1=2^k)(room:hs.size*5 < mask*3):
  ∃t o,SetTable.laid mask f v led pl hs=some (t,o)/\Th led hs.size t/\o.toList.Perm (List.range hs.size):=by
 have O0:Ow mask (Array.replicate (mask+1) none) 0:=⟨Array.size_replicate,by
  rw[Array.toList_replicate];have: ∀n:Nat,(List.replicate n (none:Option Nat)).filterMap id= []:=fun n=>by induction n with
   | zero=>rfl
   | succ n ih=>exact ih
  rw[this];exact .refl _⟩
 obtain⟨ow,e,O⟩:=oV hk hs.toList _ 0 O0 (by rw[SN];lia);rw[Vn,SN] at e O;have e2:SetTable.layClean mask hs=some ow:=by
  unfold SetTable.layClean;rw[<-Array.foldl_toList,e];rfl
 let live:List (Nat × Nat):=(List.range (mask+1)).filterMap fun j=>(ow.getD j none).map fun k=>(j,k)
 have el:SetTable.laid mask f v led pl hs=some ({mask:=mask,place:=(live.map (·.1)).toArray,dummies:= #[],finger:=f,led:=led,moves:=v,plain:=pl},(live.map (·.2)).toArray):=by
  unfold SetTable.laid;rw[e2];rfl
 have Ib:live.map (·.2)=ow.toList.filterMap id:=by
  have eo:ow.toList=(List.range (mask+1)).map fun j=>ow.getD j none:=by
   refine Wg fun j=>?_;rw[SX,Ta];by_cases c:j < mask+1
   . rw[List.getElem?_range c,S7 (by rw[O.sz];exact c)];show _=some (ow.getD j none);rw[VG,S7 (by rw[O.sz];exact c)];rfl
   . rw[Vx (by rw[O.sz];lia),Ub (by rw[Tf];lia)];rfl
  rw[eo,List.filterMap_map];show((List.range (mask+1)).filterMap _).map _=_;rw[List.map_filterMap];congr 1
  funext j
  show((ow.getD j none).map fun k=>(j,k)).map (·.2)=ow.getD j none;cases ow.getD j none <;> rfl
 have hlen:live.length=hs.size:=by
  have:=UI List.length Ib;rw[Sx,O.pm.length_eq,Tf] at this;exact this
 refine⟨_,_,el,⟨AY el,⟨k,hk⟩,?_,fun j hj=>?_,room⟩,?_⟩
 . show(live.map (·.1)).toArray.size=_;rw[SK,Sx,hlen]
 . have hj:j∈(live.map (·.1)).toArray.toList:=hj;obtain⟨x,hx,rfl⟩:=SU.mp hj;obtain⟨i,hi,e⟩:=List.mem_filterMap.mp hx;obtain⟨y,_,rfl⟩:=T1.mp e;exact UJ (Td.mp hi)
 . show(live.map (·.2)).toArray.toList.Perm _;rw[Ib];exact O.pm
theorem ug{t:SetTable}{hs:Array Int}(led:t.led=b)(hn:hs.size=n)(n1:1<=n)(n2:n<=50000):
  ∃t' o,t.relaid hs (SetTable.grown n)=some (t',o)/\Th b n t'/\o.toList.Perm (List.range n):=by
 have eg:SetTable.grown n=n*4:=by unfold SetTable.grown;rw[if_neg (by lia)]
 rw[eg];obtain⟨k,e,l⟩:=above (n*4) (UU (show n*4<=200000 by lia) (by decide));have p0:0 < 2^k:=Nat.pow_pos (by decide);obtain⟨t',o,h1,h2,h3⟩:=AZ (k:=k) (f:=t.finger) (v:=t.movedTo (SetTable.sizeAbove (n*4) - 1)) (led:=t.led) (pl:=t.plain) (hs:=hs) (mask:=SetTable.sizeAbove (n*4) - 1) (by rw[e];lia) (by rw[hn];lia);rw[hn] at h2 h3;rw[led] at h2;exact⟨t',o,h1,h2,h3⟩
theorem yk(b:Bool):Th b 0 (.fresh 0 0 b):=⟨yj b,⟨3,rfl⟩,rfl,(fun j hj=>by cases hj),(show 0*5 < 7*3 by decide)⟩
theorem Th.fits(h:Th b n t):t.fits n=true:=by
 unfold SetTable.fits SetTable.fill;rw[h.T.dm,h.sz,UR,Bool.true_and];have:=h.room;exact TK (by show n+0<=t.mask;lia)
end bZ
namespace L2
open PySem PySem.Spec PyProof.Rows
abbrev Key:=Sum Int Str
noncomputable def lh:Key->Value->Bool
 | .inl k,v=>Value.isInt k v
 | .inr x,v=>Value.isStrOf x v
noncomputable def LY(w:World):Key->Int
 | .inl k=>hashInt k
 | .inr x=>hashStr w x
theorem aU: ∀{k:Key} {v:Value},lh k v=true->(∃i t,k=Sum.inl i/\v=Value.int i t)\/(∃x t,k=Sum.inr x/\v=Value.str x t)
 | .inl i,v,h=>by
  obtain⟨t,e⟩:=Value.isInt_shape (k:=i) (v:=v) h;exact .inl ⟨i,t,rfl,e⟩
 | .inr x,v,h=>by
  obtain⟨t,e⟩:=Value.isStrOf_shape (x:=x) (v:=v) h;exact .inr ⟨x,t,rfl,e⟩
theorem uE(i:Int)(t:Tok):lh (.inl i) (.int i t)=true:=by simp [lh,Value.isInt]
theorem uD(x:Str)(t:Tok):lh (.inr x) (.str x t)=true:=by simp [lh,Value.isStrOf]
theorem Ep(a b:Int):decide ((Sum.inl a:Key)=Sum.inl b)=(a==b):=by
 by_cases e:a=b
 . subst e;simp
 . have h: ¬(Sum.inl a:Key)=Sum.inl b:=fun q=>e (Sum.inl.inj q);rw[S9 h];exact(U2.mpr e).symm
theorem Em(a b:Str):decide ((Sum.inr a:Key)=Sum.inr b)=decide (a=b):=by
 by_cases e:a=b
 . subst e;simp
 . have h: ¬(Sum.inr a:Key)=Sum.inr b:=fun q=>e (Sum.inr.inj q);rw[S9 h,S9 e]
theorem Eo(a:Int)(b:Str):decide ((Sum.inl a:Key)=Sum.inr b)=false:=S9 (fun q=>nomatch q)
theorem En(a:Str)(b:Int):decide ((Sum.inr a:Key)=Sum.inl b)=false:=S9 (fun q=>nomatch q)
noncomputable def a8(prog:Program)(w:World):PySem.KeyKind prog w Key where
 is:=lh
 hash:=LY w
 inj:=fun v a b ha hb=>by
  rcases aU ha with ⟨i,t,rfl,rfl⟩ | ⟨x,t,rfl,rfl⟩
  . rcases aU hb with ⟨j,u,rfl,e⟩ | ⟨y,u,rfl,e⟩
    . injection e with e1 _;rw[e1]
    . exact nomatch e
  . rcases aU hb with ⟨j,u,rfl,e⟩ | ⟨y,u,rfl,e⟩
    . exact nomatch e
    . injection e with e1 _;rw[e1]
 byValue:=fun k v h=>by
  rcases aU h with ⟨i,t,rfl,rfl⟩ | ⟨x,t,rfl,rfl⟩ <;> rfl
 pyHash:=fun hv h=>by
  rcases aU hv with ⟨i,t,rfl,rfl⟩ | ⟨x,t,rfl,rfl⟩
  . exact wpAny_pyHash_int h
  . exact wpAny_pyHash_str h
 eqBool:=fun hu hv h=>by
  rcases aU hu with ⟨i,t,rfl,rfl⟩ | ⟨x,t,rfl,rfl⟩
  . rcases aU hv with ⟨j,u,rfl,rfl⟩ | ⟨y,u,rfl,rfl⟩
    . rw[Ep] at h;exact wpAny_eqBool_int h
    . rw[Eo] at h;exact SeqAt.EqAt.int_str i t y u _ _ _ _ h
  . rcases aU hv with ⟨j,u,rfl,rfl⟩ | ⟨y,u,rfl,rfl⟩
    . rw[En] at h;exact SeqAt.EqAt.str_int x t j u _ _ _ _ h
    . rw[Em] at h;exact wpAny_eqBool_str h
 «strs» :=fun k x t v h=>by
  rcases aU h with ⟨i,u,rfl,e⟩ | ⟨y,u,rfl,e⟩
  . exact nomatch e
  . injection e with e1 _
    subst e1;cases v <;> rfl
theorem oP(prog:Program)(w:World)(i:Int)(t:Tok):(a8 prog w).is (.inl i) (.int i t)=true:=uE i t
theorem oO(prog:Program)(w:World)(x:Str)(t:Tok):(a8 prog w).is (.inr x) (.str x t)=true:=uD x t
inductive V where
 | aI | bl (b:Bool) | int (i:Int) | str (x:Str) | vO (b:Array UInt8) | uQ (b:UInt64) | ref (a:Addr) | ty (n:String)
 deriving DecidableEq
def RelV:V->Value->Prop
 | .aI,u=>u=Value.none
 | .bl b,u=>u=Value.bool b
 | .int i,u=> ∃t,u=Value.int i t
 | .str x,u=> ∃t,u=Value.str x t
 | .vO b,u=> ∃t,u=Value.bytes b t
 | .uQ b,u=> ∃t,u=Value.float b t
 | .ref a,u=>u=Value.ref a
 | .ty n,u=>u=Value.type n
abbrev Vals:List V->List Value->Prop:=Paired RelV
theorem Vals.length(r:Vals xs us):xs.length=us.length:=Paired.length r
theorem Vals.get: ∀{xs:List V} {us:List Value} {i:Nat} {x:V},Vals xs us->xs[i]?=some x-> ∃u,us[i]?=some u/\RelV x u
 | _,_,_,_, .nil,e=>by simp at e
 | _,_,0,_, .cons r _,e=>by simp at e;subst e;exact⟨_,rfl,r⟩
 | _,_,i+1,x, .cons _ t,e=>by
  obtain⟨u,h1,h2⟩:=Vals.get (i:=i) (x:=x) t (by simpa using e);exact⟨u,by simpa using h1,h2⟩
theorem Vals.set(r:RelV x u): ∀{xs:List V} {us:List Value} (i:Nat),Vals xs us->Vals (xs.set i x) (us.set i u)
 | _,_,_, .nil=> .nil
 | _,_,0, .cons _ t=> .cons r t
 | _,_,i+1, .cons q t=> .cons q (Vals.set r i t)
theorem Vals.append: ∀{xs ys:List V} {us ws:List Value},Vals xs us->Vals ys ws->Vals (xs++ys) (us++ws)
 | _,_,_,_, .nil,s=>s
 | _,_,_,_, .cons r t,s=> .cons r (Vals.append t s)
theorem Vals.take: ∀{xs:List V} {us:List Value} (n:Nat),Vals xs us->Vals (xs.take n) (us.take n)
 | _,_,0,_=> .nil
 | _,_,_+1, .nil=> .nil
 | _,_,n+1, .cons r t=> .cons r (Vals.take n t)
theorem Vals.drop: ∀{xs:List V} {us:List Value} (n:Nat),Vals xs us->Vals (xs.drop n) (us.drop n)
 | _,_,0,r=>r
 | _,_,_+1, .nil=> .nil
 | _,_,n+1, .cons _ t=>Vals.drop n t
def j9:Option V->Option Value->Prop
 | some v,some u=>RelV v u
 | none,none=>True
 | _,_=>False
def KV{κ:Type}:List (κ × V)->List (κ × Value)->Prop:=Paired fun(p:κ × V) (q:κ × Value)=>p.1=q.1/\RelV p.2 q.2
noncomputable def kV:Key->V
 | .inl i=> .int i
 | .inr x=> .str x
def pS(h:Heap)(a:Addr)(items:Array Value):Prop:= ∃o,h.get? a=some o/\o.cls= .type "tuple"/\o.dict=none/\ ∃n,o.data= .seq items n
theorem pS.tup{h:Heap}{a:Addr}{items:Array Value}(x:pS h a items):IsTup h a items:=let ⟨o,e,c,_,d⟩:=x;⟨o,e,c,d⟩
theorem pS.lt(x:pS h a items):a < h.objs.size:=let ⟨_,e,_⟩:=x;SQ e
theorem pS.new(h:Heap)(items:Array Value):pS (h.push {cls:= .type "tuple",data:= .seq items}) h.objs.size items:=⟨_,SI _ rfl,rfl,rfl,_,rfl⟩
inductive HO where
  | lst (xs:List V)
  | tup (xs:List V)
  | dK (aA:List (Key × V)) | dT (aA:List (List Key × V))
  | set (S:Int->Bool) (n:Nat)
  | ins (C dx:Addr) (fs:List (Str × V))
  | own (x:Addr)
  | xd (fs:List (Str × V))
  | met (f x:Addr)
  | uf (lo hi:Int)
  | nV (o:Obj) (u:HO)
  | C9 (ps:Array Value)
  | ext (φ:Heap->Prop)
abbrev Hp:=Addr->Option HO
noncomputable def upd(H:Hp)(a:Addr)(o:HO):Hp:=fun b=>if b=a then some o else H b
theorem ae:upd H a o a=some o:=by unfold upd;rw[if_pos rfl]
theorem ag(h:b≠a):upd H a o b=H b:=by unfold upd;rw[if_neg h]
theorem xG{H:Hp}(h:H a=some o)(h':H b=some u)(d:o≠u):a≠b:=by
 intro e;subst e;rw[h] at h';exact d (Option.some.inj h')
theorem aq{H:Hp}(h:H a=some o)(h':H b=none):a≠b:=by
 intro e;subst e;rw[h] at h';cases h'
section
variable (P : Program) (w : World)
def aQ(H:Hp)(h:Heap)(a:Addr):HO->Prop
 | .lst xs=>xs.length<=sizeLine/\ ∃(af:List Value) (n:Nat),Vals xs af/\h.get? a=some {cls:= .type "list",data:= .seq af.toArray n}
 | .tup xs=>xs.length<=sizeLine/\ ∃af:List Value,Vals xs af/\pS h a af.toArray
 | .dK aA=>aA.length<=sizeLine/\(a==sysModules)=false/\ ∃vs,KV aA vs/\h.DictOf (a8 P w) a vs
 | .dT aA=>aA.length<=sizeLine/\(a==sysModules)=false/\ ∃xs:List (List Key × Addr × Value),
   Paired (fun(p:List Key × V) (q:List Key × Addr × Value)=>p.1=q.1/\H q.2.1=some (.tup (p.1.map kV))/\RelV p.2 q.2.2) aA xs/\
   ∃o es ep,h.get? a=some o/\o.ExactDict/\o.data= .dict es ep/\es.toList=xs.map (entryOfKey (tupleKind (a8 P w)))/\(xs.map (·.1)).Nodup
 | .set S n=>h.SetOf (intKind P w) a S n
 | .ins C dx fs=>H dx=some (.own a)/\fs.length<=1000/\dx≠a/\h.get? a=some (PySem.W.instObj C dx)/\
   ∃mA,h.Ns1 dx mA/\(∀f,j9 (fs.lookup f) (mA f))/\PySem.Within mA (fs.map (·.1))
 | .own _=> ∃o,h.get? a=some o
 | .xd fs=> ∃mA,h.Ns1 a mA/\ ∀f,j9 (fs.lookup f) (mA f)
 | .uf lo hi=> ∃t u v,h.get? a=some {cls:= .type "range",data:= .fields #[.int lo t, .int hi u, .int 1 v]}
 | .nV o u=>h.get? a=some o/\aQ H h a u
 | .C9 ps=>h.get? a=some {cls:= .none,data:= .fields ps}
 | .met f x=>h.get? a=some (PySem.W.methodObj (.ref f) (.ref x))
 | .ext φ=>φ h/\(∃o,h.get? a=some o)/\ ∀h1 h2:Heap,φ h1->(∀o,h1.get? a=some o->h2.get? a=some o)->φ h2
def fZ(H:Hp)(h:Heap):Prop:= ∀a o,H a=some o->aQ P w H h a o
end
theorem aQ.lt(x:aQ P w H h a o):a < h.objs.size:=by
 cases o with
 | lst xs=>obtain⟨_,_,_,_,e⟩:=x;exact SQ e
 | tup xs=>obtain⟨_,_,_,p⟩:=x;exact p.lt
 | dK aA=>obtain⟨_,_,_,_,o,_,_,e,_⟩:=x;exact SQ e
 | dT aA=>obtain⟨_,_,_,_,o,_,_,e,_⟩:=x;exact SQ e
 | set S n=>obtain⟨o,_,_,_,e,_⟩:=x;exact SQ e
 | ins C dx fs=>obtain⟨_,_,_,e,_⟩:=x;exact SQ e
 | own y=>obtain⟨_,e⟩:=x;exact SQ e
 | xd fs=>obtain⟨_,⟨_,_,_,e,_⟩,_⟩:=x;exact SQ e
 | uf lo hi=>obtain⟨_,_,_,e⟩:=x;exact SQ e
 | nV ob u=>obtain⟨e,_⟩:=x;exact SQ e
 | C9 ps=>exact SQ (show h.get? a=some _ from x)
 | met f y=>exact SQ (show h.get? a=some _ from x)
 | ext φ=>obtain⟨_,⟨_,e⟩,_⟩:=x;exact SQ e
theorem Paired.Eh: ∀{l₁:List α} {l₂:List β},Paired F l₁ l₂->(∀a b,F a b->G a b)->Paired G l₁ l₂
 | _,_, .nil,_=> .nil
 | _,_, .cons r t,f=> .cons (f _ _ r) (Paired.Eh t f)
theorem aQ.qk(x:aQ P w H h a o)(k: ∀b u,(b=a\/H b=some (.own a))->h.get? b=some u->h'.get? b=some u)
  (ho: ∀b,H b=some (.own a)->H' b=some (.own a)) (ht: ∀b xs,H b=some (.tup xs)->H' b=some (.tup xs)):aQ P w H' h' a o:=by
 induction o with
 | lst xs=>obtain⟨z,af,n,r,e⟩:=x;exact⟨z,af,n,r,k _ _ (.inl rfl) e⟩
 | tup xs=>obtain⟨z,af,r,ob,e,c⟩:=x;exact⟨z,af,r,ob,k _ _ (.inl rfl) e,c⟩
 | dK aA=>obtain⟨z,y,vs,r,ob,es,ep,e,c⟩:=x;exact⟨z,y,vs,r,ob,es,ep,k _ _ (.inl rfl) e,c⟩
 | dT aA=>
  obtain⟨z,y,xs,r,ob,es,ep,e,c⟩:=x;exact⟨z,y,xs,Paired.Eh r fun p q z=>⟨z.1,ht _ _ z.2.1,z.2.2⟩,ob,es,ep,k _ _ (.inl rfl) e,c⟩
 | set S n=>obtain⟨ob,es,ep,t,e,c⟩:=x;exact⟨ob,es,ep,t,k _ _ (.inl rfl) e,c⟩
 | ins C dx fs=>
  obtain⟨d,z,ne,e,mA,⟨od,es,ep,e2,c⟩,r⟩:=x;exact⟨ho _ d,z,ne,k _ _ (.inl rfl) e,mA,⟨od,es,ep,k _ _ (.inr d) e2,c⟩,r⟩
 | own y=>obtain⟨ob,e⟩:=x;exact⟨ob,k _ _ (.inl rfl) e⟩
 | xd fs=>obtain⟨mA,⟨od,es,ep,e,c⟩,r⟩:=x;exact⟨mA,⟨od,es,ep,k _ _ (.inl rfl) e,c⟩,r⟩
 | uf lo hi=>obtain⟨t,u,v,e⟩:=x;exact⟨t,u,v,k _ _ (.inl rfl) e⟩
 | nV ob u ih=>obtain⟨e,q⟩:=x;exact⟨k _ _ (.inl rfl) e,ih q⟩
 | C9 ps=>
  have e:h.get? a=some {cls:= .none,data:= .fields ps}:=x;show h'.get? a=some {cls:= .none,data:= .fields ps};exact k a _ (.inl rfl) e
 | met f y=>
  have e:h.get? a=some (PySem.W.methodObj (.ref f) (.ref y)):=x;show h'.get? a=some (PySem.W.methodObj (.ref f) (.ref y));exact k a _ (.inl rfl) e
 | ext φ=>obtain⟨p,⟨o,e⟩,st⟩:=x;exact⟨st _ _ p fun o q=>k _ _ (.inl rfl) q,⟨o,k _ _ (.inl rfl) e⟩,st⟩
theorem fZ.lt(x:fZ P w H h)(e:H a=some o):a < h.objs.size:=(x a o e).lt
theorem fZ.fresh(x:fZ P w H h)(e:h.objs.size<=a):H a=none:=by
 cases q:H a with
 | none=>rfl
 | some u=>exact absurd (Tj (x.lt q) e) (Tu _)
theorem fZ.kept(x:fZ P w H h)(k: ∀b u,h.get? b=some u->h'.get? b=some u):fZ P w H h':=fun a o e=>
 (x a o e).qk (fun b u _ q=>k b u q) (fun _ q=>q) fun _ _ q=>q
theorem fZ.laid(x:fZ P w H h)(k: ∀b u,h.get? b=some u->h'.get? b=some u)(hp:h.objs.size<=a)(new:aQ P w (upd H a o) h' a o):fZ P w (upd H a o) h':=fun b u e=>by
 have hn:=x.fresh hp;by_cases hb:b=a
 . subst hb;rw[ae] at e;cases e;exact new
 . rw[ag hb] at e;exact(x b u e).qk (fun c v _ q=>k c v q) (fun c q=>by rw[ag (aq q hn)];exact q) fun c xs q=>by rw[ag (aq q hn)];exact q
def Rd(H:Hp)(a:Addr)(u:HO):Prop:=H a=some u\/ ∃o,H a=some (.nV o u)
theorem Rd.ok(r:Rd H a u)(x:fZ P w H h):aQ P w H h a u:=by
 rcases r with r | ⟨o,r⟩
 . exact x a u r
 . obtain⟨_,q⟩:=x a _ r;exact q
def JE:Option HO->Prop
 | some (.lst _)=>True
 | some (.dK _)=>True
 | some (.dT _)=>True
 | some (.set _ _)=>True
 | some (.ins _ _ _)=>True
 | some (.ext _)=>True
 | _=>False
theorem fZ.write(ok:fZ P w H h)(mu:JE (H x))(he:e=x\/H e=some (.own x))(k: ∀b u,b≠e->h.get? b=some u->h'.get? b=some u)(Gk: ∃u,h'.get? e=some u)
  (new:aQ P w (upd H x o') h' x o'):fZ P w (upd H x o') h':=fun b u q=>by
 have HF: ∀c y,H c=some (.own y)->c≠x:=fun c y r z=>by subst z;rw[r] at mu;exact mu
 have LK: ∀c xs,H c=some (.tup xs)->c≠x:=fun c xs r z=>by subst z;rw[r] at mu;exact mu
 by_cases hb:b=x
 . subst hb;rw[ae] at q;cases q;exact new
 . rw[ag hb] at q;by_cases EM:b=e
   . have q' : H b = some (.own x) := by
       rcases he with z | z
       . exact absurd (EM.trans z) hb
       . rw[EM];exact z
     rw[q] at q';cases q';obtain⟨v,hv⟩:=Gk;exact⟨v,by rw[EM];exact hv⟩
   . refine(ok b u q).qk (fun c v hc r=>k c v ?_ r) (fun c r=>by rw[ag (HF c b r)];exact r) fun c xs r=>by rw[ag (LK c xs r)];exact r
     rcases hc with rfl | hc
     . exact EM
     . rintro rfl
       rcases he with z | z
       . exact HF c b hc z
       . rw[hc] at z;cases z;exact hb rfl
structure Un(fs ex:List Addr)(H H':Hp)(h h':Heap):Prop where
 keep: ∀b o,h.get? b=some o->H b=none->b∉fs->b∉ex->h'.get? b=some o
 slot: ∀b o,h.get? b=some o->H b=none->b∈fs->b∉ex-> ∃sl,h'.get? b=some {o with slots:=sl}
 free: ∀b o,h.get? b=some o->H b=none->b∉ex->H' b=none
 there: ∀b o,h.get? b=some o->b∉ex-> ∃o',h'.get? b=some o'
 n9: ∀b xs,H b=some (.tup xs)->H' b=some (.tup xs)
 ng: ∀b o u,H b=some (.nV o u)->H' b=some (.nV o u)
 oh: ∀b ps,H b=some (.C9 ps)-> ∃more,H' b=some (.C9 (ps++more))
section
variable {fs R3 ex Sg : List Addr} {H H1 H2 : Hp} {h h1 h2 h' : Heap} {a x e : Addr} {o : HO}
theorem Un.any(u:Un fs ex H H1 h h1)(q:h.get? b=some ob)(n:H b=none)(hx:b∉ex): ∃sl,h1.get? b=some {ob with slots:=sl}:=by
 by_cases hb:b∈fs
 . exact u.slot b ob q n hb hx
 . exact⟨ob.slots,u.keep b ob q n hb hx⟩
theorem Un.kept(k: ∀b u,h.get? b=some u->h'.get? b=some u):Un fs ex H H h h':=
 ⟨fun b ob q _ _ _=>k b ob q,fun b ob q _ _ _=>⟨ob.slots,k b ob q⟩,fun _ _ _ n _=>n,fun b ob q _=>⟨ob,k b ob q⟩,fun _ _ q=>q,fun _ _ _ q=>q,fun _ ps q=>⟨#[],by rw[q];simp⟩⟩
theorem Un.refl:Un fs ex H H h h:=Un.kept fun _ _ q=>q
theorem Un.laid(k: ∀b u,h.get? b=some u->h'.get? b=some u)(hp:h.objs.size<=a)(hn:H a=none):Un fs ex H (upd H a o) h h' where
 keep:=fun b u q _ _ _=>k b u q
 slot:=fun b u q _ _ _=>⟨u.slots,k b u q⟩
 free:=fun b u q n _=>by rw[ag (Tt (Tj (SQ q) hp))];exact n
 there:=fun b u q _=>⟨u,k b u q⟩
 n9:=fun b xs q=>by rw[ag (aq q hn)];exact q
 ng:=fun b u xs q=>by rw[ag (aq q hn)];exact q
 oh:=fun b ps q=>⟨#[],by rw[ag (aq q hn),q];simp⟩
theorem Un.write(mu:JE (H x))(he:e=x\/H e=some (.own x))(k: ∀b u,b≠e->h.get? b=some u->h'.get? b=some u)(Gk: ∃u,h'.get? e=some u):Un fs ex H (upd H x o) h h':=by
 have hx: ∀b,H b=none->b≠x:=fun b n z=>by subst z;rw[n] at mu;exact mu
 have hb: ∀b,H b=none->b≠e:=fun b n z=>by
  subst z;rcases he with r | r
  . exact hx b n r
  . rw[n] at r;cases r
 have hm: ∀b u,H b=some u-> ¬JE (some u)->b≠x:=fun b u q nm z=>by subst z;rw[q] at mu;exact nm mu
 refine⟨fun b u q n _ _=>k b u (hb b n) q,fun b u q n _ _=>⟨u.slots,k b u (hb b n) q⟩,fun b u q n _=>by rw[ag (hx b n)];exact n,fun b u q _=>?_,
  fun b xs q=>by rw[ag (hm b _ q fun z=>z)];exact q,fun b u xs q=>by rw[ag (hm b _ q fun z=>z)];exact q,fun b ps q=>⟨#[],by rw[ag (hm b _ q fun z=>z),q];simp⟩⟩
 by_cases EM:b=e
 . subst EM;exact Gk
 . exact⟨u,k b u EM q⟩
end
noncomputable def zM(h:Heap)(H:Hp):List Addr:=(List.range h.objs.size).filter fun a=>(H a).isSome
noncomputable def m6(h:Heap)(H:Hp):Heap:=PySem.W.hideAll h (zM h H)
theorem uJ(h:Heap)(H:Hp):(m6 h H).objs.size=h.objs.size:=PySem.W.hideAll_size _ _
theorem xY{h:Heap}(e:h.get? b=some o)(n:H b=none):(m6 h H).get? b=some o:=
 PySem.W.hideAll_get _ e fun hm=>by
  have q:(H b).isSome=true:=(TN.mp hm).2;rw[n] at q;simp at q
theorem AR(e:(m6 h H).get? b=some o):h.get? b=some o/\H b=none:=by
 have e':h.get? b=some o:=PySem.W.of_hideAll (zM h H) e;refine⟨e',?_⟩;cases q:H b with
 | none=>rfl
 | some x=>
  have hm:b∈zM h H:=TN.mpr ⟨Td.mpr (SQ e'),by simp [q]⟩;have z:(m6 h H).get? b=none:=PySem.W.hideAll_none (zM h H) hm;rw[z] at e;cases e
structure Mod(K:PySem.W.Frag)(mg:Str->Option Value)(base:Heap):Prop where
 J7:K.In base
 glob:base.Ns mainGlobals mg
 blt: ∃mb,base.Ns builtinsNs mb/\ ∀x:Str,x≠"__name__"->mb x=bootBuiltins x
 nolimit:base.NoLimit
structure Cx where
 prog:Program
 w:World
 K:PySem.W.Frag
 mg:Str->Option Value
 base:Heap
 A:Around
 N:List Str
 s₀:Shared
 H₀:Hp
 env:Env
 outer:List Env
 stack:List Env
 ex:List Addr
 fn:Str->Bool
 calm:Bool
 pn:List (Addr × Obj)
 xe:Value->Shared->Prop
noncomputable def pY(l:List Env):List Addr:=l.filterMap (·.frame)
noncomputable abbrev Cx.fs (X:Cx):List Addr:=pY X.outer
def Jv(sc:Scope)(x:Str):Prop:=sc.names.lookup x=some .local\/sc.names.lookup x=some .cell\/sc.names.lookup x=some .free
def Loc(sc:Scope)(x:Str):Prop:=sc.names.lookup x=some .local\/sc.names.lookup x=some .cell
def Look(env:Env)(h:Heap)(m:Str->Option Value)(x:Str)(u:Value):Prop:=
 (env.kindOf x=some .local/\m x=some u)\/((env.kindOf x=some .cell\/env.kindOf x=some .free)/\ ∃c,env.cells.lookup x=some c/\h.IsCell c (some u))
structure Cx.Ok(X:Cx):Prop where
 mod:Mod X.K X.mg X.base
 kind:X.env.scope.kind= .function
 glob:X.env.globals=mainGlobals
 blt:X.env.builtins=builtinsNs
 above:X.s₀.heap.objs.size<=X.env.locals
 inj: ∀x y c,X.env.cells.lookup x=some c->X.env.cells.lookup y=some c->x=y
 has: ∀x,(X.env.kindOf x=some .cell\/X.env.kindOf x=some .free)-> ∃c,X.env.cells.lookup x=some c
 Jm: ∀x c,X.fn x=true->X.env.cells.lookup x=some c->X.s₀.heap.objs.size<=c
 hd:X.calm=true->X.A.handled=none
 frames:X.A.frames=some X.stack
 JV:X.stack=X.outer\/(X.stack=X.env::X.outer/\X.env.frame=some X.env.locals)
 Gp: ∀b∈X.ex,b≠X.env.locals/\ ∀x c,X.env.cells.lookup x=some c->c≠b
 bs: ∀b o,X.base.get? b=some o->X.s₀.heap.get? b=some o/\X.H₀ b=none
 CO:X.base.objs.size<=X.s₀.heap.objs.size
 xD: ∀b o,X.base.get? b=some o->b∉X.ex
 uS: ∀b∈X.ex,b∉X.fs
 jP:X.s₀.heap.FunFrames X.base X.outer
 Gm: ∀b∈X.fs,X.H₀ b=none
structure Inv(X:Cx)(pins:List (Addr × Obj))(σ:List (Option V))(H:Hp)(s:Shared):Prop where
 ok:X.Ok
 os:s.os=X.s₀.os
 bare:AllBare s.gens
 base:Un X.fs X.ex X.H₀ H X.s₀.heap s.heap
 loc: ∃m,s.heap.Ns X.env.locals m/\ ∀(i:Nat) (x:Str) (v:V),X.N[i]?=some x->σ[i]?=some (some v)->Jv X.env.scope x-> ∃u,RelV v u/\Look X.env s.heap m x u
 cell: ∀x c,X.env.cells.lookup x=some c-> ∃v,s.heap.IsCell c v
 free:H X.env.locals=none
 eL: ∀x c,X.env.cells.lookup x=some c->H c=none
 pin: ∀p∈X.pn++pins,s.heap.get? p.1=some p.2/\H p.1=none/\p.1≠X.env.locals/\p.1∉X.fs/\ ∀v,p.2.data≠ .cell v
 aO:fZ X.prog X.w H s.heap
 len:σ.length=X.N.length
section
variable {X : Cx} {pins : List (Addr × Obj)} {σ : List (Option V)} {H H' : Hp} {s : Shared} {h' : Heap}
theorem Cx.Ok.LN(ok:X.Ok)(e:X.base.get? b=some o):b∉X.fs:=fun hb=>by
 have:=(ok.jP.mem hb).1;rw[e] at this;cases this
theorem Inv.bs(I:Inv X pins σ H s): ∀b o,X.base.get? b=some o->s.heap.get? b=some o/\H b=none:=fun b o e=>
 ⟨I.base.keep b o (I.ok.bs b o e).1 (I.ok.bs b o e).2 (I.ok.LN e) (I.ok.xD b o e),I.base.free b o (I.ok.bs b o e).1 (I.ok.bs b o e).2 (I.ok.xD b o e)⟩
theorem Inv.bk(I:Inv X pins σ H s): ∀b o,X.base.get? b=some o->s.heap.get? b=some o:=fun b o e=>(I.bs b o e).1
theorem Inv.mod(I:Inv X pins σ H s):Mod X.K X.mg X.base:=I.ok.mod
theorem Inv.mX(I:Inv X pins σ H s):X.K.In s.heap:=I.ok.mod.J7.keeps I.bk
theorem Inv.lt(I:Inv X pins σ H s):X.env.locals < s.heap.objs.size:=let ⟨_,hn,_⟩:=I.loc;hn.lt
theorem Inv.sz(I:Inv X pins σ H s):X.s₀.heap.objs.size<=s.heap.objs.size:=S4 I.ok.above (T5 I.lt)
theorem Inv.LM(I:Inv X pins σ H s)(h:s.heap.objs.size<=a):a∉X.fs:=fun hb=>by
 obtain⟨_,o,ho,_⟩:=I.ok.jP.mem hb;exact absurd (Tj (SQ ho) (S4 I.sz h)) (Tu _)
theorem Inv.FH(I:Inv X pins σ H s): ∀x c,X.env.cells.lookup x=some c->c≠X.env.locals:=fun x c e z=>by
 obtain⟨v,o,ho,hd⟩:=I.cell x c e;obtain⟨m,⟨o',es,ep,xW,Iq,_⟩,_⟩:=I.loc;rw[z,xW] at ho;cases ho;rw[Iq] at hd;cases hd
theorem Inv.jP(I:Inv X pins σ H s):s.heap.FunFrames X.base X.outer:=by
 have all: ∀(l:List Env),(∀b∈pY l,b∈X.fs)->X.s₀.heap.FunFrames X.base l->s.heap.FunFrames X.base l:=by
  intro l;induction l with
  | nil=>intro _ _;trivial
  | cons env r ih=>
   intro hs hl;obtain⟨hk,⟨L,o,hf,hn,ho,hd⟩,hr⟩:=hl;have hL:L∈X.fs:=hs L (by unfold pY;rw[List.filterMap_cons,hf];exact TM);obtain⟨sl,e⟩:=I.base.slot L o ho (I.ok.Gm L hL) hL fun z=>I.ok.uS L z hL;exact⟨hk,⟨L,_,hf,hn,e,hd⟩,ih (fun b hb=>hs b (by unfold pY;rw[List.filterMap_cons,hf];exact Tn _ hb)) hr⟩
 exact all X.outer (fun _ hb=>hb) I.ok.jP
theorem Inv.stack(I:Inv X pins σ H s):s.heap.FunFrames X.base X.stack:=by
 rcases I.ok.JV with e | ⟨e,hf⟩
 . rw[e];exact I.jP
 . rw[e];obtain⟨m,hn,_⟩:=I.loc;refine .cons (by rw[I.ok.kind];decide) hf hn ?_ I.jP;exact Heap.get?_none_of_le (S4 I.ok.CO I.ok.above)
theorem Inv.qj(I:Inv X pins σ H s): ∀b∈pY X.stack,b∈X.env.locals::X.fs:=fun b hb=>by
 rcases I.ok.JV with e | ⟨e,hf⟩
 . rw[e] at hb;exact Tn _ hb
 . rw[e] at hb;unfold pY at hb;rw[List.filterMap_cons,hf] at hb;exact hb
theorem Inv.rS(I:Inv X pins σ H s): ∀b∈pY X.stack,H b=none:=fun b hb=>by
 rcases Tg.mp (I.qj b hb) with e | hb
 . rw[e];exact I.free
 . obtain⟨_,o,ho,_⟩:=I.ok.jP.mem hb;exact I.base.free b o ho (I.ok.Gm b hb) fun z=>I.ok.uS b z hb
theorem Inv.step{g':Array GenState}{t':Nat}{d':Drawn}{ch:List Addr}(I:Inv X pins σ H s)
  (zR: ∀b∈ch,(b∈X.ex\/X.s₀.heap.objs.size<=b)/\b≠X.env.locals/\(∀x c,X.env.cells.lookup x=some c->c≠b)/\ ∀p∈X.pn++pins,p.1≠b)
  (keep: ∀b o,b≠X.env.locals->b∉X.fs->b∉ch->s.heap.get? b=some o->H b=none->h'.get? b=some o)
  (slot: ∀b o,b≠X.env.locals->b∈X.fs->b∉ch->s.heap.get? b=some o->H b=none-> ∃sl,h'.get? b=some {o with slots:=sl}) (free: ∀b o,b∉ch->s.heap.get? b=some o->H b=none->H' b=none)
  (there: ∀b o,b∉ch->s.heap.get? b=some o-> ∃o',h'.get? b=some o')
  (n9: ∀b xs,H b=some (.tup xs)->H' b=some (.tup xs)) (ng: ∀b o u,H b=some (.nV o u)->H' b=some (.nV o u)) (oh: ∀b ps,H b=some (.C9 ps)-> ∃more,H' b=some (.C9 (ps++more)))
  (ns: ∀m,s.heap.Ns X.env.locals m->h'.Ns X.env.locals m) (aO:fZ X.prog X.w H' h') (hg:AllBare g'):
  Inv X pins σ H' {s with heap:=h',gens:=g',drawn:=d',toks:=t'}:=by
 have N7: ∀b o,X.s₀.heap.get? b=some o->b≠X.env.locals:=fun b o e=>Tt (Tj (SQ e) I.ok.above);have J5: ∀b o,X.s₀.heap.get? b=some o->b∉X.ex->b∉ch:=fun b o e hx hb=>by
  rcases(zR b hb).1 with z | z
  . exact hx z
  . exact absurd (Tj (SQ e) z) (Tu _)
 have cellK: ∀x c,X.env.cells.lookup x=some c-> ∀v,s.heap.IsCell c v->h'.IsCell c v:=fun x c e v cu=>(by obtain⟨o,ho,hd⟩:=cu;exact(by
  have HH:c∉ch:=fun z=>(zR c z).2.2.1 x c e rfl;by_cases hc:c∈X.fs
  . obtain⟨sl,q⟩:=slot c o (I.FH x c e) hc HH ho (I.eL x c e);exact⟨_,q,hd⟩
  . exact⟨o,keep c o (I.FH x c e) hc HH ho (I.eL x c e),hd⟩))
 refine⟨I.ok,I.os,hg,⟨fun b o e n hb hx=>?_,fun b o e n hb hx=>?_,fun b o e n hx=>?_,fun b o e hx=>?_,fun b xs e=>n9 b xs (I.base.n9 b xs e),fun b o xs e=>ng b o xs (I.base.ng b o xs e),fun b ps e=>?_⟩,?_,fun x c e=>?_,?_,fun x c e=>?_,fun p hp=>?_,aO,I.len⟩
 . exact keep b o (N7 b o e) hb (J5 b o e hx) (I.base.keep b o e n hb hx) (I.base.free b o e n hx)
 . obtain⟨sl,e1⟩:=I.base.slot b o e n hb hx;obtain⟨PQ,e2⟩:=slot b _ (N7 b o e) hb (J5 b o e hx) e1 (I.base.free b o e n hx);exact⟨PQ,e2⟩
 . obtain⟨o',e1⟩:=I.base.there b o e hx;exact free b o' (J5 b o e hx) e1 (I.base.free b o e n hx)
 . obtain⟨o',e1⟩:=I.base.there b o e hx;exact there b o' (J5 b o e hx) e1
 . obtain⟨m1,e1⟩:=I.base.oh b ps e;obtain⟨m2,e2⟩:=oh b _ e1;exact⟨m1++m2,by rw[e2,Array.append_assoc]⟩
 . obtain⟨m,hn,hl⟩:=I.loc;refine⟨m,ns m hn,fun i x v e1 e2 e3=>?_⟩;obtain⟨u,r,l⟩:=hl i x v e1 e2 e3;refine⟨u,r,?_⟩;rcases l with l | ⟨k,c,e,z⟩
   . exact .inl l
   . exact .inr ⟨k,c,e,cellK x c e _ z⟩
 . obtain⟨v,z⟩:=I.cell x c e;exact⟨v,cellK x c e v z⟩
 . obtain⟨m,⟨o,_,_,ho,_⟩,_⟩:=I.loc;exact free _ o (fun z=>(zR _ z).2.1 rfl) ho I.free
 . obtain⟨v,o,ho,hd⟩:=I.cell x c e;exact free c o (fun z=>(zR c z).2.2.1 x c e rfl) ho (I.eL x c e)
 . obtain⟨e,n,ne,nf,d⟩:=I.pin p hp;have HH:p.1∉ch:=fun z=>(zR p.1 z).2.2.2 p hp rfl;exact⟨keep p.1 p.2 ne nf HH e n,free p.1 p.2 HH e n,ne,nf,d⟩
theorem Inv.un(I:Inv X pins σ H s)(u:Un X.fs [] H H' s.heap h')(aO:fZ X.prog X.w H' h'):Inv X pins σ H' {s with heap:=h',toks:=t'}:=by
 obtain⟨m,⟨o,es,ep,ho,r⟩,_⟩:=id I.loc;obtain⟨sl,hL⟩:=u.any ho I.free (by simp);exact I.step (g':=s.gens) (d':=s.drawn) (ch:= []) (fun _ z=>nomatch z) (fun b o _ hb _ e n=>u.keep b o e n hb (by simp)) (fun b o _ hb _ e n=>u.slot b o e n hb (by simp)) (fun b o _ e n=>u.free b o e n (by simp)) (fun b o _ e=>u.there b o e (by simp)) u.n9 u.ng u.oh (fun m' hm=>by
  obtain⟨o',iN,MS,xW,r'⟩:=hm;rw[ho] at xW;cases xW;exact⟨_,iN,MS,hL,r'⟩) aO I.bare
theorem Inv.call(I:Inv X pins σ H s)(u:Un (pY X.stack) ch H H' s.heap h')(aO:fZ X.prog X.w H' h')(hg:AllBare g')(zR: ∀b∈ch,(b∈X.ex\/X.s₀.heap.objs.size<=b)/\b≠X.env.locals/\(∀x c,X.env.cells.lookup x=some c->c≠b)/\ ∀p∈X.pn++pins,p.1≠b):
  Inv X pins σ H' {s with heap:=h',gens:=g',drawn:=d',toks:=t'}:=by
 obtain⟨m,⟨o,es,ep,ho,r⟩,_⟩:=id I.loc;obtain⟨sl,hL⟩:=u.any ho I.free fun z=>(zR _ z).2.1 rfl;exact I.step (ch:=ch) zR (fun b o hL hb hc e n=>u.keep b o e n (fun z=>(Tg.mp (I.qj b z)).elim hL hb) hc) (fun b o _ _ hc e n=>u.any e n hc) (fun b o hc e n=>u.free b o e n hc) (fun b o hc e=>u.there b o e hc) u.n9 u.ng u.oh (fun m' hm=>by
  obtain⟨o',iN,MS,xW,r'⟩:=hm;rw[ho] at xW;cases xW;exact⟨_,iN,MS,hL,r'⟩) aO hg
theorem Inv.turned(I:Inv X pins σ H s)(k: ∀b o,b≠it->s.heap.get? b=some o->h'.get? b=some o)(hn:H it=none)(hL:it≠X.env.locals)(h1:it∈X.ex\/X.s₀.heap.objs.size<=it)(h2: ∀x c,X.env.cells.lookup x=some c->c≠it)(h3: ∀p∈X.pn++pins,p.1≠it):Inv X pins σ H {s with heap:=h',toks:=t'}:=by
 have N5: ∀b u,H b=some u->b≠it:=fun b u e z=>by rw[z,hn] at e;cases e
 refine I.step (g':=s.gens) (d':=s.drawn) (ch:= [it]) (fun b hb=>?_) (fun b o _ _ hc e _=>k b o (fun z=>hc (by simp [z])) e) (fun b o _ _ hc e _=>⟨o.slots,k b o (fun z=>hc (by simp [z])) e⟩) (fun _ _ _ _ n=>n)
  (fun b o hc e=>⟨o,k b o (fun z=>hc (by simp [z])) e⟩) (fun _ _ e=>e) (fun _ _ _ e=>e) (fun b ps e=>⟨#[],by rw[e];simp⟩) (fun m hm=>?_) (fun b u e=>?_) I.bare
 . have e:b=it:=by simpa using hb
   subst e;exact⟨h1,hL,h2,h3⟩
 . obtain⟨o,es,ep,ho,r⟩:=hm;exact⟨o,es,ep,k _ o (Ne.symm hL) ho,r⟩
 . refine(I.aO b u e).qk (fun c v hc q=>k c v ?_ q) (fun _ q=>q) fun _ _ q=>q;rcases hc with z | z
   . rw[z];exact N5 b u e
   . exact N5 c _ z
theorem Inv.tok(I:Inv X pins σ H s)(t:Nat):Inv X pins σ H {s with toks:=t}:=I.un (h':=s.heap) (t':=t) Un.refl I.aO
theorem Inv.kept(I:Inv X pins σ H s)(k: ∀b u,s.heap.get? b=some u->h'.get? b=some u):Inv X pins σ H {s with heap:=h',toks:=t'}:=I.un (Un.kept k) (I.aO.kept k)
theorem Inv.laid(I:Inv X pins σ H s)(k: ∀b u,s.heap.get? b=some u->h'.get? b=some u)(hp:s.heap.objs.size<=a)(new:aQ X.prog X.w (upd H a o) h' a o):
  Inv X pins σ (upd H a o) {s with heap:=h',toks:=t'}:=I.un (Un.laid k hp (I.aO.fresh hp)) (I.aO.laid k hp new)
theorem Inv.write(I:Inv X pins σ H s)(mu:JE (H x))(he:e=x\/H e=some (.own x))(k: ∀b u,b≠e->s.heap.get? b=some u->h'.get? b=some u)(Gk: ∃u,h'.get? e=some u)(new:aQ X.prog X.w (upd H x o) h' x o):Inv X pins σ (upd H x o) {s with heap:=h',toks:=t'}:=I.un (Un.write mu he k Gk) (I.aO.write mu he k Gk new)
theorem Inv.weak{σ':List (Option V)}(I:Inv X pins σ H s)(hl:σ'.length=σ.length)(w: ∀(i:Nat) v,σ'[i]?=some (some v)->σ[i]?=some (some v)):Inv X pins σ' H s:=
 ⟨I.ok,I.os,I.bare,I.base,let ⟨m,hn,Kb⟩:=I.loc;⟨m,hn,fun i x v e1 e2 e3=>Kb i x v e1 (w i v e2) e3⟩,I.cell,I.free,I.eL,I.pin,I.aO,hl.trans I.len⟩
theorem Inv.sf(I:Inv X pins σ H s)(h: ∀p∈Hq,s.heap.get? p.1=some p.2/\H p.1=none/\p.1≠X.env.locals/\p.1∉X.fs/\ ∀v,p.2.data≠ .cell v):Inv X Hq σ H s:=
 ⟨I.ok,I.os,I.bare,I.base,I.loc,I.cell,I.free,I.eL,fun p hp=>(Ts.mp hp).elim (fun z=>I.pin p (List.mem_append_left _ z)) (h p),I.aO,I.len⟩
theorem oM{N:List Str}(hN:N.Nodup){i j:Nat}(a:N[i]?=some x)(b:N[j]?=some x):i=j:=by
 obtain⟨h1,e1⟩:=SM.mp a;obtain⟨h2,e2⟩:=SM.mp b;exact(List.getElem_inj hN).mp (e1.trans e2.symm)
theorem hZ(I:Inv X pins σ H s)(hN:X.N.Nodup)(hi:X.N[i]?=some x)(hx:Loc X.env.scope x)(r:RelV v u)(h: ∀s',Inv X pins (σ.set i (some v)) H s'->(∃a,Heap.SameBut a s.heap s'.heap/\(a=X.env.locals\/X.env.cells.lookup x=some a))->Q () s')(hf:X.fn x=true\/X.env.scope.names.lookup x=some .local:=by first | exact .inl rfl | exact .inr rfl | assumption):wpAny M A (storeName X.env x u) Q E s:=by
 obtain⟨m,hn,hl⟩:=id I.loc;have MC:(X.env.scope.kind== .class || (X.env.scope.kind== .module && X.env.locals !=X.env.globals))=false:=by rw[I.ok.kind];rfl
 have Im:i < σ.length:=by rw[I.len];exact(SM.mp hi).1
 have FH:=I.FH;have tracked: ∀{a:Addr} {h':Heap},(∃o,s.heap.get? a=some o/\H a=none)->Heap.SameBut a s.heap h'->fZ X.prog X.w H h':=fun{a h'} ha hs b ob e=>by
  obtain⟨_,_,ly⟩:=ha;refine(I.aO b ob e).qk (fun c w' hc q=>(hs.2 c ?_).trans q) (fun _ q=>q) fun _ _ q=>q;rintro rfl
  rcases hc with rfl | hc
  . rw[ly] at e;cases e
  . rw[ly] at hc;cases hc
 rcases hx with hk | hk
 . refine wpAny_storeName_local hk hn (fun h' QA hs=>?_) MC;obtain⟨oL,_,_,Qz,_⟩:=id hn;refine h _ ⟨I.ok,I.os,I.bare,⟨fun b o e n hb hx=>?_,fun b o e n hb hx=>?_,I.base.free,fun b o e hx=>?_,I.base.n9,I.base.ng,I.base.oh⟩,⟨_,QA,fun j y v' e1 e2 e3=>?_⟩,fun y c e=>?_,I.free,I.eL,fun p hp=>?_,tracked ⟨oL,Qz,I.free⟩ hs,by simpa using I.len⟩ ⟨_,hs, .inl rfl⟩
   . exact(hs.2 b (Tt (Tj (SQ e) I.ok.above))).trans (I.base.keep b o e n hb hx)
   . obtain⟨sl,e1⟩:=I.base.slot b o e n hb hx;exact⟨sl,(hs.2 b (Tt (Tj (SQ e) I.ok.above))).trans e1⟩
   . obtain⟨o',e1⟩:=I.base.there b o e hx;exact⟨o',(hs.2 b (Tt (Tj (SQ e) I.ok.above))).trans e1⟩
   . by_cases hj:j=i
     . subst hj;rw[hi] at e1;cases e1;rw[SR Im] at e2;cases e2;exact⟨u,r, .inl ⟨hk,by simp⟩⟩
     . rw[SJ (Ne.symm hj)] at e2;obtain⟨u',r',q⟩:=hl j y v' e1 e2 e3;refine⟨u',r',?_⟩;rcases q with ⟨k,e⟩ | ⟨k,c,e,z⟩
       . refine .inl ⟨k,?_⟩;have:y≠x:=fun e=>hj (oM hN e1 (e▸hi));simp [this,e]
       . exact .inr ⟨k,c,e,z.sameBut hs (FH y c e)⟩
   . obtain⟨w',z⟩:=I.cell y c e;exact⟨w',z.sameBut hs (FH y c e)⟩
   . obtain⟨e,n,ne,nf,d⟩:=I.pin p hp;exact⟨(hs.2 p.1 ne).trans e,n,ne,nf,d⟩
 . have uL : X.fn x = true := by
     rcases hf with z | z
     . exact z
     . rw[z] at hk;cases hk
   obtain⟨c,hc⟩:=I.ok.has x (.inl hk);obtain⟨w',z⟩:=I.cell x c hc;refine wpAny_storeName_cell I.ok.kind hk hc z (fun h' Co hs=>?_);obtain⟨oc,Oj,Me⟩:=id z;refine h {s with heap:=h'} ⟨I.ok,I.os,I.bare,⟨fun b o e n hb hx=>?_,fun b o e n hb hx=>?_,I.base.free,fun b o e hx=>?_,I.base.n9,I.base.ng,I.base.oh⟩,⟨m,hn.sameBut hs (Ne.symm (FH x c hc)),fun j y v' e1 e2 e3=>?_⟩,fun y c' e=>?_,I.free,I.eL,fun p hp=>?_,tracked ⟨oc,Oj,I.eL x c hc⟩ hs,by simpa using I.len⟩ ⟨c,hs, .inr hc⟩
   . exact(hs.2 b (Tt (Tj (SQ e) (I.ok.Jm x c uL hc)))).trans (I.base.keep b o e n hb hx)
   . obtain⟨sl,e1⟩:=I.base.slot b o e n hb hx;exact⟨sl,(hs.2 b (Tt (Tj (SQ e) (I.ok.Jm x c uL hc)))).trans e1⟩
   . obtain⟨o',e1⟩:=I.base.there b o e hx;exact⟨o',(hs.2 b (Tt (Tj (SQ e) (I.ok.Jm x c uL hc)))).trans e1⟩
   . by_cases hj:j=i
     . subst hj;rw[hi] at e1;cases e1;rw[SR Im] at e2;cases e2;exact⟨u,r, .inr ⟨.inl hk,c,hc,Co⟩⟩
     . rw[SJ (Ne.symm hj)] at e2;obtain⟨u',r',q⟩:=hl j y v' e1 e2 e3;refine⟨u',r',?_⟩;rcases q with q | ⟨k,c',e,z'⟩
       . exact .inl q
       . refine .inr ⟨k,c',e,z'.sameBut hs ?_⟩;rintro rfl
         exact hj (oM hN e1 (I.ok.inj _ _ _ e hc▸hi))
   . by_cases OB:c'=c
     . subst OB;exact⟨_,Co⟩
     . obtain⟨w2,z2⟩:=I.cell y c' e;exact⟨w2,z2.sameBut hs OB⟩
   . obtain⟨e,n,ne,nf,d⟩:=I.pin p hp;refine⟨(hs.2 p.1 ?_).trans e,n,ne,nf,d⟩;intro q;rw[q,Oj] at e;have q':oc=p.2:=Option.some.inj e;exact d w' (by rw[<-q'];exact Me)
theorem eZ(I:Inv X pins σ H s)(hN:X.N.Nodup)(hi:X.N[i]?=some x)(hx:Loc X.env.scope x)(r:RelV v u)(h: ∀s',Inv X pins (σ.set i (some v)) H s'->Q () s')(hf:X.fn x=true\/X.env.scope.names.lookup x=some .local:=by first | exact .inl rfl | exact .inr rfl | assumption):wpAny M A (storeName X.env x u) Q E s:=
 hZ I hN hi hx r (fun s' I' _=>h s' I') hf
theorem Inv.CM{s':Shared}(I:Inv X pins σ H s)(ho:s'.os=s.os)(u:Un (pY X.stack) ch H H' s.heap s'.heap)(aO:fZ X.prog X.w H' s'.heap)(hg:AllBare s'.gens)(zR: ∀b∈ch,(b∈X.ex\/X.s₀.heap.objs.size<=b)/\b≠X.env.locals/\(∀x c,X.env.cells.lookup x=some c->c≠b)/\ ∀p∈X.pn++pins,p.1≠b):Inv X pins σ H' s':=by
 obtain⟨h',g',d',t',o'⟩:=s';have e:o'=s.os:=ho;subst e;exact I.call (g':=g') (t':=t') (d':=d') u aO hg zR
end
abbrev XK:=Value->Option Addr->Hp->Prop
abbrev St:=List (Option V)
abbrev VK:=V->Hp->Prop
abbrev TE:=St->Hp->VK->Prop
abbrev TT:=St->Hp->(Bool->Hp->Prop)->Prop
abbrev TA:=St->Hp->(List V->Hp->Prop)->Prop
structure Ends where
 nx:St->Hp->Prop
 rt:VK
 bk:St->Hp->Prop:=fun _ _=>False
 ct:St->Hp->Prop:=fun _ _=>False
abbrev TS:=Ends->St->Hp->Prop
inductive EP(X:Cx)(pins:List (Addr × Obj))(σ:St)(Q:VK)(u:Value)(s':Shared):Prop
 | mk (v:V) (H':Hp) (h1:Inv X pins σ H' s') (h2:RelV v u) (h3:Q v H')
inductive TP(X:Cx)(pins:List (Addr × Obj))(σ:St)(Q:Bool->Hp->Prop)(b:Bool)(s':Shared):Prop
 | mk (H':Hp) (h1:Inv X pins σ H' s') (h2:Q b H')
inductive AP(X:Cx)(pins:List (Addr × Obj))(σ:St)(Q:List V->Hp->Prop)(us:List Value)(s':Shared):Prop
 | mk (vs:List V) (H':Hp) (h1:Inv X pins σ H' s') (h2:Vals vs us) (h3:Q vs H')
inductive Jx(X:Cx)(pins:List (Addr × Obj))(P:St->Hp->Prop)(s':Shared):Prop
 | mk (σ':St) (H':Hp) (h1:Inv X pins σ' H' s') (h2:P σ' H')
inductive Rn(X:Cx)(pins:List (Addr × Obj))(P:VK)(u:Value)(s':Shared):Prop
 | mk (v:V) (σ':St) (H':Hp) (h1:Inv X pins σ' H' s') (h2:RelV v u) (h3:P v H')
def SP(X:Cx)(pins:List (Addr × Obj))(D:Ends)(f:Flow)(s':Shared):Prop:=
 match f with
 | .next=>Jx X pins D.nx s'
 | .brk=>Jx X pins D.bk s'
 | .cont=>Jx X pins D.ct s'
 | .ret u=>Rn X pins D.rt u s'
def PE(X:Cx)(e:Expr)(t:TE):Prop:=
 ∀(pins:List (Addr × Obj)) (s:Shared) (σ:St) (H:Hp) (Q:VK),Inv X pins σ H s->t σ H Q->wpAny (model X.prog X.w) X.A (eval e X.env) (EP X pins σ Q) X.xe s
def PT(X:Cx)(e:Expr)(t:TT):Prop:=
 ∀(pins:List (Addr × Obj)) (s:Shared) (σ:St) (H:Hp) (Q:Bool->Hp->Prop),Inv X pins σ H s->t σ H Q->wpAny (model X.prog X.w) X.A (isTrue e X.env (eval e X.env)) (TP X pins σ Q) X.xe s
def PW(X:Cx)(e:Expr)(t:TT):Prop:=
 ∀(whole:Sem Value) (pins:List (Addr × Obj)) (s:Shared) (σ:St) (H:Hp) (Q:Bool->Hp->Prop),Inv X pins σ H s->t σ H Q->wpAny (model X.prog X.w) X.A (isTrue e X.env whole) (TP X pins σ Q) X.xe s
theorem PW.pt(h:PW X e t):PT X e t:=h _
def PA(X:Cx)(es:List Expr)(t:TA):Prop:=
 ∀(pos:Pos) (pins:List (Addr × Obj)) (s:Shared) (σ:St) (H:Hp) (Q:List V->Hp->Prop),Inv X pins σ H s->t σ H Q->wpAny (model X.prog X.w) X.A (spliced (backTo pos (starEach es X.env))) (AP X pins σ Q) X.xe s
def PS(X:Cx)(st:Stmt)(t:TS):Prop:=
 ∀(pins:List (Addr × Obj)) (s:Shared) (σ:St) (H:Hp) (D:Ends),Inv X pins σ H s->t D σ H->wpAny (model X.prog X.w) X.A (exec st X.env) (SP X pins D) X.xe s
def nM(X:Cx)(st:List Stmt)(t:TS):Prop:=
 ∀(pins:List (Addr × Obj)) (s:Shared) (σ:St) (H:Hp) (D:Ends),Inv X pins σ H s->t D σ H->wpAny (model X.prog X.w) X.A (execs st X.env) (SP X pins D) X.xe s
theorem aG(h:wpAny M A t Q E s)(hQ: ∀a s,Q a s->Q' a s):wpAny M A t Q' E s:=To h hQ fun _ _ x=>x
section
variable {X : Cx}
def iR(i:Nat):TE:=fun σ H Q=> ∃v,σ[i]?=some (some v)/\Q v H
def tC(v:V):TE:=fun _ H Q=>Q v H
theorem xf(hN:X.N[i]?=some x)(hv:Jv X.env.scope x)(hd:(x==("__debug__":Str))=false:=by decide)(uN:(x==("__classdict__":Str))=false:=by decide):PE X (.Name x pos) (iR i):=by
 intro pins s σ H Q I h;obtain⟨v,e,h⟩:=h;obtain⟨m,hn,hl⟩:=I.loc;obtain⟨u,r,l⟩:=hl i x v hN e hv;have fin:EP X pins σ Q u s:=⟨v,H,I,r,h⟩
 rcases l with ⟨hk,hm⟩ | ⟨hk,c,hc,iM⟩
 . exact wpAny_Name (wpAny_loadName_local I.ok.kind hk hn hm fin) hd
 . rcases hk with hk | hk
   . exact wpAny_Name (wpAny_loadName_cell I.ok.kind hk hc iM fin) hd
   . exact wpAny_Name (wpAny_loadName_free I.ok.kind hk hc iM fin uN) hd
theorem aX{i j pos}:PE X (.Constant (.int i) j pos) (tC (.int i)):=fun _ _ _ H _ I h=>wpAny_Constant_int ⟨.int i,H,I.tok _,⟨_,rfl⟩,h⟩
theorem Hs{b j pos}:PE X (.Constant (.bool b) j pos) (tC (.bl b)):=fun _ _ _ H _ I h=>Constant_bool ⟨.bl b,H,I,rfl,h⟩
theorem gn{x j pos}:PE X (.Constant (.str x) j pos) (tC (.str x)):=fun _ _ _ H _ I h=>Calls.Constant_str ⟨.str x,H,I.tok _,⟨_,rfl⟩,h⟩
def Gl(X:Cx)(x:Str):Prop:=X.env.kindOf x=some .globalImplicit
theorem mW(I:Inv X pins σ H s)(hg:Gl X x)(hm:X.mg x=some u)(h:Q u s)(hd:(x==("__debug__":Str))=false:=by decide):wpAny (model X.prog X.w) X.A (eval (.Name x pos) X.env) Q E s:=
 Calls.Name_function_global I.ok.kind hg (Calls.loadGlobal_global (by rw[I.ok.glob];exact I.mod.glob.keeps I.bk) hm h) hd
theorem cN(I:Inv X pins σ H s)(hg:Gl X x)(hm:X.mg x=none)(hv:bootBuiltins x=some u)(h:Q u s)(hn:x≠"__name__":=by decide)(hd:(x==("__debug__":Str))=false:=by decide):wpAny (model X.prog X.w) X.A (eval (.Name x pos) X.env) Q E s:=by
 obtain⟨mb,h1,h2⟩:=I.mod.blt;exact Calls.Name_function_global I.ok.kind hg (Calls.loadGlobal_builtin (by rw[I.ok.glob];exact I.mod.glob.keeps I.bk) hm (by rw[I.ok.blt];exact h1.keeps I.bk) ((h2 x hn).trans hv) h) hd
theorem AH(hg:Gl X x)(hm:X.mg x=some u)(r:RelV v u)(hd:(x==("__debug__":Str))=false:=by decide):PE X (.Name x pos) (tC v):=
 fun _ _ _ H _ I h=>mW I hg hm ⟨v,H,I,r,h⟩ hd
theorem bV(hg:Gl X x)(hm:X.mg x=none)(hv:bootBuiltins x=some u)(r:RelV v u)(hn:x≠"__name__":=by decide)(hd:(x==("__debug__":Str))=false:=by decide):PE X (.Name x pos) (tC v):=
 fun _ _ _ H _ I h=>cN I hg hm hv ⟨v,H,I,r,h⟩ hn hd
variable {a b : Expr} {ta tb : TE} {pos : Pos}
def PC(X:Cx)(op:CmpOp)(a b:Expr)(t:TE):Prop:=
 ∀(pins:List (Addr × Obj)) (s:Shared) (σ:St) (H:Hp) (Q:VK),Inv X pins σ H s->t σ H Q->
  wpAny (model X.prog X.w) X.A (eval a X.env) (fun v s₁=>wpAny (model X.prog X.w) X.A (eval b X.env) (fun u s₂=>wpAny (model X.prog X.w) X.A (compareOp op v u) (EP X pins σ Q) X.xe s₂) X.xe s₁) X.xe s
theorem oN(b:Expr)(h:op≠ .In)(h2:op≠ .NotIn):behindInMarks op b=false:=by
 have e1:(op==CmpOp.In)=false:=by cases op <;> first | rfl | exact absurd rfl h
 have e2:(op==CmpOp.NotIn)=false:=by cases op <;> first | rfl | exact absurd rfl h2
 cases b <;> simp [behindInMarks,e1,e2]
def GU(ta:TE):TE:=fun σ H Q=>ta σ H fun x H1=>Q (.bl (decide (x= .aI))) H1
theorem RelV.xC(r:RelV x v):(v==Value.none)=decide (x= .aI):=by
 cases x with
 | aI=>cases r;rfl
 | bl _=>cases r;rfl
 | int _=>obtain⟨t,rfl⟩:=r;rfl
 | str _=>obtain⟨t,rfl⟩:=r;rfl
 | vO _=>obtain⟨t,rfl⟩:=r;rfl
 | uQ _=>obtain⟨t,rfl⟩:=r;rfl
 | ref _=>cases r;rfl
 | ty _=>cases r;rfl
theorem xj{j pos'}(ha:PE X a ta):PC X .Is a (.Constant .none j pos') (GU ta):=by
 intro pins s σ H Q I h;refine aG (ha pins s σ H _ I h) fun v s1 kd=>?_;obtain⟨x,H1,I1,r1,q1⟩:=kd;exact Constant_none (is_none_gen ⟨.bl _,H1,I1,by rw[r1.xC];rfl,q1⟩)
def tB(t:TE):TT:=fun σ H Q=>t σ H fun x H1=> ∃c,x= .bl c/\Q c H1
theorem DU(h:PC X op a b t)(h1:behindInMarks op b=false:=by first | exact oN _ (by decide) (by decide) | rfl):PE X (.Compare a [op] [b] pos) t:=fun pins s σ H Q I hw=>wpAny_Compare1 (h pins s σ H Q I hw) h1
theorem qt(h:PC X op a b t)(h1:behindInMarks op b=false:=by first | exact oN _ (by decide) (by decide) | rfl):PT X (.Compare a [op] [b] pos) (tB t):=by
 intro pins s σ H Q I hw;refine wpAny_isTrue_Compare1 (aG (h pins s σ H _ I hw) fun v s1 h1=>aG h1 fun u s2 h2=>aG h2 fun c s3 hU=>?_) h1;obtain⟨x,H1,I1,r1,q1⟩:=hU;obtain⟨d,rfl,q⟩:=q1;cases r1;exact TJ ⟨H1,I1,q⟩
theorem Dz(h:PE X e t)(he: ∀whole,isTrue e X.env whole=(do let v<-whole;standAt e.pos;holding [v] (truthy v)):=by intro _;rfl):PT X e (tB t):=by
 intro pins s σ H Q I hw;refine isTrue_plain (aG (h pins s σ H _ I hw) fun v s1 mj=>?_) (he _);obtain⟨x,H1,I1,r1,q1⟩:=mj;obtain⟨d,rfl,q⟩:=q1;cases r1;exact TJ ⟨H1,I1,q⟩
variable {tA JT : TT} {rest : List Expr}
def Lu(t u:TT):TT:=fun σ H Q=>t σ H fun c H1=>if c=true then u σ H1 Q else Q false H1
def PH(t u:TT):TT:=fun σ H Q=>t σ H fun c H1=>if c=true then Q true H1 else u σ H1 Q
def Lm(t:TT):TT:=fun σ H Q=>t σ H fun c H1=>Q (!c) H1
theorem pw_and1(ha:PT X a tA):PW X (.BoolOp .And [a] pos) tA:=by
 intro wh pins s σ H Q I h;refine isTrue_and (aG (ha pins s σ H Q I h) fun c s1 e=>?_);cases c with
 | true=>exact isTrue_and_nil e
 | false=>exact e
theorem pw_or1(ha:PT X a tA):PW X (.BoolOp .Or [a] pos) tA:=by
 intro wh pins s σ H Q I h;refine isTrue_or (aG (ha pins s σ H Q I h) fun c s1 e=>?_);cases c with
 | false=>exact isTrue_or_nil e
 | true=>exact e
theorem pw_and(ha:PT X a tA)(hb:PW X (.BoolOp .And (b::rest) pos) JT):PW X (.BoolOp .And (a::b::rest) pos) (Lu tA JT):=by
 intro wh pins s σ H Q I h;refine isTrue_and (aG (ha pins s σ H _ I h) fun c s1 tP=>?_);obtain⟨H1,I1,q1⟩:=tP;cases c with
 | true=>exact hb wh pins s1 σ H1 Q I1 q1
 | false=>exact⟨H1,I1,q1⟩
theorem pw_or(ha:PT X a tA)(hb:PW X (.BoolOp .Or (b::rest) pos) JT):PW X (.BoolOp .Or (a::b::rest) pos) (PH tA JT):=by
 intro wh pins s σ H Q I h;refine isTrue_or (aG (ha pins s σ H _ I h) fun c s1 mi=>?_);obtain⟨H1,I1,q1⟩:=mi;cases c with
 | true=>exact⟨H1,I1,q1⟩
 | false=>exact hb wh pins s1 σ H1 Q I1 q1
theorem DA(ha:PT X a tA):PT X (.UnaryOp .Not a pos) (Lm tA):=by
 intro pins s σ H Q I h;refine isTrue_not (To (ha pins s σ H (fun c H1=>Q (!c) H1) I h) (fun c s' z=>?_) fun _ _ z=>z);obtain⟨H',I',q⟩:=z;exact⟨H',I',q⟩
def GZ(ta tb:TE):TE:=fun σ H Q=>ta σ H fun x H1=> ∃c,x= .bl c/\if c=true then tb σ H1 Q else Q (.bl false) H1
def Lj(ta tb:TE):TE:=fun σ H Q=>ta σ H fun x H1=> ∃c,x= .bl c/\if c=true then Q (.bl true) H1 else tb σ H1 Q
def GP(ta:TE):TE:=fun σ H Q=>ta σ H fun x H1=> ∃c,x= .bl c/\Q (.bl (!c)) H1
theorem DR{op}(h:PE X a t):PE X (.BoolOp op [a] pos) t:=fun pins s σ H Q I hw=>BoolOp_one (h pins s σ H Q I hw)
theorem DW(ha:PE X a ta)(hb:PE X (.BoolOp .And (b::rest) pos) tb):PE X (.BoolOp .And (a::b::rest) pos) (GZ ta tb):=by
 intro pins s σ H Q I h;refine BoolOp_and (aG (ha pins s σ H _ I h) fun v s1 dW=>?_);obtain⟨x,H1,I1,r1,q1⟩:=dW;obtain⟨c,rfl,q1⟩:=q1;cases r1;refine TJ ?_;cases c with
 | true=>exact hb pins s1 σ H1 Q I1 q1
 | false=>exact⟨.bl false,H1,I1,rfl,q1⟩
theorem Hr(ha:PE X a ta)(hb:PE X (.BoolOp .Or (b::rest) pos) tb):PE X (.BoolOp .Or (a::b::rest) pos) (Lj ta tb):=by
 intro pins s σ H Q I h;refine BoolOp_or (aG (ha pins s σ H _ I h) fun v s1 dU=>?_);obtain⟨x,H1,I1,r1,q1⟩:=dU;obtain⟨c,rfl,q1⟩:=q1;cases r1;refine TJ ?_;cases c with
 | false=>exact hb pins s1 σ H1 Q I1 q1
 | true=>exact⟨.bl true,H1,I1,rfl,q1⟩
theorem DT(ha:PE X a ta):PE X (.UnaryOp .Not a pos) (GP ta):=by
 intro pins s σ H Q I h;refine UnaryOp_ (aG (ha pins s σ H _ I h) fun v s1 mz=>?_);obtain⟨x,H1,I1,r1,q1⟩:=mz;obtain⟨c,rfl,q1⟩:=q1;cases r1;exact not_of (TJ ⟨.bl (!c),H1,I1,rfl,q1⟩)
end
def cf(K:PySem.W.Frag)(H:Hp)(a:Addr)(xs:List V):Prop:=
 Rd H a (.lst xs)\/
  ∃(o:Obj) (af:Array Value) (n:Nat),K.lookup a=some o/\o.cls= .type "list"/\o.dict=none/\o.data= .seq af n/\af.size<=sizeLine/\Vals xs af.toList
def cS(K:PySem.W.Frag)(H:Hp)(a:Addr)(xs:List V):Prop:=
 Rd H a (.tup xs)\/
  ∃(o:Obj) (af:Array Value) (n:Nat),K.lookup a=some o/\o.cls= .type "tuple"/\o.data= .seq af n/\af.size<=sizeLine/\Vals xs af.toList
noncomputable def BI:Value->Option V
 | .none=>some .aI
 | .bool b=>some (.bl b)
 | .int i _=>some (.int i)
 | .str x _=>some (.str x)
 | .bytes b _=>some (.vO b)
 | .float b _=>some (.uQ b)
 | .ref a=>some (.ref a)
 | .type n=>some (.ty n)
 | _=>none
theorem RelV.abs(r:RelV x u):BI u=some x:=by
 cases x with
 | aI=>cases r;rfl
 | bl _=>cases r;rfl
 | int _=>obtain⟨t,rfl⟩:=r;rfl
 | str _=>obtain⟨t,rfl⟩:=r;rfl
 | vO _=>obtain⟨t,rfl⟩:=r;rfl
 | uQ _=>obtain⟨t,rfl⟩:=r;rfl
 | ref _=>cases r;rfl
 | ty _=>cases r;rfl
theorem RelV.inj(r:RelV x u)(q:RelV y u):x=y:=Option.some.inj (r.abs.symm.trans q.abs)
theorem Vals.inj: ∀{xs ys:List V} {us:List Value},Vals xs us->Vals ys us->xs=ys
 | _,_,_, .nil, .nil=>rfl
 | _,_,_, .cons r t, .cons r' t'=>by rw[r.inj r',Vals.inj t t']
theorem cf.of{K:PySem.W.Frag}(h:H a=some (.lst xs)):cf K H a xs:= .inl (.inl h)
theorem cS.of{K:PySem.W.Frag}(h:H a=some (.tup xs)):cS K H a xs:= .inl (.inl h)
theorem Inv.list(I:Inv X pins σ H s)(h:cf X.K H a xs): ∃af:List Value,Vals xs af/\PlainL s.heap a af.toArray/\xs.length<=sizeLine:=by
 rcases h with h | ⟨o,af,n,hk,hc,hd,hs,hz,r⟩
 . obtain⟨z,af,n,r,e⟩:=h.ok I.aO;exact⟨af,r,⟨_,n,e,rfl,rfl,rfl⟩,z⟩
 . refine⟨af.toList,r,⟨o,n,I.mX a o hk,hc,hd,by simpa using hs⟩,?_⟩;have e:=r.length;simp only [SN] at e;lia
theorem Inv.tuple(I:Inv X pins σ H s)(h:cS X.K H a xs): ∃af:List Value,Vals xs af/\IsTup s.heap a af.toArray/\xs.length<=sizeLine:=by
 rcases h with h | ⟨o,af,n,hk,hc,hs,hz,r⟩
 . obtain⟨z,af,r,p⟩:=h.ok I.aO;exact⟨af,r,p.tup,z⟩
 . refine⟨af.toList,r,⟨o,I.mX a o hk,hc,n,by simpa using hs⟩,?_⟩;have e:=r.length;simp only [SN] at e;lia
theorem Inv.xJ(I:Inv X pins σ H s)(h:cf X.K H a xs)(h':cf X.K H a ys):xs=ys:=by
 obtain⟨af,r,⟨o,n,e,_,_,d⟩,_⟩:=I.list h;obtain⟨its',r',⟨o',n',e',_,_,d'⟩,_⟩:=I.list h';rw[e] at e';cases e';rw[d] at d';injection d' with d1 _
 have:af=its':=by simpa using UI Array.toList d1
 subst this;exact r.inj r'
theorem Inv.kN(I:Inv X pins σ H s)(h:cS X.K H a xs)(h':cS X.K H a ys):xs=ys:=by
 obtain⟨af,r,⟨o,e,_,n,d⟩,_⟩:=I.tuple h;obtain⟨its',r',⟨o',e',_,n',d'⟩,_⟩:=I.tuple h';rw[e] at e';cases e';rw[d] at d';injection d' with d1 _
 have:af=its':=by simpa using UI Array.toList d1
 subst this;exact r.inj r'
noncomputable abbrev Cx.ke (X:Cx) (E:Value->Shared->Prop):Cx:={X with xe:=E}
noncomputable abbrev Cx.xA (X:Cx):Cx:=X.ke fun _ _=>False
theorem Cx.Ok.ke{X:Cx}(ok:X.Ok)(E:Value->Shared->Prop):(X.ke E).Ok:=
 ⟨ok.mod,ok.kind,ok.glob,ok.blt,ok.above,ok.inj,ok.has,ok.Jm,ok.hd,ok.frames,ok.JV,ok.Gp,ok.bs,ok.CO,ok.xD,ok.uS,ok.jP,ok.Gm⟩
theorem Cx.Ok.eV{X:Cx}(ok:(X.ke E).Ok):X.Ok:=
 ⟨ok.mod,ok.kind,ok.glob,ok.blt,ok.above,ok.inj,ok.has,ok.Jm,ok.hd,ok.frames,ok.JV,ok.Gp,ok.bs,ok.CO,ok.xD,ok.uS,ok.jP,ok.Gm⟩
theorem Inv.ke(I:Inv X pins σ H s)(E:Value->Shared->Prop):Inv (X.ke E) pins σ H s:=⟨I.ok.ke E,I.os,I.bare,I.base,I.loc,I.cell,I.free,I.eL,I.pin,I.aO,I.len⟩
theorem Inv.eV(I:Inv (X.ke E) pins σ H s):Inv X pins σ H s:=⟨I.ok.eV,I.os,I.bare,I.base,I.loc,I.cell,I.free,I.eL,I.pin,I.aO,I.len⟩
theorem SP.eV(h:SP (X.ke E) pins D f s'):SP X pins D f s':=by
 cases f with
 | next=>obtain⟨σ',H',I,q⟩:=h;exact⟨σ',H',I.eV,q⟩
 | brk=>obtain⟨σ',H',I,q⟩:=h;exact⟨σ',H',I.eV,q⟩
 | cont=>obtain⟨σ',H',I,q⟩:=h;exact⟨σ',H',I.eV,q⟩
 | ret u=>obtain⟨v,σ',H',I,r,q⟩:=h;exact⟨v,σ',H',I.eV,r,q⟩
theorem nM.xA{st:List Stmt}(h:nM X.xA st t):nM X st t:=fun pins s σ H D I hw=>
 To (h pins s σ H D (I.ke _) hw) (fun _ _ q=>q.eV) fun _ _ z=>False.elim z
section
variable {X : Cx} {st : Stmt} {rest : List Stmt} {t u : TS} {e : Expr} {te : TE} {pos : Pos}
def GQ:TS:=fun D σ H=>D.nx σ H
def Lg(t u:TS):TS:=fun D σ H=>t {D with nx:=u D} σ H
theorem r9:nM X [] GQ:=fun _ _ σ H _ I h=>wpAny_execs_nil ⟨σ,H,I,h⟩
theorem bF(h1:PS X st t)(h2:nM X rest u):nM X (st::rest) (Lg t u):=by
 intro pins s σ H D I h;refine wpAny_execs_cons (aG (h1 pins s σ H {D with nx:=u D} I h) fun f s1 q=>?_);cases f with
 | next=>
  obtain⟨σ',H',I',q⟩:=q;exact h2 pins s1 σ' H' D I' q
 | ret v=>exact q
 | brk=>exact q
 | cont=>exact q
theorem i3(h1:PS X st t):nM X [st] t:=by
 intro pins s σ H D I h;refine wpAny_execs_cons (aG (h1 pins s σ H D I h) fun f s1 q=>?_);cases f with
 | next=>exact wpAny_execs_nil q
 | ret v=>exact q
 | brk=>exact q
 | cont=>exact q
theorem Inv.quiet(I:Inv X pins σ H s):interactive X.env=false:=by simp [interactive,I.ok.kind]
def GV(te:TE):TS:=fun D σ H=>te σ H fun _ H1=>D.nx σ H1
theorem Aw(he:PE X e te)(hs:swapsWith e none pos.line X.env=pure false:=by rfl):PS X (.Expr e pos) (GV te):=by
 intro pins s σ H D I h;exact wpAny_Expr_any (aG (he pins s σ H _ I h) fun v s1 qb=>(by obtain⟨x,H1,I1,r1,q1⟩:=qb;exact(⟨σ,H1,I1,q1⟩))) I.quiet hs
def Lh(te:TE):TS:=fun D σ H=>te σ H D.rt
theorem mN(he:PE X e te):PS X (.Return (some e) pos) (Lh te):=by
 intro pins s σ H D I h;exact wpAny_Return_some (aG (he pins s σ H _ I h) fun v s1 vS=>(by obtain⟨x,H1,I1,r1,q1⟩:=vS;exact(⟨x,σ,H1,I1,r1,q1⟩)))
def Ln(c:TT)(t u:TS):TS:=fun D σ H=>c σ H fun b H1=>if b=true then t D σ H1 else u D σ H1
theorem B7(hc:PT X c tc)(ha:nM X a t)(hb:nM X b u):PS X (.If c a b pos) (Ln tc t u):=by
 intro pins s σ H D I h;refine wpAny_If (aG (hc pins s σ H _ I h) fun d s1 qa=>?_);obtain⟨H1,I1,q1⟩:=qa;cases d with
 | true=>exact ha pins s1 σ H1 D I1 q1
 | false=>exact hb pins s1 σ H1 D I1 q1
end
abbrev TG:=V->St->Hp->(St->Hp->Prop)->Prop
abbrev FT:=List V->St->Hp->(St->Hp->Prop)->Prop
def PG(X:Cx)(target:Expr)(t:TG):Prop:=
 ∀(pins:List (Addr × Obj)) (s:Shared) (σ:St) (H:Hp) (v:V) (u:Value) (Q:St->Hp->Prop),Inv X pins σ H s->RelV v u->t v σ H Q->
  wpAny (model X.prog X.w) X.A (assign target X.env u) (fun _ s'=>Jx X pins Q s') X.xe s
def Ks(X:Cx)(ts:List Expr)(t:FT):Prop:=
 ∀(pins:List (Addr × Obj)) (s:Shared) (σ:St) (H:Hp) (vs:List V) (us:List Value) (Q:St->Hp->Prop),Inv X pins σ H s->Vals vs us->t vs σ H Q->
  wpAny (model X.prog X.w) X.A (assignInOrder ((assignEach ts X.env).map (·.2)) us) (fun _ s'=>Jx X pins Q s') X.xe s
abbrev Jw:=V->V->V->Hp->(Hp->Prop)->Prop
def Jy(X:Cx)(t:Jw):Prop:=
 ∀(pins:List (Addr × Obj)) (s:Shared) (σ:St) (H:Hp) (o i v:V) (ov iv u:Value) (Q:Hp->Prop),Inv X pins σ H s->RelV o ov->RelV i iv->RelV v u->t o i v H Q->
  wpAny (model X.prog X.w) X.A (setItem ov iv u) (fun _ s'=> ∃H',Inv X pins σ H' s'/\Q H') X.xe s
abbrev NG:=V->V->Hp->VK->Prop
def O3(X:Cx)(op:Operator)(t:NG):Prop:=
 ∀(pins:List (Addr × Obj)) (s:Shared) (σ:St) (H:Hp) (x y:V) (v u:Value) (Q:VK),Inv X pins σ H s->RelV x v->RelV y u->t x y H Q->
  wpAny (model X.prog X.w) X.A (inplaceOp op v u) (EP X pins σ Q) X.xe s
section
variable {X : Cx} {pos : Pos}
def cn(i:Nat):TG:=fun v σ H Q=>Q (σ.set i (some v)) H
theorem aJ(hN:X.N.Nodup)(hi:X.N[i]?=some x)(hx:Loc X.env.scope x)(hf:X.fn x=true\/X.env.scope.names.lookup x=some .local:=by first | exact .inl rfl | exact .inr rfl | assumption):PG X (.Name x pos) (cn i):=by
 intro pins s σ H v u Q I r h;exact wpAny_assign_Name (eZ I hN hi hx r (fun s' I'=>⟨_,H,I',h⟩) hf)
def yg:FT:=fun vs σ H Q=>vs= []/\Q σ H
def jO(t:TG)(u:FT):FT:=fun vs σ H Q=> ∃v r,vs=v::r/\t v σ H fun σ' H'=>u r σ' H' Q
theorem fJ:Ks X [] yg:=by
 intro pins s σ H vs us Q I r h;obtain⟨e,h⟩:=h;subst e;cases r;exact assignInOrder_nil ⟨σ,H,I,h⟩
theorem bf(h1:PG X e t)(h2:Ks X es u)(hs:(assignEach (e::es) X.env).map (·.2)=assign e X.env::(assignEach es X.env).map (·.2):=by rfl):Ks X (e::es) (jO t u):=by
 intro pins s σ H vs us Q I r h;obtain⟨v,vr,e1,h⟩:=h;subst e1;cases r with
 | cons r rr=>
  rw[hs];refine assignInOrder_cons (aG (h1 pins s σ H _ _ _ I r h) fun _ s1 mq=>?_);obtain⟨σ1,H1,I1,q1⟩:=mq;exact h2 pins s1 σ1 H1 _ _ Q I1 rr q1
def Bi(K:PySem.W.Frag)(n:Nat)(t:FT):TG:=fun v σ H Q=> ∃a xs,v= .ref a/\cS K H a xs/\xs.length=n/\t xs σ H Q
theorem ip(hc:X.calm=true)(h:Ks X es t)(hn:(assignEach es X.env).length=n:=by rfl)(Qq:(assignEach es X.env).findIdx? (·.1)=none:=by rfl):PG X (.Tuple es k pos) (Bi X.K n t):=by
 intro pins s σ H v u Q I r hw;obtain⟨a,xs,e1,hq,hl,hw⟩:=hw;subst e1;cases r;obtain⟨af,rv,ht,hz⟩:=I.tuple hq;refine assign_Tuple_tuple (I.ok.hd hc) ht (by simp [hn,<-hl,rv.length]) Qq fun h' hx=>?_;have I1:Inv X pins σ H {s with heap:=h'}:=I.kept (t':=s.toks) fun b o e=>hx b o (Tt (SQ e)) e;exact h pins _ σ H xs _ Q I1 (by simpa using rv) hw
def MO(to ti:TE)(t:Jw):TG:=fun v σ H Q=>to σ H fun o H1=>ti σ H1 fun i H2=>t o i v H2 fun H3=>Q σ H3
theorem DM (ho : PE X o to) (hi : PE X i ti) (hs : Jy X t) (ha : ∀ v, assign (.Subscript o i pos) X.env v = (do
   let ov<-holding [v] (eval o X.env)
   let iv<-holding [v,ov] (eval i X.env)
   standAt pos
   holding [v,ov,iv] (setItem ov iv v)
   release [v,ov,iv] []):=by intro _;rfl):PG X (.Subscript o i pos) (MO to ti t):=by
 intro pins s σ H v u Q I r h;rw[ha];refine Sw (T8 (aG (ho pins s σ H _ I h) fun ov s1 mn=>?_));obtain⟨x,H1,I1,r1,q1⟩:=mn;refine Sw (T8 (aG (hi pins s1 σ H1 _ I1 q1) fun iv s2 p9=>?_));obtain⟨y,H2,I2,r2,q2⟩:=p9;refine Sw (Ut (Sw (T8 (aG (hs pins s2 σ H2 x y v ov iv u _ I2 r1 r2 r q2) fun _ s3 K7=>?_))));obtain⟨H3,I3,q3⟩:=K7;exact wpAny_release ⟨σ,H3,I3,q3⟩
def t7(te:TE)(g:TG):TS:=fun D σ H=>te σ H fun x H1=>g x σ H1 D.nx
theorem DG(he:PE X e te)(hg:PG X tg g)(hs:swapsWithSole [tg] e pos.line X.env=pure false:=by rfl)(hw:swappedStores [tg] e X.env=pure none:=by rfl)(h1:(assignEach [tg] X.env).map (·.2)= [assign tg X.env]:=by rfl):PS X (.Assign [tg] e pos) (t7 te g):=by
 intro pins s σ H D I h;refine wpAny_Assign_stores (aG (he pins s σ H _ I h) fun v s1 C0=>?_) hs hw;obtain⟨x,H1,I1,r1,q1⟩:=C0;rw[h1];exact aG (hg pins s1 σ H1 x v _ I1 r1 q1) fun _ s2 q=>q
theorem dZ(hN:X.N.Nodup)(hi:X.N[i]?=some x)(hx:Loc X.env.scope x)(he:PE X e te)(hs:swapsWith e (some (.Name x pos')) pos.line X.env=pure false:=by rfl)(hf:X.fn x=true\/X.env.scope.names.lookup x=some .local:=by first | exact .inl rfl | exact .inr rfl | assumption):
  PS X (.Assign [.Name x pos'] e pos) (t7 te (cn i)):=by
 intro pins s σ H D I h;refine wpAny_Assign_Name (aG (he pins s σ H _ I h) fun v s1 CZ=>?_) hs;obtain⟨y,H1,I1,r1,q1⟩:=CZ;exact eZ I1 hN hi hx r1 (fun s2 I2=>⟨_,H1,I2,q1⟩) hf
def Li(i j:Nat)(ta:TA):TS:=fun D σ H=>ta σ H fun vs H1=> ∃v w,vs= [v,w]/\D.nx ((σ.set i (some v)).set j (some w)) H1
theorem DD{kt k2 DC}(hc:X.calm=true)(hN:X.N.Nodup)(hi:X.N[i]?=some x)(hj:X.N[j]?=some y)(bb:i≠j)(hx:X.env.scope.names.lookup x=some .local)(hy:X.env.scope.names.lookup y=some .local)(ha:PA X [a,b] ta)(hw:swappedStores [.Tuple [.Name x px, .Name y py] kt pt] (.Tuple [a,b] k2 DC) X.env=pure (some [x,y]))(hs:swapsWithSole [.Tuple [.Name x px, .Name y py] kt pt] (.Tuple [a,b] k2 DC) pos.line X.env=pure false:=by rfl):
  PS X (.Assign [.Tuple [.Name x px, .Name y py] kt pt] (.Tuple [a,b] k2 DC) pos) (Li i j ta):=by
 intro pins s σ H D I h;rw[exec_Assign_arm];refine Sw (Ut ?_);rw[hs];refine Sw (SA ?_);rw[if_neg (by decide)];refine Sw (Tuple_ (aG (ha _ pins s σ H _ I h) fun us s1 vR=>?_));obtain⟨vs,H1,I1,r1,q1⟩:=vR;obtain⟨v,w,e1,q1⟩:=q1;subst e1;obtain⟨u1,u2,rfl,rv,pU⟩: ∃u1 u2,us= [u1,u2]/\RelV v u1/\RelV w u2:=by
  cases r1 with
  | cons p q=>
   cases q with
   | cons p' q'=>
    cases q';exact⟨_,_,rfl,p,p'⟩
 refine Uc ?_ (by show 2<=sizeLine;decide);have I2:Inv X pins σ H1 {s1 with heap:=s1.heap.push {cls:= .type "tuple",data:= .seq [u1,u2].toArray}}:=I1.kept (t':=s1.toks) fun b o e=>Sz _ e;rw[hw];refine Sw (SA ?_);show wpAny (model X.prog X.w) X.A (do rule "assign.swapped-stores";let items<-unpackItems (.ref s1.heap.objs.size) 2 none;assignInOrder [fun v=>bindName X.env y v,fun v=>bindName X.env x v] items.reverse;pure Flow.next) _ _ _;refine Sw (UG (Sw (unpackItems_tuple (items:= #[u1,u2]) (I.ok.hd hc) (IsTup.new s1.heap _) fun h' qH=>?_)));have I3:=I2.kept (h':=h') (t':=s1.toks) fun b o e=>qH b o (Tt (SQ e)) e;show wpAny _ _ (assignInOrder [fun v=>bindName X.env y v,fun v=>bindName X.env x v] [u2,u1] >>=fun _=>pure Flow.next) _ _ _;refine Sw (assignInOrder_cons (wpAny_bindName (eZ I3 hN hj (.inl hy) pU (fun s2 I4=>?_) (.inr hy))));refine assignInOrder_cons (wpAny_bindName (eZ I4 hN hi (.inl hx) rv (fun s3 I5=>assignInOrder_nil (SA ?_)) (.inr hx)));rw[List.set_comm _ _ (Ne.symm bb)] at I5;exact⟨_,H1,I5,q1⟩
def Ls(i:Nat)(te:TE)(ti:NG):TS:=fun D σ H=> ∃x,σ[i]?=some (some x)/\te σ H fun y H1=>ti x y H1 fun z H2=>D.nx (σ.set i (some z)) H2
theorem DF(hN:X.N.Nodup)(hi:X.N[i]?=some x)(hx:Loc X.env.scope x)(he:PE X e te)(ho:O3 X op ti)(hf:X.fn x=true\/X.env.scope.names.lookup x=some .local:=by first | exact .inl rfl | exact .inr rfl | assumption):
  PS X (.AugAssign (.Name x pos') op e pos) (Ls i te ti):=by
 intro pins s σ H D I h;obtain⟨v,e1,h⟩:=h;obtain⟨m,hn,hl⟩:=I.loc;have Py:Jv X.env.scope x:=by rcases hx with k | k;exact .inl k;exact .inr (.inl k)
 obtain⟨u,r,l⟩:=hl i x v hi e1 Py;refine wpAny_AugAssign_Name ?_;have go:wpAny (model X.prog X.w) X.A (eval e X.env) (fun w s₂=>wpAny (model X.prog X.w) X.A (inplaceOp op u w) (fun r s₃=>wpAny (model X.prog X.w) X.A (storeName X.env x r) (fun _=>SP X pins D .next) X.xe s₃) X.xe s₂) X.xe s:=by
  refine aG (he pins s σ H _ I h) fun w s1 vQ=>?_;obtain⟨y,H1,I1,r1,q1⟩:=vQ;refine aG (ho pins s1 σ H1 v y u w _ I1 r r1 q1) fun z s2 CY=>?_;obtain⟨zv,H2,I2,r2,q2⟩:=CY;exact eZ I2 hN hi hx r2 (fun s3 I3=>⟨_,H2,I3,q2⟩) hf
 rcases l with ⟨hk,hm⟩ | ⟨hk,c,hc,iM⟩
 . exact wpAny_loadName_local I.ok.kind hk hn hm go
 . rcases hk with hk | hk
   . exact wpAny_loadName_cell I.ok.kind hk hc iM go
   . rcases hx with k | k
     . have:X.env.scope.names.lookup x=some .free:=hk;rw[k] at this;cases this
     . have:X.env.scope.names.lookup x=some .free:=hk;rw[k] at this;cases this
end
section
variable {X : Cx} {pos : Pos}
def Dd(c:TT)(tb:TS):TS:=fun D σ H=> ∃W:Nat->St->Hp->Prop,(∃m,W m σ H)/\ ∀m σ H,W m σ H->
 c σ H fun b H1=>if b=true then∃N:St->Hp->Prop,(∀σ' H',N σ' H'-> ∃m',m' < m/\W m' σ' H')/\tb {D with nx:=N,ct:=N,bk:=D.nx} σ H1 else D.nx σ H1
theorem w8(hp:PassesOwn (model X.prog X.w) X.A X.env X.xe)(hc:PT X c tc)(hb:nM X body tb):PS X (.While c body [] pos) (Dd tc tb):=by
 intro pins s σ H D I h;obtain⟨W,⟨m0,w0⟩,turn⟩:=h;refine wpAny_While (codeAny_whileLoop (fun n s'=> ∃σ' H',Inv X pins σ' H' s'/\W n σ' H') ?_ m0 ⟨σ,H,I,w0⟩);rintro n s1 ⟨σ1,H1,I1,w1⟩
 refine Vb hp (aG (hc pins s1 σ1 H1 _ I1 (turn n σ1 H1 w1)) fun b s2 K4=>?_);obtain⟨H2,I2,q2⟩:=K4;cases b with
 | true=>
  obtain⟨N,hN,q2⟩:=q2;rw[if_pos rfl];refine Vb hp (aG (hb pins s2 σ1 H2 _ I2 q2) fun f s3 q3=>?_);cases f with
  | next=>
   obtain⟨σ3,H3,I3,n3⟩:=q3;obtain⟨m',hm,w3⟩:=hN σ3 H3 n3;exact⟨m',hm,σ3,H3,I3,w3⟩
  | cont=>
   obtain⟨σ3,H3,I3,n3⟩:=q3;obtain⟨m',hm,w3⟩:=hN σ3 H3 n3;exact⟨m',hm,σ3,H3,I3,w3⟩
  | brk=>exact q3
  | ret v=>exact q3
 | false=>
  rw[if_neg SG];exact wpAny_execs_nil ⟨σ1,H2,I2,q2⟩
end
structure It where
 go:Nat->Hp->Prop
 vG:Nat->Hp->V->Hp->Prop
 stop:Nat->Hp->Prop
def cT(X:Cx)(pins:List (Addr × Obj))(H:Hp)(b:Addr):Prop:=
 H b=none/\b≠X.env.locals/\b∉X.fs/\(b∈X.ex\/X.s₀.heap.objs.size<=b)/\(∀x c,X.env.cells.lookup x=some c->c≠b)/\ ∀p∈X.pn++pins,p.1≠b
theorem Inv.nh(I:Inv X pins σ H s)(hb:s.heap.objs.size<=b)(hn:H' b=none):cT X pins H' b:=by
 refine⟨hn,VB (Tj I.lt hb),I.LM hb, .inr (S4 I.sz hb),fun x c e z=>?_,fun p hp z=>?_⟩
 . obtain⟨v,q⟩:=I.cell x c e;exact absurd (Tj q.lt (by rw[z];exact hb)) (Tu _)
 . exact absurd (Tj (SQ (I.pin p hp).1) (by rw[z];exact hb)) (Tu _)
structure Turn(P:Program)(w:World)(K:PySem.W.Frag)(tg:Expr)(J:It)(fp:List Addr)(it:Addr)(tn:Nat->Heap->Prop):Prop where
 mem:it∈fp
 obj: ∀i h,tn i h-> ∀b∈fp,∃o,h.get? b=some o/\ ∀v,o.data≠ .cell v
 keep: ∀i h h',tn i h->(∀b∈fp,∀o,h.get? b=some o->h'.get? b=some o)->tn i h'
 item: ∀(X:Cx),X.prog=P->X.w=w->X.K=K->X.calm=true-> ∀(i:Nat) (pins:List (Addr × Obj)) (s:Shared) (σ:St) (H:Hp) (E:Value->Shared->Prop),Inv X pins σ H s->(∀b∈fp,cT X pins H b)->tn i s.heap->J.go i H->
  wpAny (model P w) X.A (pyNext (.ref it)) (fun r s1=> ∃u,r=some u/\
   wpAny (model P w) X.A (letOwnedTupleGo tg (.ref it) u) (fun _ s2=> ∃x H',Inv X pins σ H' s2/\RelV x u/\J.vG i H x H'/\tn (i+1) s2.heap/\ ∀b∈fp,H' b=none) E s1) E s
 done: ∀(X:Cx),X.prog=P->X.w=w->X.K=K->X.calm=true-> ∀(i:Nat) (pins:List (Addr × Obj)) (s:Shared) (σ:St) (H:Hp) (E:Value->Shared->Prop),Inv X pins σ H s->(∀b∈fp,cT X pins H b)->tn i s.heap->J.stop i H->
  wpAny (model P w) X.A (pyNext (.ref it)) (fun r s1=>r=none/\Inv X pins σ H s1) E s
 self: ∀(A:Around) (i:Nat) (s:Shared) (Q:Value->Shared->Prop) (E:Value->Shared->Prop),tn i s.heap->Q (.ref it) s->wpAny (model P w) A (pyIter (.ref it)) Q E s
abbrev TI:=St->Hp->(It->Hp->Prop)->Prop
def Kr(X:Cx)(pins:List (Addr × Obj))(σ:St)(tg:Expr)(R:It->Hp->Prop)(HR:Value)(s2:Shared):Prop:=
 ∃(it:Addr) (fp:List Addr) (tn:Nat->Heap->Prop) (J:It) (H':Hp),HR= .ref it/\Inv X pins σ H' s2/\Turn X.prog X.w X.K tg J fp it tn/\tn 0 s2.heap/\(∀b∈fp,cT X pins H' b)/\R J H'
def PI(X:Cx)(tg iter:Expr)(wi:TI):Prop:=
 ∀(pins:List (Addr × Obj)) (s:Shared) (σ:St) (H:Hp) (R:It->Hp->Prop),Inv X pins σ H s->wi σ H R->
  wpAny (model X.prog X.w) X.A (eval iter X.env) (fun v s1=>wpAny (model X.prog X.w) X.A (pyIter v) (Kr X pins σ tg R) X.xe s1) X.xe s
theorem yc{s:Shared}(ho:s.heap.get? it=some o)(hc:o.cls= .type n)(hd:o.data= .fields vs)(hn: ["enumerate","zip","dict_itemiterator","dict_reverseitemiterator","odict_iterator","itertools.zip_longest","itertools.pairwise"].contains n=false)(hQ:Q () s):wpAny M A (letOwnedTupleGo tg (.ref it) u) Q E s:=by
 unfold letOwnedTupleGo;cases tg <;> first
  | exact SA hQ
  | (cases u <;> first
    | exact SA hQ
    | (refine Sw (wpAny_load ho ?_)
       rw[hc,hd];show wpAny M A (if (["enumerate","zip","dict_itemiterator","dict_reverseitemiterator","odict_iterator","itertools.zip_longest","itertools.pairwise"].contains n && vs[0]?==some (rawInt _))=true then _ else _) Q E s;rw[if_neg (by intro h;rw[hn,Bool.false_and] at h;cases h)];exact SA hQ))
noncomputable def NL(K:PySem.W.Frag)(a:Addr):It:=
 ⟨fun i H=> ∃xs x,cf K H a xs/\xs[i]?=some x,fun i H x H'=>H'=H/\ ∀xs,cf K H a xs->xs[i]?=some x,fun i H=> ∃xs,cf K H a xs/\xs.length<=i⟩
noncomputable def NK(K:PySem.W.Frag)(a:Addr):It:=
 ⟨fun i H=> ∃xs x,cS K H a xs/\xs[i]?=some x,fun i H x H'=>H'=H/\ ∀xs,cS K H a xs->xs[i]?=some x,fun i H=> ∃xs,cS K H a xs/\xs.length<=i⟩
noncomputable def JG(lo:Int)(n:Nat):It:=⟨fun i _=>i < n,fun i H x H'=>H'=H/\x= .int (lo+i),fun i _=>n<=i⟩
theorem t4{P:Program}{w:World}{K:PySem.W.Frag}{tg:Expr}(a it:Addr):Turn P w K tg (NL K a) [it] it (fun i h=>h.IsListIter it a i) where
 mem:=by simp
 obj:=fun i h st b hb=>by
  have e:b=it:=by simpa using hb
  subst e;obtain⟨o,e,c,d⟩:=st;exact⟨o,e,fun v z=>by rw[d] at z;cases z⟩
 keep:=fun i h h' st k=>st.at fun o e=>k it (by simp) o e
 item:=by
  intro X hP hw hK hc i pins s σ H E I hf st hg;subst hP hw hK;obtain⟨xs,x,hq,hx⟩:=hg;obtain⟨af,rv,p,hz⟩:=I.list hq;obtain⟨u,hu,ru⟩:=rv.get hx;obtain⟨f0,f1,f2,f3,f4,f5⟩:=hf it (by simp);refine wpAny_pyNext_list_item st p.isList (x:=u) (by simpa using hu) fun h' ao sb=>?_;have I1:Inv X pins σ H {s with heap:=h'}:=I.turned (t':=s.toks) (fun b o hb e=>(sb.2 b hb).trans e) f0 f1 f3 f4 f5;obtain⟨o,e,c,d⟩:=id ao;exact⟨u,rfl,yc (s:={s with heap:=h'}) e c d (by decide) ⟨x,H,I1,ru,⟨rfl,fun ys hy=>by rw[I.xJ hy hq];exact hx⟩,ao,fun b hb=>(hf b hb).1⟩⟩
 done:=by
  intro X hP hw hK hc i pins s σ H E I hf st hg;subst hP hw hK;obtain⟨xs,hq,hx⟩:=hg;obtain⟨af,rv,p,hz⟩:=I.list hq;obtain⟨f0,f1,f2,f3,f4,f5⟩:=hf it (by simp);have hl:=rv.length;exact wpAny_pyNext_list_end (I.ok.hd hc) st p.isList (by simp;lia) fun h' eb=>⟨rfl,I.turned (t':=s.toks) (fun b o hb e=>eb b o hb e) f0 f1 f3 f4 f5⟩
 self:=fun _ _ _ _ _ st h=>wpAny_pyIter_listiter st h
theorem qg{P:Program}{w:World}{K:PySem.W.Frag}{tg:Expr}(a it:Addr):Turn P w K tg (NK K a) [it] it (fun i h=>h.IsTupleIter it a i) where
 mem:=by simp
 obj:=fun i h st b hb=>by
  have e:b=it:=by simpa using hb
  subst e;obtain⟨o,e,c,d⟩:=st;exact⟨o,e,fun v z=>by rw[d] at z;cases z⟩
 keep:=fun i h h' st k=>st.at fun o e=>k it (by simp) o e
 item:=by
  intro X hP hw hK hc i pins s σ H E I hf st hg;subst hP hw hK;obtain⟨xs,x,hq,hx⟩:=hg;obtain⟨af,rv,p,hz⟩:=I.tuple hq;obtain⟨u,hu,ru⟩:=rv.get hx;obtain⟨f0,f1,f2,f3,f4,f5⟩:=hf it (by simp);refine wpAny_pyNext_tuple_item st (show s.heap.IsTuple a af.toArray from p) (x:=u) (by simpa using hu) fun h' ao sb=>?_;have I1:Inv X pins σ H {s with heap:=h'}:=I.turned (t':=s.toks) (fun b o hb e=>(sb.2 b hb).trans e) f0 f1 f3 f4 f5;obtain⟨o,e,c,d⟩:=id ao;exact⟨u,rfl,yc (s:={s with heap:=h'}) e c d (by decide) ⟨x,H,I1,ru,⟨rfl,fun ys hy=>by rw[I.kN hy hq];exact hx⟩,ao,fun b hb=>(hf b hb).1⟩⟩
 done:=by
  intro X hP hw hK hc i pins s σ H E I hf st hg;subst hP hw hK;obtain⟨xs,hq,hx⟩:=hg;obtain⟨af,rv,p,hz⟩:=I.tuple hq;obtain⟨f0,f1,f2,f3,f4,f5⟩:=hf it (by simp);have hl:=rv.length;exact wpAny_pyNext_tuple_end (I.ok.hd hc) st (show s.heap.IsTuple a af.toArray from p) (by simp;lia) fun h' eb=>⟨rfl,I.turned (t':=s.toks) (fun b o hb e=>eb b o hb e) f0 f1 f3 f4 f5⟩
 self:=fun _ _ _ _ _ st h=>wpAny_pyIter_tupleiter st h
theorem qh{P:Program}{w:World}{K:PySem.W.Frag}{tg:Expr}(it:Addr)(lo:Int)(n:Nat):Turn P w K tg (JG lo n) [it] it (fun i h=>IsRangeIter h it (lo+(i:Nat)*1) ((n:Int) - (i:Nat)) 1) where
 mem:=by simp
 obj:=fun i h st b hb=>by
  have e:b=it:=by simpa using hb
  subst e;exact⟨_,st,fun v z=>by
   have z':Data.fields _=Data.cell v:=z;cases z'⟩
 keep:=fun i h h' st k=>k it (by simp) _ st
 item:=by
  intro X hP hw hK hc i pins s σ H E I hf st hg;subst hP hw hK;obtain⟨f0,f1,f2,f3,f4,f5⟩:=hf it (by simp);have W:=Walks.range (prog:=X.prog) (w:=X.w) (I.ok.hd hc) it lo 1 n;refine W.item i s _ _ hg st fun v h' tk hv ao kk=>?_;obtain⟨t,rfl⟩:=hv;have I1:Inv X pins σ H {s with heap:=h',toks:=tk}:=I.turned (fun b o hb e=>kk b o (by simpa using hb) e) f0 f1 f3 f4 f5;refine⟨_,rfl,yc (s:={s with heap:=h',toks:=tk}) (n:="range_iterator") ao rfl rfl (by decide) ⟨.int (lo+i),H,I1,⟨t,?_⟩,⟨rfl,rfl⟩,ao,fun b hb=>(hf b hb).1⟩⟩;rw[Int.mul_one]
 done:=by
  intro X hP hw hK hc i pins s σ H E I hf st hg;subst hP hw hK;obtain⟨f0,f1,f2,f3,f4,f5⟩:=hf it (by simp);exact wpAny_pyNext_range_end (I.ok.hd hc) st (by have:n<=i:=hg;lia) fun h' eb=>⟨rfl,I.turned (t':=s.toks) (fun b o hb e=>eb b o hb e) f0 f1 f3 f4 f5⟩
 self:=fun _ _ _ _ _ st h=>wpAny_pyIter_rangeiter st h
section
variable {X : Cx} {tg : Expr}
def HZ(K:PySem.W.Frag)(tl:TE):TI:=fun σ H R=>tl σ H fun x H1=> ∃a,x= .ref a/\(∃xs,cf K H1 a xs)/\R (NL K a) H1
def L4(K:PySem.W.Frag)(tl:TE):TI:=fun σ H R=>tl σ H fun x H1=> ∃a,x= .ref a/\(∃xs,cS K H1 a xs)/\R (NK K a) H1
theorem AF(hl:PE X l tl):PI X tg l (HZ X.K tl):=by
 intro pins s σ H R I h;refine aG (hl pins s σ H _ I h) fun v s1 K3=>?_;obtain⟨x,H1,I1,r1,q1⟩:=K3;obtain⟨a,e,⟨xs,hq⟩,q⟩:=q1;subst e;cases r1;obtain⟨af,rv,p,hz⟩:=I1.list hq;refine Uk p.isList ?_;refine⟨s1.heap.objs.size,[s1.heap.objs.size],_,_,H1,rfl,I1.kept (t':=s1.toks) fun b o e=>Sz _ e,t4 a _,⟨_,SI _ rfl,rfl,rfl⟩,fun b hb=>?_,q⟩;have e:b=s1.heap.objs.size:=by simpa using hb
 subst e;exact I1.nh (SD _) (I1.aO.fresh (SD _))
theorem DL(hl:PE X l tl):PI X tg l (L4 X.K tl):=by
 intro pins s σ H R I h;refine aG (hl pins s σ H _ I h) fun v s1 K2=>?_;obtain⟨x,H1,I1,r1,q1⟩:=K2;obtain⟨a,e,⟨xs,hq⟩,q⟩:=q1;subst e;cases r1;obtain⟨af,rv,p,hz⟩:=I1.tuple hq;refine Uo (show s1.heap.IsTuple a af.toArray from p) ?_;refine⟨s1.heap.objs.size,[s1.heap.objs.size],_,_,H1,rfl,I1.kept (t':=s1.toks) fun b o e=>Sz _ e,qg a _,⟨_,SI _ rfl,rfl,rfl⟩,fun b hb=>?_,q⟩;have e:b=s1.heap.objs.size:=by simpa using hb
 subst e;exact I1.nh (SD _) (I1.aO.fresh (SD _))
theorem oF{lo hi:Int}(I:Inv X pins σ H s)(h1: -(2^62)<=lo)(h2:lo < 2^62)(h3: -(2^62)<=hi)(h4:hi < 2^62)(q:R (JG lo (hi - lo).toNat) H):wpAny (model X.prog X.w) X.A (pyIter (.ref s.heap.objs.size)) (Kr X pins σ tg R) E {s with heap:=s.heap.push {cls:= .type "range",data:= .fields #[.int lo t, .int hi u, .int 1 v]},toks:=tk}:=by
 refine wpAny_pyIter_range (IsRange.new ..) (small_one h1 h2 h3 h4) ?_;have I1:Inv X pins σ H {s with heap:=s.heap.push {cls:= .type "range",data:= .fields #[.int lo t, .int hi u, .int 1 v]},toks:=tk}:=I.kept fun b o e=>Sz _ e;refine⟨(s.heap.push {cls:= .type "range",data:= .fields #[.int lo t, .int hi u, .int 1 v]}).objs.size,[(s.heap.push {cls:= .type "range",data:= .fields #[.int lo t, .int hi u, .int 1 v]}).objs.size],_,_,H,rfl,
  I1.kept (t':=tk) fun b o e=>Sz _ e,qh _ lo (hi - lo).toNat,?_,fun b hb=>?_,q⟩
 . have e1:lo+((0:Nat):Int)*1=lo:=by simp
   have e2:(((hi - lo).toNat:Nat):Int) - ((0:Nat):Int)=Builtin.Range.rangeSize lo hi 1:=by rw[rangeSize_one];split <;> lia
   show IsRangeIter _ _ (lo+((0:Nat):Int)*1) ((((hi - lo).toNat:Nat):Int) - ((0:Nat):Int)) 1;rw[e1,e2];exact SI _ rfl
 . have e:b=(s.heap.push {cls:= .type "range",data:= .fields #[.int lo t, .int hi u, .int 1 v]}).objs.size:=by simpa using hb
   subst e;exact I1.nh (SD _) (I1.aO.fresh (SD _))
def HY(ta:TA):TI:=fun σ H R=>ta σ H fun vs H1=> ∃j:Int,vs= [.int j]/\ -(2^62)<=j/\j < 2^62/\R (JG 0 j.toNat) H1
def HX(ta:TA):TI:=fun σ H R=>ta σ H fun vs H1=> ∃i j:Int,vs= [.int i, .int j]/\(-(2^62)<=i/\i < 2^62/\ -(2^62)<=j/\j < 2^62)/\R (JG i (j - i).toNat) H1
theorem uk(hg:Gl X "range")(hm:X.mg "range"=none)(ha:PA X [a] ta)(hs:starEach [a] X.env= [(false,eval a X.env)]:=by rfl):PI X tg (.Call (.Name "range" p) [a] [] pos) (HY ta):=by
 intro pins s σ H R I h;refine Call_ (cN I hg hm boot_range (UL (aG (ha pos pins s σ H _ I h) fun us s1 K1=>?_) hs rfl));obtain⟨vs,H1,I1,r1,q1⟩:=K1;obtain⟨j,e,q1,q2,q⟩:=q1;subst e;cases r1 with
 | cons r rr=>
  cases rr;obtain⟨t,rfl⟩:=r;exact call_range_1 (oF I1 (by lia) (by lia) q1 q2 (by simpa using q))
theorem uj(hg:Gl X "range")(hm:X.mg "range"=none)(ha:PA X [a,b] ta)(hs:starEach [a,b] X.env= [(false,eval a X.env),(false,eval b X.env)]:=by rfl)(nU:starEach [b] X.env= [(false,eval b X.env)]:=by rfl):
  PI X tg (.Call (.Name "range" p) [a,b] [] pos) (HX ta):=by
 intro pins s σ H R I h;refine Call_ (cN I hg hm boot_range (UL (aG (ha pos pins s σ H _ I h) fun us s1 K0=>?_) (by rw[hs,nU]) (by rw[nU];rfl)));obtain⟨vs,H1,I1,r1,q1⟩:=K0;obtain⟨i,j,e,⟨q1,q2,q3,q4⟩,q⟩:=q1;subst e;cases r1 with
 | cons r rr=>
  cases rr with
  | cons r' rr=>
   cases rr;obtain⟨t,rfl⟩:=r;obtain⟨t',rfl⟩:=r';exact call_range_2 (oF I1 q1 q2 q3 q4 q)
def Lp(wi:TI)(g:TG)(tb:TS):TS:=fun D σ H=>wi σ H fun J H1=> ∃W:Nat->Nat->St->Hp->Prop,(∃m,W 0 m σ H1)/\ ∀i m σ H,W i m σ H->
 (J.stop i H/\D.nx σ H)\/(J.go i H/\ ∃N:St->Hp->Prop,(∀σ' H',N σ' H'-> ∃m',m' < m/\W (i+1) m' σ' H')/\ ∀x H',J.vG i H x H'->g x σ H' fun σ2 H2=>tb {D with nx:=N,ct:=N,bk:=D.nx} σ2 H2)
noncomputable def gm(fp:List Addr)(h:Heap):List (Addr × Obj):=fp.filterMap fun b=>(h.get? b).map fun o=>(b,o)
theorem bz{h:Heap}(hb:b∈fp)(e:h.get? b=some o):(b,o)∈gm fp h:=List.mem_filterMap.mpr ⟨b,hb,by rw[e];rfl⟩
theorem uw(hp:p∈gm fp h):p.1∈fp/\h.get? p.1=some p.2:=by
 obtain⟨b,hb,e⟩:=List.mem_filterMap.mp hp;cases q:h.get? b with
 | none=>rw[q] at e;cases e
 | some o=>
  rw[q] at e;have e':(b,o)=p:=Option.some.inj e;subst e';exact⟨hb,q⟩
theorem Inv.pinned(I:Inv X pins σ H s)(hf: ∀b∈fp,cT X pins H b)(ho: ∀b∈fp,∃o,s.heap.get? b=some o/\ ∀v,o.data≠ .cell v):Inv X (pins++gm fp s.heap) σ H s:=
 I.sf fun p hp=>(Ts.mp hp).elim (fun z=>I.pin p (S8 _ z)) fun z=>by
  obtain⟨hb,e⟩:=uw z;obtain⟨f0,f1,f2,_⟩:=hf p.1 hb;obtain⟨o,e',d⟩:=ho p.1 hb;rw[e] at e';cases e';exact⟨e,f0,f1,f2,d⟩
theorem Inv.dy(I:Inv X (pins++pl) σ H s):Inv X pins σ H s:=I.sf fun p hp=>I.pin p (S8 _ (List.mem_append_left _ hp))
theorem DE(hp:PassesOwn (model X.prog X.w) X.A X.env X.xe)(hc:X.calm=true)(hi:PI X tg iter wi)(hg:PG X tg g)(hb:nM X body tb)(hs: ∀x,foldedSetIterable iter X.env x=pure x:=by intro _;rfl):PS X (.For tg iter body [] pos) (Lp wi g tb):=by
 intro pins s σ H D I h;refine wpAny_For (aG (hi pins s σ H _ I h) fun v s1 h1=>aG h1 fun HR s2 h2=>?_) hs;obtain⟨it,fp,tn,J,H2,e,I2,T,eR,f2,W,⟨m0,w0⟩,turn⟩:=h2;subst e;have ql: ∀{H':Hp},(∀b∈fp,H' b=none)-> ∀b∈fp,cT X pins H' b:=fun hn b hb=>⟨hn b hb,(f2 b hb).2⟩
 refine codeAny_forLoop_any (fun n s'=> ∃i σ' H',Inv X pins σ' H' s'/\tn i s'.heap/\(∀b∈fp,H' b=none)/\W i n σ' H') ?_ m0 ⟨0,σ,H2,I2,eR,fun b hb=>(f2 b hb).1,w0⟩;rintro n s3 ⟨i,σ3,H3,I3,dR,OG,w3⟩
 rcases turn i n σ3 H3 w3 with ⟨stop,qn⟩ | ⟨go,N,hN,step⟩
 . refine Vb hp (aG (T.done X rfl rfl rfl hc i pins s3 σ3 H3 X.xe I3 (ql OG) dR stop) fun r s4 KZ=>?_);obtain⟨hr,I4⟩:=KZ;subst hr;exact wpAny_execs_nil ⟨σ3,H3,I4,qn⟩
 . refine Vb hp (aG (T.item X rfl rfl rfl hc i pins s3 σ3 H3 X.xe I3 (ql OG) dR go) fun r s4 KY=>?_);obtain⟨u,hr,h4⟩:=KY;subst hr;refine Vb hp (aG h4 fun _ s5 KW=>?_);obtain⟨x,H5,I5,r5,y5,vH,zS⟩:=KW;have RA:=I5.pinned (ql zS) (T.obj _ _ vH);refine Vb hp (aG (hg _ s5 σ3 H5 x u _ RA r5 (step x H5 y5)) fun _ s6 KU=>?_);obtain⟨σ6,H6,I6,q6⟩:=KU;refine Vb hp (aG (hb _ s6 σ6 H6 _ I6 q6) fun f s7 q7=>?_);have again: ∀{σ7:St} {H7:Hp},Inv X (pins++gm fp s5.heap) σ7 H7 s7->N σ7 H7-> ∃m,m < n/\ ∃i σ' H',Inv X pins σ' H' s7/\tn i s7.heap/\(∀b∈fp,H' b=none)/\W i m σ' H':=fun{σ7 H7} I7 n7=>by
    obtain⟨m',hm,w7⟩:=hN σ7 H7 n7;refine⟨m',hm,i+1,σ7,H7,I7.dy,T.keep _ _ _ vH fun b hb o e=>(I7.pin (b,o) (S8 _ (S8 _ (bz hb e)))).1,fun b hb=>?_,w7⟩;obtain⟨o,e,d⟩:=T.obj _ _ vH b hb;exact(I7.pin (b,o) (S8 _ (S8 _ (bz hb e)))).2.1
   cases f with
   | next=>obtain⟨σ7,H7,I7,n7⟩:=q7;exact again I7 n7
   | cont=>obtain⟨σ7,H7,I7,n7⟩:=q7;exact again I7 n7
   | brk=>obtain⟨σ7,H7,I7,q7⟩:=q7;exact⟨σ7,H7,I7.dy,q7⟩
   | ret v=>obtain⟨x7,σ7,H7,I7,r7,q7⟩:=q7;exact⟨x7,σ7,H7,I7.dy,r7,q7⟩
end
abbrev R2:=V->V->Hp->VK->Prop
def eS(X:Cx)(f:Value->Value->Sem Value)(r:R2):Prop:=
 ∀(pins:List (Addr × Obj)) (s:Shared) (σ:St) (H:Hp) (x y:V) (v u:Value) (Q:VK),Inv X pins σ H s->RelV x v->RelV y u->r x y H Q->
  wpAny (model X.prog X.w) X.A (f v u) (EP X pins σ Q) X.xe s
def cq(X:Cx)(f:Value)(r:List V->Hp->VK->Prop):Prop:=
 ∀(pins:List (Addr × Obj)) (s:Shared) (σ:St) (H:Hp) (xs:List V) (us:List Value) (Q:VK),Inv X pins σ H s->Vals xs us->r xs H Q->
  wpAny (model X.prog X.w) X.A (call f us) (EP X pins σ Q) X.xe s
def F5(r:R2)(ta tb:TE):TE:=fun σ H Q=>ta σ H fun x H1=>tb σ H1 fun y H2=>r x y H2 Q
def rI(C:Int->Int->Prop)(g:Int->Int->V):R2:=fun x y H Q=> ∃i j,x= .int i/\y= .int j/\C i j/\Q (g i j) H
def wY(g:Int->Int->V):R2:=fun x y H Q=> ∃i j,x= .int i/\y= .int j/\Q (g i j) H
section
variable {X : Cx} {a b c : Expr} {ta tb tc : TE} {pos : Pos}
theorem FK(ha:PE X a ta)(hb:PE X b tb){pins:List (Addr × Obj)}{s:Shared}{σ:St}{H:Hp}{R:V->V->Hp->Prop}(I:Inv X pins σ H s)
  (h:ta σ H fun x H1=>tb σ H1 fun y H2=>R x y H2) {Q:Value->Shared->Prop} {f:Value->Value->Sem Value}
  (hf: ∀v u s2 x y H2,Inv X pins σ H2 s2->RelV x v->RelV y u->R x y H2->wpAny (model X.prog X.w) X.A (f v u) Q X.xe s2):
  wpAny (model X.prog X.w) X.A (eval a X.env) (fun v s₁=>wpAny (model X.prog X.w) X.A (eval b X.env) (fun u s₂=>wpAny (model X.prog X.w) X.A (f v u) Q X.xe s₂) X.xe s₁) X.xe s:=by
 refine aG (ha pins s σ H _ I h) fun v s1 KS=>?_;obtain⟨x,H1,I1,r1,q1⟩:=KS;refine aG (hb pins s1 σ H1 _ I1 q1) fun u s2 KR=>?_;obtain⟨y,H2,I2,r2,q2⟩:=KR;exact hf v u s2 x y H2 I2 r1 r2 q2
theorem aZ(ho:eS X (binaryOp op) r)(ha:PE X a ta)(hb:PE X b tb):PE X (.BinOp a op b pos) (F5 r ta tb):=by
 intro pins s σ H Q I h;exact wpAny_BinOp (FK ha hb I h fun v u s2 x y H2 I2 rx ry q=>ho pins s2 σ H2 x y v u Q I2 rx ry q)
theorem J3{C:Int->Int->Prop}{g:Int->Int->Int}(rule: ∀(i j:Int) (t u:Tok) (s:Shared) (Q:Value->Shared->Prop) (E:Value->Shared->Prop),C i j->Q (.int (g i j) s.toks) {s with toks:=s.toks+1}->wpAny (model X.prog X.w) X.A (f (.int i t) (.int j u)) Q E s):
  eS X f (rI C fun i j=> .int (g i j)):=by
 intro pins s σ H x y v u Q I rx ry h;obtain⟨i,j,rfl,rfl,hc,q⟩:=h;obtain⟨t,rfl⟩:=rx;obtain⟨t',rfl⟩:=ry;exact rule i j t t' s _ _ hc ⟨.int (g i j),H,I.tok _,⟨_,rfl⟩,q⟩
theorem Hx{g:Int->Int->Int}(rule: ∀(i j:Int) (t u:Tok) (s:Shared) (Q:Value->Shared->Prop) (E:Value->Shared->Prop),Q (.int (g i j) s.toks) {s with toks:=s.toks+1}->wpAny (model X.prog X.w) X.A (f (.int i t) (.int j u)) Q E s):
  eS X f (wY fun i j=> .int (g i j)):=by
 intro pins s σ H x y v u Q I rx ry h;obtain⟨i,j,rfl,rfl,q⟩:=h;obtain⟨t,rfl⟩:=rx;obtain⟨t',rfl⟩:=ry;exact rule i j t t' s _ _ ⟨.int (g i j),H,I.tok _,⟨_,rfl⟩,q⟩
theorem D5{g:Int->Int->Bool}(rule: ∀(i j:Int) (t u:Tok) (s:Shared) (Q:Value->Shared->Prop) (E:Value->Shared->Prop),Q (.bool (g i j)) s->wpAny (model X.prog X.w) X.A (f (.int i t) (.int j u)) Q E s):
  eS X f (wY fun i j=> .bl (g i j)):=by
 intro pins s σ H x y v u Q I rx ry h;obtain⟨i,j,rfl,rfl,q⟩:=h;obtain⟨t,rfl⟩:=rx;obtain⟨t',rfl⟩:=ry;exact rule i j t t' s _ _ ⟨.bl (g i j),H,I,rfl,q⟩
def JQ(i j:Int):Prop:=0 < j/\j < 1073741824
def F3(i j:Int):Prop:=0<=j/\j<=1000000/\i.natAbs < 2^64
def BS(i j:Int):Prop:=(-(2^64) < i/\i < 2^64)\/(-(2^64) < j/\j < 2^64)
theorem BS.ok(h:BS i j):IntMulOk i j:=by
 rcases h with ⟨h1,h2⟩ | ⟨h1,h2⟩
 . exact .of_left (intBits_le_64 h1 h2)
 . exact .of_right (intBits_le_64 h1 h2)
theorem gp:eS X (binaryOp .Add) (wY fun i j=> .int (i+j)):=Hx fun _ _ _ _ _ _ _ q=>add_int q
theorem DZ:eS X (binaryOp .Sub) (wY fun i j=> .int (i - j)):=Hx fun _ _ _ _ _ _ _ q=>sub_int q
theorem fh:eS X (binaryOp .Mult) (rI BS fun i j=> .int (i*j)):=J3 fun _ _ _ _ _ _ _ hc q=>mul_int q hc.ok
theorem sj:eS X (binaryOp .FloorDiv) (rI JQ fun i j=> .int (i / j)):=J3 fun i j _ _ _ _ _ hc q=>by
 have h1:(0:Int) < j:=hc.1;have h2:j < 1073741824:=hc.2;exact floordiv_int (by lia) (by rw[Int.fdiv_eq_ediv_of_nonneg i (by lia)];exact q) (.inl (PyProof.noPylong_small (by lia)))
theorem fk:eS X (binaryOp .Mod) (rI (fun _ j=>0 < j) fun i j=> .int (i % j)):=J3 fun i j _ _ _ _ _ hc q=>by
 have h1:(0:Int) < j:=hc;exact mod_int' (by lia) (by rw[Int.fmod_eq_emod_of_nonneg i (by lia)];exact q)
theorem D1:eS X (binaryOp .Pow) (rI F3 fun i j=> .int (i^j.toNat)):=J3 fun _ _ _ _ _ _ _ hc q=>pow_int_small hc.1 hc.2.1 hc.2.2 q
end
noncomputable def Ai:V->V->Bool
 | .aI, .aI=>true | .aI, .int _=>true | .int _, .aI=>true | .aI, .bl _=>true | .bl _, .aI=>true | .aI, .str _=>true | .str _, .aI=>true
 | .int _, .int _=>true | .bl _, .bl _=>true | .str _, .str _=>true | .vO _, .vO _=>true
 | .int _, .str _=>true | .str _, .int _=>true | .bl _, .str _=>true | .str _, .bl _=>true
 | _,_=>false
def N0:R2:=fun x y H Q=>Ai x y=true/\Q (.bl (decide (x=y))) H
def NX:R2:=fun x y H Q=>Ai x y=true/\Q (.bl (!decide (x=y))) H
theorem tf:decide (V.int i=V.int j)=(i==j):=by
 rw[T4];simp
theorem yN:decide (V.bl i=V.bl j)=(i==j):=by
 rw[T4];simp
theorem sZ:decide (V.str i=V.str j)=(i==j):=by
 rw[T4];simp
theorem tj:decide (V.vO i=V.vO j)=(i.toList==j.toList):=by
 rw[T4];cases i;cases j;simp
section
variable {X : Cx} {a b c : Expr} {ta tb tc : TE} {pos : Pos}
theorem aH(I:Inv X pins σ H s)(q:Q (.bl k) H)(e:k=k'):EP X pins σ Q (.bool k') s:=by
 subst e;exact⟨.bl k,H,I,rfl,q⟩
theorem xm:eS X (compareOp .Eq) N0:=by
 intro pins s σ H x y v u Q I rx ry h;obtain⟨hs,q⟩:=h;cases x with
 | aI=>
  cases rx;cases y with
  | aI=>cases ry;exact PySem.EqNone.eq_none_none (aH I q rfl)
  | bl j=>cases ry;exact PySem.EqNone.eq_none_bool (aH I q rfl)
  | int j=>obtain⟨t',rfl⟩:=ry;exact PySem.EqNone.eq_none_int (aH I q rfl)
  | str j=>obtain⟨t',rfl⟩:=ry;exact PySem.EqNone.eq_none_str (aH I q rfl)
  | _=>exact absurd (show false=true from hs) SG
 | bl i=>
  cases rx;cases y with
  | aI=>cases ry;exact PySem.EqNone.eq_bool_none (aH I q rfl)
  | bl j=>cases ry;exact eq_bool (aH I q yN)
  | str j=>obtain⟨t',rfl⟩:=ry;exact PySem.EqMixed.eq_bool_str (aH I q rfl)
  | _=>exact absurd (show false=true from hs) SG
 | int i=>
  obtain⟨t,rfl⟩:=rx;cases y with
  | aI=>cases ry;exact PySem.EqNone.eq_int_none (aH I q rfl)
  | int j=>obtain⟨t',rfl⟩:=ry;exact eq_int (aH I q tf)
  | str j=>obtain⟨t',rfl⟩:=ry;exact PySem.EqMixed.eq_int_str (aH I q rfl)
  | _=>exact absurd (show false=true from hs) SG
 | str i=>
  obtain⟨t,rfl⟩:=rx;cases y with
  | aI=>cases ry;exact PySem.EqNone.eq_str_none (aH I q rfl)
  | bl j=>cases ry;exact PySem.EqMixed.eq_str_bool (aH I q rfl)
  | int j=>obtain⟨t',rfl⟩:=ry;exact PySem.EqMixed.eq_str_int (aH I q rfl)
  | str j=>obtain⟨t',rfl⟩:=ry;exact eq_str (aH I q sZ)
  | _=>exact absurd (show false=true from hs) SG
 | vO i=>
  obtain⟨t,rfl⟩:=rx;cases y with
  | vO j=>obtain⟨t',rfl⟩:=ry;exact PySem.W.eq_bytes (aH I q tj)
  | _=>exact absurd (show false=true from hs) SG
 | _=>exact absurd (show false=true from hs) SG
theorem B9:eS X (compareOp .NotEq) NX:=by
 intro pins s σ H x y v u Q I rx ry h;obtain⟨hs,q⟩:=h;cases x with
 | aI=>
  cases rx;cases y with
  | aI=>cases ry;exact PySem.EqNone.ne_none_none (aH I q rfl)
  | bl j=>cases ry;exact PySem.EqNone.ne_none_bool (aH I q rfl)
  | int j=>obtain⟨t',rfl⟩:=ry;exact PySem.EqNone.ne_none_int (aH I q rfl)
  | str j=>obtain⟨t',rfl⟩:=ry;exact PySem.EqNone.ne_none_str (aH I q rfl)
  | _=>exact absurd (show false=true from hs) SG
 | bl i=>
  cases rx;cases y with
  | aI=>cases ry;exact PySem.EqNone.ne_bool_none (aH I q rfl)
  | bl j=>cases ry;exact ne_bool (aH I q (UI not yN))
  | str j=>obtain⟨t',rfl⟩:=ry;exact PySem.EqMixed.ne_bool_str (aH I q rfl)
  | _=>exact absurd (show false=true from hs) SG
 | int i=>
  obtain⟨t,rfl⟩:=rx;cases y with
  | aI=>cases ry;exact PySem.EqNone.ne_int_none (aH I q rfl)
  | int j=>obtain⟨t',rfl⟩:=ry;exact ne_int (aH I q (UI not tf))
  | str j=>obtain⟨t',rfl⟩:=ry;exact PySem.EqMixed.ne_int_str (aH I q rfl)
  | _=>exact absurd (show false=true from hs) SG
 | str i=>
  obtain⟨t,rfl⟩:=rx;cases y with
  | aI=>cases ry;exact PySem.EqNone.ne_str_none (aH I q rfl)
  | bl j=>cases ry;exact PySem.EqMixed.ne_str_bool (aH I q rfl)
  | int j=>obtain⟨t',rfl⟩:=ry;exact PySem.EqMixed.ne_str_int (aH I q rfl)
  | str j=>obtain⟨t',rfl⟩:=ry;exact ne_str (aH I q (UI not sZ))
  | _=>exact absurd (show false=true from hs) SG
 | vO i=>
  obtain⟨t,rfl⟩:=rx;cases y with
  | vO j=>obtain⟨t',rfl⟩:=ry;exact PySem.W.ne_bytes (aH I q (UI not tj))
  | _=>exact absurd (show false=true from hs) SG
 | _=>exact absurd (show false=true from hs) SG
theorem iJ:eS X (compareOp .Lt) (wY fun i j=> .bl (decide (i < j))):=D5 fun _ _ _ _ _ _ _ q=>lt_int q
theorem Hu:eS X (compareOp .Gt) (wY fun i j=> .bl (decide (j < i))):=D5 fun _ _ _ _ _ _ _ q=>gt_int q
theorem Hw:eS X (compareOp .GtE) (wY fun i j=> .bl (decide (j<=i))):=D5 fun _ _ _ _ _ _ _ q=>ge_int q
theorem df(b:Expr)(h:op≠ .In:=by decide)(h2:op≠ .NotIn:=by decide):behindInMarks op b=false:=by
 have e1:(op==CmpOp.In)=false:=by cases op <;> first | rfl | exact absurd rfl h
 have e2:(op==CmpOp.NotIn)=false:=by cases op <;> first | rfl | exact absurd rfl h2
 cases b <;> simp [behindInMarks,e1,e2]
theorem mP(ho:eS X (compareOp op) r)(ha:PE X a ta)(hb:PE X b tb)(hm:behindInMarks op b=false):PE X (.Compare a [op] [b] pos) (F5 r ta tb):=by
 intro pins s σ H Q I h;exact wpAny_Compare1 (FK ha hb I h fun v u s2 x y H2 I2 rx ry q=>ho pins s2 σ H2 x y v u Q I2 rx ry q) hm
def wg(t:TE):TT:=fun σ H Q=>t σ H fun x H'=> ∃k,x= .bl k/\Q k H'
theorem mM(ho:eS X (compareOp op) r)(ha:PE X a ta)(hb:PE X b tb)(hm:behindInMarks op b=false):PT X (.Compare a [op] [b] pos) (wg (F5 r ta tb)):=by
 intro pins s σ H Q I h;refine wpAny_isTrue_Compare1 (aG (ha pins s σ H _ I h) fun v s1 ⟨x,H1,I1,r1,q1⟩=>aG (hb pins s1 σ H1 _ I1 q1) fun u s2 ⟨y,H2,I2,r2,q2⟩=>
  aG (ho pins s2 σ H2 x y v u _ I2 r1 r2 q2) fun c s3 ⟨z,H3,I3,r3,k,e,q3⟩=>?_) hm
 subst e;cases r3;exact TJ ⟨H3,I3,q3⟩
def wo(r r':R2)(ta tb tc:TE):TE:=fun σ H Q=>ta σ H fun x H1=>tb σ H1 fun y H2=>r x y H2 fun z H3=> ∃k,z= .bl k/\
 (if k=true then tc σ H3 fun w' H4=>r' y w' H4 Q else Q (.bl false) H3)
theorem w6(ho:eS X (compareOp op) r)(xW:eS X (compareOp Hy) r')(ha:PE X a ta)(hb:PE X b tb)(hc:PE X c tc)(hm:lastMarks [op,Hy] [b,c]=false:=by with_unfolding_all rfl):PT X (.Compare a [op,Hy] [b,c] pos) (wg (wo r r' ta tb tc)):=by
 intro pins s σ H Q I h;refine isTrue_chain (aG (ha pins s σ H _ I h) fun v s1 ⟨x,H1,I1,r1,q1⟩=>test_link (aG (hb pins s1 σ H1 _ I1 q1) fun u s2 ⟨y,H2,I2,r2,q2⟩=>
  aG (ho pins s2 σ H2 x y v u _ I2 r1 r2 q2) fun d s3 ⟨z,H3,I3,r3,k,e,q3⟩=>?_)) hm
 subst e;cases r3;refine TJ ?_;cases k with
 | false=>
  obtain⟨k',e',q'⟩:=q3;cases e';exact ite_ff ⟨H3,I3,q'⟩
 | true=>
  refine ite_tt (test_last (aG (hc pins s3 σ H3 _ I3 q3) fun w' s4 ⟨z',H4,I4,r4,q4⟩=>aG (xW pins s4 σ H4 y z' u w' _ I4 r2 r4 q4) fun d' s5 KQ=>?_));obtain⟨z2,H5,I5,r5,k2,e2,q5⟩:=KQ;subst e2;cases r5;exact TJ ⟨H5,I5,q5⟩
theorem jD:(sizeLine:Nat) < 2^63:=by rw[TZ];decide
theorem vals1(r:Vals [x] us): ∃u,us= [u]/\RelV x u:=by
 cases r with
 | cons r1 r2=>cases r2;exact⟨_,rfl,r1⟩
theorem vals2(r:Vals [x,y] us): ∃u w',us= [u,w']/\RelV x u/\RelV y w':=by
 cases r with
 | cons r1 r2=>
  cases r2 with
  | cons r3 r4=>cases r4;exact⟨_,_,rfl,r1,r3⟩
theorem vk(hc:X.calm=true):cq X (.builtin "max") (fun xs H Q=> ∃i j,xs= [.int i, .int j]/\Q (.int (if j > i then j else i)) H):=by
 intro pins s σ H xs us Q I r h;obtain⟨i,j,rfl,q⟩:=h;obtain⟨u,w',rfl,⟨t,rfl⟩,⟨t',rfl⟩⟩:=vals2 r;refine max_two_ints (I.ok.hd hc) fun h' tk k=>⟨_,H,I.kept k,?_,q⟩
 by_cases hj:j > i
 . rw[if_pos hj,if_pos hj];exact⟨_,rfl⟩
 . rw[if_neg hj,if_neg hj];exact⟨_,rfl⟩
theorem vj(hc:X.calm=true):cq X (.builtin "min") (fun xs H Q=> ∃i j,xs= [.int i, .int j]/\Q (.int (if j < i then j else i)) H):=by
 intro pins s σ H xs us Q I r h;obtain⟨i,j,rfl,q⟩:=h;obtain⟨u,w',rfl,⟨t,rfl⟩,⟨t',rfl⟩⟩:=vals2 r;refine min_two_ints (I.ok.hd hc) fun h' tk k=>⟨_,H,I.kept k,?_,q⟩
 by_cases hj:j < i
 . rw[if_pos hj,if_pos hj];exact⟨_,rfl⟩
 . rw[if_neg hj,if_neg hj];exact⟨_,rfl⟩
theorem vn:cq X (.type "int") (fun xs H Q=>(∃i,xs= [.int i]/\Q (.int i) H)\/ ∃k,xs= [.bl k]/\Q (.int (if k then 1 else 0)) H):=by
 intro pins s σ H xs us Q I r h;rcases h with ⟨i,rfl,q⟩ | ⟨k,rfl,q⟩
 . obtain⟨u,rfl,t,rfl⟩:=vals1 r;exact call_int_int ⟨.int i,H,I,⟨_,rfl⟩,q⟩
 . obtain⟨u,rfl,r1⟩:=vals1 r;cases r1;exact call_int_bool ⟨.int (if k then 1 else 0),H,I.tok _,⟨_,rfl⟩,q⟩
end
structure FV(h:Heap)(x dx C:Addr)(mA:Str->Option Value):Prop where
 obj:h.get? x=some (PySem.W.instObj C dx)
 ns:h.Ns1 dx mA
 ne:dx≠x
theorem uB{h:Heap}(n:h.Ns1 dx mA): ∃od,h.get? dx=some od/\ ∀name,PySem.W.lookIn name od=some (mA name):=by
 obtain⟨o,es,ep,ho,hd,hk,_,hm⟩:=n;refine⟨o,ho,fun name=>?_⟩;have e:=hm name;unfold nsFind findBy at e;rw[<-Array.find?_toList] at e;unfold PySem.W.lookIn;rw[hd];dsimp only;split
 . rename_i y q;rw[q] at e;exact UI some e
 . rename_i q;rw[q] at e;have a:es.toList.any (·.refKey)=false:=by
    rw[List.any_eq_false];intro y hy;obtain⟨z,t,m4⟩:=hk y (Array.mem_toList_iff.mp hy);simp [DictEntry.refKey,m4]
   have a': ¬es.toList.any (·.refKey)=true:=by rw[a];exact SG
   rw[if_neg a'];exact UI some e
theorem FV.look(I:FV h x dx C mA): ∃od,PySem.W.InstAt h x (PySem.W.instObj C dx) C (some od)/\ ∀name,PySem.W.lookIn name od=some (mA name):=
 let ⟨od,ho,hl⟩:=uB I.ns
 ⟨od,⟨I.obj,rfl,rfl,ho⟩,hl⟩
theorem j9.some_of(r:j9 (some v) o): ∃u,o=some u/\RelV v u:=by
 cases o with
 | none=>exact(show False from r).elim
 | some u=>exact⟨u,rfl,r⟩
theorem A7(aO:fZ P w H h)(e:H a=some (.ins C dx fs)): ∃mA,FV h a dx C mA/\(∀f,j9 (fs.lookup f) (mA f))/\PySem.Within mA (fs.map (·.1))/\fs.length<=1000/\H dx=some (.own a):=by
 obtain⟨d,z,ne,ob,mA,n,r,q⟩:=(show aQ P w H h a (.ins C dx fs) from aO a _ e)
 exact⟨mA,⟨ob,n,ne⟩,r,q,z,d⟩
structure NP(K:PySem.W.Frag)(C:Addr):Prop where
 pg:PySem.W.plainGet K C Str.empty=true
 hd:PySem.W.hasDictIn K C=true
 po:PySem.W.plainOver K C=true
 sa:PySem.W.findIn K (.ref C) "__setattr__"=some (some (.builtin "object.__setattr__"))
theorem NP.get{K:PySem.W.Frag}(c:NP K C)(f:Str):PySem.W.plainGet K C f=true:=c.pg
section
variable {X : Cx} {pins : List (Addr × Obj)} {σ : St} {H : Hp} {s : Shared} {A : Around} {E : Value -> Shared -> Prop} {Q : Value -> Shared -> Prop} {c : Value} {b : Bool}
inductive iU(K:PySem.W.Frag)(H:Hp):V->Value->Prop where
 | aI:iU K H .aI (.type "NoneType")
 | bl (x:Bool):iU K H (.bl x) (.type "bool")
 | int (i:Int):iU K H (.int i) (.type "int")
 | str (x:Str):iU K H (.str x) (.type "str")
 | uQ (x:UInt64):iU K H (.uQ x) (.type "float")
 | lst {a:Addr} {xs:List V} (e:H a=some (.lst xs)):iU K H (.ref a) (.type "list")
 | nV {a:Addr} {o:Obj} {xs:List V} (e:H a=some (.nV o (.lst xs))):iU K H (.ref a) (.type "list")
 | tup {a:Addr} {xs:List V} (e:H a=some (.tup xs)):iU K H (.ref a) (.type "tuple")
 | dK {a:Addr} {aA:List (Key × V)} (e:H a=some (.dK aA)):iU K H (.ref a) (.type "dict")
 | dT {a:Addr} {aA:List (List Key × V)} (e:H a=some (.dT aA)):iU K H (.ref a) (.type "dict")
 | ins {a C dx:Addr} {fs:List (Str × V)} (e:H a=some (.ins C dx fs)) (cl:NP K C) (ha:PySem.W.findIn K (.ref C) "__class__"=some (some (.builtin "object.__class__")))
   (hn:PySem.W.specialIn K (.builtin "object.__class__") "__get__"=some (some (.builtin "getset_descriptor.__get__"))) (Og:PySem.W.takesIn K (.builtin "object.__class__")=some true)
   (hm:PySem.W.mroIn K C (.type "object")=some true):iU K H (.ref a) (.ref C)
theorem cE(I:Inv X pins σ H s)(rx:RelV x u)(ty:iU X.K H x t)(e:PySem.W.kitOne X.K t c=some b)(h: ∀tk,Q (.bool b) {s with toks:=tk}):
  wpAny (model X.prog X.w) A (call (.builtin "isinstance") [u,c]) Q E s:=by
 cases ty with
 | aI=>cases (show u=Value.none from rx);exact Ul PySem.W.kitx_none I.mX True.intro e (fun z=>nomatch z) h
 | bl y=>cases (show u=Value.bool y from rx);exact Ul PySem.W.kitx_bool I.mX True.intro e (fun z=>nomatch z) h
 | int i=>obtain⟨t,q⟩:=(show∃t,u=Value.int i t from rx);cases q;exact Ul PySem.W.kitx_int I.mX True.intro e (fun z=>nomatch z) h
 | str y=>obtain⟨t,q⟩:=(show∃t,u=Value.str y t from rx);cases q;exact Ul PySem.W.kitx_str I.mX True.intro e (fun z=>nomatch z) h
 | uQ y=>obtain⟨t,q⟩:=(show∃t,u=Value.float y t from rx);cases q;exact Ul PySem.W.kitx_float I.mX True.intro e (fun z=>nomatch z) h
 | @lst a xs ea=>
  cases (show u=Value.ref a from rx);obtain⟨_,_,n,_,h1⟩:=(show aQ X.prog X.w H s.heap a (.lst xs) from I.aO a _ ea)
  exact Ul PySem.W.kitx_list I.mX ⟨_,h1,rfl⟩ e (fun z=>nomatch z) h
 | @nV a ob xs ea=>
  cases (show u=Value.ref a from rx);obtain⟨_,_,_,n,_,h1⟩:=(show aQ X.prog X.w H s.heap a (.nV ob (.lst xs)) from I.aO a _ ea)
  exact Ul PySem.W.kitx_list I.mX ⟨_,h1,rfl⟩ e (fun z=>nomatch z) h
 | @tup a xs ea=>
  cases (show u=Value.ref a from rx);obtain⟨_,_,_,p⟩:=(show aQ X.prog X.w H s.heap a (.tup xs) from I.aO a _ ea)
  obtain⟨o,h1,h2,_⟩:=p;exact Ul PySem.W.kitx_tuple I.mX ⟨o,h1,h2⟩ e (fun z=>nomatch z) h
 | @dK a aA ea=>
  cases (show u=Value.ref a from rx);obtain⟨_,_,vs,_,p⟩:=(show aQ X.prog X.w H s.heap a (.dK aA) from I.aO a _ ea)
  obtain⟨o,es,ep,h1,h2,_⟩:=p;exact Ul PySem.W.kitx_dict I.mX ⟨o,h1,h2.1⟩ e (fun z=>nomatch z) h
 | @dT a aA ea=>
  cases (show u=Value.ref a from rx);obtain⟨_,_,xs,_,o,es,ep,h1,h2,_⟩:=(show aQ X.prog X.w H s.heap a (.dT aA) from I.aO a _ ea)
  exact Ul PySem.W.kitx_dict I.mX ⟨o,h1,h2.1⟩ e (fun z=>nomatch z) h
 | @ins a C dx fs ea cl ha hn Og hm=>
  cases (show u=Value.ref a from rx);obtain⟨mA,O,_⟩:=A7 I.aO ea;obtain⟨od,J,_⟩:=O.look;exact Ul (PySem.W.kitx_own (cl.get _) cl.hd ha hn Og hm) I.mX J e (fun z=>nomatch z) h
end
structure bB(k:Nat)(A:Around):Prop where
 hd:A.handled=none
 dp:A.depth+3*k+5 < recursionLimit
 un:A.units+16*k+200 < cLine
 gd:A.guards=some []
theorem bB.mono(r:bB k A)(h:j<=k):bB j A:=⟨r.hd,by have:=r.dp;lia,by have:=r.un;lia,r.gd⟩
theorem bB.deeper(r:bB (k+1) A)(env:Env):bB k (A.deeper env):=
 ⟨r.hd,by have:=r.dp;show A.depth+1+3*k+5 < _;lia,by have:=r.un;show A.units+3+16*k+200 < _;lia,r.gd⟩
theorem bB.depth(r:bB k A):A.depth < recursionLimit:=by have:=r.dp;lia
theorem bB.units(r:bB k A):A.units+64 < cLine:=by have:=r.un;lia
theorem bB.qf(r:bB k A):A.units < cLine:=by have:=r.un;lia
def qi:TA:=fun _ H Q=>Q [] H
def kS(ta:TE)(tr:TA):TA:=fun σ H Q=>ta σ H fun x H1=>tr σ H1 fun xs H2=>Q (x::xs) H2
section
variable {X : Cx} {e : Expr} {es : List Expr} {te : TE} {t : TA} {pos : Pos}
theorem aN:PA X [] qi:=fun _ _ _ _ H Q I h=>Calls.spliced_nil ⟨[],H,I, .nil,h⟩
theorem az(ha:PE X e te)(hr:PA X es t)(hs:starEach (e::es) X.env=(false,eval e X.env)::starEach es X.env:=by rfl):PA X (e::es) (kS te t):=by
 intro pos pins s σ H Q I h;rw[hs];show wpAny _ _ (spliced ((false,eval e X.env)::backTo pos (starEach es X.env))) _ _ s;refine Vv (aG (ha pins s σ H _ I h) fun u s1 KP=>?_);obtain⟨x,H1,I1,r1,q1⟩:=KP;exact aG (hr pos pins s1 σ H1 _ I1 q1) fun us s2 KO=>(by obtain⟨xs,H2,I2,r2,q2⟩:=KO;exact(⟨x::xs,H2,I2, .cons r1 r2,q2⟩))
def Lf(t:TA):TE:=fun σ H Q=>t σ H fun xs H1=>xs.length<=sizeLine/\ ∀p,H1 p=none->Q (.ref p) (upd H1 p (.tup xs))
def GR(t:TA):TE:=fun σ H Q=>t σ H fun xs H1=>xs.length<=sizeLine/\ ∀p,H1 p=none->Q (.ref p) (upd H1 p (.lst xs))
theorem DQ{x1}(h:PA X es t):PE X (.Tuple es x1 pos) (Lf t):=by
 intro pins s σ H Q I hq;refine wpAny_Tuple_spliced (aG (h pos pins s σ H _ I hq) fun us s1 ⟨xs,H1,I1,r,z,q⟩=>⟨by rw[<-r.length];exact z,?_⟩);have hf:H1 s1.heap.objs.size=none:=I1.aO.fresh (SD _);refine⟨.ref s1.heap.objs.size,upd H1 s1.heap.objs.size (.tup xs),I1.laid (t':=s1.toks) (fun b u e=>Sz _ e) (SD _) ?_,rfl,q _ hf⟩;exact⟨z,us,r,⟨_,SI _ rfl,rfl,rfl,_,rfl⟩⟩
theorem mO(h:PA X es t):PE X (.List es pos) (GR t):=by
 intro pins s σ H Q I hq;refine wpAny_List_spliced (aG (h pos pins s σ H _ I hq) fun us s1 ⟨xs,H1,I1,r,z,q⟩=>⟨by rw[<-r.length];exact z,?_⟩);have hf:H1 s1.heap.objs.size=none:=I1.aO.fresh (SD _);refine⟨.ref s1.heap.objs.size,upd H1 s1.heap.objs.size (.lst xs),I1.laid (t':=s1.toks) (fun b u e=>Sz _ e) (SD _) ?_,rfl,q _ hf⟩;exact⟨z,us,0,r,SI _ rfl⟩
end
abbrev Sp:=List V->Hp->VK->XK->Prop
abbrev CW:=List Env->Hp->Shared->XK->Value->Shared->Prop
structure BN(P:Program)(w:World)(K:PySem.W.Frag)(mg:Str->Option Value)(base:Heap)(A:Around)(outer:List Env)(s:Shared)(H:Hp):Prop where
 frames:A.frames=some outer
 mod:Mod K mg base
 bs: ∀b o,base.get? b=some o->s.heap.get? b=some o/\H b=none
 CO:base.objs.size<=s.heap.objs.size
 jP:s.heap.FunFrames base outer
 Gm: ∀b∈pY outer,H b=none
 aO:fZ P w H s.heap
 bare:AllBare s.gens
def CE(outer:List Env)(P:Program)(w:World)(H:Hp)(s:Shared)(Q:VK)(u:Value)(s':Shared):Prop:=
 ∃v H',s'.os=s.os/\AllBare s'.gens/\Un (pY outer) [] H H' s.heap s'.heap/\fZ P w H' s'.heap/\RelV v u/\Q v H'
def CR(CX:CW)(outer:List Env)(P:Program)(w:World)(H:Hp)(s:Shared)(Q:VK)(E:XK)(r:Result)(s':Shared):Prop:=
 match r with
 | .ok (.ret u)=>CE outer P w H s Q u s'
 | .ok _=>False
 | .error e=>CX outer H s E e s'
structure aV(P:Program)(w:World)(K:PySem.W.Frag)(mg:Str->Option Value)(base:Heap)(CX:CW)(k:Nat)(f:Addr)(fd:FuncData)(ps:List Str)(sp:Sp):Prop where
 len: ∀vs H Q E,sp vs H Q E->vs.length=ps.length
 run: ∀(A:Around) (outer:List Env) (s:Shared) (H:Hp) (args:Args) (us:List Value) (vs:List V) (Q:VK) (E:XK),bB k A->BN P w K mg base A outer s H->BindsTo s fd args (ps.zip us)->Vals vs us->sp vs H Q E->
  codeAny (model P w) A (.call (.ref f) args) (CR CX outer P w H s Q E) s
theorem aV.mono{P:Program}{w:World}{K:PySem.W.Frag}{j k:Nat}(F:aV P w K mg base CX j f fd ps sp)(h:j<=k):
  aV P w K mg base CX k f fd ps sp:=⟨F.len,fun A outer s H args us vs Q E hr=>F.run A outer s H args us vs Q E (hr.mono h)⟩
theorem aV.imp{P:Program}{w:World}{K:PySem.W.Frag}{k:Nat}(F:aV P w K mg base CX k f fd ps sp)(h: ∀vs H Q E,PM vs H Q E->sp vs H Q E):aV P w K mg base CX k f fd ps PM:=
 ⟨fun vs H Q E q=>F.len vs H Q E (h _ _ _ _ q),fun A outer s H args us vs Q E hr he hb hv hs=>F.run A outer s H args us vs Q E hr he hb hv (h _ _ _ _ hs)⟩
theorem Inv.MT(I:Inv X pins σ H s):BN X.prog X.w X.K X.mg X.base X.A X.stack s H:=
 ⟨I.ok.frames,I.ok.mod,I.bs,S4 I.ok.CO I.sz,I.stack,I.rS,I.aO,I.bare⟩
theorem Inv.after(I:Inv X pins σ H s)(h:CE X.stack X.prog X.w H s Q u s'):EP X pins σ Q u s':=by
 obtain⟨v,H',os,bare,un,aO,r,q⟩:=h;obtain⟨hh,g,d,t,PZ⟩:=s';obtain rfl:PZ=s.os:=os;exact⟨v,H',I.call (h':=hh) (g':=g) (d':=d) (t':=t) (ch:= []) un aO bare (fun b z=>absurd z (by simp)),r,q⟩
def rQ(sp:Sp)(dvs:List V)(E:XK)(t:TA):TE:=fun σ H Q=>t σ H fun vs H1=>sp (vs++dvs) H1 Q E
def Binds(K:PySem.W.Frag)(fd:FuncData)(ps:List Str)(ds:List Value):Prop:=
 ∀(s:Shared) (us:List Value),K.In s.heap->(us++ds).length=ps.length->BindsTo s fd ⟨us,[]⟩ (ps.zip (us++ds))
theorem Binds.all{K:PySem.W.Frag}{ps:List Str}(h: ∀us:List Value,us.length=ps.length->bindArgs fd ⟨us,[]⟩=pure (ps.zip us)):Binds K fd ps []:=fun s us _ hl=>by
 rw[TX] at hl ⊢;exact .of_eq (h us hl)
def Passes(CX:CW)(X:Cx)(E:XK):Prop:= ∀(pins:List (Addr × Obj)) (σ:St) (H:Hp) (s:Shared) (e:Value) (s':Shared),Inv X pins σ H s->CX X.stack H s E e s'->X.xe e s'
theorem qp(F:aV X.prog X.w X.K X.mg X.base CX k f fd ps sp)(hr:bB k X.A)(hb:Binds X.K fd ps ds)(hd:Vals dvs ds)(hx:Passes CX X E)(I:Inv X pins σ H s)(r:Vals vs us)(h:sp (vs++dvs) H Q E):wpAny (model X.prog X.w) X.A (call (.ref f) us) (EP X pins σ Q) X.xe s:=by
 have r2:Vals (vs++dvs) (us++ds):=r.append hd;have hl:(us++ds).length=ps.length:=by rw[<-r2.length];exact F.len _ _ _ _ h
 refine wpAny_call (Vm (F.run X.A X.stack s H ⟨us,[]⟩ (us++ds) (vs++dvs) Q E hr I.MT (hb s us I.mX hl) r2 h) fun r s' hq=>?_);cases r with
 | error e=>exact hx pins σ H s e s' I hq
 | ok fl=>
  cases fl with
  | ret u=>exact I.after hq
  | next=>exact False.elim hq
  | brk=>exact False.elim hq
  | cont=>exact False.elim hq
theorem AK(F:aV X.prog X.w X.K X.mg X.base CX k f fd ps sp)(hr:bB k X.A)(hg:Gl X x)(hm:X.mg x=some (.ref f))(hk:PySem.W.keepIn X.K (.ref f)=true)(hb:Binds X.K fd ps ds)(hd:Vals dvs ds)(hx:Passes CX X E)
  (ha:PA X (e::es) t) (jI:(x==("__debug__":Str))=false:=by decide) (he:starEach (e::es) X.env=(false,eval e X.env)::starEach es X.env:=by rfl) (cv:(backTo pos (starEach es X.env)).any (·.1)=false:=by rfl):
  PE X (.Call (.Name x p) (e::es) [] pos) (rQ sp dvs E t):=by
 intro pins s σ H Q I h;refine UT (mW I hg hm ?_ jI);refine PySem.W.callWith_K (h₀:=X.base) I.ok.mod.J7 hk (aG (ha pos pins s σ H _ I h) fun us s1 ⟨vs,H1,I1,r,q⟩=>⟨I1.mX,?_⟩) he cv;exact qp F hr hb hd hx I1 r q
theorem xi(F:aV X.prog X.w X.K X.mg X.base CX k f fd ps sp)(hr:bB k X.A)(hg:Gl X x)(hm:X.mg x=some (.ref f))(hk:PySem.W.keepIn X.K (.ref f)=true)(hb:Binds X.K fd ps ds)(hd:Vals dvs ds)(hx:Passes CX X E)
  (jI:(x==("__debug__":Str))=false:=by decide):PE X (.Call (.Name x p) [] [] pos) (rQ sp dvs E qi):=by
 intro pins s σ H Q I h;refine UT (mW I hg hm ?_ jI);exact PySem.W.callWith_K0 I.mX hk (qp (us:= []) F hr hb hd hx I .nil h)
def PK(X:Cx)(k6:List Keyword)(t:TA):Prop:=
 ∀(pos:Pos) (pins:List (Addr × Obj)) (s:Shared) (σ:St) (H:Hp) (Q:List V->Hp->Prop),Inv X pins σ H s->t σ H Q->wpAny (model X.prog X.w) X.A (evalAll ((backToKw pos (keywordEach k6 X.env)).map (·.2))) (AP X pins σ Q) X.xe s
theorem DJ:PK X [] qi:=fun _ _ _ _ H Q I h=>wpAny_evalAll_nil ⟨[],H,I, .nil,h⟩
theorem AE(ha:PE X e te)(hr:PK X k6 t):PK X (⟨nm,e,A3⟩::k6) (kS te t):=by
 intro pos pins s σ H Q I h;show wpAny _ _ (evalAll ((do let v<-eval e X.env;standAt pos;pure v)::(backToKw pos (keywordEach k6 X.env)).map (·.2))) _ _ s;refine wpAny_evalAll_cons (Sw (aG (ha pins s σ H _ I h) fun u s1 ⟨x,H1,I1,r1,q1⟩=>Sw (Ut (SA ?_))));exact aG (hr pos pins s1 σ H1 _ I1 q1) fun us s2 KN=>(by obtain⟨xs,H2,I2,r2,q2⟩:=KN;exact(⟨x::xs,H2,I2, .cons r1 r2,q2⟩))
structure aE(N P:List Str)(sc:Scope):Prop where
 kind:sc.kind= .function
 co:sc.isCoroutine=false
 gen:sc.isGenerator=false
 nd:N.Nodup
 pre:N.take P.length=P
 par: ∀x∈P,sc.names.lookup x=some .local\/sc.names.lookup x=some .cell
 Ee: ∀y∈sc.names,y.2≠ .free
theorem l4{kindOf:Str->Option NameKind}: ∀{binds:List (Str × Value)} {m:Str->Option Value},(∀v,(x,v)∉binds)->bindL kindOf binds m x=m x
 | [],_,_=>rfl
 | (n,v)::r,m,h=>by
  unfold bindL;rw[l4 fun w hw=>h w (Tn _ hw)];split
  . have:x≠n:=by rintro rfl;exact h v TM
    simp [this]
  . rfl
theorem l7{kindOf:Str->Option NameKind}: ∀{binds:List (Str × Value)} {m:Str->Option Value},(∀v,(x,v)∉binds)->bindC kindOf binds m x=m x
 | [],_,_=>rfl
 | (n,v)::r,m,h=>by
  unfold bindC;rw[l7 fun w hw=>h w (Tn _ hw)];split
  . rfl
  . have:x≠n:=by rintro rfl;exact h v TM
    simp [this]
theorem l5{kindOf:Str->Option NameKind}: ∀{P:List Str} {vs:List Value} {i:Nat} {m:Str->Option Value},P.Nodup->P[i]?=some x->vs[i]?=some v->kindOf x=some .local->
  bindL kindOf (P.zip vs) m x=some v
 | [],_,_,_,_,h,_,_=>by simp at h
 | _::_,[],_,_,_,_,h,_=>by simp at h
 | p::P,w::vs,0,m,nd,h1,h2,hk=>by
  simp at h1 h2;subst h1;subst h2;show bindL kindOf ((p,w)::P.zip vs) m p=_;unfold bindL;rw[l4 fun v hv=>(UY.mp nd).1 (List.of_mem_zip hv).1,if_pos hk];simp
 | p::P,w::vs,i+1,m,nd,h1,h2,hk=>by
  show bindL kindOf ((p,w)::P.zip vs) m x=_;unfold bindL;exact l5 (i:=i) (UY.mp nd).2 (by simpa using h1) (by simpa using h2) hk
theorem l9{kindOf:Str->Option NameKind}: ∀{P:List Str} {vs:List Value} {i:Nat} {m:Str->Option Value},P.Nodup->P[i]?=some x->vs[i]?=some v->kindOf x≠some .local->
  bindC kindOf (P.zip vs) m x=some v
 | [],_,_,_,_,h,_,_=>by simp at h
 | _::_,[],_,_,_,_,h,_=>by simp at h
 | p::P,w::vs,0,m,nd,h1,h2,hk=>by
  simp at h1 h2;subst h1;subst h2;show bindC kindOf ((p,w)::P.zip vs) m p=_;unfold bindC;rw[l7 fun v hv=>(UY.mp nd).1 (List.of_mem_zip hv).1,if_neg hk];simp
 | p::P,w::vs,i+1,m,nd,h1,h2,hk=>by
  show bindC kindOf ((p,w)::P.zip vs) m x=_;unfold bindC;exact l9 (i:=i) (UY.mp nd).2 (by simpa using h1) (by simpa using h2) hk
noncomputable def start(N:List Str)(vs:List V):St:=vs.map some++List.replicate (N.length - vs.length) none
noncomputable def kz(CX:CW)(P:Program)(w:World)(K:PySem.W.Frag)(mg:Str->Option Value)(base:Heap)(N:List Str)(qual:Str)(scope:Scope)(f:Addr)(cd:Value)(A:Around)(outer:List Env)(s:Shared)(H:Hp)(E:XK):Cx where
 prog:=P
 w:=w
 K:=K
 mg:=mg
 base:=base
 A:=A.deeper (envOfC qual scope s.heap.objs.size f cd)
 N:=N
 s₀:=s
 H₀:=H
 env:=envOfC qual scope s.heap.objs.size f cd
 outer:=outer
 stack:=envOfC qual scope s.heap.objs.size f cd::outer
 ex:= []
 calm:=true
 fn:=fun _=>true
 pn:= []
 xe:=fun e s'=>wpAny (model P w) (A.deeper (envOfC qual scope s.heap.objs.size f cd)) (leaving (envOfC qual scope s.heap.objs.size f cd) e) (fun _ Dp=>CX outer H s E e Dp) (fun e' Dp=>CX outer H s E e' Dp) s'
theorem gZ{sc:Scope}(h:sc.names.lookup x=some .cell): ∃c,(cellsFrom n sc.names []).lookup x=some c:=by
 have q:=PySem.W.cellsFrom_some sc.names n [] (.inl h);exact Option.isSome_iff_exists.mp q
theorem uF{CX:CW}{P:Program}{w:World}{K:PySem.W.Frag}{A:Around}{vs:List V}(S:aE N ps scope)(hd:A.handled=none)(e0:BN P w K mg base A outer s H)(hl:vs.length=ps.length)(r:Vals vs us)(x:InCallC s s.heap.objs.size (bindL (envOfC qual scope s.heap.objs.size f cd).kindOf (ps.zip us) fun _=>none) (cellsFrom (s.heap.objs.size+1) scope.names []) (bindC (envOfC qual scope s.heap.objs.size f cd).kindOf (ps.zip us) fun _=>none) s1):
  Inv (kz CX P w K mg base N qual scope f cd A outer s H E) [] (start N vs) H s1:=by
 have cv:ps.length<=N.length:=by have:=UI List.length S.pre;rw[US] at this;lia
 obtain⟨h1,tk,rfl,hk⟩:=x.done;have HG: ∀b:Addr,b∉(kz CX P w K mg base N qual scope f cd A outer s H E).ex:=fun b z=>absurd (show b∈([]:List Addr) from z) (by simp);refine⟨⟨e0.mod,S.kind,rfl,rfl,SD _,fun y z c h1 h2=>?_,fun y hy=>?_,fun y c _ h=>?_,fun _=>hd,Around.frames_deeper e0.frames, .inr ⟨rfl,rfl⟩,fun b z=>absurd z (HG b),e0.bs,e0.CO,fun b _ _=>HG b,fun b z=>absurd z (HG b),e0.jP,e0.Gm⟩,
  rfl,e0.bare,Un.kept hk,⟨_,x.toInCall.ns,fun i y v h1 h2 h3=>?_⟩,fun y c h=>⟨_,x.cell y c h⟩,e0.aO.fresh (SD _),fun y c h=>?_,fun p hp=>absurd (show p∈([]:List (Addr × Obj)) from hp) (by simp),e0.aO.kept hk,?_⟩
 . exact name_of_addr x.apart (TU h1) (TU h2)
 . have hy:scope.names.lookup y=some .cell\/scope.names.lookup y=some .free:=hy;rcases hy with hy | hy
   . exact gZ hy
   . exact absurd rfl (S.Ee _ (TU hy))
 . exact T5 (x.above y c (TU h))
 . have hi : i < vs.length := by
     unfold start at h2;by_cases hi:i < vs.length
     . exact hi
     . rw[Tc (by simpa using hi)] at h2;rw[S6] at h2;split at h2 <;> cases h2
   have ha:vs[i]?=some v:=by
    unfold start at h2;rw[SY (by simpa using hi),SX] at h2;cases e:vs[i]? with
    | none=>rw[e] at h2;cases h2
    | some a=>rw[e] at h2;cases h2;rfl
   obtain⟨u,hu,rv⟩:=r.get ha;have hp:ps[i]?=some y:=by
    rw[<-S.pre,UZ (by lia)];exact h1
   have N9:ps.Nodup:=by rw[<-S.pre];exact S.nd.sublist (Wa _ _)
   refine⟨u,rv,?_⟩;rcases S.par y (SW hp) with k | k
   . exact .inl ⟨k,l5 N9 hp hu k⟩
   . obtain⟨c,e⟩:=gZ (n:=s.heap.objs.size+1) k;refine .inr ⟨.inl k,c,e,?_⟩;have q:=x.cell y c e;rw[l9 N9 hp hu (by show scope.names.lookup y≠_;rw[k];decide)] at q;exact q
 . exact e0.aO.fresh (T5 (x.above y c (TU h)))
 . unfold start;show _=N.length;rw[SV,Sx,UC];lia
theorem IG {CX : CW} {P : Program} {w : World} {K : PySem.W.Frag} {mg : Str -> Option Value} {base : Heap} {k : Nat} {f : Addr} {name qual : Str} {params : Arguments} {body : List Stmt} {scope : Scope} {dV kV doc pm b5 ct oc : Value} (lk : K.lookup f = some ⟨oc, od, .func (PySem.W.fnOf name qual params body scope dV kV doc pm an b5 ct), DY⟩) (uN : PySem.W.codeIn K b5 qual = true) (S : aE N ps scope) (len : ∀ vs H Q E, sp vs H Q E -> vs.length = ps.length) (gR : ∀ (A : Around) (outer : List Env) (s : Shared) (H : Hp) (vs : List V) (Q : VK) (E : XK), bB k (A.deeper (envOfC qual scope s.heap.objs.size f b5)) -> sp vs H Q E ->
   ∃t,nM (kz CX P w K mg base N qual scope f b5 A outer s H E) body t/\t {nx:=fun _ H'=>Q .aI H',rt:=Q} (start N vs) H):
  aV P w K mg base CX (k+1) f (PySem.W.fnOf name qual params body scope dV kV doc pm an b5 ct) ps sp:=by
 refine⟨len,fun A outer s H args us vs Q E hr e0 hb r Cn=>?_⟩;have hl:=len _ _ _ _ Cn;have KX:K.In s.heap:=e0.mod.J7.keeps fun b o e=>(e0.bs b o e).1;have lim:s.heap.NoLimit:=e0.mod.nolimit.keeps fun b o e=>(e0.bs b o e).1;have Ik: ∀y∈ps.zip us,scope.names.lookup y.1=some .local\/(scope.names.lookup y.1=some .cell/\((cellsFrom (s.heap.objs.size+1) scope.names []).lookup y.1).isSome=true):=fun KL hy=>(by obtain⟨n,v⟩:=KL;exact(by
  rcases S.par n (List.of_mem_zip hy).1 with q | q
  . exact .inl q
  . exact .inr ⟨q,PySem.W.cellsFrom_some _ _ _ (.inl q)⟩))
 refine codeAny_call_function hr.depth (KX _ _ lk) rfl S.co S.gen rfl (PySem.W.codeRec_of KX uN) (hb _ _ _ _ ?_);refine wpAny_newFunctionEnv_cells S.kind Ik fun env he s1 x=>?_;subst he;refine⟨lim.keeps x.toInCall.keep,codeAny_func ?_⟩;obtain⟨t,ht,hq⟩:=gR A outer s H vs Q E (hr.deeper _) Cn;have I:Inv (kz CX P w K mg base N qual scope f b5 A outer s H E) [] (start N vs) H s1:=uF S hr.hd e0 hl r x;refine To (ht [] s1 (start N vs) H _ I hq) (fun fl s' hs=>?_) fun e s' hs=>hs;have fin: ∀{σ':St} {H':Hp} {v:V} {u:Value},Inv (kz CX P w K mg base N qual scope f b5 A outer s H E) [] σ' H' s'->RelV v u->Q v H'->CE outer P w H s Q u s':=
  fun{σ' H' v u} J rv q=>⟨v,H',J.os,J.bare,J.base,J.aO,rv,q⟩
 cases fl with
 | ret u=>
  obtain⟨v,σ',H',J,rv,q⟩:=hs;exact fin J rv q
 | next=>
  obtain⟨σ',H',J,q⟩:=hs;exact fin (v:=V.aI) (u:=Value.none) J rfl q
 | brk=>
  obtain⟨_,_,_,q⟩:=hs;exact False.elim q
 | cont=>
  obtain⟨_,_,_,q⟩:=hs;exact False.elim q
section
variable {X : Cx} {x : Str} {p pos : Pos} {e : Expr} {es : List Expr} {t : TA} {id T : String} {r : List V -> Hp -> VK -> Prop}
def Lq(r:List V->Hp->VK->Prop)(t:TA):TE:=fun σ H Q=>t σ H fun vs H1=>r vs H1 Q
theorem cK(hc:cq X (.builtin id) r)(hg:Gl X x)(hm:X.mg x=none)(hv:bootBuiltins x=some (.builtin id))(ha:PA X (e::es) t)(hn:x≠"__name__":=by decide)(jI:(x==("__debug__":Str))=false:=by decide)
  (he:starEach (e::es) X.env=(false,eval e X.env)::starEach es X.env:=by rfl) (cv:(backTo pos (starEach es X.env)).any (·.1)=false:=by rfl):PE X (.Call (.Name x p) (e::es) [] pos) (Lq r t):=by
 intro pins s σ H Q I h;refine UT (cN I hg hm hv ?_ hn jI);exact PyProof.Rows.callWith_builtin1 (aG (ha pos pins s σ H _ I h) fun us s1 KJ=>(by obtain⟨vs,H1,I1,r1,q1⟩:=KJ;exact(hc pins s1 σ H1 vs us Q I1 r1 q1))) he cv
theorem fK(hc:cq X (.type T) r)(hg:Gl X x)(hm:X.mg x=none)(hv:bootBuiltins x=some (.type T))(ha:PA X (e::es) t)(hn:x≠"__name__":=by decide)(jI:(x==("__debug__":Str))=false:=by decide)
  (he:starEach (e::es) X.env=(false,eval e X.env)::starEach es X.env:=by rfl) (cv:(backTo pos (starEach es X.env)).any (·.1)=false:=by rfl):PE X (.Call (.Name x p) (e::es) [] pos) (Lq r t):=by
 intro pins s σ H Q I h;refine UT (cN I hg hm hv ?_ hn jI);exact UL (aG (ha pos pins s σ H _ I h) fun us s1 KI=>(by obtain⟨vs,H1,I1,r1,q1⟩:=KI;exact(hc pins s1 σ H1 vs us Q I1 r1 q1))) he cv
end
end L2
namespace HT
open PySem PyProof.Rows
section
variable {prog : Program} {w : World} {A : Around} {E : Value -> Shared -> Prop} {s : Shared}
theorem BF{vs ws:List Value}(ht:IsTup s.heap t vs.toArray)(hb:IsTup s.heap b ws.toArray)(hv:vs≠ [])(h1:ws= []->Q (.ref t) s)(h2:ws≠ []->Q (.ref s.heap.objs.size) {s with heap:=s.heap.push {cls:= .type "tuple",data:= .seq (vs++ws).toArray}})(hsz:vs.length+ws.length<=sizeLine):wpAny (model prog w) A (binaryOp .Add (.ref t) (.ref b)) Q E s:=by
 obtain⟨⟨cls,dd,data,sl⟩,ho,hc,n,hd⟩:=id ht;obtain⟨⟨Rb,OM,data2,NV⟩,J9,Kg,n2,hd2⟩:=id hb;simp only at hc hd Kg hd2;subst hc hd Kg hd2;have e:vs.toArray++ws.toArray=(vs++ws).toArray:=by simp
 by_cases hw:ws= []
 . exact concat_meets ⟨_, ho, rfl⟩ ⟨_, J9, rfl⟩ noFill_tuple_add seq_tuple_add PySem.F.slot_tuple_add V8 (V3 _ _)
     (tuple_addW1 t b vs.toArray ws.toArray n n2 dd OM sl NV (by simpa using hv) (by simp [hw])) ⟨ho,J9,h1 hw⟩
 . refine concat_meets ⟨_, ho, rfl⟩ ⟨_, J9, rfl⟩ noFill_tuple_add seq_tuple_add PySem.F.slot_tuple_add V8 (V3 _ _)
     (tuple_addW2 t b vs.toArray ws.toArray n n2 dd OM sl NV (by simpa using hv) (by simpa using hw) (by rw[SK,SK];exact hsz)) ⟨ho,J9,?_⟩
   rw[e];exact h2 hw
noncomputable def oE(n d:Nat):Option Int->Nat
 | none=>d
 | some v=>if v < 0 then(v+(n:Int)).toNat else min v.toNat n
theorem wQ(n d:Nat):oE n d none=d:=rfl
theorem Ao(n d k:Nat):oE n d (some (k:Int))=min k n:=by
 show(if (k:Int) < 0 then((k:Int)+(n:Int)).toNat else min (k:Int).toNat n)=min k n;rw[if_neg (by lia),Tp]
end
end HT
namespace L2
open PySem PySem.Spec PyProof.Rows
abbrev TO:=St->Hp->(Option Int->Hp->Prop)->Prop
def PO(X:Cx)(e:Option Expr)(t:TO):Prop:=
 ∀(pins:List (Addr × Obj)) (s:Shared) (σ:St) (H:Hp) (Q:Option Int->Hp->Prop),Inv X pins σ H s->t σ H Q->
  wpAny (model X.prog X.w) X.A (evalPart e X.env) (fun u s'=> ∃o H',Inv X pins σ H' s'/\IsPart u o/\Q o H') X.xe s
def Ab:TO:=fun _ H Q=>Q none H
def GO(t:TE):TO:=fun σ H Q=>t σ H fun x H1=> ∃i,x= .int i/\Q (some i) H1
section
variable {X : Cx} {e : Expr} {te : TE} {lo hi : Option Expr} {tl th : TO} {pos p2 : Pos}
theorem AD:PO X none Ab:=by
 intro pins s σ H Q I h;rw[evalPart_none];exact SA ⟨none,H,I, .none,h⟩
theorem AB(h:PE X e te):PO X (some e) (GO te):=by
 intro pins s σ H Q I hw;rw[evalPart_some];refine aG (h pins s σ H _ I hw) fun u s1 KH=>?_;obtain⟨x,H1,I1,r1,q1⟩:=KH;obtain⟨i,rfl,q⟩:=q1;obtain⟨t,rfl⟩:=r1;exact⟨some i,H1,I1, .int i t,q⟩
def nK(X:Cx)(r:V->Option Int->Option Int->Hp->VK->Prop):Prop:=
 ∀(pins:List (Addr × Obj)) (s:Shared) (σ:St) (H:Hp) (x:V) (v vl vu:Value) (lo hi:Option Int) (sl:Addr) (Q:VK),Inv X pins σ H s->RelV x v->s.heap.IsSliceOf sl vl vu .none->IsPart vl lo->IsPart vu hi->r x lo hi H Q->
  ∃T id,typeLookup (.type T) "__getitem__"=pure (some (.builtin id))/\s.TypeIs v T/\wpAny (model X.prog X.w) X.A (getItem v (.ref sl)) (EP X pins σ Q) X.xe s
def PD(r:V->Option Int->Option Int->Hp->VK->Prop)(te:TE)(tl th:TO):TE:=fun σ H Q=>te σ H fun x H1=>tl σ H1 fun l H2=>th σ H2 fun u H3=>r x l u H3 Q
theorem xg(hr:nK X r)(he:PE X e te)(hl:PO X lo tl)(hu:PO X hi th):PE X (.Subscript e (.Slice lo hi none p2) pos) (PD r te tl th):=by
 intro pins s σ H Q I h;refine Subscript_ (aG (he pins s σ H _ I h) fun v s1 KG=>?_);obtain⟨x,H1,I1,r1,q1⟩:=KG;refine wpAny_Slice (aG (hl pins s1 σ H1 _ I1 q1) fun vl s2 ⟨l,H2,I2,pl,q2⟩=>aG (hu pins s2 σ H2 _ I2 q2) fun vu s3 KD=>?_);obtain⟨u,H3,I3,pu,q3⟩:=KD;rw[evalPart_none];refine SA ?_;have I4:Inv X pins σ H3 {s3 with heap:=s3.heap.push {cls:= .type "slice",data:= .fields #[vl,vu, .none]}}:=I3.kept (t':=s3.toks) fun b ob q=>Sz _ q;obtain⟨T,id,hT,ht,hg⟩:=hr pins {s3 with heap:=s3.heap.push {cls:= .type "slice",data:= .fields #[vl,vu, .none]}} σ H3 x v vl vu l u s3.heap.objs.size Q I4 r1 (Heap.IsSliceOf.new ..) pl pu q3;show wpAny (model X.prog X.w) X.A (subscriptTail e (.Slice lo hi none p2) v (.ref s3.heap.objs.size)) (EP X pins σ Q) X.xe {s3 with heap:=s3.heap.push {cls:= .type "slice",data:= .fields #[vl,vu, .none]}};exact tail_any (ops:= [.ref s3.heap.objs.size,v]) ht hT hg (by with_unfolding_all rfl)
noncomputable def u9(xs:List V)(lo hi:Option Int):List V:=(xs.drop (HT.oE xs.length 0 lo)).take (HT.oE xs.length xs.length hi - HT.oE xs.length 0 lo)
theorem pG(xs:List V)(lo hi:Option Int):(u9 xs lo hi).length<=xs.length:=by
 unfold u9;rw[US,List.length_drop];lia
theorem Vals.sA(r:Vals xs us):us= []↔xs= []:=by
 cases r with
 | nil=>simp
 | cons _ _=>simp
end
noncomputable def zP(n:Nat)(i:Int):Option Nat:=if 0<=i then(if i < n then some i.toNat else none) else if -(n:Int)<=i then some (i+n).toNat else none
noncomputable def vy{α:Type}(xs:List α)(i:Int):Option α:=(zP xs.length i).bind fun j=>xs[j]?
theorem sM(h:zP n i=some j):seqIndex? i n=some j/\j < n/\ -(n:Int)<=i/\i < n:=by
 unfold zP at h;by_cases h0:0<=i
 . rw[if_pos h0] at h;by_cases h1:i < n
   . rw[if_pos h1] at h;have e:i.toNat=j:=Option.some.inj h;exact⟨by rw[seqIndex_of h0 h1,e],by lia,by lia,h1⟩
   . rw[if_neg h1] at h;cases h
 . rw[if_neg h0] at h;by_cases h1: -(n:Int)<=i
   . rw[if_pos h1] at h;have e:(i+n).toNat=j:=Option.some.inj h;exact⟨by rw[seqIndex_neg (by lia) h1,e],by lia,h1,by lia⟩
   . rw[if_neg h1] at h;cases h
theorem nH(h:vy xs i=some v): ∃j,seqIndex? i xs.length=some j/\xs[j]?=some v/\j < xs.length/\ -(xs.length:Int)<=i/\i < xs.length:=by
 unfold vy at h;cases e:zP xs.length i with
 | none=>rw[e] at h;cases h
 | some j=>
  rw[e] at h;obtain⟨h1,h2,h3,h4⟩:=sM e;exact⟨j,h1,h,h2,h3,h4⟩
theorem tH{j:Nat}(h:xs[j]?=some v):vy xs (j:Int)=some v:=by
 have hj:j < xs.length:=(SM.mp h).1;have e:zP xs.length (j:Int)=some j:=by
  unfold zP;rw[if_pos (by lia),if_pos (by lia)];simp
 unfold vy;rw[e];exact h
def tL(b:Expr):Prop:= ∀o i,subscripted b false o i=operate [o,i] (getItem o i)
def BM(X:Cx)(r:R2):Prop:=
 ∀(value slice:Expr) (pins:List (Addr × Obj)) (s:Shared) (σ:St) (H:Hp) (x y:V) (v u:Value) (Q:VK),Inv X pins σ H s->RelV x v->RelV y u->r x y H Q->
  subscripted slice false v u=operate [v,u] (getItem v u)->wpAny (model X.prog X.w) X.A (subscriptTail value slice v u) (EP X pins σ Q) X.xe s
def NJ(X:Cx)(id:String)(r:V->List V->Hp->VK->Prop):Prop:=
 ∀(pins:List (Addr × Obj)) (s:Shared) (σ:St) (H:Hp) (x:V) (xs:List V) (v:Value) (us:List Value) (Q:VK),Inv X pins σ H s->RelV x v->Vals xs us->r x xs H Q->
  wpAny (model X.prog X.w) X.A (call (.builtin id) (v::us)) (EP X pins σ Q) X.xe s
section
variable {X : Cx} {a b : Expr} {ta tb : TE} {pos : Pos}
theorem BM.or(h:BM X r)(h':BM X r'):BM X (fun x y H Q=>r x y H Q\/r' x y H Q):=by
 intro value slice pins s σ H x y v u Q I rx ry q hs;rcases q with q | q
 . exact h value slice pins s σ H x y v u Q I rx ry q hs
 . exact h' value slice pins s σ H x y v u Q I rx ry q hs
theorem B8(hr:BM X r)(ha:PE X a ta)(hb:PE X b tb)(hs:tL b):PE X (.Subscript a b pos) (F5 r ta tb):=by
 intro pins s σ H Q I h;exact Subscript_ (FK ha hb I h fun v u s2 x y H2 I2 rx ry q=>hr a b pins s2 σ H2 x y v u Q I2 rx ry q (hs _ _))
def He(K:PySem.W.Frag):R2:=fun x y H Q=> ∃p xs i v,x= .ref p/\y= .int i/\cf K H p xs/\vy xs i=some v/\Q v H
def Hc(K:PySem.W.Frag):R2:=fun x y H Q=> ∃p xs i v,x= .ref p/\y= .int i/\cS K H p xs/\vy xs i=some v/\Q v H
def Hd:R2:=fun x y H Q=> ∃z i c,x= .str z/\y= .int i/\z.length<=sizeLine/\vy z.cps.toList i=some c/\Q (.str ⟨#[c]⟩) H
theorem sL:BM X (He X.K):=by
 intro value slice pins s σ H x y v u Q I rx ry h hs;obtain⟨p,xs,i,z,rfl,rfl,hq,he,q⟩:=h;cases rx;obtain⟨t,rfl⟩:=ry;obtain⟨af,r,pl,hz⟩:=I.list hq;obtain⟨j,h1,h2,h3,h4,h5⟩:=nH he;obtain⟨w,ew,pU⟩:=r.get h2;have hl:=r.length;have hn:=jD;have fin:EP X pins σ Q w s:=⟨z,H,I,pU,q⟩
 by_cases h0:0<=i
 . have hj : i.toNat = j := by
     rw[seqIndex_of h0 h5] at h1;exact Option.some.inj h1
   exact item_listR pl.isList h0 (by lia) (by rw[hj];simpa using ew) fin hs
 . have hj : (i + (af.toArray.size : Int)).toNat = j := by
     rw[seqIndex_neg (by lia) h4] at h1;rw[SK,<-hl];exact Option.some.inj h1
   exact subscriptTail_builtinR (x:=w) pl.isList.typeIs slot_list_getitem.lookup
    (wpAny_getItem_list_neg (Q:=fun r s'=>r=w/\EP X pins σ Q r s') pl.isList (by lia) (by rw[SK] <;> lia) (by lia) (by rw[hj];simpa using ew) ⟨rfl,fin⟩) hs
theorem Es:BM X (Hc X.K):=by
 intro value slice pins s σ H x y v u Q I rx ry h hs;obtain⟨p,xs,i,z,rfl,rfl,hq,he,q⟩:=h;cases rx;obtain⟨t,rfl⟩:=ry;obtain⟨af,r,pl,hz⟩:=I.tuple hq;obtain⟨j,h1,h2,h3,h4,h5⟩:=nH he;obtain⟨w,ew,pU⟩:=r.get h2;have hl:=r.length;have hn:=jD;have fin:EP X pins σ Q w s:=⟨z,H,I,pU,q⟩
 exact subscriptTail_builtinR (x:=w) pl.typeIs slot_tuple_getitem.lookup
  (getItem_tuple (j:=j) (Q:=fun r s'=>r=w/\EP X pins σ Q r s') pl (by lia) (by lia) (by rw[SK,<-hl];exact h1) (by simpa using ew) ⟨rfl,fin⟩) hs
theorem Et:BM X Hd:=by
 intro value slice pins s σ H x y v u Q I rx ry h hs;obtain⟨z,i,c,rfl,rfl,hz,he,q⟩:=h;obtain⟨t,rfl⟩:=rx;obtain⟨t',rfl⟩:=ry;obtain⟨j,h1,h2,h3,h4,h5⟩:=nH he;have hl:z.cps.toList.length=z.length:=by simp [Str.length]
 rw[hl] at h1 h4 h5;have hn:=jD;exact tail_any (typeIs_str s z t) slot_str_getitem.lookup (getItem_str (c:=c) (by
  have e1:decide (i < -(2^63:Int))=false:=S9 (by lia);have e2:decide (i>=2^63)=false:=S9 (by lia);rw[e1,e2,Bool.or_false]) (by rw[h1];simpa using h2) ⟨.str ⟨#[c]⟩,H,I.tok _,⟨_,rfl⟩,q⟩) hs
def NY(K:PySem.W.Frag):R2:=fun x y H Q=>He K x y H Q\/Hc K x y H Q\/Hd x y H Q
theorem Eu:BM X (NY X.K):=sL.or (Es.or Et)
theorem qC(af:List Value)(n j:Nat)(u:Value):Obj.mapSeq (·.setIfInBounds j u) {cls:= .type "list",data:= .seq af.toArray n}={cls:= .type "list",data:= .seq (af.set j u).toArray n}:=by
 simp [Obj.mapSeq]
theorem Inv.lst{pins:List (Addr × Obj)}{σ:St}{H:Hp}{s:Shared}{p:Addr}{xs:List V}(I:Inv X pins σ H s)(h:H p=some (.lst xs)):
  ∃(af:List Value) (n:Nat),Vals xs af/\s.heap.get? p=some {cls:= .type "list",data:= .seq af.toArray n}/\xs.length<=sizeLine:=by
 obtain⟨z,af,n,r,e⟩:=I.aO p _ h;exact⟨af,n,r,e,z⟩
theorem Inv.Ei{af its':List Value}(I:Inv X pins σ H s)(h:H p=some (.lst xs))(ho:s.heap.get? p=some {cls:= .type "list",data:= .seq af.toArray n})(hf:f {cls:= .type "list",data:= .seq af.toArray n}={cls:= .type "list",data:= .seq its'.toArray n'})(r:Vals ys its')(hz:ys.length<=sizeLine)(t:Nat):
  Inv X pins σ (upd H p (.lst ys)) {s with heap:=s.heap.update p f,toks:=t}:=by
 have e:(s.heap.update p f).get? p=some {cls:= .type "list",data:= .seq its'.toArray n'}:=by
  rw[TR f ho (by rw[hf] <;> rfl),hf]
 refine I.write (x:=p) (e:=p) (by rw[h];trivial) (.inl rfl) (fun b u hb q=>(Heap.get?_update_other _ _ (Ne.symm hb)).trans q) ⟨_,e⟩ ?_;exact⟨hz,its',n',r,e⟩
def Ha:V->V->V->Hp->(Hp->Prop)->Prop:=fun o i v H Q=> ∃p xs k j,o= .ref p/\i= .int k/\H p=some (.lst xs)/\zP xs.length k=some j/\Q (upd H p (.lst (xs.set j v)))
theorem set_list:Jy X Ha:=by
 intro pins s σ H o i v ov iv u Q I ro ri rv h;obtain⟨p,xs,k,j,rfl,rfl,hp,hj,q⟩:=h;cases ro;obtain⟨t,rfl⟩:=ri;obtain⟨af,n,r,ho,hz⟩:=I.lst hp;obtain⟨h1,h2,h3,h4⟩:=sM hj;have hl:=r.length;have hn:=jD;have I':Inv X pins σ (upd H p (.lst (xs.set j v))) {s with heap:=s.heap.update p (Obj.mapSeq (·.setIfInBounds j u))}:=
  I.Ei hp ho (qC af n j u) (r.set rv j) (by rw[Te];exact hz) s.toks
 by_cases h0:0<=k
 . have hk : k.toNat = j := by
     rw[seqIndex_of h0 h4] at h1;exact Option.some.inj h1
   exact PySem.W.ki_setAt ho h0 (by lia) (by rw[SK,<-hl];exact h4) (by rw[hk];exact⟨_,I',q⟩)
 . have hk : (k + (af.toArray.size : Int)).toNat = j := by
     rw[seqIndex_neg (by lia) h3] at h1;rw[SK,<-hl];exact Option.some.inj h1
   exact PySem.W.ki_setBack ho (by lia) (by rw[SK,<-hl];exact h3) (by lia) (by rw[hk];exact⟨_,I',q⟩)
theorem mH(lo hi:Option Int)(n:Nat):(sliceBounds lo hi none n).1=((HT.oE n 0 lo:Nat):Int)/\(sliceBounds lo hi none n).2.1=((HT.oE n n hi:Nat):Int)/\(sliceBounds lo hi none n).2.2=1:=by
 refine⟨?_,?_,rfl⟩
 . cases lo with
   | none=>simp [sliceBounds,HT.oE]
   | some i=>
    simp only [sliceBounds,HT.oE,Option.getD_none,show(1:Int) > 0 by decide,VP];by_cases h:i < 0
    . simp only [h,VP] <;> lia
    . simp only [h,if_false] <;> lia
 . cases hi with
   | none=>simp [sliceBounds,HT.oE]
   | some i=>
    simp only [sliceBounds,HT.oE,Option.getD_none,show(1:Int) > 0 by decide,VP];by_cases h:i < 0
    . simp only [h,VP] <;> lia
    . simp only [h,if_false] <;> lia
theorem ki(af:List Value)(lo hi:Option Int):slicePick af.toArray lo hi none=((af.drop (HT.oE af.length 0 lo)).take (HT.oE af.length af.length hi - HT.oE af.length 0 lo)).toArray:=by
 obtain⟨h1,h2,h3⟩:=mH lo hi af.toArray.size;unfold slicePick;rw[h1,h2,h3];simp only [sliceRange_one,pick_run,SK] <;> rfl
def Lz(K:PySem.W.Frag):V->Option Int->Option Int->Hp->VK->Prop:=fun x lo hi H Q=> ∃a xs,x= .ref a/\cf K H a xs/\ ∀p,H p=none->Q (.ref p) (upd H p (.lst (u9 xs lo hi)))
theorem Ae:nK X (Lz X.K):=by
 intro pins s σ H x v vl vu lo hi sl Q I rx hs pl pu h;obtain⟨a,xs,rfl,hx,q⟩:=h;cases rx;obtain⟨af,r,ht,hz⟩:=I.list hx;have hlen:=r.length;refine⟨"list",_,slot_list_getitem.lookup,ht.isList.typeIs,?_⟩;refine wpAny_getItem_list_slice ht.isList hs pl pu .none (by simp) ?_ (by rw[SK] <;> lia);rw[ki,<-hlen];refine⟨.ref s.heap.objs.size,_,I.laid (t':=s.toks) (o:= .lst (u9 xs lo hi)) (fun b ob q=>Sz _ q) (SD _) ?_,rfl,q _ (I.aO.fresh (SD _))⟩;exact⟨S4 (pG xs lo hi) hz,_,0,(r.drop (HT.oE xs.length 0 lo)).take (HT.oE xs.length xs.length hi - HT.oE xs.length 0 lo),SI _ rfl⟩
noncomputable def bX:V->Bool
 | .aI=>true
 | .bl _=>true
 | .int _=>true
 | .str _=>true
 | _=>false
noncomputable def kq:V->V->Bool
 | .aI, .aI=>true
 | .bl a, .bl b=>a==b
 | .bl a, .int b=>(if a then 1 else 0)==b
 | .int a, .bl b=>a==(if b then 1 else 0)
 | .int a, .int b=>a==b
 | .str a, .str b=>a==b
 | _,_=>false
theorem qR(ry:RelV y u)(rx:RelV x v)(fy:bX y=true)(fx:bX x=true):SeqAt.EqAt A s u v (kq y x):=by
 cases y with
 | aI=>
  cases ry;cases x with
  | aI=>cases rx;exact SeqAt.EqAt.same _
  | bl b=>cases rx;exact SeqAt.EqAt.none_bool b
  | int b=>obtain⟨t,rfl⟩:=rx;exact SeqAt.EqAt.none_int b t
  | str b=>obtain⟨t,rfl⟩:=rx;exact SeqAt.EqAt.none_str b t
  | _=>exact absurd (show false=true from fx) SG
 | bl a=>
  cases ry;cases x with
  | aI=>cases rx;exact SeqAt.EqAt.bool_none a
  | bl b=>cases rx;exact SeqAt.EqAt.bool_bool a b
  | int b=>obtain⟨t,rfl⟩:=rx;exact SeqAt.EqAt.bool_int a b t
  | str b=>obtain⟨t,rfl⟩:=rx;exact SeqAt.EqAt.bool_str a b t
  | _=>exact absurd (show false=true from fx) SG
 | int a=>
  obtain⟨t',rfl⟩:=ry;cases x with
  | aI=>cases rx;exact SeqAt.EqAt.int_none a t'
  | bl b=>cases rx;exact SeqAt.EqAt.int_bool a t' b
  | int b=>obtain⟨t,rfl⟩:=rx;exact SeqAt.EqAt.int_int a t' b t
  | str b=>obtain⟨t,rfl⟩:=rx;exact SeqAt.EqAt.int_str a t' b t
  | _=>exact absurd (show false=true from fx) SG
 | str a=>
  obtain⟨t',rfl⟩:=ry;cases x with
  | aI=>cases rx;exact SeqAt.EqAt.str_none a t'
  | bl b=>cases rx;exact SeqAt.EqAt.str_bool a t' b
  | int b=>obtain⟨t,rfl⟩:=rx;exact SeqAt.EqAt.str_int a t' b t
  | str b=>obtain⟨t,rfl⟩:=rx;exact SeqAt.EqAt.str_str a t' b t
  | _=>exact absurd (show false=true from fx) SG
 | _=>exact absurd (show false=true from fy) SG
noncomputable def Bm(x:V)(u:Value):Bool:=match u with
 | .none=>kq .aI x
 | .bool b=>kq (.bl b) x
 | .int i _=>kq (.int i) x
 | .str z _=>kq (.str z) x
 | _=>false
theorem yz(r:RelV y u)(f:bX y=true):Bm x u=kq y x:=by
 cases y with
 | aI=>cases r;rfl
 | bl b=>cases r;rfl
 | int i=>obtain⟨t,rfl⟩:=r;rfl
 | str z=>obtain⟨t,rfl⟩:=r;rfl
 | _=>exact absurd (show false=true from f) SG
theorem nI: ∀{xs:List V} {us:List Value},Vals xs us->xs.all bX=true->us.any (Bm x)=xs.any fun y=>kq y x
 | _,_, .nil,_=>rfl
 | y::xs,u::us, .cons r t,f=>by
  rw[List.all_cons,T9] at f;rw[Ve,Ve,yz r f.1,nI t f.2]
theorem jz(rx:RelV x v)(fx:bX x=true): ∀{xs:List V} {us:List Value},Vals xs us->xs.all bX=true-> ∀u∈us,SeqAt.EqAt A s u v (Bm x u)
 | _,_, .nil,_=>fun u hu=>by cases hu
 | y::xs,u::us, .cons r t,f=>fun u' hu=>by
  rw[List.all_cons,T9] at f;rcases Tg.mp hu with rfl | hu
  . rw[yz r f.1];exact qR r rx f.1 fx
  . exact jz rx fx t f.2 u' hu
noncomputable def Gd(x:V)(xs:List V):Bool:=xs.any fun y=>kq y x
def NZ(K:PySem.W.Frag)(neg:Bool):R2:=fun x y H Q=> ∃p xs,y= .ref p/\(cf K H p xs\/cS K H p xs)/\bX x=true/\xs.all bX=true/\Q (.bl (if neg then !Gd x xs else Gd x xs)) H
theorem mR:eS X (compareOp .NotIn) (NZ X.K true):=by
 intro pins s σ H x y v u Q I rx ry h;obtain⟨p,xs,rfl,hq,fx,fs,q⟩:=h;cases ry;rcases hq with hq | hq
 . obtain⟨af,r,pl,hz⟩:=I.list hq;refine SeqAt.notIn_listAt (Bm x) pl.isList (fun w hw=>jz rx fx r fs w (by simpa using hw)) ⟨.bl _,H,I,rfl,?_⟩;rw[show af.toArray.any (Bm x)=af.any (Bm x) by simp,nI r fs];exact q
 . obtain⟨af,r,pl,hz⟩:=I.tuple hq;refine SeqAt.notIn_tupleAt (Bm x) pl (fun w hw=>jz rx fx r fs w (by simpa using hw)) ⟨.bl _,H,I,rfl,?_⟩;rw[show af.toArray.any (Bm x)=af.any (Bm x) by simp,nI r fs];exact q
theorem eD:cq X (.builtin "len") (fun xs H Q=> ∃p ys,xs= [.ref p]/\(cf X.K H p ys\/cS X.K H p ys)/\Q (.int ys.length) H):=by
 intro pins s σ H xs us Q I r h;obtain⟨p,ys,rfl,hq,q⟩:=h;obtain⟨u,rfl,rx⟩:=vals1 r;cases rx;have hn:=jD;rcases hq with hq | hq
 . obtain⟨af,r',pl,hz⟩:=I.list hq;have hlen:=r'.length;exact Calls.call_len_list pl.isList (by simp only [SK] <;> lia) ⟨.int ys.length,H,I.tok _,⟨s.toks+1,by rw[SK,hlen]⟩,q⟩
 . obtain⟨af,r',pl,hz⟩:=I.tuple hq;have hlen:=r'.length;exact len_tuple pl (by simp only [SK] <;> lia) ⟨.int ys.length,H,I.tok _,⟨s.toks+1,by rw[SK,hlen]⟩,q⟩
theorem nC:cq X (.type "list") (fun xs H Q=> ∃p ys,xs= [.ref p]/\(cf X.K H p ys\/cS X.K H p ys)/\ ∀l,H l=none->Q (.ref l) (upd H l (.lst ys))):=by
 intro pins s σ H xs us Q I r h;obtain⟨p,ys,rfl,hq,q⟩:=h;obtain⟨u,rfl,rx⟩:=vals1 r;cases rx;have fin: ∀(af:List Value),Vals ys af->ys.length<=sizeLine-> ∀(h':Heap) (c':Nat),(∀b o',s.heap.get? b=some o'->h'.get? b=some o')->
   h'.get? s.heap.objs.size=some {cls:= .type "list",dict:=none,data:= .seq af.toArray c',slots:= #[]}->EP X pins σ Q (.ref s.heap.objs.size) {s with heap:=h'}:=fun af r' hz h' c' kp e=>
  ⟨.ref s.heap.objs.size,_,I.laid (t':=s.toks) kp (SD _) (show aQ X.prog X.w _ h' _ (.lst ys) from⟨hz,af,c',r',e⟩),rfl,q _ (I.aO.fresh (SD _))⟩
 rcases hq with hq | hq
 . obtain⟨af,r',pl,hz⟩:=I.list hq;have hlen:=r'.length;obtain⟨o,ho,hc,n,hd⟩:=pl.isList;exact call_list_seq p (.inl rfl) ho hc hd (fun h' c' kp e=>fin af r' hz h' c' kp e) (by simp only [SK] <;> lia)
 . obtain⟨af,r',pl,hz⟩:=I.tuple hq;have hlen:=r'.length;obtain⟨o,ho,hc,n,hd⟩:=pl;exact call_list_seq p (.inr rfl) ho hc hd (fun h' c' kp e=>fin af r' hz h' c' kp e) (by simp only [SK] <;> lia)
def Ld(K:PySem.W.Frag)(T:String)(x:V)(H:Hp):Prop:=match x with
 | .str _=>T="str"
 | .int _=>T="int"
 | .ref p=>(T="list"/\ ∃xs,cf K H p xs)\/(T="tuple"/\ ∃o,K.lookup p=some o/\o.cls= .type "tuple"/\o.dict=none)\/
   (T="dict"/\((∃aA,H p=some (.dK aA))\/ ∃aA,H p=some (.dT aA)))\/(T="set"/\ ∃S n,H p=some (.set S n))\/(T="tuple"/\ ∃xs,H p=some (.tup xs))
 | _=>False
theorem v7(I:Inv X pins σ H s)(r:RelV x v)(ty:Ld X.K T x H):
  s.TypeIs v T/\ ∀a,v= .ref a-> ∃ob,s.heap.get? a=some ob/\ob.dict=none:=by
 cases x with
 | str z=>
  obtain⟨t,rfl⟩:=r;cases (show T="str" from ty);exact⟨typeIs_str s z t,fun _ e=>nomatch e⟩
 | int i=>
  obtain⟨t,rfl⟩:=r;cases (show T="int" from ty);exact⟨typeIs_int s i t,fun _ e=>nomatch e⟩
 | ref p=>
  cases r;rcases ty with ⟨rfl,xs,hq⟩ | ⟨rfl,o,hk,hc,hd⟩ | ⟨rfl,hk⟩ | ⟨rfl,S,n,hk⟩ | ⟨rfl,xs,hk⟩
  . obtain⟨af,_,pl,_⟩:=I.list hq;refine⟨pl.isList.typeIs,fun a e=>?_⟩;cases e;obtain⟨o,n,e,c,hd,_⟩:=pl;exact⟨o,e,hd⟩
  . refine⟨⟨o,I.mX p o hk,hc⟩,fun a e=>?_⟩;cases e;exact⟨o,I.mX _ o hk,hd⟩
  . have z : ∃ o, s.heap.get? p = some o /\ o.ExactDict := by
      rcases hk with ⟨aA,hk⟩ | ⟨aA,hk⟩
      . obtain⟨_,_,_,_,o,_,_,e,ex,_⟩:=I.aO p _ hk;exact⟨o,e,ex⟩
      . obtain⟨_,_,_,_,o,_,_,e,ex,_⟩:=I.aO p _ hk;exact⟨o,e,ex⟩
    obtain⟨o,e,ex⟩:=z;refine⟨⟨o,e,ex.1⟩,fun a e2=>?_⟩;cases e2;exact⟨o,e,ex.2.1⟩
  . obtain⟨o,_,_,_,e,ex,_⟩:=I.aO p _ hk;refine⟨⟨o,e,ex.1⟩,fun a e2=>?_⟩;cases e2;exact⟨o,e,ex.2.1⟩
  . obtain⟨_,_,_,o,e,c,dn,_⟩:=(show aQ X.prog X.w H s.heap p (.tup xs) from I.aO p _ hk)
    refine⟨⟨o,e,c⟩,fun a e2=>?_⟩;cases e2;exact⟨o,e,dn⟩
 | _=>exact False.elim ty
def Lr(K:PySem.W.Frag)(T:String)(r:V->List V->Hp->VK->Prop)(to:TE):TE:=fun σ H Q=>to σ H fun x H1=>Ld K T x H1/\r x [] H1 Q
def NS(K:PySem.W.Frag)(T:String)(r:V->List V->Hp->VK->Prop)(to:TE)(t:TA):TE:=fun σ H Q=>to σ H fun x H1=>Ld K T x H1/\t σ H1 fun xs H2=>r x xs H2 Q
variable {o e : Expr} {es : List Expr} {to : TE} {t : TA} {name : Str} {apos ba : Pos} {T id : String} {r : V -> List V -> Hp -> VK -> Prop}
theorem DV(pa:PlainAttrs T)(slot:Slot T name id)(L7:typeOf (.builtin id)=pure (.type "method_descriptor"))(hm:NJ X id r)(ho:PE X o to)
  (dH:attributeBase o name X.env (eval o X.env)=eval o X.env:=by rfl) (dG:(apos.endLine==ba.line)=true:=by rfl):PE X (.Call (.Attribute o name apos) [] [] ba) (Lr X.K T r to):=by
 intro pins s σ H Q I h;refine wpAny_Call_method0_late dH dG (aG (ho pins s σ H _ I h) fun v s1 KC=>?_);obtain⟨x,H1,I1,r1,ty,q1⟩:=KC;obtain⟨h1,h2⟩:=v7 I1 r1 ty;exact⟨T,id,pa,slot,L7,h1,h2,Calls.callWith_builtin rfl (PySem.evalArgs_none (hm pins s1 σ H1 x [] v [] Q I1 r1 .nil q1))⟩
theorem si(pa:PlainAttrs T)(slot:Slot T name id)(L7:typeOf (.builtin id)=pure (.type "method_descriptor"))(hm:NJ X id r)(ho:PE X o to)(ha:PA X (e::es) t)
  (dH:attributeBase o name X.env (eval o X.env)=eval o X.env:=by rfl)
  (m7:((backTo ba (starEach (e::es) X.env)).all (fun x=>!x.1) && (backToKw ba (keywordEach [] X.env)).all (fun x=>x.1.isSome)
   && decide ((e::es).length+([]:List Keyword).length+(if ([]:List Keyword).isEmpty then 0 else 1) < 30))=true:=by rfl)
  (dG:(apos.endLine==ba.line)=true:=by rfl) (hs:starEach (e::es) X.env=(false,eval e X.env)::starEach es X.env:=by rfl) (eu:(backTo ba (starEach es X.env)).any (·.1)=false:=by rfl):
  PE X (.Call (.Attribute o name apos) (e::es) [] ba) (NS X.K T r to t):=by
 intro pins s σ H Q I h;refine wpAny_Call_method_late dH m7 dG rfl (aG (ho pins s σ H _ I h) fun v s1 KA=>?_);obtain⟨x,H1,I1,r1,ty,q1⟩:=KA;obtain⟨h1,h2⟩:=v7 I1 r1 ty;refine⟨T,id,pa,slot,L7,h1,h2,?_⟩;have hA:=ha ba pins s1 σ H1 _ I1 q1;rw[hs] at hA ⊢;refine Calls.callWith_builtin (by show(false || (backTo ba (starEach es X.env)).any (·.1))=false;rw[eu] <;> rfl) (Calls.evalArgs_plain ?_);exact aG hA fun us s2 Kz=>(by obtain⟨vs,H2,I2,r2,q2⟩:=Kz;exact(hm pins s2 σ H2 x vs v us Q I2 r1 r2 q2))
end
def Kt(X:Cx)(id:String)(r:V->List V->Hp->VK->Prop):Prop:=
 ∀(pins:List (Addr × Obj)) (s:Shared) (σ:St) (H:Hp) (x:V) (xs:List V) (v:Value) (us:List Value) (Q:VK),Inv X pins σ H s->RelV x v->Vals xs us->r x xs H Q->
  wpAny (model X.prog X.w) X.A (call (.builtin id) (v::us)) (EP X pins σ Q) X.xe s
theorem Vals.one: ∀{x:V} {us:List Value},Vals [x] us-> ∃u,us= [u]/\RelV x u
 | _,_, .cons r .nil=>⟨_,rfl,r⟩
theorem Vals.zero: ∀{us:List Value},Vals [] us->us= []
 | _, .nil=>rfl
theorem Vals.reverse(h:Vals xs us):Vals xs.reverse us.reverse:=by
 induction h with
 | nil=>exact .nil
 | cons r t ih=>rw[Wc,Wc];exact Vals.append ih (.cons r .nil)
theorem Vals.rep(h:Vals xs us): ∀k:Nat,Vals (List.replicate k xs).flatten (List.replicate k us).flatten
 | 0=> .nil
 | k+1=>by
  rw[U3,U3,T7,T7];exact Vals.append h (Vals.rep h k)
theorem foldl_rep(af:List Value): ∀(k:Nat) (acc:List Value),
  List.foldl (fun x1 x2=>x1++x2) acc.toArray (List.replicate k af.toArray)=(acc++(List.replicate k af).flatten).toArray
 | 0,acc=>by simp
 | k+1,acc=>by
  have e:acc.toArray++af.toArray=(acc++af).toArray:=by simp
  have e2:(acc++af)++(List.replicate k af).flatten=acc++(List.replicate (k+1) af).flatten:=by
   rw[U3,T7,Tz]
  rw[<-e2,<-foldl_rep af k (acc++af),<-e,U3,List.foldl_cons]
theorem Inv.Ej{af its':List Value}(I:Inv X pins σ H s)(hH:H l=some (.lst xs))(e:s.heap.get? l=some {cls:= .type "list",data:= .seq af.toArray n})(hf:f af.toArray=its'.toArray)(hv:Vals ys its')(hz:ys.length<=sizeLine):
  Inv X pins σ (upd H l (.lst ys)) {s with heap:=s.heap.update l (Obj.mapSeq f),toks:=t'}:=by
 have q:=PySem.IsL.update e f;rw[hf] at q;refine I.write (x:=l) (e:=l) (by rw[hH];exact trivial) (.inl rfl) (fun b' u hb hu=>(Heap.get?_update_other s.heap (Obj.mapSeq f) (Ne.symm hb)).trans hu) ⟨_,q⟩ ?_;exact⟨hz,its',_,hv,q⟩
theorem Inv.HM(I:Inv X pins σ H s)(hv:Vals ys af)(hz:ys.length<=sizeLine):
  Inv X pins σ (upd H s.heap.objs.size (.lst ys)) {s with heap:=s.heap.push {cls:= .type "list",data:= .seq af.toArray},toks:=t'}:=
 I.laid (fun _ _ q=>Sz _ q) (SD _) ⟨hz,af,0,hv,SI _ rfl⟩
theorem Inv.fresh(I:Inv X pins σ H s):H s.heap.objs.size=none:=I.aO.fresh (SD _)
theorem Inv.qD(I:Inv X pins σ H s)(hH:H l=some (.lst xs)):xs.length<=sizeLine/\ ∃(af:List Value) (n:Nat),Vals xs af/\xs.length=af.length/\s.heap.get? l=some {cls:= .type "list",data:= .seq af.toArray n}:=by
 obtain⟨z,af,n,r,e⟩:=I.aO l _ hH;exact⟨z,af,n,r,r.length,e⟩
theorem oK(h:n<=sizeLine):Builtin.List.listTooLong n=false:=by
 unfold Builtin.List.listTooLong;exact S9 (by lia)
section
variable {X : Cx}
def Au:V->List V->Hp->VK->Prop:=fun x vs H Q=> ∃l xs y,x= .ref l/\vs= [y]/\H l=some (.lst xs)/\xs.length < sizeLine/\Q .aI (upd H l (.lst (xs++ [y])))
theorem iu:Kt X "list.append" Au:=by
 intro pins s σ H x vs v us Q I rx rv h;obtain⟨l,xs,y,rfl,rfl,hH,hz,q⟩:=h;cases rx;obtain⟨u,rfl,ru⟩:=rv.one;obtain⟨z,af,n,r,hl,e⟩:=I.qD hH;refine V4 F.slot_list_append ⟨_,e,rfl⟩ F.entry_list_append (F.args_list_append_2 _ _) (PySem.list_append l af.toArray n u (by rw[SK];lia)) ⟨e,?_⟩;refine⟨.aI,_,I.Ej (its':=af++ [u]) hH e (by simp) (r.append (.cons ru .nil)) ?_,rfl,q⟩;rw[SV,VE];lia
def Ar:V->List V->Hp->VK->Prop:=fun x vs H Q=> ∃l b xs zs,x= .ref l/\vs= [.ref b]/\H l=some (.lst xs)/\H b=some (.lst zs)/\xs.length+zs.length<=sizeLine/\Q .aI (upd H l (.lst (xs++zs)))
theorem uz:Kt X "list.extend" Ar:=by
 intro pins s σ H x vs v us Q I rx rv h;obtain⟨l,b,xs,zs,rfl,rfl,hH,hB,hz,q⟩:=h;cases rx;obtain⟨u,rfl,ru⟩:=rv.one;cases ru;obtain⟨z,af,n,r,hl,e⟩:=I.qD hH;obtain⟨z2,bo,n2,r2,QF,e2⟩:=I.qD hB;have hsz:af.toArray.size+bo.toArray.size<=sizeLine:=by rw[SK,SK];lia
 have xX: ¬(!af.toArray.isEmpty && Builtin.List.listTooLong (af.toArray.size+bo.toArray.size))=true:=by
  rw[oK hsz,Bool.and_false];exact SG
 refine V4 F.slot_list_extend ⟨_,e,rfl⟩ F.entry_list_extend (F.args_list_extend_2 _ _)
  (AutoSeq1.list_extend_list_list_0 l af.toArray n b bo.toArray n2 xX (by rw[SK];lia) (by lia)) ⟨e,e2,?_⟩
 refine⟨.aI,_,I.Ej (its':=af++bo) hH e (by simp) (r.append r2) ?_,rfl,q⟩;rw[SV];lia
def wX:V->List V->Hp->VK->Prop:=fun x vs H Q=> ∃l xs,x= .ref l/\vs= []/\H l=some (.lst xs)/\Q .aI (upd H l (.lst xs.reverse))
theorem qz:Kt X "list.reverse" wX:=by
 intro pins s σ H x vs v us Q I rx rv h;obtain⟨l,xs,rfl,rfl,hH,q⟩:=h;cases rx;have Qn:=rv.zero;subst Qn;obtain⟨z,af,n,r,hl,e⟩:=I.qD hH;refine V4 F.slot_list_reverse ⟨_,e,rfl⟩ F.entry_list_reverse (F.args_list_reverse_1 _) (AutoSeq1.list_reverse_list_0 l af.toArray n (by rw[SK];lia)) ⟨e,?_⟩;refine⟨.aI,_,I.Ej (its':=af.reverse) hH e (by simp) r.reverse ?_,rfl,q⟩;rw[List.length_reverse];lia
def Hh:R2:=fun x y H Q=> ∃l b xs zs,x= .ref l/\y= .ref b/\H l=some (.lst xs)/\H b=some (.lst zs)/\xs.length+zs.length<=sizeLine/\ ∀p,H p=none->Q (.ref p) (upd H p (.lst (xs++zs)))
theorem D4:eS X (binaryOp .Add) Hh:=by
 intro pins s σ H x y v u Q I rx ry h;obtain⟨l,b,xs,zs,rfl,rfl,hH,hB,hz,q⟩:=h;cases rx;cases ry;obtain⟨z,af,n,r,hl,e⟩:=I.qD hH;obtain⟨z2,bo,n2,r2,QF,e2⟩:=I.qD hB;refine PySem.P.add_list e e2 ?_ (by rw[SK,SK];lia);have ea:af.toArray++bo.toArray=(af++bo).toArray:=by simp
 rw[ea];exact⟨.ref _,_,I.HM (t':=s.toks) (r.append r2) (by rw[SV];lia),rfl,q _ I.fresh⟩
def Hb:R2:=fun x y H Q=> ∃l k xs,x= .ref l/\y= .int k/\H l=some (.lst xs)/\ -(2^63)<=k/\k < 2^63/\xs.length*k.toNat<=sizeLine/\
 ∀p,H p=none->Q (.ref p) (upd H p (.lst (List.replicate k.toNat xs).flatten))
theorem len_rep{α:Type}(xs:List α)(k:Nat):(List.replicate k xs).flatten.length=k*xs.length:=by
 induction k with
 | zero=>simp
 | succ k ih=>rw[U3,T7,SV,ih,Nat.succ_mul,Nat.add_comm]
theorem D0:eS X (binaryOp .Mult) Hb:=by
 intro pins s σ H x y v u Q I rx ry h;obtain⟨l,k,xs,rfl,rfl,hH,h1,h2,hz,q⟩:=h;cases rx;obtain⟨t,rfl⟩:=ry;obtain⟨z,af,n,r,hl,e⟩:=I.qD hH;have hlen:af.toArray.size*k.toNat<=sizeLine:=by rw[SK,<-hl];exact hz
 have MD: ¬af.toArray.size*k.toNat > (2^63 - 1) / 8:=by
  have:(sizeLine:Nat)<=(2^63 - 1) / 8:=by decide
  lia
 have Mu: ¬(!Builtin.List.listFitsIndex k)=true:=by
  rw[fitsIndex_both h1 h2];exact SG
 have xX: ¬Builtin.List.listTooLong (af.toArray.size*k.toNat)=true:=by
  rw[oK hlen];exact SG
 have Mf:List.foldl (fun x1 x2=>x1++x2) #[] (List.replicate (if af.toArray.isEmpty=true then 0 else k.toNat) af.toArray)=(List.replicate k.toNat af).flatten.toArray:=by
  have f0: ∀m:Nat,List.foldl (fun x1 x2=>x1++x2) #[] (List.replicate m af.toArray)=(List.replicate m af).flatten.toArray:=fun m=>by
   have:=foldl_rep af m [];rw[List.nil_append] at this;exact this
  rw[f0];cases af with
  | nil=>simp
  | cons a r'=>rw[if_neg (by simp)]
 refine wpAny_binaryOp_repeat_ref (T:="list") (U:="int") (by decide) ⟨_,e,rfl⟩ (fun s'=>typeIs_int s' k t) noFill_list_mul F.fills_int_mul F.slot_int_rmul repeat_list F.slot_int_index.lookup
  (V4 F.slot_int_rmul (typeIs_int s k t) F.entry_int_rmul (F.args_int_rmul_2 _ _) (int___rmul___int_list k t l af.toArray n)
   ⟨e,rfl,⟨_,e,rfl⟩,V4 F.slot_list_mul ⟨_,e,rfl⟩ F.entry_list_mul (F.args_list_mul_2 _ _) (AutoListH.list___mul___list_int_3 l af.toArray n k t Mu MD xX) ⟨e,?_⟩⟩)
 rw[Mf];exact⟨.ref _,_,I.HM (t':=s.toks) (r.rep k.toNat) (by rw[len_rep,Nat.mul_comm];exact hz),rfl,q _ I.fresh⟩
end
section
variable {κ : Type} [DecidableEq κ]
noncomputable def eU(aA:List (κ × V))(k:κ):Option V:=(aA.find? fun kv=>decide (kv.1=k)).map (·.2)
noncomputable def putK(aA:List (κ × V))(k:κ)(v:V):List (κ × V):=
 if (aA.any fun kv=>decide (kv.1=k))=true then aA.map (fun kv=>if kv.1=k then(kv.1,v) else kv) else aA++ [(k,v)]
theorem gE{p:κ × V}(e:p.1=k):eU (p::r) k=some p.2:=by simp [eU,Vr,e]
theorem gG{p:κ × V}(e: ¬p.1=k):eU (p::r) k=eU r k:=by simp [eU,Vr,e]
theorem nZ(k:κ): ∀aA:List (κ × V),(aA.any fun kv=>decide (kv.1=k))=(eU aA k).isSome
 | []=>rfl
 | p::r=>by
  rw[Ve];by_cases e:p.1=k
  . simp only [gE e,TK e,Bool.true_or,Option.isSome_some]
  . rw[gG e,S9 e,Bool.false_or];exact nZ k r
theorem cY(aA:List (κ × V))(k:κ)(v:V):(putK aA k v).length<=aA.length+1:=by
 unfold putK;split
 . rw[Sx];lia
 . rw[SV,Tq,List.length_nil];lia
theorem j9.dF(r:j9 o u):o.isSome=u.isSome:=by
 cases o with
 | none=>cases u with
  | none=>rfl
  | some _=>exact(show False from r).elim
 | some _=>cases u with
  | none=>exact(show False from r).elim
  | some _=>rfl
theorem KV.val(r:KV aA vs)(k:κ):j9 (eU aA k) (valueAt vs k):=by
 unfold KV at r;induction r with
 | nil=>exact True.intro
 | @cons p q ps qs h t ih=>
  obtain⟨h1,h2⟩:=h;by_cases e:p.1=k
  . have e':q.1=k:=h1.symm.trans e;have b:valueAt (q::qs) k=some q.2:=by simp [valueAt,Vr,e']
    rw[gE e,b];exact h2
  . have e': ¬q.1=k:=fun z=>e (h1.trans z);have b:valueAt (q::qs) k=valueAt qs k:=by simp [valueAt,Vr,e']
    rw[gG e,b];exact ih
theorem KV.any(r:KV aA vs)(k:κ):(aA.any fun kv=>decide (kv.1=k))=vs.any fun kv=>decide (kv.1=k):=by
 unfold KV at r;induction r with
 | nil=>rfl
 | cons h t ih=>rw[Ve,Ve,ih,h.1]
theorem KV.Ds(r:KV aA vs)(k:κ)(ry:RelV y u):
  KV (aA.map fun kv=>if kv.1=k then(kv.1,y) else kv) (vs.map fun kv=>if kv.1=k then(kv.1,u) else kv):=by
 unfold KV at r ⊢;induction r with
 | nil=>exact .nil
 | @cons p q ps qs h t ih=>
  rw[Ti,Ti];refine .cons ?_ ih;obtain⟨h1,h2⟩:=h;by_cases e:p.1=k
  . rw[if_pos e,if_pos (h1.symm.trans e)];exact⟨h1,ry⟩
  . rw[if_neg e,if_neg (fun z=>e (h1.trans z))];exact⟨h1,h2⟩
theorem KV.put(r:KV aA vs)(k:κ)(ry:RelV y u):KV (putK aA k y) (stored vs k u):=by
 unfold putK stored;rw[r.any k];by_cases e:(vs.any fun kv=>decide (kv.1=k))=true
 . rw[if_pos e,if_pos e];exact r.Ds k ry
 . rw[if_neg e,if_neg e];exact Paired.snoc r ⟨rfl,ry⟩
theorem KV.length{aA:List (κ × V)}(r:KV aA vs):aA.length=vs.length:=Paired.length r
end
theorem jF(r:RelV (kV k) u):(a8 P w).is k u=true:=by
 cases k with
 | inl i=>obtain⟨t,e⟩:=(show∃t,u=Value.int i t from r);subst e;exact oP P w i t
 | inr x=>obtain⟨t,e⟩:=(show∃t,u=Value.str x t from r);subst e;exact oO P w x t
theorem lq: ∀{ks:List Key} {us:List Value},Vals (ks.map kV) us->ItemsAre (a8 P w) ks us
 | [],_,r=>by rw[List.map_nil] at r;cases r;exact .nil
 | k::ks,_,r=>by
  rw[Ti] at r;cases r with
  | cons h t=>exact .cons (jF h) (lq t)
abbrev KT(H:Hp):List (List Key × V)->List (List Key × Addr × Value)->Prop:=Paired fun p q=>p.1=q.1/\H q.2.1=some (.tup (p.1.map kV))/\RelV p.2 q.2.2
theorem KT.val(r:KT H aA xs)(k:List Key):j9 (eU aA k) ((atKey xs k).map (·.2)):=by
 induction r with
 | nil=>exact True.intro
 | @cons p q ps qs h t ih=>
  obtain⟨h1,_,h2⟩:=h;by_cases e:p.1=k
  . have e':q.1=k:=h1.symm.trans e;have b:atKey (q::qs) k=some q.2:=by simp [atKey,Vr,e']
    rw[gE e,b];exact h2
  . have e': ¬q.1=k:=fun z=>e (h1.trans z);have b:atKey (q::qs) k=atKey qs k:=by simp [atKey,Vr,e']
    rw[gG e,b];exact ih
theorem KT.Ds(r:KT H aA xs)(k:List Key)(ry:RelV y u):
  KT H (aA.map fun kv=>if kv.1=k then(kv.1,y) else kv) (xs.map (putAt k u)):=by
 induction r with
 | nil=>exact .nil
 | @cons p q ps qs h t ih=>
  rw[Ti,Ti];refine .cons ?_ ih;obtain⟨h1,h2,h3⟩:=h;unfold putAt;by_cases e:p.1=k
  . rw[if_pos e,if_pos (h1.symm.trans e)];exact⟨h1,h2,ry⟩
  . rw[if_neg e,if_neg (fun z=>e (h1.trans z))];exact⟨h1,h2,h3⟩
theorem KT.put(r:KT H aA xs)(k:List Key)(hb:H b=some (.tup (k.map kV)))(ry:RelV y u):
  KT H (putK aA k y) (storedH xs k b u):=by
 have e:(aA.any fun kv=>decide (kv.1=k))=(atKey xs k).isSome:=by
  rw[nZ,(r.val k).dF,Option.isSome_map]
 unfold putK storedH;rw[e];by_cases q:(atKey xs k).isSome=true
 . rw[if_pos q,if_pos q];exact r.Ds k ry
 . rw[if_neg q,if_neg q];exact Paired.snoc r ⟨rfl,hb,ry⟩
theorem KT.keeps(r:KT H aA xs)(ht: ∀b ys,H b=some (.tup ys)->H' b=some (.tup ys)):KT H' aA xs:=
 Paired.Eh r fun _ _ z=>⟨z.1,ht _ _ z.2.1,z.2.2⟩
theorem B4(ok:fZ P w H h)(e:Rd H a u):aQ P w H h a u:=e.ok ok
theorem lK(ok:fZ P w H h)(e:Rd H a (.dK aA)):aA.length<=sizeLine/\(a==sysModules)=false/\ ∃vs,KV aA vs/\h.DictOf (a8 P w) a vs:=
 show aQ P w H h a (.dK aA) from B4 ok e
theorem sY(ok:fZ P w H h)(e:H a=some (.dK aA)):aA.length<=sizeLine/\(a==sysModules)=false/\ ∃vs,KV aA vs/\h.DictOf (a8 P w) a vs:=lK ok (.inl e)
theorem jE{ks:List Key}(ok:fZ P w H h)(e:H a=some (.tup (ks.map kV))):(tupleKind (a8 P w)).is h ks a:=by
 obtain⟨_,af,r,o,h1,h2,_,n,h3⟩:=(show aQ P w H h a (.tup (ks.map kV)) from ok a _ e)
 exact⟨o,af.toArray,n,h1,h2,h3,by simpa using lq r⟩
theorem ph(ok:fZ P w H h)(e:Rd H a (.dT aA)):aA.length<=sizeLine/\(a==sysModules)=false/\
  ∃xs,KT H aA xs/\h.DictOfH (tupleKind (a8 P w)) a xs:=by
 obtain⟨z,y,xs,r,o,es,ep,h1,h2,h3,h4,h5⟩:=(show aQ P w H h a (.dT aA) from B4 ok e)
 refine⟨z,y,xs,r,o,es,ep,h1,h2,h3,h4,fun x hx=>?_,h5⟩;have all: ∀{l:List (List Key × V)} {m:List (List Key × Addr × Value)},KT H l m-> ∀x∈m,(tupleKind (a8 P w)).is h x.1 x.2.1:=by
  intro l m q;induction q with
  | nil=>intro x hx;exact nomatch hx
  | @cons p q ps qs hq t ih=>
   intro x hx;rcases Tg.mp hx with e | hx
   . subst e;exact jE ok (by rw[<-hq.1];exact hq.2.1)
   . exact ih x hx
 exact all r x hx
theorem IM(ok:fZ P w H h)(e:H a=some (.dT aA)):aA.length<=sizeLine/\(a==sysModules)=false/\
  ∃xs,KT H aA xs/\h.DictOfH (tupleKind (a8 P w)) a xs:=ph ok (.inl e)
def gC(H:Hp)(a:Addr)(y:V)(r:Option V):Prop:=
 (∃aA k,Rd H a (.dK aA)/\y=kV k/\r=eU aA k)\/ ∃aA k b,Rd H a (.dT aA)/\y= .ref b/\H b=some (.tup (k.map kV))/\r=eU aA k
def zJ(H:Hp)(a:Addr)(y v:V)(H':Hp):Prop:=
 (∃aA k,H a=some (.dK aA)/\y=kV k/\aA.length < sizeLine/\H'=upd H a (.dK (putK aA k v)))\/
 ∃aA k b,H a=some (.dT aA)/\y= .ref b/\H b=some (.tup (k.map kV))/\aA.length < sizeLine/\H'=upd H a (.dT (putK aA k v))
theorem gC.k{H:Hp}{a:Addr}{aA:List (Key × V)}{k:Key}(e:H a=some (.dK aA)):gC H a (kV k) (eU aA k):= .inl ⟨aA,k, .inl e,rfl,rfl⟩
theorem zJ.k{H:Hp}{a:Addr}{aA:List (Key × V)}{k:Key}(e:H a=some (.dK aA))(hl:aA.length < sizeLine):zJ H a (kV k) v (upd H a (.dK (putK aA k v))):= .inl ⟨aA,k,e,rfl,hl,rfl⟩
theorem Inv.big(I:Inv X pins σ H s):sysModules < s.heap.objs.size:=by
 have h:mainGlobals < s.heap.objs.size:=(I.mod.glob.keeps I.bk).lt;exact VY (by decide) h
theorem u6(hu:A.units+1 < cLine)(I:Inv X pins σ H s)(g:gC H a y (some v))(ry:RelV y u)(h: ∀w' s',Inv X pins σ H s'->RelV v w'->Q w' s'):
  wpAny (model X.prog X.w) A (getItem (.ref a) u) Q E s:=by
 rcases g with ⟨aA,k,e,ey,l⟩ | ⟨aA,k,b,e,ey,eb,l⟩
 . subst ey;obtain⟨z,hd,vs,rel,dd⟩:=lK I.aO e;obtain⟨w',hw,pU⟩:=j9.some_of (v:=v) (o:=valueAt vs k) (by rw[l];exact rel.val k);exact wpAny_getItem_of (jF ry) dd.mapOf hw (h w' _ (I.tok _) pU)
 . subst ey;cases (show u=Value.ref b from ry);obtain⟨z,hd,xs,rel,dd⟩:=ph I.aO e;obtain⟨w',hw,pU⟩:=j9.some_of (v:=v) (o:=(atKey xs k).map (·.2)) (by rw[l];exact rel.val k);obtain⟨p,hp,Ic⟩:=T1.mp hw;refine wpAny_getItem_heap (V0 hu) (jE I.aO eb) dd hp ?_;rw[Ic];exact h w' _ (I.tok _) pU
theorem M6(hu:A.units+1 < cLine)(I:Inv X pins σ H s)(g:gC H a y o)(ry:RelV y u)(h: ∀s',Inv X pins σ H s'->Q (.bool o.isSome) s'):
  wpAny (model X.prog X.w) A (compareOp .In u (.ref a)) Q E s:=by
 rcases g with ⟨aA,k,e,ey,l⟩ | ⟨aA,k,b,e,ey,eb,l⟩
 . subst ey;obtain⟨z,hd,vs,rel,dd⟩:=lK I.aO e;refine wpAny_in_of (jF ry) hd dd.mapOf ?_;rw[<-(rel.val k).dF,<-l];exact h _ (I.tok _)
 . subst ey;cases (show u=Value.ref b from ry);obtain⟨z,hd,xs,rel,dd⟩:=ph I.aO e;refine wpAny_in_heap (V0 hu) (jE I.aO eb) hd dd ?_;have q:=(rel.val k).dF;rw[Option.isSome_map] at q;rw[<-q,<-l];exact h _ (I.tok _)
theorem Bt(hu:A.units+1 < cLine)(I:Inv X pins σ H s)(g:gC H a y o)(ry:RelV y u)(h: ∀s',Inv X pins σ H s'->Q (.bool (!o.isSome)) s'):
  wpAny (model X.prog X.w) A (compareOp .NotIn u (.ref a)) Q E s:=by
 rcases g with ⟨aA,k,e,ey,l⟩ | ⟨aA,k,b,e,ey,eb,l⟩
 . subst ey;obtain⟨z,hd,vs,rel,dd⟩:=lK I.aO e;refine wpAny_notIn_of (jF ry) hd dd.mapOf ?_;rw[<-(rel.val k).dF,<-l];exact h _ (I.tok _)
 . subst ey;cases (show u=Value.ref b from ry);obtain⟨z,hd,xs,rel,dd⟩:=ph I.aO e;refine wpAny_notIn_heap (V0 hu) (jE I.aO eb) hd dd ?_;have q:=(rel.val k).dF;rw[Option.isSome_map] at q;rw[<-q,<-l];exact h _ (I.tok _)
theorem jb(I:Inv X pins σ H s)(mu:JE (H a))(hs:Heap.SameBut a s.heap h')(he: ∃q,h'.get? a=some q)(new:aQ X.prog X.w (upd H a ob) h' a ob):
  Inv X pins σ (upd H a ob) {s with heap:=h',toks:=t'}:=
 I.write (x:=a) (e:=a) mu (.inl rfl) (fun b q hb z=>(hs.2 b hb).trans z) he new
theorem qU{h':Heap}{aA:List (Key × V)}(z:aA.length<=sizeLine)(hd:(a==sysModules)=false)(rel:KV aA vs)(dd:h'.DictOf (a8 P w) a vs):
  aQ P w H' h' a (.dK aA):=⟨z,hd,vs,rel,dd⟩
theorem u4(hu:A.units+1 < cLine)(I:Inv X pins σ H s)(g:zJ H a y v H')(ry:RelV y u)(rv:RelV v r)(h: ∀s',Inv X pins σ H' s'->Q () s'):
  wpAny (model X.prog X.w) A (setItem (.ref a) u r) Q E s:=by
 rcases g with ⟨aA,k,e,ey,l,eH⟩ | ⟨aA,k,b,e,ey,eb,l,eH⟩
 . subst ey eH;obtain⟨z,hd,vs,rel,dd⟩:=sY I.aO e;have hz:vs.length<=sizeLine:=by rw[<-rel.length];exact z
   have hl:(putK aA k v).length<=sizeLine:=by have:=cY aA k v;lia
   refine wpAny_setItem_pairs (hsz:=hz) (jF ry) dd fun h' zU hs=>h _ ?_;have he: ∃q,h'.get? a=some q:=let ⟨q,_,_,hq,_⟩:=zU;⟨q,hq⟩;exact jb I (by rw[e];exact True.intro) hs he (qU hl hd (rel.put k rv) zU)
 . subst ey eH;cases (show u=Value.ref b from ry);obtain⟨z,hd,xs,rel,dd⟩:=IM I.aO e;have hz:xs.length<=sizeLine:=by rw[<-Paired.length rel];exact z
   have hl:(putK aA k v).length<=sizeLine:=by have:=cY aA k v;lia
   refine wpAny_setItem_heap (hsz:=hz) (V0 hu) (jE I.aO eb) dd fun h' zU hs=>h _ ?_;obtain⟨q,es,ep,hq,h2,h3,h4,_,h5⟩:=zU;refine jb I (by rw[e];exact True.intro) hs ⟨q,hq⟩ ⟨hl,hd,_,(rel.put k eb rv).keeps fun c ys ec=>?_,q,es,ep,hq,h2,h3,h4,h5⟩;rw[ag (xG ec e (fun z=>nomatch z))];exact ec
theorem fF(I:Inv X pins σ H s)(e:Rd H a (.dK aA))(h: ∀t s',Inv X pins σ H s'->Q (.int aA.length t) s'):wpAny (model X.prog X.w) A (call (.builtin "len") [.ref a]) Q E s:=by
 obtain⟨z,hd,vs,rel,dd⟩:=lK I.aO e;refine call_len_dict hd dd (by rw[<-rel.length];rw[TZ] at z;lia) ?_;rw[<-rel.length];exact h _ _ (I.tok _)
def Jz(i:Expr):Prop:= ∀ov iv,subscripted i false ov iv=operate [ov,iv] (getItem ov iv)
theorem Ad{prog:Program}{w:World}{A:Around}{E:Value->Shared->Prop}{s:Shared}{env:Env}{value slice:Expr}{pos:Pos}{T id:String}(hl:typeLookup (.type T) "__getitem__"=pure (some (.builtin id)))(hs:Jz slice)(h:wpAny (model prog w) A (eval value env) (fun o s₁=>wpAny (model prog w) A (eval slice env) (fun i s₂=>s₂.TypeIs o T/\wpAny (model prog w) A (getItem o i) Q E s₂) E s₁) E s):
  wpAny (model prog w) A (eval (.Subscript value slice pos) env) Q E s:=by
 refine Subscript_ (To h (fun o s₁ h₁=>To h₁ (fun i s₂ h₂=>?_) fun _ _ x=>x) fun _ _ x=>x);obtain⟨hT,h₂⟩:=h₂;unfold subscriptTail;refine Sw ?_;rw[getitemInPython_of_ne hT.not_modules];refine Sw (wpAny_specialOf hT hl ?_);have fin:wpAny (model prog w) A (subscripted slice false o i) (fun r s₃=>wpAny (model prog w) A (letTemporaryGo value o r >>=fun _=>pure r) Q E s₃) E s₂:=by
  rw[hs o i];exact wpAny_operating (To h₂ (fun r s₃ h₃=>Sw (wpAny_letTemporaryGo (SA h₃))) fun _ _ x=>x)
 first
  | exact SA (Sw fin)
  | exact Sw (SA (Sw fin))
  | exact Sw fin
theorem pC(I:Inv X pins σ H s)(g:gC H a y o):s.TypeIs (.ref a) "dict":=by
 rcases g with ⟨aA,k,e,_,_⟩ | ⟨aA,k,b,e,_,_,_⟩
 . obtain⟨_,_,vs,_,dd⟩:=lK I.aO e;exact dd.typeIs
 . obtain⟨_,_,xs,_,dd⟩:=ph I.aO e;exact dd.typeIs
def GY(td ty:TE):TE:=fun σ H Q=>td σ H fun x H1=>ty σ H1 fun y H2=> ∃a v,x= .ref a/\gC H2 a y (some v)/\Q v H2
def GX(ty td:TE):TE:=fun σ H Q=>ty σ H fun y H1=>td σ H1 fun x H2=> ∃a o,x= .ref a/\gC H2 a y o/\Q (.bl o.isSome) H2
def rP(ty td:TE):TE:=fun σ H Q=>ty σ H fun y H1=>td σ H1 fun x H2=> ∃a o,x= .ref a/\gC H2 a y o/\Q (.bl (!o.isSome)) H2
def G7(td ty tv:TE):TS:=fun D σ H=>tv σ H fun v H1=>td σ H1 fun x H2=>ty σ H2 fun y H3=> ∃a H4,x= .ref a/\zJ H3 a y v H4/\D.nx σ H4
theorem i4(hu:X.A.units+1 < cLine)(ho:PE X o td)(hi:PE X i ty)(hs:Jz i):PE X (.Subscript o i pos) (GY td ty):=by
 intro pins s σ H Q I h;refine Ad PySem.F.slot_dict_getitem.lookup hs (aG (ho pins s σ H _ I h) fun u s1 ⟨x,H1,I1,rx,q1⟩=>aG (hi pins s1 σ H1 _ I1 q1) fun iv s2 Ky=>?_);obtain⟨y,H2,I2,ry,a,v,ex,g,q2⟩:=Ky;subst ex;obtain rfl:u=Value.ref a:=rx;exact⟨pC I2 g,u6 hu I2 g ry fun w' s3 I3 pU=>⟨v,H2,I3,pU,q2⟩⟩
theorem DX(hu:X.A.units+1 < cLine)(hi:PE X i ty)(ho:PE X o td):PC X .In i o (GX ty td):=by
 intro pins s σ H Q I h;refine aG (hi pins s σ H _ I h) fun iv s1 ⟨y,H1,I1,ry,q1⟩=>aG (ho pins s1 σ H1 _ I1 q1) fun u s2 Kx=>?_;obtain⟨x,H2,I2,rx,a,ov,ex,g,q2⟩:=Kx;subst ex;obtain rfl:u=Value.ref a:=rx;exact M6 hu I2 g ry fun s3 I3=>⟨.bl ov.isSome,H2,I3,rfl,q2⟩
theorem uo(hu:X.A.units+1 < cLine)(hi:PE X i ty)(ho:PE X o td):PC X .NotIn i o (rP ty td):=by
 intro pins s σ H Q I h;refine aG (hi pins s σ H _ I h) fun iv s1 ⟨y,H1,I1,ry,q1⟩=>aG (ho pins s1 σ H1 _ I1 q1) fun u s2 Kw=>?_;obtain⟨x,H2,I2,rx,a,ov,ex,g,q2⟩:=Kw;subst ex;obtain rfl:u=Value.ref a:=rx;exact Bt hu I2 g ry fun s3 I3=>⟨.bl (!ov.isSome),H2,I3,rfl,q2⟩
theorem Ax(hu:X.A.units+1 < cLine)(ho:PE X o td)(hi:PE X i ty)(hv:PE X value tv)(hs:swapsWith value (some (.Subscript o i pos')) pos.line X.env=pure false):
  PS X (.Assign [.Subscript o i pos'] value pos) (G7 td ty tv):=by
 intro pins s σ H D I h;refine wpAny_Assign_Subscript (aG (hv pins s σ H _ I h) fun r s1 ⟨v,H1,I1,rv,q1⟩=>aG (ho pins s1 σ H1 _ I1 q1) fun u s2 ⟨x,H2,I2,rx,q2⟩=>aG (hi pins s2 σ H2 _ I2 q2) fun iv s3 Kv=>?_) hs;obtain⟨y,H3,I3,ry,a,H4,ex,g,q3⟩:=Kv;subst ex;obtain rfl:u=Value.ref a:=rx;exact u4 hu I3 g ry rv fun s4 I4=>⟨σ,H4,I4,q3⟩
theorem pB(h:Heap)(hb:sysModules < h.objs.size):aQ P w H (h.push {cls:= .type "dict",data:= .dict #[]}) h.objs.size (.dK []):=
 ⟨Tw _,U2.mpr (Ne.symm (Tt hb)),[], .nil,Heap.DictOf.new h⟩
def mD:List (TE × TE)->St->Hp->(List (V × V)->Hp->Prop)->Prop
 | [],_,H,Q=>Q [] H
 | (tk,tv)::r,σ,H,Q=>tk σ H fun x H1=>tv σ H1 fun y H2=>mD r σ H2 fun ps H3=>Q ((x,y)::ps) H3
abbrev VV:List (V × V)->List (Value × Value)->Prop:=Paired fun p q=>RelV p.1 q.1/\RelV p.2 q.2
def Kq(X:Cx)(pos:Pos)(keys:List (Option Expr))(values:List Expr)(C6:List (TE × TE)):Prop:=
 ∀(pins:List (Addr × Obj)) (s:Shared) (σ:St) (H:Hp) (Q:List (V × V)->Hp->Prop),Inv X pins σ H s->mD C6 σ H Q->
  wpAny (model X.prog X.w) X.A (evalPairs (pairTrees keys values X.env pos)) (fun vs s'=> ∃ps H',Inv X pins σ H' s'/\VV ps vs/\Q ps H') X.xe s
theorem Az:Kq X pos [] [] []:=fun pins s σ H Q I h=>pairTrees_nil_walk ⟨[],H,I, .nil,h⟩
theorem oI(hk:PE X k tk)(hv:PE X v tv)(hr:Kq X pos ks vs C6):
  Kq X pos (some k::ks) (v::vs) ((tk,tv)::C6):=fun pins s σ H Q I h=>
 pairTrees_cons_walk (aG (hk pins s σ H _ I h) fun u s1 GA=>(by obtain⟨x,H1,I1,rx,q1⟩:=GA;exact(aG (hv pins s1 σ H1 _ I1 q1) fun w2 s2 Gz=>(by obtain⟨y,H2,I2,ry,q2⟩:=Gz;exact(
  aG (hr pins s2 σ H2 _ I2 q2) fun ws s3 Gy=>(by obtain⟨ps,H3,I3,rel,q3⟩:=Gy;exact(⟨(x,y)::ps,H3,I3, .cons ⟨rx,ry⟩ rel,q3⟩)))))))
noncomputable def bt(aA more:List (Key × V)):List (Key × V):=more.foldl (fun acc kv=>putK acc kv.1 kv.2) aA
theorem KV.merge: ∀{more:List (Key × V)} {rs:List (Key × Value)} {aA:List (Key × V)} {vs:List (Key × Value)},KV more rs->KV aA vs->KV (bt aA more) (merged vs rs):=by
 intro more rs aA vs r;unfold KV at r;induction r generalizing aA vs with
 | nil=>intro q;exact q
 | @cons p q ps qs h t ih=>
  intro r0;have e:KV (putK aA p.1 p.2) (stored vs q.1 q.2):=by
   have:=r0.put p.1 h.2;rw[<-h.1];exact this
  exact ih e
theorem fV: ∀(more aA:List (Key × V)),(bt aA more).length<=aA.length+more.length
 | [],aA=>by show aA.length<=aA.length+0;lia
 | p::r,aA=>by
  have h1:=fV r (putK aA p.1 p.2);have h2:=cY aA p.1 p.2;show(bt (putK aA p.1 p.2) r).length<=_;rw[Tq];lia
theorem j0: ∀{aA:List (Key × V)} {ws:List (Value × Value)},VV (aA.map fun kv=>(kV kv.1,kv.2)) ws-> ∃rs,Carries (a8 P w) ws rs/\KV aA rs
 | [],_,r=>by rw[List.map_nil] at r;cases r;exact⟨[],True.intro, .nil⟩
 | p::aA,_,r=>by
  rw[Ti] at r;cases r with
  | @cons a b as bs h t=>
   obtain⟨rs,c,q⟩:=j0 (P:=P) (w:=w) t;obtain⟨b1,b2⟩:=b;exact⟨(p.1,b2)::rs,⟨jF h.1,rfl,c⟩, .cons ⟨rfl,h.2⟩ q⟩
def GW(C6:List (TE × TE)):TE:=fun σ H Q=> ∀p,H p=none->mD C6 σ (upd H p (.dK [])) fun ps H2=>H2 p=some (.dK [])/\ ∃aA:List (Key × V),ps=aA.map (fun kv=>(kV kv.1,kv.2))/\aA.length<=15/\Q (.ref p) (upd H2 p (.dK (bt [] aA)))
theorem AI(h:Kq X pos keys values C6)(EN:keys.all (·.isSome)=true)(hl:keys.length=values.length)(h0:keys≠ [])(QW:keys.length<=15):PE X (.Dict keys values pos) (GW C6):=by
 intro pins s σ H Q I q;have hn:=I.aO.fresh (SD s.heap.objs.size);have I1:=I.laid (a:=s.heap.objs.size) (o:= .dK []) (h':=s.heap.push {cls:= .type "dict",data:= .dict #[]}) (t':=s.toks) (fun _ _ q=>Sz _ q) (SD _) (pB s.heap I.big);refine wpAny_Dict_walk (knd:=a8 X.prog X.w) EN hl h0 QW (aG (h pins _ σ _ _ I1 (q _ hn)) fun ws s2 Gx=>?_);obtain⟨ps,H2,I2,rel,e,aA,ep,lk,q2⟩:=Gx;subst ep;obtain⟨rs,c,rk⟩:=j0 (P:=X.prog) (w:=X.w) rel;obtain⟨z,hd,Pw,r0,dd⟩:=sY I2.aO e;cases r0;refine⟨rs,c,dd,fun h' zU hs=>⟨.ref s.heap.objs.size,_,?_,rfl,q2⟩⟩;have hz:(bt [] aA).length<=sizeLine:=by
  have h1:=fV aA [];rw[List.length_nil] at h1;rw[TZ];lia
 have he: ∃q,h'.get? s.heap.objs.size=some q:=let ⟨q,_,_,hq,_⟩:=zU;⟨q,hq⟩;exact jb I2 (by rw[e];exact True.intro) hs he (qU hz hd (rk.merge .nil) zU)
end L2
namespace Pc
open PySem PySem.W PySem.Calls PyProof.Rows
theorem iT: ∀(ns:List Int) (vs:List Value),WellAll P h vs (ns.map WData.int)->IntsAre vs ns:=by
 intro ns;induction ns with
 | nil=>
  intro vs w;rw[List.map_nil] at w;cases w;exact .nil
 | cons n ns ih=>
  intro vs w;rw[Ti] at w;cases w with
  | cons a b=>
   cases a;exact .cons _ _ (ih _ b)
theorem ue{l:OpenLaw}(hn:l.most=some n)(Bc:l.row.toRowW.claim.pre args=true)(L6:WellAll P h vals args):
  ∃a vs ns,vals= [Value.ref a]/\args= [WData.list (ns.map WData.int)]/\h.get? a=some {cls:= .type "list",data:= .seq vs.toArray}/\IntsAre vs ns/\ns.length<=n:=by
 have Qr:WShape.hasAll [] args [.list .int]=true:=(pre_splitW Bc).1;have hc:l.pre.holds [] {args:=args}=true:=(pre_splitW Bc).2;obtain⟨d,r,rfl,h1,h2⟩:=hasAllW_cons Qr;obtain rfl:=hasAllW_nil h2;obtain⟨xs,rfl,h3⟩:=hasW_list h1;obtain⟨ns,rfl⟩:=items_int h3;have hlen:ns.length<=n:=by
  unfold OpenLaw.pre at hc;have h4:(WTm.not (.lt (.lit (.int (n:Int))) (.len (.arg 0)))).holds [] {args:= [.list (ns.map .int)]}=true:=by
   have h4:=(holds_andW hc).1;rw[hn] at h4;exact h4
  have h5:=condW_of h4 (w_not (w_lt w_lit (w_len_list (w_arg rfl))));rw[Sx] at h5;refine Nat.le_of_not_lt fun q=>?_;have q':(n:Int) < ((ns.length:Nat):Int):=by lia
  first
   | (rw[TK q'] at h5;exact absurd h5 (by decide))
   | (simp at h5;lia)
 cases L6 with
 | cons w1 w2=>
  cases w2;cases w1 with
  | list ho EN=>exact⟨_,_,ns,rfl,rfl,ho,iT ns _ EN,hlen⟩
theorem ui(l:OpenLaw)(args:List WData):l.row.toRowW.claim.post args (.bool true) args=true:=
 postW_of (r:=l.row.toRowW) (X:=(true==true))
  (show WShape.has [] (.bool true) .bool=true by first | rfl | decide | simp [WShape.has,WShape.arms,WShape.armsAll])
  (show(WTm.eq .res (.lit (.bool true))).value [] {args:=args,res:=some (.bool true),after:=args}=some (.bool (true==true)) from w_eq_bool (w_res rfl) w_lit) rfl
theorem pL {l : OpenLaw} {d : DefRec} (hn : l.most = some n) (Ip : d.params.defaults = []) (call : ∀ (w : World) (s₀ s₁ : Shared) (mg mb : Str -> Option Value) (fa : Addr) (o : Obj) (pm cd doc : Value) (a : Addr) (vs : List Value) (ns : List Int),
   Ground q loose [] XP w s₀ mg mb s₁.heap->YP w s₁.heap->
   s₁.heap.get? fa=some o->o.data= .func (docDef d.name d.params d.body d.scope pm cd doc)->s₁.heap.CodeRec cd d.name->mg d.name=some (.ref fa)->
   s₁.heap.get? a=some {cls:= .type "list",data:= .seq vs.toArray}->IntsAre vs ns->ns.length<=n->s₁.gens= #[]->
   codeAny (model l.prog w) callerA (.call (.ref fa) ⟨[.ref a],[]⟩) (fun r s'=>r= .ok (.ret (.bool true))/\OldK s₁.heap s'.heap/\s'.os=s₁.os/\AllBare s'.gens) s₁):
  WalkO q loose XP YP l.row.toRowW d [] (fun f vs=>PySem.call f vs):=by
 intro w s₀ s₁ mg mb G Y fa o pm cd doc dV kV ho hd uN hD Ig hg args vals as Bc QD RU L6 Gi;obtain rfl:dV= .none:=Dflts.none hD Ip;obtain rfl:kV= .none:=Dflts.noKw hD;obtain⟨a,vs,ns,rfl,rfl,EG,hints,hlen⟩:=ue hn Bc L6;refine enter_call (Vm (call w s₀ s₁ mg mb fa o pm cd doc a vs ns G Y ho (fd_plain hd) uN Ig EG hints hlen hg) fun r s' hq=>?_);obtain⟨rfl,h2,h3,h4⟩:=hq;exact⟨.inl ⟨.bool true, .bool true,[],rfl,fun _=>rfl, .bool true,ui l _,fun _=>⟨List.Pairwise.nil,fun _ hm=>(nomatch hm)⟩⟩,h2,h3,h4⟩
end Pc
namespace L2
open PySem PySem.Spec PyProof.Rows
theorem kL: ∀{vs:List Value} {ns:List Int},IntsAre vs ns->Vals (ns.map V.int) vs
 | _,_, .nil=> .nil
 | _,_, .cons n t h=> .cons ⟨t,rfl⟩ (kL h)
def FU(H:Hp):Prop:= ∀b,H b=none\/ ∃o xs,H b=some (.nV o (.lst xs))
theorem xM{K:PySem.W.Frag}{s₁:Shared}{vs:List Value}(KX:K.In s₁.heap)(EH:s₁.heap.Ns mainGlobals mg)(hb:s₁.heap.Ns builtinsNs mb)(QM: ∀x:Str,x≠"__name__"->mb x=bootBuiltins x)(Ml:s₁.heap.NoLimit)(hg:s₁.gens= #[])(ha:s₁.heap.get? a=some {cls:= .type "list",data:= .seq vs.toArray})(hi:IntsAre vs ns)(hl:ns.length<=sizeLine)(hr:bB k callerA)(F: ∀base:Heap,K.In base->base.Ns mainGlobals mg->aV P w K mg base CX k fa fd [x] sp)(Iw: ∀(s:Shared) (u:Value),BindsTo s fd ⟨[u],[]⟩ [(x,u)])(Cn: ∀H:Hp,FU H->cf K H a (ns.map V.int)->sp [.ref a] H (fun v _=>v= .bl true) fun _ _ _=>False)(ML: ∀H e s',CX [] H s₁ (fun _ _ _=>False) e s'->False):
  codeAny (model P w) callerA (.call (.ref fa) ⟨[.ref a],[]⟩) (fun r s'=>r= .ok (.ret (.bool true))/\OldK s₁.heap s'.heap/\s'.os=s₁.os/\AllBare s'.gens) s₁:=by
 have rv:=kL hi;have LS:=hi.length;have core: ∀H:Hp,FU H->cf K H a (ns.map V.int)->fZ P w H s₁.heap->(∀b,H b≠none->b=a)->(H a≠none->K.lookup a=none)->
   codeAny (model P w) callerA (.call (.ref fa) ⟨[.ref a],[]⟩) (fun r s'=>r= .ok (.ret (.bool true))/\OldK s₁.heap s'.heap/\s'.os=s₁.os/\AllBare s'.gens) s₁:=by
  intro H hO hS aO hA hK;have tF: ∀{b:Addr} {o:Obj},s₁.heap.get? b=some o->H b=none->(m6 s₁.heap H).get? b=some o:=fun e n=>xY e n;have HG: ∀{b:Addr} {o:Obj} {es:Array DictEntry} {ep:Nat},s₁.heap.get? b=some o->o.data= .dict es ep->H b=none:=fun{b o es ep} e d=>by
   cases q:H b with
   | none=>rfl
   | some u=>
    have e':b=a:=hA b (by rw[q];simp);subst e';rw[ha] at e;cases e;have d':Data.seq vs.toArray _=Data.dict es ep:=d;cases d'
  have J4: ∀{b:Addr} {m:Str->Option Value},s₁.heap.Ns b m->(m6 s₁.heap H).Ns b m:=fun{b m} Gw=>(by obtain⟨o,es,ep,e,d,r⟩:=Gw;exact(⟨o,es,ep,tF e (HG e d),d,r⟩))
  have OE:K.In (m6 s₁.heap H):=fun b o e=>tF (KX b o e) (by
   cases q:H b with
   | none=>rfl
   | some u=>
    have e':b=a:=hA b (by rw[q];simp);subst e';rw[hK (by rw[q];simp)] at e;cases e)
  have hM:Mod K mg (m6 s₁.heap H):=⟨OE,J4 EH,⟨mb,J4 hb,QM⟩,let ⟨mc,h1,h2⟩:=Ml;⟨mc,J4 h1,h2⟩⟩
  have e0:BN P w K mg (m6 s₁.heap H) callerA [] s₁ H:=⟨rfl,hM,fun b o e=>AR e,Nat.le_of_eq (uJ _ _),trivial,fun b hb=>absurd (show b∈([]:List Addr) from hb) (by simp),aO, .of_eq hg⟩
  refine Vm ((F _ OE (J4 EH)).run callerA [] s₁ H ⟨[.ref a],[]⟩ [.ref a] [.ref a] _ _ hr e0 (Iw s₁ (.ref a)) (.cons rfl .nil) (Cn H hO hS)) fun r s' h=>?_;cases r with
  | error e=>exact(ML H e s' h).elim
  | ok fl=>
   cases fl with
   | next=>exact False.elim h
   | brk=>exact False.elim h
   | cont=>exact False.elim h
   | ret u=>
    obtain⟨v,H',os,bare,un,Md,r',q⟩:=h;have q':v= .bl true:=q;subst q';obtain rfl:u=Value.bool true:=r';refine⟨rfl,OldK.of_keep fun b o e=>?_,os,bare⟩;cases q:H b with
    | none=>exact un.keep b o e q (by intro z;exact absurd (show b∈([]:List Addr) from z) (by simp)) (by simp)
    | some u=>
     rcases hO b with z | ⟨ob,xs,z⟩
     . rw[q] at z;cases z
     . have z2:=un.ng b ob _ z;obtain⟨e1,_⟩:=aO b _ z;obtain⟨e2,_⟩:=Md b _ z2;rw[e] at e1;cases e1;exact e2
 cases hk:K.lookup a with
 | some o=>
  have e:=KX a o hk;rw[ha] at e;cases e;refine core (fun _=>none) (fun _=> .inl rfl) (.inr ⟨_,vs.toArray,_,hk,rfl,rfl,rfl,by rw[SK,LS];exact hl,by simpa using rv⟩) (fun b u z=>by have z':(none:Option HO)=some u:=z;cases z') (fun b z=>absurd rfl z) fun z=>absurd rfl z
 | none=>
  refine core (fun b=>if b=a then some (.nV {cls:= .type "list",data:= .seq vs.toArray} (.lst (ns.map V.int))) else none) (fun b=>?_) (.inl (.inr ⟨{cls:= .type "list",data:= .seq vs.toArray},if_pos rfl⟩)) (fun b u z=>?_) (fun b z=>?_) fun _=>hk
  . by_cases hb:b=a
    . exact .inr ⟨_,_,if_pos hb⟩
    . exact .inl (if_neg hb)
  . by_cases hb:b=a
    . have z':=(if_pos hb).symm.trans z;cases z';subst hb;exact⟨ha,by rw[Sx];exact hl,vs,_,rv,ha⟩
    . have z':=(if_neg hb).symm.trans z;cases z'
  . by_cases hb:b=a
    . exact hb
    . exact absurd (if_neg hb) z
theorem zZ {l : PySem.W.OpenLaw} {n k : Nat} {q : Program} {loose : List Str} {XP : (Str -> Option Value) -> Heap -> Prop} {YP : World -> Heap -> Prop} {d : DefRec} {K : Params -> PySem.W.Frag} {CX : World -> CW} {sp : World -> Sp} (hn : l.most = some n) (Mg : n <= sizeLine) (Ip : d.params.defaults = []) (hr : bB k callerA) (hY : ∀ (w : World) (h : Heap), YP w h -> (K w.params).In h) (F : ∀ (w : World) (mg : Str -> Option Value) (fa : Addr) (h : Heap), (K w.params).In h -> h.Ns mainGlobals mg -> mg d.name = some (.ref fa) ->
   ∃fd:FuncData,(∀(s:Shared) (u:Value),BindsTo s fd ⟨[u],[]⟩ [(x,u)])/\
    ∀base:Heap,(K w.params).In base->base.Ns mainGlobals mg->aV l.prog w (K w.params) mg base (CX w) k fa fd [x] (sp w)) (Cn: ∀(w:World) (H:Hp) (a:Addr) (ns:List Int),ns.length<=n->FU H->cf (K w.params) H a (ns.map V.int)->sp w [.ref a] H (fun v _=>v= .bl true) fun _ _ _=>False) (ML: ∀(w:World) (H:Hp) (s:Shared) (e:Value) (s':Shared),CX w [] H s (fun _ _ _=>False) e s'->False):
  PySem.W.WalkO q loose XP YP l.row.toRowW d [] (fun f vs=>PySem.call f vs):=by
 refine Pc.pL hn Ip fun w s₀ s₁ mg mb fa o pm cd doc a vs ns G Y ho hd uN Ig EG hints hlen hg=>?_;have KX:=hY w _ Y;obtain⟨fd,hb,hF⟩:=F w mg fa _ KX G.T.g Ig;exact xM KX G.T.g G.T.b G.T.builtins G.T.nolimit hg EG hints (S4 hlen Mg) hr hF hb (fun H hO hS=>Cn w H a ns hlen hO hS) fun H e s'=>ML w H s₁ e s'
noncomputable def fM(s:Stmt):Arguments:=match s with
 | .FunctionDef _ a _ _ _ _ _ _ _ _=>a
 | _=>{posonlyargs:= [],args:= [],vararg:=none,kwonlyargs:= [],kw_defaults:= [],kwarg:=none,defaults:= []}
noncomputable def cj(s:Stmt):List Stmt:=match s with
 | .FunctionDef _ _ b _ _ _ _ _ _ _=>b
 | _=> []
noncomputable def ab(s:Stmt):Scope:=match s with
 | .FunctionDef _ _ _ _ _ _ sc _ _ _=>sc
 | _=>{kind:= .function,names:= [],isGenerator:=false,isCoroutine:=false}
abbrev eI:CW:=fun _ _ _ _ _ _=>False
abbrev E0:XK:=fun _ _ _=>False
theorem xk:Passes eI X E0:=fun _ _ _ _ _ _ _ h=>h.elim
structure g8(K:PySem.W.Frag)(x qual:Str)(st:Stmt)(f:Addr)(fd:FuncData):Prop where
 ex: ∃(oc:Value) (od:Option Addr) (kV doc pm:Value) (an:Option Addr) (b5 ct:Value) (DY:Array (Option Value)),
  fd=PySem.W.fnOf x qual (fM st) (cj st) (ab st) .none kV doc pm an b5 ct/\K.lookup f=some ⟨oc,od, .func fd,DY⟩/\PySem.W.codeIn K b5 qual=true
 kp:PySem.W.keepIn K (.ref f)=true
section
variable {P : Program} {w : World} {K : PySem.W.Frag} {mg : Str -> Option Value} {base : Heap}
theorem g8.ok {x qual : Str} {st : Stmt} {k : Nat} (F : g8 K x qual st f fd) (S : aE N ps (ab st)) (len : ∀ vs H Q E, sp vs H Q E -> vs.length = ps.length) (gR : ∀ (b5 : Value) (A : Around) (outer : List Env) (s : Shared) (H : Hp) (vs : List V) (Q : VK) (E : XK), bB k (A.deeper (envOfC qual (ab st) s.heap.objs.size f b5)) -> sp vs H Q E ->
   ∃t,nM (kz eI P w K mg base N qual (ab st) f b5 A outer s H E).xA (cj st) t/\t {nx:=fun _ H'=>Q .aI H',rt:=Q} (start N vs) H):aV P w K mg base eI (k+1) f fd ps sp:=by
 obtain⟨oc,od,kV,doc,pm,an,b5,ct,DY,rfl,lk,uN⟩:=F.ex;refine IG lk uN S len fun A outer s H vs Q E hr Cn=>?_;obtain⟨t,h,q⟩:=gR b5 A outer s H vs Q E hr Cn;exact⟨t,h.xA,q⟩
theorem EW{x qual:Str}{st:Stmt}{f:Addr}{oc:Value}{od an:Option Addr}{DY:Array (Option Value)}{kV doc pm b5 ct:Value}(l:K.lookup f=some ⟨oc,od, .func (PySem.W.fnOf x qual (fM st) (cj st) (ab st) .none kV doc pm an b5 ct),DY⟩)
  (c:PySem.W.codeIn K b5 qual=true) (k:PySem.W.keepIn K (.ref f)=true):g8 K x qual st f (PySem.W.fnOf x qual (fM st) (cj st) (ab st) .none kV doc pm an b5 ct):=⟨⟨oc,od,kV,doc,pm,an,b5,ct,DY,rfl,l,c⟩,k⟩
end
theorem sP(hr:bB k A):A.units+1 < cLine:=UU (Nat.add_le_add_left (by decide:1<=64) _) hr.units
theorem aM(h:n<=1000):n < sizeLine:=UU h (by decide)
theorem pv(i:Nat)(hN:X.N[i]?=some x:=by rfl)(hv:Jv X.env.scope x:=by first | exact Or.inl rfl | exact Or.inr (Or.inl rfl) | exact Or.inr (Or.inr rfl))(hd:(x==("__debug__":Str))=false:=by decide)(uN:(x==("__classdict__":Str))=false:=by decide):PE X (.Name x pos) (iR i):=xf hN hv hd uN
theorem vm:cq X (.builtin "len") (fun xs H Q=> ∃a aA,xs= [V.ref a]/\H a=some (.dK aA)/\Q (.int aA.length) H):=by
 intro pins s σ H xs us Q I r h;obtain⟨a,aA,rfl,ha,q⟩:=h;obtain⟨u,rfl,ru⟩:=vals1 r;cases ru;exact fF I (.inl ha) fun t s' I'=>⟨.int aA.length,H,I',⟨t,rfl⟩,q⟩
theorem bJ{A B:Prop}(h:B):if false=true then A else B:=by
 rw[if_neg SG];exact h
theorem dE{A B:Prop}(h:A):if true=true then A else B:=by
 rw[if_pos rfl];exact h
theorem L0{c A B:Prop} [Decidable c](h1:c->A)(h2: ¬c->B):if c then A else B:=by
 by_cases h:c
 . rw[if_pos h];exact h1 h
 . rw[if_neg h];exact h2 h
def ay(H H':Hp):Prop:= ∀b o,H b=some o->H' b=some o
theorem ay.seq{K:PySem.W.Frag}(e:ay H H')(h:cf K H a xs):cf K H' a xs:=by
 rcases h with (h | ⟨o,h⟩) | h
 . exact .inl (.inl (e _ _ h))
 . exact .inl (.inr ⟨o,e _ _ h⟩)
 . exact .inr h
end L2
namespace bZ
open PySem PyProof.Rows eF
section
variable {prog : Program} {w : World} {A : Around} {E : Value -> Shared -> Prop} {s : Shared} {b : Bool}
def iV(b:Bool)(h:Heap)(a:Addr)(es:Array (Int × Value)):Prop:= ∃o ep t,h.get? a=some o/\o.ExactSet/\o.data= .set es ep t/\Th b es.size t
theorem iV.keep{h h':Heap}(S:iV b h a es)(k: ∀o,h.get? a=some o->h'.get? a=some o):iV b h' a es:=
 let ⟨o,ep,t,e,r⟩:=S;⟨o,ep,t,k o e,r⟩
theorem B6{h:Heap}{es iN:Array (Int × Value)}(ho:h.get? a=some o)(hx:o.ExactSet)(hd:o.data= .set es ep t)(T:Th b iN.size t'):
  iV b (h.update a (Obj.putSet iN t')) a iN:=by
 have hg:=TR (Obj.putSet iN t') ho (by rw[putSet_of iN t' hd];rfl);rw[putSet_of iN t' hd] at hg;exact⟨_,ep+1,t',hg,hx,rfl,T⟩
theorem Rj(hk:IsTupleKey (intKind prog w) s.heap ks T)(h:Q true s):wpAny (model prog w) A (hashByValue 8 (.ref T)) Q E s:=by
 have hT:=hk.typeIs;obtain⟨o,items,n,ho,_,hd,hi⟩:=hk;unfold hashByValue;refine Sw (wpAny_specialOf hT F.slot_tuple_hash.lookup ?_);dsimp only;refine Sw (Uu ho hd ?_);dsimp only [Option.getD];refine Sw ?_;rw[<-Array.forIn_toList];refine wpAny_forIn_list _ (fun rest (c:Option Bool × PUnit) s'=>c.1=none/\s'=s/\ ∃l,ItemsAre (intKind prog w) l rest) _ ?_ ?_ _ _ ⟨rfl,rfl,_,hi⟩
 . rintro x rest c s' ⟨e1,rfl,l,hl⟩
   cases hl with
   | cons h1 Kb=>
    have e:hashByValue 7 x=pure true:=by cases x <;> first | rfl | (cases h1)
    rw[e];exact Sw (SA (SA ⟨rfl,rfl,_,Kb⟩))
 . rintro⟨c1,c2⟩ s' ⟨e1,rfl,_⟩
   dsimp only at e1;subst e1;exact SA h
theorem ud(a:Addr)(x:Value)(h:Int)(f:Nat):setSearchFrom a x h true (f+1) none=(do
  let (es,_,t)<-setState a
  if t.gaveWay then unsupported "set:on-a-table-that-gave-way"
  let some met:=t.probe (fun i=>(es[i]?.map (·.1)).getD 0) h (t.probeStart h) | unsupported "internal:set-table-without-an-empty-slot"
  match met with
  | .empty j dummy=>
   match dummy with
   | none=>return .free j false
   | some d=>
    if true && t.slot d != .dummy then rule "set.search.the-dummy-was-taken";return<-setSearchFrom a x h true f none
    return .free d true
  | .candidate j i next=>
   if !t.led then
    if<-searchCouldBeSeen x ((es.filter (·.1==h)).toList.map (·.2)) then unsupported "set:the-search-would-show-the-table"
   let some (_,y):=es[i]? | unsupported "internal:set-entry"
   let equal<-holding [y] (eqBool y x)
   let (iN,_,t')<-setState a
   if true && equal then return .there none
   let some same:=t'.sameMemory t.moves t.mask | unsupported "set.changed-during-lookup:is-the-new-block-at-the-old-address"
   let wq<-match (if same then t'.slot j else .empty) with
    | .live i'=>match iN[i']? with
     | some (_,y')=>do pure (if<-isSame y' y then some i' else none)
     | none=>pure none
    | _=>pure none
   match wq with
   | none=>rule "set.search.anew";setSearchFrom a x h true f none
   | some i'=>if equal then return .there (some i') else setSearchFrom a x h true f (some next)):=rfl
noncomputable def Ht(es:Array (Int × Value))(laid:Option (SetTable × Array Nat)):Sem (Array (Int × Value) × SetTable):=do
 let some (t,order):=laid | unsupported "internal:set-table-without-room"
 let iN:=order.filterMap (es[·]?)
 if iN.size !=es.size then unsupported "internal:set-table-lost-an-element"
 pure (iN,t)
theorem wU(a:Addr)(n:Nat):setRelay a n=(do
  let (es,_,t)<-setState a
  if SetTable.sizeAbove n > sizeLine then unsupported "set:memory"
  let (es,t)<-Ht es (t.relaid (es.map (·.1)) n)
  storeSet a es t):=rfl
theorem Bk(ho:s.heap.get? a=some o)(hd:o.data= .set es ep t)(T:Th b es.size t)(i9: ∀e∈es.toList,e.1≠h)(q: ∀j,j∉t.place.toList->j<=t.mask->Q (.free j false) s):wpAny (model prog w) A (setSearch a x h true) Q E s:=by
 unfold setSearch;rw[ud];refine Sw (Vy ho hd T.fits ?_);dsimp only;obtain⟨k,hk⟩:=T.pw;have room:=T.room;obtain⟨j,e,j1,j2⟩:=qu (ha:=fun i=>(es[i]?.map (·.1)).getD 0) (h:=h) T.T hk (by rw[T.sz];lia) fun i hi=>by
  rw[T.sz] at hi;rw[S7 hi];exact U2.mpr (i9 _ (Array.getElem_mem_toList hi))
 have gw:t.gaveWay=false:=by
  unfold SetTable.gaveWay;cases k with
  | zero=>rw[Nat.pow_zero] at hk;lia
  | succ k=>rw[U7] at hk;exact U2.mpr (by lia)
 rw[gw,if_neg SG,e];exact Sw (SA (SA (q j j1 j2)))
end
theorem pO(n:Nat): ∀(f s:Nat),SetTable.sizeAbove.go n f s<=max s (2*n)
 | 0,s=>Nat.le_max_left _ _
 | f+1,s=>by
  unfold SetTable.sizeAbove.go;split
  . have:=pO n f (s*2);lia
  . exact Nat.le_max_left _ _
theorem qr{es:Array (Int × Value)}{o:Array Nat}(h:o.toList.Perm (List.range es.size)):(o.filterMap (es[·]?)).toList.Perm es.toList:=by
 rw[Array.toList_filterMap];exact(h.filterMap _).trans (by rw[filterMap_getElem?_range])
theorem Dw(T:Th b n t)(j1:j∉t.place.toList)(j2:j<=t.mask):Tb b (t.put j).1/\(t.put j).1.mask=t.mask/\(t.put j).1.place.size=n+1/\(∀x∈(t.put j).1.place.toList,x<=t.mask)/\(t.put j).1.plain=t.plain:=by
 have pm:(SetTable.insertAt t.place (SetTable.below t.place j) j).toList.Perm (t.place.push j).toList:=SetTable.insertAt_perm ..;rw[Uw] at pm;refine⟨Dv T.T j1,rfl,?_,fun x hx=>?_,rfl⟩
 . have:=pm.length_eq;rw[SV,SN,SN,T.sz] at this;exact this
 . rcases Ts.mp (pm.mem_iff.mp hx) with h | h
   . exact T.le x h
   . rw[SS.mp h];exact j2
theorem Js(hu:A.units < cLine)(hk:IsTupleKey (intKind prog w) s.heap ks T)(S:iV b s.heap a es)(n2:es.size+1<=50000)(i9: ∀e∈es.toList,e.1≠tupleKeyHash (intKind prog w) ks)(h: ∀h' iN,Heap.SameBut a s.heap h'->iV b h' a iN->iN.toList.Perm (es.toList++ [(tupleKeyHash (intKind prog w) ks, .ref T)])->Q true {s with heap:=h',toks:=s.toks+(ks.length+1)}):
  wpAny (model prog w) A (setAdd a (.ref T)) Q E s:=by
 obtain⟨o,ep,t,ho,hx,hd,BJ⟩:=S;unfold setAdd;refine T8 (Sw (wpAny_pyHash_tuple hu hk ?_));unfold setAddHashed setAddHashedIn;refine T8 (Sw (Vy (s:={s with toks:=s.toks+(ks.length+1)}) ho hd BJ.fits ?_));dsimp only;rw[show byScan (.ref T) es=false from rfl,if_neg SG];refine Sw (Bk (s:={s with toks:=s.toks+(ks.length+1)}) ho hd BJ i9 fun j j1 j2=>?_);dsimp only;refine Sw (Vy (s:={s with toks:=s.toks+(ks.length+1)}) ho hd BJ.fits ?_);obtain⟨p1,p2,p3,p4,p5⟩:=Dw BJ j1 j2;have pm:(SetTable.insertAt es (t.put j).2 (tupleKeyHash (intKind prog w) ks,Value.ref T)).toList.Perm (es.push (tupleKeyHash (intKind prog w) ks,Value.ref T)).toList:=SetTable.insertAt_perm ..;rw[Uw] at pm;dsimp only;generalize (t.put j).1=t1 at*;generalize SetTable.insertAt es (t.put j).2 (tupleKeyHash (intKind prog w) ks,Value.ref T)=e1 at*;have z1:e1.size=es.size+1:=by rw[<-SN,pm.length_eq,SV,SN];rfl
 have room:=BJ.room;have LU:=p1.led;have Cu:t1.fill=es.size+1:=by unfold SetTable.fill;rw[p3,p1.dm];rfl
 have MQ:t1.fits e1.size=true:=by
  unfold SetTable.fits;rw[Cu,p3,z1,UR,Bool.true_and];exact TK (by rw[p2];lia)
 have sb:=Ux s.heap a (Obj.putSet e1 t1);have sl:e1.size<=sizeLine:=by rw[z1,TZ];lia
 have tail:wpAny (model prog w) A (do
   storeSet a e1 t1
   if (!false && t1.tooFull)=true then do
    setRelay a (SetTable.grown (es.size+1))
    pure true
   else pure true) Q E {s with toks:=s.toks+(ks.length+1)}:=by
  refine Sw (wpAny_storeSet_of (s:={s with toks:=s.toks+(ks.length+1)}) ho hd ?_ sl);have hg:=TR (Obj.putSet e1 t1) ho (by rw[putSet_of e1 t1 hd];rfl);rw[putSet_of e1 t1 hd] at hg;cases c:t1.tooFull with
  | false=>
   rw[if_neg (by decide)];refine SA (h _ e1 sb (B6 ho hx hd ⟨p1,by rw[p2];exact BJ.pw,by rw[p3,z1],by rw[p2];exact p4,?_⟩) pm);unfold SetTable.tooFull at c;have c:=TL c;rw[Cu] at c;rw[z1];lia
  | true=>
   rw[if_pos (by decide),wU];refine Sw (Sw (Vy (s:={s with heap:=s.heap.update a (Obj.putSet e1 t1),toks:=s.toks+(ks.length+1)}) hg rfl MQ ?_));dsimp only;have al:SetTable.sizeAbove (SetTable.grown (es.size+1))<=400000:=by
    have:=pO (SetTable.grown (es.size+1)) 64 8;have eg:SetTable.grown (es.size+1)=(es.size+1)*4:=by unfold SetTable.grown;rw[if_neg (by lia)]
    unfold SetTable.sizeAbove;rw[eg] at this ⊢;lia
   rw[if_neg (by rw[TZ];lia)];obtain⟨t',o',r1,r2,r3⟩:=ug (b:=b) (n:=es.size+1) (t:=t1) (hs:=e1.map (·.1)) LU (by rw[Array.size_map,z1]) (by lia) n2;rw[r1];rw[<-z1] at r3;have J0:=qr r3;have z2:(o'.filterMap (e1[·]?)).size=e1.size:=by rw[<-SN,J0.length_eq,SN]
   unfold Ht;dsimp only;rw[z2,bne_self_eq_false,if_neg SG];refine Sw (SA ?_);dsimp only;refine wpAny_storeSet_of hg rfl (SA (h _ _ (sb.trans (Ux _ a _)) (B6 hg hx rfl ?_) (J0.trans pm))) (by rw[z2];exact sl);rw[z2,z1];exact r2
 by_cases q:t1.plain=true
 . rw[if_pos q];refine Sw (Rj (s:={s with toks:=s.toks+(ks.length+1)}) hk ?_);exact tail
 . rw[if_neg q];exact Sw (SA tail)
end bZ
namespace eF
open PySem PySem.Spec PyProof.Rows
section
variable {prog : Program} {w : World} {A : Around} {E : Value -> Shared -> Prop} {s : Shared} {K : Type} [DecidableEq K]
noncomputable def ko(b:Bool):Obj:={cls:= .type "set",dict:=none,data:= .set #[] 0 (.fresh 0 0 b)}
theorem tW (C : TypeCalled T n1 n2) (hc : checkTypeCall T ⟨us, []⟩ = pure ()) (en : entryFor table n2 = some B) (hn : codeAny (model prog w) A.in1 (.call (.builtin n1) ⟨.type T :: us, []⟩) (wants Q1 E) s) (hx : ∀ v z, Q1 v z -> z.TypeIs v T /\ wpAny (model prog w) A.in1.in1 (checkBuiltinCall n2 ⟨v :: us, []⟩) (fun _ z' => wpAny (model prog w) A.in1.in1 (B ⟨v :: us, []⟩)
    (fun f y=>match f with | .done f=>wants (fun r y=>r= .none/\Q v y) E (.ok f) y | .again c=>c.quiet=true/\codeAny (model prog w) A.in1 c (wants (fun r y=>r= .none/\Q v y) E) y)
    (fun e y=>wants (fun r y=>r= .none/\Q v y) E (.error e) y) z') (fun e y=>wants (fun r y=>r= .none/\Q v y) E (.error e) y) z):wpAny (model prog w) A (call (.type T) us) Q E s:=by
 obtain⟨c,tl,g1⟩:=C.mro;have g2:=C.made;have g3:=C.sub;refine wpAny_call (VT ?_);show wpAny _ _ (callAny (.type T) _) _ _ _;refine SA ⟨Code.quiet_builtin _ (by decide+kernel),Uz F.entry_type_call ?_⟩;rw[Around.under_plain (weight_type_call_type T us []) rfl];have g4:=C.notType;have g5:=C.canCreate;repeat (any_goals (first | assumption | wp_step))
 refine Vm hn fun r z hr=>?_;match r,hr with
 | .error e,hr=>exact hr
 | .ok (.ret v),hr=>
  obtain⟨hT,hk⟩:=hx _ _ hr;have g6:=C.init.lookup;have g7:=C.init.bind v;repeat (any_goals (first | assumption | wp_step))
  refine Vm (VL C.init.plain en hk) fun r y hy=>?_;match r,hy with
  | .error e,hy=>exact hy
  | .ok (.ret r),hy=>
   obtain⟨rfl,q⟩:=hy;repeat (any_goals (first | assumption | wp_step))
  | .ok .next,hy=>exact hy.elim
  | .ok .cont,hy=>exact hy.elim
  | .ok .brk,hy=>exact hy.elim
 | .ok .next,hr=>exact hr.elim
 | .ok .cont,hr=>exact hr.elim
 | .ok .brk,hr=>exact hr.elim
theorem xF(v:Value)(h:Q1 (.ref s.heap.objs.size) {s with heap:=s.heap.push (ko (!w.params.followText "set-order"))}):
  codeAny (model prog w) A (.call (.builtin "set.__new__") ⟨[.type "set",v],[]⟩) (wants Q1 E) s:=by
 refine VT ?_;show wpAny _ A.in1 (checkBuiltinCall "set.__new__" ⟨[.type "set",v],[]⟩ >>=fun _=>again (.builtin "set.__new__" ⟨[.type "set",v],[]⟩)) _ _ s;refine Sw (wpAny_of_eq (F.newCall_set_1 v) (SA ⟨Vd F.plain_set_new _,Uz F.entry_set_new ?_⟩));rw[Us F.plain_set_new _];have PJ:=sub_set_self;obtain⟨hp,g,d,tk,os⟩:=s;unfold Builtin.«set.__new__» Builtin.Frozenset.newClass;dsimp only;wp_walk
 refine wpAny_askSetting (SA ?_);simp only [newObj];exact Sw (wpAny_alloc (SA (SA h)))
end
end eF
namespace bZ
open PySem PyProof.Rows eF
theorem xO{h h':Heap}(x:IsTupleKey (intKind prog w) h ks T)(k: ∀o,h.get? T=some o->h'.get? T=some o):IsTupleKey (intKind prog w) h' ks T:=by
 obtain⟨o,items,n,ho,r⟩:=x;exact⟨o,items,n,k o ho,r⟩
theorem xI{pr:List (Int × Value)}(hA:A.handled=none)(hu:A.in1.units < cLine)(hb:pr.length<=50000)(nd:(pr.map (·.1)).Nodup)(hk: ∀p∈pr,∃T ks,p.2= .ref T/\p.1=tupleKeyHash (intKind prog w) ks/\IsTupleKey (intKind prog w) h₀ ks T/\T≠a/\T≠it)(h1:a≠it)(h2:a≠l)(h3:it≠l):
  ∀(n i:Nat) (s:Shared) (es:Array (Int × Value)),pr.length - i=n->i<=pr.length->s.heap.IsListIter it l i->s.heap.IsList l (pr.map (·.2)).toArray->iV b s.heap a es->es.toList.Perm (pr.take i)->
   (∀c o,c≠a->c≠it->h₀.get? c=some o->s.heap.get? c=some o)->
   (∀h' tk iN,iV b h' a iN->iN.toList.Perm pr->(∀c o,c≠a->c≠it->s.heap.get? c=some o->h'.get? c=some o)->R (.ok (.ret .none)) {s with heap:=h',toks:=tk})->
   codeAny (model prog w) A (.builtin "set.update.loop" ⟨[.ref a, .ref it],[]⟩) R s
 | 0,i,s,es,hn,hi,st,hl,S,Y,k0,hR=>by
  have e:i=pr.length:=by lia
  subst e;refine Uz F.entry_set_update_loop ?_;rw[Us V9 _];show wpAny _ A.in1 (pyNext (.ref it) >>=_) _ _ s;refine Sw (wpAny_pyNext_list_end hA st hl (by simp) fun h' eb=>SA ?_);rw[Uh] at Y;exact hR h' s.toks es (S.keep fun o e=>eb a o h1 e) Y fun c o _ c2 e=>eb c o c2 e
 | n+1,i,s,es,hn,hi,st,hl,S,Y,k0,hR=>by
  have di:i < pr.length:=by lia
  have hv:(pr.map (·.2)).toArray[i]?=some pr[i].2:=by simp [di]
  obtain⟨T,ks,e1,e2,e3,e4,e5⟩:=hk pr[i] (Ur di);rw[e1] at hv;refine Uz F.entry_set_update_loop ?_;rw[Us V9 _];show wpAny _ A.in1 (pyNext (.ref it) >>=_) _ _ s;refine Sw (wpAny_pyNext_list_item st hl hv fun h' ao sb=>?_);have S1:iV b h' a es:=S.keep fun o e=>(sb.2 a h1).trans e;have k1:IsTupleKey (intKind prog w) h' ks T:=xO e3 fun o e=>(sb.2 T e5).trans (k0 T o e4 e5 e);have le:=Y.length_eq;rw[SN,US] at le;have te:pr.take i++ [pr[i]]=pr.take (i+1):=by rw[List.take_succ,Sy di];rfl
  have ne: ∀e∈es.toList,e.1≠tupleKeyHash (intKind prog w) ks:=fun e he z=>by
   have hm:=Y.mem_iff.mp he;have Oa:((pr.take (i+1)).map (·.1)).Nodup:=nd.sublist ((Wa _ _).map _);rw[<-te,TV] at Oa;have:=(UK.mp Oa).2.2 _ (VQ hm) _ (SS.mpr rfl);exact this (z.trans e2.symm)
  show wpAny _ A.in1 (holding [Value.ref T] (setAdd a (Value.ref T)) >>=_) _ _ _;refine Sw (T8 (Js (s:={s with heap:=h'}) hu k1 S1 (by lia) ne fun vN iN B0 S2 pm=>?_));have Y2:iN.toList.Perm (pr.take (i+1)):=by
   rw[<-te,show pr[i]=(tupleKeyHash (intKind prog w) ks,Value.ref T) from Prod.ext e2 e1];exact pm.trans (Y.append_right _)
  refine SA ⟨Vd V9 _,xI hA hu hb nd hk h1 h2 h3 n (i+1) _ iN (by lia) (by lia) (ao.at fun o e=>(B0.2 it (Ne.symm h1)).trans e) ?_ S2 Y2 (fun c o c1 c2 e=>(B0.2 c c1).trans ((sb.2 c c2).trans (k0 c o c1 c2 e))) fun ET tk Q0 S3 Y3 k3=>hR ET tk Q0 S3 Y3 fun c o c1 c2 e=>k3 c o c1 c2 ?_⟩
  . obtain⟨o,e,r⟩:=hl;exact⟨o,(B0.2 l (Ne.symm h2)).trans ((sb.2 l (Ne.symm h3)).trans e),r⟩
  . exact(B0.2 c c1).trans ((sb.2 c c2).trans e)
theorem vh{pr:List (Int × Value)}(hA:A.handled=none)(hu:A.in1.in1.in1.units < cLine)(hl:s.heap.IsList l (pr.map (·.2)).toArray)(hb:pr.length<=50000)(nd:(pr.map (·.1)).Nodup)(hk: ∀p∈pr,∃T ks,p.2= .ref T/\p.1=tupleKeyHash (intKind prog w) ks/\IsTupleKey (intKind prog w) s.heap ks T)(h: ∀h' tk es,iV (!w.params.followText "set-order") h' s.heap.objs.size es->es.toList.Perm pr->(∀c o,s.heap.get? c=some o->h'.get? c=some o)->Q (.ref s.heap.objs.size) {s with heap:=h',toks:=tk}):
  wpAny (model prog w) A (call (.type "set") [.ref l]) Q E s:=by
 refine tW (Q1:=fun obj s1=>obj= .ref s.heap.objs.size/\s1={s with heap:=s.heap.push (ko (!w.params.followText "set-order"))}) F.called_set (F.typeCall_set_1 _) F.entry_set_init (xF _ ⟨rfl,rfl⟩) fun obj s1 e1=>?_;obtain⟨rfl,rfl⟩:=e1;have hS:(s.heap.push (ko (!w.params.followText "set-order"))).get? s.heap.objs.size=some (ko (!w.params.followText "set-order")):=SI _ rfl;have hT:({s with heap:=s.heap.push (ko (!w.params.followText "set-order"))}:Shared).TypeIs (.ref s.heap.objs.size) "set":=⟨_,hS,rfl⟩
 have Mm:(s.heap.push (ko (!w.params.followText "set-order"))).IsList l (pr.map (·.2)).toArray:=hl.push _;have ll:l < s.heap.objs.size:=let ⟨o,e,_⟩:=hl;SQ e;have S0:iV (!w.params.followText "set-order") (s.heap.push (ko (!w.params.followText "set-order"))) s.heap.objs.size #[]:=⟨_,0,_,hS,⟨rfl,rfl,rfl⟩,rfl,yk _⟩
 have kp: ∀c o,s.heap.get? c=some o->(s.heap.push (ko (!w.params.followText "set-order"))).get? c=some o:=fun c o e=>Sz _ e;have sz:(s.heap.push (ko (!w.params.followText "set-order"))).objs.size=s.heap.objs.size+1:=TC _ _;have tl: ∀p∈pr,∃T ks,p.2= .ref T/\p.1=tupleKeyHash (intKind prog w) ks/\IsTupleKey (intKind prog w) s.heap ks T/\T < s.heap.objs.size:=fun p hp=>by
  obtain⟨T,ks,e1,e2,e3⟩:=hk p hp;exact⟨T,ks,e1,e2,e3,let ⟨o,_,_,e,_⟩:=e3;SQ e⟩
 clear hk;generalize RZ:(!w.params.followText "set-order")=b0 at*;generalize RX:s.heap.push (ko b0)=h0 at*;generalize hD:s.heap.objs.size=D at*;refine⟨hT,check_set_init_1 hT ?_⟩;have Kh:({s with heap:=h0}:Shared).TypeIs (.ref l) "list":=Mm.typeIs;have f1:=F.sub_list_set;have f2:=F.sub_list_frozenset;have f3:(Value.type "list"==Value.type "dict")=false:=by decide
 obtain⟨hp,g,d,tk,os⟩:=s;unfold Builtin.«set.__init__» Builtin.Frozenset.updateFrom;repeat (any_goals (first | assumption | ((with_reducible show wpAny _ _ (pyIter _) _ _ _);refine Uk Mm ?_) | wp_step))
 have n1:D≠h0.objs.size:=by lia
 have n2:l≠h0.objs.size:=by lia
 have n3:D≠l:=by lia
 refine xI (h₀:=hp) (A:=A.in1.in1) (b:=b0) (by simpa using hA) hu hb nd (fun p Qy=>?_) n1 n3 (Ne.symm n2) pr.length 0 _ #[] (by lia) (Tw _) ⟨_,SI _ rfl,rfl,rfl⟩ (Mm.push _) (S0.keep fun o e=>Sz _ e) (.refl _) (fun c o c1 c2 e=>Sz _ (kp c o e)) fun h' JS iN S' Y' k'=>?_
 . obtain⟨T,ks,e1,e2,e3,e4⟩:=tl p Qy;exact⟨T,ks,e1,e2,e3,by lia,by lia⟩
 refine SA (SA ⟨rfl,h h' JS iN S' Y' fun c o e=>k' c o (fun z=>?_) (fun z=>?_) (Sz _ (kp c o e))⟩)
 . have:=SQ e;lia
 . have:=SQ e;lia
end bZ
namespace eF
open PySem PySem.Spec PyProof.Rows
theorem gu{α:Type}: ∀{l:List α} {i:Nat} (h:i < l.length),(l[i]::l.eraseIdx i).Perm l
 | [],i,h=>absurd h (VU _)
 | x::l,0,h=>by simp
 | x::l,i+1,h=>by
  rw[List.eraseIdx_cons_succ,List.getElem_cons_succ];exact(List.Perm.swap _ _ _).trans (.cons _ (gu (by simpa using h)))
theorem sh(f:Nat->Nat): ∀(n k:Nat) (l:List α) (out:Array α),l.length=n->(pickOrder.go f n k l out).toList.Perm (out.toList++l)
 | 0,k,l,out,h=>by
  cases Uq.mp h;unfold pickOrder.go;rw[TX]
 | n+1,k,l,out,h=>by
  have hl:f k % l.length < l.length:=V5 _ (by lia);unfold pickOrder.go;rw[Sy hl];dsimp only;refine(sh f n (k+1) _ _ (by rw[VO hl];lia)).trans ?_;rw[Uw,Tz];exact(gu hl).append_left _
theorem kX(f:Nat->Nat)(xs:Array α):(pickOrder f xs).toList.Perm xs.toList:=by
 have:=sh f xs.size 0 xs.toList #[] (by simp);unfold pickOrder;simpa using this
theorem ve(hn:n≠0)(h: ∀i,i < n->Q i {s with drawn:=s.drawn.bump src}):wpAny (model prog w) A (choose src n) Q E s:=
 fun _ _ _=>⟨hn,h _ (V5 _ (Nat.pos_of_ne_zero hn))⟩
theorem sX: ∀(n:Nat) (xs:List α) (s:Shared) (Q:List α->Shared->Prop),xs.length=n->(∀ys d,ys.Perm xs->Q ys {s with drawn:=d})->wpAny (model prog w) A (drawOrder n xs) Q E s
 | 0,xs,s,Q,h,q=>by
  cases Uq.mp h;exact SA (q [] s.drawn (.refl _))
 | n+1,[],s,Q,h,q=>by simp at h
 | n+1,x::xs,s,Q,h,q=>by
  unfold drawOrder;refine Sw (ve (by simp) fun i hi=>?_);rw[Sy hi];dsimp only;refine Sw (sX n _ _ _ (by rw[VO hi];lia) fun ys d pm=>SA (q _ d ?_));exact(List.Perm.cons _ pm).trans (gu hi)
theorem fH:Slot "set_iterator" "__next__" "set_iterator.__next__":= .of (owner:="set_iterator") (n:="__next__") (by rw[VS,Vc];kernel_rfl) (by decide+kernel) (by decide+kernel) (by decide+kernel) (by first | exact .inl (by decide+kernel) | exact .inr (by decide+kernel)) (by rw[isSubtype_type];kernel_rfl)
theorem rT:Slot "set_iterator" "__iter__" "set_iterator.__iter__":= .of (owner:="set_iterator") (n:="__iter__") (by rw[VS,Vc];kernel_rfl) (by decide+kernel) (by decide+kernel) (by decide+kernel) (by first | exact .inl (by decide+kernel) | exact .inr (by decide+kernel)) (by rw[isSubtype_type];kernel_rfl)
theorem ox:Manifest.owners.lookup (String.ofList (['r','o','t','a','r','e','t','i','_','t','e','s']:List Char).reverse)=some Manifest.sig_set_iterator:=by kernel_rfl
theorem Af(a:Value):argsOk "set_iterator.__next__" ⟨[a],[]⟩:=by
 unfold argsOk;rw[signature?_of (id:="set_iterator.__next__") (n:= ['_','_','t','x','e','n','_','_']) (o:= ['r','o','t','a','r','e','t','i','_','t','e','s']) (by kernel_rfl) ox];kernel_rfl
theorem wF(a:Value):argsOk "set_iterator.__iter__" ⟨[a],[]⟩:=by
 unfold argsOk;rw[signature?_of (id:="set_iterator.__iter__") (n:= ['_','_','r','e','t','i','_','_']) (o:= ['r','o','t','a','r','e','t','i','_','t','e','s']) (by kernel_rfl) ox];kernel_rfl
theorem wD:entryFor table "set_iterator.__next__"=some Builtin.«set_iterator.__next__» :=entryFor_of_tree (by kernel_rfl)
theorem ua:entryFor table "set_iterator.__iter__"=some Builtin.«dict_keyiterator.__iter__» :=entryFor_alias (id':="dict_keyiterator.__iter__") (by kernel_rfl) (by first | rfl | decide+kernel | (unfold String.splitOn;simp+decide [String.splitOnAux])) (by decide+kernel) (by kernel_rfl)
theorem jf:entryFor table "set.__iter__"=some Builtin.«frozenset.__iter__» :=entryFor_alias (id':="frozenset.__iter__") (by kernel_rfl) (by first | rfl | decide+kernel | (unfold String.splitOn;simp+decide [String.splitOnAux])) (by decide+kernel) (by kernel_rfl)
theorem rR(hh:A.handled=none)(h: ∀h' x,(∀c o,s.heap.get? c=some o->h'.get? c=some o)->({s with heap:=h'}:Shared).TypeIs (.ref x) "StopIteration"->E (.ref x) {s with heap:=h'}):
  wpAny (model prog w) A (newExc (.type "StopIteration") [] >>=fun e=>raiseNew e) Q E s:=by
 refine Sw ?_;simp only [newExc,newTuple];refine Sw (Uc ?_ (by size_fits));refine Sw (m:=firstArgMember _ _) (wpAny_of_eq (a:=Value.none) (by first | rfl | (simp only [firstArgMember];rfl)) (Uc ?_ (by size_fits)));simp only [raiseNew];refine Sw (wpAny_handled ?_);rw[hh];exact Sw (SA (wpAny_throw (h _ _ (fun c o e=>Sz _ (Sz _ e)) ⟨_,SI _ rfl,rfl⟩)))
theorem sC(hT:s.TypeIs (.ref I) "set_iterator")(h:wpAny (model prog w) A.in1 (Builtin.«set_iterator.__next__» ⟨[.ref I],[]⟩) (fun f z=> ∃v,f= .done (.ret v)/\Q (some v) z) (fun e z=>z.TypeIs e "StopIteration"/\Q none z) s):
  wpAny (model prog w) A (pyNext (.ref I)) Q E s:=by
 unfold pyNext;refine Sw (wpAny_attempt (U1 (name:=Str.ofString "__next__") hT fH (UE fH hT wD (To h (fun f z zz=>?_) fun e z zz=>?_) (Af _))))
 . obtain⟨v,e,q⟩:=zz;exact⟨v,e,SA q⟩
 . exact Sw (wpAny_isInstance (T:="StopIteration") (b:=true) zz.1 isSubtype_stop (SA zz.2))
theorem Ah(hT:s.TypeIs (.ref I) "set_iterator")(h:Q (.ref I) s):wpAny (model prog w) A (pyIter (.ref I)) Q E s:=by
 refine wpAny_pyIter_slot hT rT (UE rT hT ua ?_ (wF _));show wpAny _ _ (ret (.ref I)) _ _ s;exact SA ⟨_,rfl,"set_iterator",_,hT,fH.lookup,h⟩
section
variable {prog : Program} {w : World} {A : Around} {E : Value -> Shared -> Prop} {s : Shared}
noncomputable def pW(f:Value)(i n ep:Nat)(a:Addr):Obj:={cls:= .type "set_iterator",data:= .fields #[f, .int i 0, .ref a, .int n 0, .int ep 0]}
structure So(b:Bool)(o:Obj)(es:Array (Int × Value))(ep:Nat)(t:SetTable):Prop where
 d:o.data= .set es ep t
 f:t.fits es.size=true
 T:Tb b t
structure It(a I T:Addr)(o oT:Obj)(f:Nat->Value)(n ep i:Nat)(s:Shared):Prop where
 set:s.heap.get? a=some o
 tup:s.heap.get? T=some oT
 it:s.heap.get? I=some (pW (f i) i n ep a)
variable {a I T : Addr} {o oT : Obj} {es : Array (Int × Value)} {ep : Nat} {t : SetTable} {b : Bool} {f : Nat -> Value}
theorem It.typ(h:It a I T o oT f n ep i s):s.TypeIs (.ref I) "set_iterator":=⟨_,h.it,rfl⟩
structure Turn(prog:Program)(w:World)(a I T:Addr)(o oT:Obj)(f:Nat->Value)(es:Array (Int × Value))(ep:Nat)(ord:List Value):Prop where
 one: ∀(A:Around) (E:Value->Shared->Prop) (s:Shared) (Q:PySem.Fin->Shared->Prop) (i:Nat) (v:Value),It a I T o oT f es.size ep i s->ord[i]?=some v->(∀h',Heap.SameBut I s.heap h'->h'.get? I=some (pW (f (i+1)) (i+1) es.size ep a)->Q (.done (.ret v)) {s with heap:=h'})->wpAny (model prog w) A (Builtin.«set_iterator.__next__» ⟨[.ref I],[]⟩) Q E s
 fin: ∀(A:Around) (E:Value->Shared->Prop) (s:Shared) (Q:PySem.Fin->Shared->Prop) (_:A.handled=none),It a I T o oT f es.size ep es.size s->(∀h' x,(∀c oo,c≠I->s.heap.get? c=some oo->h'.get? c=some oo)->({s with heap:=h'}:Shared).TypeIs (.ref x) "StopIteration"->E (.ref x) {s with heap:=h'})->wpAny (model prog w) A (Builtin.«set_iterator.__next__» ⟨[.ref I],[]⟩) Q E s
theorem Turn.walk{ord:List Value}(hA:A.handled=none)(h1:I≠a)(h2:I≠T)(hn:ord.length=es.size)(W:Turn prog w a I T o oT f es ep ord):WalksS prog w A I [I,a,T] [I] (fun x y=>y=x) es.size (fun i v=>ord[i]?=some v) (fun i s=>It a I T o oT f es.size ep i s) where
 sub:=fun c hc=>by cases SS.mp hc;simp
 grefl:=fun _=>rfl
 gtrans:=fun _ _ _ x y=>y.trans x
 frame:=fun i s h' tk st _ k=>⟨k a (by simp) _ st.set,k T (by simp) _ st.tup,k I (by simp) _ st.it⟩
 item:=fun i s Q E hi st k=>sC st.typ (W.one _ _ s _ i _ st (Sy (by lia)) fun h' sb hI=>⟨_,rfl,k _ _ (Sy (by lia)) ⟨(sb.2 a (Ne.symm h1)).trans st.set,(sb.2 T (Ne.symm h2)).trans st.tup,hI⟩ ⟨fun c oo hc e=>(sb.2 c (fun z=>hc (by rw[z];simp))).trans e,rfl,rfl,rfl,SD _⟩⟩)
 done:=fun s Q E st k=>sC st.typ (W.fin _ _ s _ (by simpa using hA) st fun h' x kp ty=>⟨ty,k _ ⟨fun c oo hc e=>kp c oo (fun z=>hc (by rw[z];simp)) e,rfl,rfl,rfl,SD _⟩⟩)
 self:=fun i s Q E st q=>Ah st.typ q
theorem cQ(S:So b o es ep t)(ho:s.heap.get? a=some o)(h:Q es s):wpAny (model prog w) A (setEntries a) Q E s:=wpAny_setEntries_of ho S.d S.f h
theorem fb(S:So b o es ep t)(ho:s.heap.get? a=some o)(h:Q (es,ep,t) s):wpAny (model prog w) A (setState a) Q E s:=Vy ho S.d S.f h
theorem fP(h:Q (w.params.followText "set-order") s):wpAny (model prog w) A setsByText Q E s:=by
 unfold setsByText;exact Sw (wpAny_askSetting (SA h))
theorem Lc{h:Heap}(e:h.get? I=some {cls:=c,data:= .fields vs}):((h.update I (Obj.mapFields (·.setIfInBounds j1 x))).update I (Obj.mapFields (·.setIfInBounds j2 y))).get? I=some {cls:=c,data:= .fields ((vs.setIfInBounds j1 x).setIfInBounds j2 y)}:=by
 have h1:=TR (Obj.mapFields (·.setIfInBounds j1 x)) e rfl;exact TR (Obj.mapFields (·.setIfInBounds j2 y)) h1 rfl
theorem wK:Heap.SameBut I h ((h.update I g1).update I g2):=(Ux _ _ _).trans (Ux _ _ _)
theorem n8{ord:List Value}(g:Nat->Nat)(S:So b o es ep t)
  (nx: ∀(A:Around) (E:Value->Shared->Prop) (s:Shared) (Q:Option (Value × Nat)->Shared->Prop) (i:Nat) (v:Value),s.heap.get? a=some o->ord[i]?=some v->Q (some (v,g (i+1))) s->wpAny (model prog w) A (setNext a (g i) i ep) Q E s)
  (nn: ∀(A:Around) (E:Value->Shared->Prop) (s:Shared) (Q:Option (Value × Nat)->Shared->Prop),s.heap.get? a=some o->Q none s->wpAny (model prog w) A (setNext a (g es.size) es.size ep) Q E s):
  Turn prog w a I a o o (fun i=> .int (g i) 0) es ep ord where
 one:=fun A E s Q i v st hv k=>by
  unfold Builtin.«set_iterator.__next__»;refine Sw (SA ?_);refine Sw (wpAny_fieldsOf st.it rfl ?_);dsimp only;refine Sw (cQ S st.set ?_);rw[if_neg (by simp)];refine Sw (nx _ _ s _ i v st.set hv ?_);dsimp only;have it:=st.it;refine Sw (U4 it rfl (by show 0 < 5;decide) ?_);have h1:=TR (Obj.mapFields (·.setIfInBounds 0 (rawInt (g (i+1))))) it rfl;refine Sw (U4 h1 rfl (by show 1 < 5;decide) (SA (k _ wK ?_)));exact Lc it
 fin:=fun A E s Q hA st k=>by
  unfold Builtin.«set_iterator.__next__»;refine Sw (SA ?_);refine Sw (wpAny_fieldsOf st.it rfl ?_);dsimp only;refine Sw (cQ S st.set ?_);rw[if_neg (by simp)];refine Sw (nn _ _ s _ st.set ?_);dsimp only;refine Sw (U4 st.it rfl (by show 2 < 5;decide) (rR hA fun h' x kp ty=>k h' x (fun c oo hc e=>kp c oo ?_) ty));exact((Ux _ _ _).2 c hc).trans e
theorem tY(S:So b o es ep t)(hw:w.params.followText "set-order"=true):Turn prog w a I a o o (fun _=> .int 0 0) es ep ((pickOrder (w.params.setOrder a ep) es).toList.map (·.2)):=by
 have walk: ∀(A:Around) (E:Value->Shared->Prop) (s:Shared) (Q:Array (Int × Value)->Shared->Prop),s.heap.get? a=some o->Q (pickOrder (w.params.setOrder a ep) es) s->wpAny (model prog w) A (setWalk a) Q E s:=fun A E s Q ho q=>by
  unfold setWalk;refine Sw (fb S ho (Sw (fP ?_)));rw[if_pos hw];exact Sw (wpAny_askSetting (SA q))
 have step: ∀(A:Around) (E:Value->Shared->Prop) (s:Shared) (Q:Option (Value × Nat)->Shared->Prop) (i:Nat),s.heap.get? a=some o->Q (((pickOrder (w.params.setOrder a ep) es)[i]?).map fun e=>(e.2,0)) s->wpAny (model prog w) A (setNext a 0 i ep) Q E s:=fun A E s Q i ho q=>by
  unfold setNext;refine Sw (fb S ho (Sw (fP ?_)));rw[if_pos hw];dsimp only;rw[if_neg (by simp)];exact Sw (walk _ _ _ _ ho (SA q))
 refine n8 (fun _=>0) S (fun A E s Q i v ho hv q=>step A E s Q i ho ?_) (fun A E s Q ho q=>step A E s Q _ ho ?_)
 . rw[SX,Ta] at hv;cases e:(pickOrder (w.params.setOrder a ep) es)[i]? with
   | none=>rw[e] at hv;cases hv
   | some y=>rw[e] at hv;cases hv;exact q
 . have l:(pickOrder (w.params.setOrder a ep) es).size=es.size:=by rw[<-SN,(kX _ _).length_eq,SN]
   rw[Vx (by lia)];exact q
noncomputable def behind(t:SetTable):Nat->Nat
 | 0=>0
 | i+1=>t.place.getD i 0+1
theorem below_at(T:Tb b t)(hi:i<=t.place.size):SetTable.below t.place (behind t i)=i:=by
 have c:=iC T.up (behind t i);have le:=c.le;rw[SN] at le;have gt: ∀j,(hj:j < t.place.size)->t.place.toList[j]?=some t.place[j]:=fun j hj=>by rw[Ta];exact S7 hj
 cases i with
 | zero=>
  refine Nat.eq_zero_of_not_pos fun z=>?_;have:=c.lo 0 _ z (gt 0 (by lia));exact absurd this (VU _)
 | succ j=>
  have hb:behind t (j+1)=t.place[j]+1:=by show t.place.getD j 0+1=_;rw[nc (by lia)]
  rw[hb] at c le ⊢;rcases Nat.lt_trichotomy (SetTable.below t.place (t.place[j]+1)) (j+1) with z | z | z
  . have:=c.hi j _ (by lia) (gt j (by lia));lia
  . exact z
  . have h1:=c.lo (j+1) _ z (gt (j+1) (by lia));have h2:=pw T.up (Nat.lt_succ_self j) (gt j (by lia)) (gt (j+1) (by lia));lia
theorem tZ(S:So b o es ep t)(hw:w.params.followText "set-order"=false)(hl:b=true)(hd:(!t.plain && decide (es.size > 1))=false):Turn prog w a I a o o (fun i=> .int (behind t i) 0) es ep (es.toList.map (·.2)):=by
 have sz:t.place.size=es.size:=by
  have:=S.f;unfold SetTable.fits at this;simp only [T9,SO] at this;exact this.1
 have step: ∀(A:Around) (E:Value->Shared->Prop) (s:Shared) (Q:Option (Value × Nat)->Shared->Prop) (i:Nat),i<=es.size->s.heap.get? a=some o->Q (match es[i]?,t.place[i]? with | some (_,x),some j=>some (x,j+1) | _,_=>none) s->wpAny (model prog w) A (setNext a (behind t i) i ep) Q E s:=fun A E s Q i hi ho q=>by
  unfold setNext;refine Sw (fb S ho (Sw (fP ?_)));rw[if_neg (by rw[hw];exact SG)];dsimp only;show wpAny _ _ (if (!t.plain && decide (es.size > 1))=true then _ else _) _ _ _;rw[if_neg (by rw[hd];exact SG)];refine Sw ?_;show wpAny _ _ (if (!t.led && !es.isEmpty)=true then _ else _) _ _ _;rw[if_neg (by rw[S.T.led,hl];exact SG)];refine SA (SA ?_);rw[below_at S.T (by lia)];exact q
 refine n8 (behind t) S (fun A E s Q i v ho hv q=>?_) (fun A E s Q ho q=>step A E s Q _ (SD _) ho ?_)
 . rw[SX,Ta] at hv;cases e:es[i]? with
   | none=>rw[e] at hv;cases hv
   | some y=>
    rw[e] at hv;cases hv;have hi:=(UQ.mp e).1;refine step A E s Q i (by lia) ho ?_;rw[e,S7 (show i < t.place.size by lia)];have:behind t (i+1)=t.place[i]+1:=by show t.place.getD i 0+1=_;rw[nc (by lia)]
    rw[this] at q;exact q
 . rw[Vx (SD _)];exact q
noncomputable def v9(ps:List Nat):Obj:={cls:= .type "tuple",data:= .seq (ps.map fun(i:Nat)=>rawInt i).toArray}
theorem t6{ps:List Nat}(S:So b o es ep t)(pm:ps.Perm (List.range es.size)):Turn prog w a I T o (v9 ps) (fun i=>if i<=es.size then .ref T else .none) es ep (ps.map fun p=>(es.getD p (0, .none)).2):=by
 have ln:ps.length=es.size:=by rw[pm.length_eq,Tf]
 have nx: ∀(A:Around) (E:Value->Shared->Prop) (s:Shared) (Q:Value->Shared->Prop) (p:Nat) (hp:p < es.size),s.heap.get? a=some o->Q es[p].2 s->wpAny (model prog w) A (setNextDrawn a p ep) Q E s:=fun A E s Q p hp ho q=>by
  unfold setNextDrawn;refine Sw (fb S ho ?_);dsimp only;rw[if_neg (by simp),S7 hp];exact SA q
 constructor
 . intro A E s Q i v st hv k;rw[SX] at hv;cases e:ps[i]? with
   | none=>rw[e] at hv;cases hv
   | some p=>
    rw[e] at hv;cases hv;have hi:=(SM.mp e).1;have hp:p < es.size:=Td.mp (pm.mem_iff.mp (SW e));have it:=st.it;dsimp only at it k;rw[if_pos (by lia)] at it;rw[if_pos (by lia)] at k;unfold Builtin.«set_iterator.__next__»;refine Sw (SA ?_);refine Sw (wpAny_fieldsOf it rfl ?_);dsimp only;refine Sw (cQ S st.set ?_);rw[if_neg (by simp)];refine Sw (Uu st.tup rfl ?_);dsimp only;have ge:(ps.map fun(i:Nat)=>rawInt i).toArray[(i:Int).toNat]?=some (rawInt (p:Int)):=by
     rw[Tp,VF,SX,e];rfl
    rw[ge];show wpAny _ _ (setNextDrawn a ((p:Int).toNat) ((ep:Int).toNat) >>=_) _ _ _;rw[Tp,Tp];refine Sw (nx _ _ s _ p hp st.set ?_);have gd:es.getD p (0, .none)=es[p]:=by simp [Array.getD,hp]
    rw[gd] at k;refine Sw (U4 it rfl (by show 1 < 5;decide) (SA (k _ (Ux _ _ _) ?_)));exact TR (Obj.mapFields (·.setIfInBounds 1 (rawInt ((i:Int)+1)))) it rfl
 . intro A E s Q hA st k;have it:=st.it;rw[if_pos (SD _)] at it;unfold Builtin.«set_iterator.__next__»;refine Sw (SA ?_);refine Sw (wpAny_fieldsOf it rfl ?_);dsimp only;refine Sw (cQ S st.set ?_);rw[if_neg (by simp)];refine Sw (Uu st.tup rfl ?_);dsimp only;have ge:(ps.map fun(i:Nat)=>rawInt i).toArray[((es.size:Nat):Int).toNat]?=none:=by
    rw[Tp,VF,SX,Ub (by lia)];rfl
   rw[ge];dsimp only;refine Sw (U4 it rfl (by show 0 < 5;decide) ?_);have h1:=TR (Obj.mapFields (·.setIfInBounds 0 (rawInt 0))) it rfl;refine Sw (U4 h1 rfl (by show 2 < 5;decide) (rR hA fun h' x kp ty=>k h' x (fun c oo hc e=>kp c oo ?_) ty));exact(wK.2 c hc).trans e
end
section
variable {prog : Program} {w : World} {A : Around} {E : Value -> Shared -> Prop} {s : Shared}
variable {a : Addr} {o : Obj} {es : Array (Int × Value)} {ep : Nat} {t : SetTable} {b : Bool}
theorem jS(S:So b o es ep t)(ho:s.heap.get? a=some o)(h:Q ep s):wpAny (model prog w) A (setEpoch a) Q E s:=wpAny_setEpoch_of ho S.d S.f h
theorem uP{ps:List Nat}(pm:ps.Perm (List.range es.size)):(ps.map fun p=>(es.getD p (0, .none)).2).Perm (es.toList.map (·.2)):=by
 refine(pm.map _).trans ?_;have:(List.range es.size).map (fun p=>(es.getD p (0,Value.none)).2)=es.toList.map (·.2):=by
  refine VI (by simp) fun i h1 h2=>?_;have hi:i < es.size:=by simpa using h1
  simp [Array.getD,hi]
 rw[this]
theorem xP(S:So b o es ep t)(ho:s.heap.get? a=some o)(hc:o.cls= .type "set")(hb:b=!w.params.followText "set-order")(hz:es.size<=sizeLine)(h: ∀I T oT f ord h' d,Turn prog w a I T o oT f es ep ord->It a I T o oT f es.size ep 0 {s with heap:=h',drawn:=d}->ord.Perm (es.toList.map (·.2))->I≠a->I≠T->I < h'.objs.size->T < h'.objs.size->(∀c oo,s.heap.get? c=some oo->h'.get? c=some oo)->s.heap.objs.size<=I->(T=a\/s.heap.objs.size<=T)->Q (.ref I) {s with heap:=h',drawn:=d}):
  wpAny (model prog w) A (pyIter (.ref a)) Q E s:=by
 have hT:s.TypeIs (.ref a) "set":=⟨o,ho,hc⟩
 have la:=SQ ho;refine wpAny_pyIter_slot hT F.slot_set_iter (UE F.slot_set_iter hT jf ?_ (F.args_set_iter_1 _));unfold Builtin.«frozenset.__iter__»;show wpAny _ _ (Builtin.Frozenset.slot0 "__iter__" ⟨[.ref a],[]⟩ >>=_) _ _ s;refine Sw (SA ?_);unfold Builtin.Frozenset.sizeOf;refine Sw (Sw (cQ S ho (SA ?_)));unfold setDrawn;refine Sw (Sw (fb S ho (Sw (fP (SA ?_)))));show wpAny _ _ (if (!w.params.followText "set-order" && (!t.plain && decide (es.size > 1)))=true then _ else _) _ _ s;cases hw:w.params.followText "set-order" with
 | true=>
  rw[if_neg (by simp)];refine Sw (SA ?_);refine Sw (jS S ho ?_);refine Sw (Uc (SA ⟨_,rfl,"set_iterator",_,⟨_,SI _ rfl,rfl⟩,fH.lookup,?_⟩));have sz:(s.heap.push {cls:= .type "set_iterator",data:= .fields #[rawInt 0,rawInt 0, .ref a,rawInt es.size,rawInt ep]}).objs.size=s.heap.objs.size+1:=TC _ _;exact h _ a o _ _ _ s.drawn (tY S hw) ⟨Sz _ ho,Sz _ ho,SI _ rfl⟩ ((kX _ _).map _) (by lia) (by lia) (by lia) (by lia) (fun c oo e=>Sz _ e) (SD _) (.inl rfl)
 | false=>
  cases hd:(!t.plain && decide (es.size > 1)) with
  | false=>
   rw[if_neg (by decide)];refine Sw (SA ?_);refine Sw (jS S ho ?_);refine Sw (Uc (SA ⟨_,rfl,"set_iterator",_,⟨_,SI _ rfl,rfl⟩,fH.lookup,?_⟩));have sz:(s.heap.push {cls:= .type "set_iterator",data:= .fields #[rawInt 0,rawInt 0, .ref a,rawInt es.size,rawInt ep]}).objs.size=s.heap.objs.size+1:=TC _ _;exact h _ a o _ _ _ s.drawn (tZ S hw (by rw[hb,hw];rfl) hd) ⟨Sz _ ho,Sz _ ho,SI _ rfl⟩ (.refl _) (by lia) (by lia) (by lia) (by lia) (fun c oo e=>Sz _ e) (SD _) (.inl rfl)
  | true=>
   rw[if_pos (by decide)];refine Sw (sX es.size (List.range es.size) s _ (by simp) fun ps d pm=>?_);have ln:ps.length=es.size:=by rw[pm.length_eq,Tf]
   refine Sw (wpAny_newTuple ?_ (by rw[Sx];lia));have sz:(s.heap.push (v9 ps)).objs.size=s.heap.objs.size+1:=TC _ _;refine Sw (jS (s:={s with heap:=s.heap.push (v9 ps),drawn:=d}) S (Sz _ ho) ?_);refine Sw (Uc (SA ⟨_,rfl,"set_iterator",_,⟨_,SI _ rfl,rfl⟩,fH.lookup,?_⟩));have JU:((s.heap.push (v9 ps)).push {cls:= .type "set_iterator",data:= .fields #[.ref s.heap.objs.size,rawInt 0, .ref a,rawInt es.size,rawInt ep]}).objs.size=s.heap.objs.size+1+1:=by rw[TC,sz]
   refine h _ s.heap.objs.size (v9 ps) _ _ _ d (t6 S pm) ⟨Sz _ (Sz _ ho),Sz _ (SI _ rfl),SI _ ?_⟩ (uP pm) ?_ ?_ ?_ ?_ (fun c oo e=>Sz _ (Sz _ e)) ?_ (.inr (SD _))
   . rfl
   . rw[sz];lia
   . rw[sz];lia
   . rw[sz];exact Nat.lt_of_lt_of_eq (Nat.lt_succ_self _) JU.symm
   . exact Nat.lt_of_lt_of_eq (by lia) JU.symm
   . rw[sz];lia
theorem Ag:typeLookup (.type "set") "__len__"=pure (some (.builtin "set.__len__")):=by rw[VS,Vc];kernel_rfl
theorem pH(hA:A.handled=none)(S:So b o es ep t)(ho:s.heap.get? a=some o)(hc:o.cls= .type "set")(hb:b=!w.params.followText "set-order")(hz:es.size<=sizeLine)(h: ∀h' d tk acc,s.heap.objs.size < h'.objs.size->(∀c oo,s.heap.get? c=some oo->h'.get? c=some oo)->acc.Perm (es.toList.map (·.2))->Q acc {s with heap:=h',drawn:=d,toks:=tk}):wpAny (model prog w) A (collect (.ref a)) Q E s:=by
 have la:=SQ ho;unfold collect;refine Sw (wpAny_runValue (Uz F.entry_proto_collect ?_));rw[Us F.plain_proto_collect _];show wpAny _ A.in1 (newList [] >>=fun l=>again (.builtin "list.__iadd__" ⟨[l, .ref a],[]⟩)) _ _ s;refine Sw (Uc (SA ⟨Vd F.plain_list_iadd _,Uz F.entry_list_iadd ?_⟩));rw[Us F.plain_list_iadd _];let L:Obj:={cls:= .type "list",data:= .seq #[]}
 have hL:(s.heap.push L).get? s.heap.objs.size=some L:=SI _ rfl;have Ol:(s.heap.push L).get? a=some o:=Sz _ ho;have Lv:(s.heap.push L).objs.size=s.heap.objs.size+1:=TC _ _;have n1:Builtin.List.listSameRef (.ref s.heap.objs.size) (.ref a)=false:=by
  show(s.heap.objs.size==a)=false;rw[U2];lia
 have QR:({s with heap:=s.heap.push L}:Shared).TypeIs (.ref a) "set":=⟨o,Ol,hc⟩
 show wpAny _ A.in1 (Builtin.List.listExtendWith (.ref s.heap.objs.size) (.ref a) (.ref s.heap.objs.size)) _ _ {s with heap:=s.heap.push L};unfold Builtin.List.listExtendWith;refine Sw (wpAny_typeOf QR ?_);rw[if_neg (by rw[n1];decide)];refine Sw (xP S Ol hc hb hz fun I T oT f ord h' d W st pm P8 P9 lI lT kp gI gT=>?_);have Kh:({s with heap:=h',drawn:=d}:Shared).TypeIs (.ref a) "set":=⟨o,st.set,hc⟩
 refine Sw (T8 ?_);unfold Builtin.List.listLengthHint;refine Sw (wpAny_specialOf Kh Ag ?_);have sp:splitId "set.__len__"=some ("set","__len__"):=by decide+kernel
 dsimp only;rw[sp];dsimp only;refine Sw (wpAny_isInstance (b:=true) Kh sub_set_self ?_);rw[if_neg (by decide),if_pos (by decide+kernel)];refine Sw (wpAny_typeOf Kh (SA ?_));rw[if_pos (by decide+kernel)];refine Sw (UG ?_);have OD:h'.get? s.heap.objs.size=some L:=kp _ _ hL;unfold Builtin.List.listTouch;refine Sw (Sw (Wh OD rfl ?_ (by decide) (by decide)));have g1:=TR (Obj.mapSeq fun x=>x.push Value.none) OD rfl;refine Wh g1 rfl ?_ (by decide) (by decide);have g2:=TR (Obj.mapSeq fun x=>x.pop) g1 rfl;have nS:s.heap.objs.size∉ [I,a,T]:=by
  have:T≠s.heap.objs.size:=by
   rcases gT with z | z
   . lia
   . have:s.heap.objs.size+1<=T:=by rw[<-Lv];exact z
     lia
  have:I≠s.heap.objs.size:=by
   have:s.heap.objs.size+1<=I:=by rw[<-Lv];exact gI
   lia
  simp only [Tg,SH,or_false,not_or];exact⟨by lia,by lia,by lia⟩
 have k2: ∀c oo,c≠s.heap.objs.size->h'.get? c=some oo->((h'.update s.heap.objs.size (Obj.mapSeq fun x=>x.push Value.none)).update s.heap.objs.size (Obj.mapSeq fun x=>x.pop)).get? c=some oo:=fun c oo hc e=>(wK.2 c hc).trans e;have nm: ∀c∈ [I,a,T],c≠s.heap.objs.size:=fun c hc z=>nS (z▸hc);have ln:ord.length=es.size:=by rw[pm.length_eq];simp
 have eR:It a I T o oT f es.size ep 0 {s with heap:=(h'.update s.heap.objs.size (Obj.mapSeq fun x=>x.push Value.none)).update s.heap.objs.size (Obj.mapSeq fun x=>x.pop),drawn:=d}:=⟨k2 _ _ (nm a (by simp)) st.set,k2 _ _ (nm T (by simp)) st.tup,k2 _ _ (nm I (by simp)) st.it⟩
 refine SA ⟨Vd F.plain_extend_loop _,codeAny_extend_loopS (W.walk (A:=A.in1) (by simpa using hA) P8 P9 ln) hz _ nS _ es.size 0 _ _ _ (by lia) (Tw _) eR g2 (ItemsOf.nil _) fun z acc c mv gz ia=>?_⟩;show wpAny _ A (load s.heap.objs.size >>=_) _ _ z;refine Sw (wpAny_load gz (SA ?_));have ea:acc.toList=ord:=by
  refine Wg fun i=>?_;rw[Ta];by_cases hi:i < acc.size
  . have e:=S7 hi;rw[e];exact(ia.2 i _ e).symm
  . rw[Vx (by lia),Ub (by have:=ia.1;lia)]
 rw[ea];obtain⟨Ql,QY,OL,Pz,PY⟩:=z;have q1:QY=s.gens:=mv.gens;have q2:OL=d:=mv.drawn;have q3:PY=s.os:=mv.os;subst q1;subst q2;subst q3;refine h Ql OL Pz ord (SQ gz) (fun c oo e=>mv.heap c oo ?_ (k2 c oo ?_ (kp c oo (Sz _ e)))) pm
 . have:=SQ e;have:s.heap.objs.size+1<=I:=by rw[<-Lv];exact gI
   simp only [Tg,SH,or_false,not_or];exact⟨by lia,by lia⟩
 . have:=SQ e;lia
end
end eF
namespace L2
open PySem PySem.Spec PyProof.Rows
noncomputable def nG(scope:Scope)(cl:List (Str × Addr))(C:Addr)(env:Env):Env:=
 {scope:=relabel scope env,locals:=C,globals:=env.globals,cells:=cellsFrom (C+1) scope.names cl,qual:=env.qual,func:=none,code:=env.code,frame:=env.frame,builtins:=env.builtins}
noncomputable def dr(X:Cx)(N:List Str)(scope:Scope)(s:Shared)(H:Hp)(cl:List (Str × Addr))(C:Addr)(ex:List Addr):Cx:=
 {X with N:=N,s₀:=s,H₀:=H,env:=nG scope cl C X.env,outer:=X.stack,ex:=ex,fn:=fun x=>decide (scope.names.lookup x=some .cell),pn:= [],xe:=fun _ _=>False}
theorem aP: ∀(names:List (Str × NameKind)) (n:Nat) (acc:List (Str × Addr)),cellsFrom n names acc=cellsFrom n names []++acc
 | [],_,_=>rfl
 | (name,kind)::r,n,acc=>by
  unfold cellsFrom;split
  . rw[aP r (n+1) ((name,n)::acc),aP r (n+1) [(name,n)],Tz];rfl
  . exact aP r n acc
theorem dq: ∀(names:List (Str × NameKind)) (n:Nat) {x:Str} {c:Addr},(x,c)∈cellsFrom n names []->(x,NameKind.cell)∈names
 | [],_,_,_,h=>by simp [cellsFrom] at h
 | (name,kind)::r,n,x,c,h=>by
  unfold cellsFrom at h;split at h
  . rename_i hk;rw[aP] at h;rcases Ts.mp h with q | q
    . exact Tn _ (dq r _ q)
    . have e:(x,c)=(name,n):=by simpa using q
      cases e;have:kind= .cell:=by simpa using hk
      subst this;exact TM
  . exact Tn _ (dq r _ h)
theorem dg{α:Type}: ∀{l:List (Str × α)} {x:Str} {v:α},(l.map (·.1)).Nodup->(x,v)∈l->l.lookup x=some v
 | (k,w)::r,x,v,nd,h=>by
  rw[Ti] at nd;obtain⟨h1,h2⟩:=UY.mp nd;rw[TQ];rcases Tg.mp h with e | h'
  . cases e;simp
  . have i9 : (x == k) = false := by
      rw[U2];intro e;exact h1 (e▸SU.mpr ⟨(x,v),h',rfl⟩)
    rw[i9];exact dg h2 h'
theorem fq{env:Env}: ∀{names:List (Str × NameKind)} {x:Str} {k:NameKind},
  (names.map fun(n,k)=>if (k==NameKind.free && env.scope.kind== .function && env.kindOf n==some .cell) then(n,NameKind.cell) else(n,k)).lookup x=some k->
  names.lookup x=some k\/(k= .cell/\names.lookup x=some .free)
 | [],_,_,h=>by simp at h
 | (n,k0)::r,x,k,h=>by
  have ih:= @fq env r x k;rw[Ti] at h;cases hx:x==n with
  | true=>
   by_cases hc:(k0==NameKind.free && env.scope.kind== .function && env.kindOf n==some .cell)=true
   . dsimp only at h;rw[if_pos hc,TQ,hx] at h;cases h;right;refine⟨rfl,?_⟩;rw[TQ,hx];simp only [T9] at hc;have:k0= .free:=by simpa using hc.1.1
     rw[this]
   . dsimp only at h;rw[if_neg hc,TQ,hx] at h;left;rw[TQ,hx];exact h
  | false=>
   have h':(r.map fun(n,k)=>if (k==NameKind.free && env.scope.kind== .function && env.kindOf n==some .cell) then(n,NameKind.cell) else(n,k)).lookup x=some k:=by
    by_cases hc:(k0==NameKind.free && env.scope.kind== .function && env.kindOf n==some .cell)=true
    . dsimp only at h;rw[if_pos hc,TQ,hx] at h;exact h
    . dsimp only at h;rw[if_neg hc,TQ,hx] at h;exact h
   rw[TQ,hx];exact ih h'
theorem cw{env:Env}: ∀{names:List (Str × NameKind)} {x:Str},names.lookup x=some .free->
  (names.map fun(n,k)=>if (k==NameKind.free && env.scope.kind== .function && env.kindOf n==some .cell) then(n,NameKind.cell) else(n,k)).lookup x=some .free\/
  (names.map fun(n,k)=>if (k==NameKind.free && env.scope.kind== .function && env.kindOf n==some .cell) then(n,NameKind.cell) else(n,k)).lookup x=some .cell
 | [],_,h=>by simp at h
 | (n,k0)::r,x,h=>by
  have ih:= @cw env r x;rw[Ti];dsimp only;cases hx:x==n with
  | true=>
   rw[TQ,hx] at h;cases h;by_cases hc:(NameKind.free==NameKind.free && env.scope.kind== .function && env.kindOf n==some .cell)=true
   . right;rw[if_pos hc,TQ,hx]
   . left;rw[if_neg hc,TQ,hx]
  | false=>
   rw[TQ,hx] at h;by_cases hc:(k0==NameKind.free && env.scope.kind== .function && env.kindOf n==some .cell)=true
   . rw[if_pos hc];simp only [TQ,hx];exact ih h
   . rw[if_neg hc];simp only [TQ,hx];exact ih h
theorem gx{scope:Scope}{env:Env}(h: ∀x∈scope.names,x.2= .free-> ∃c,env.cells.lookup x.1=some c):
  ∃cl,closureFor scope env=pure cl/\(∀x c,(x,c)∈cl->env.cells.lookup x=some c)/\ ∀x,(x,NameKind.free)∈scope.names-> ∃c,(x,c)∈cl:=by
 have gen: ∀(names:List (Str × NameKind)) (acc:List (Str × Addr)),(∀x∈names,x.2= .free-> ∃c,env.cells.lookup x.1=some c)->(∀x c,(x,c)∈acc->env.cells.lookup x=some c)->
   ∃cl,(forIn names acc (fun(x:Str × NameKind) (cs:List (Str × Addr))=>match x with | (name,kind)=>if kind== .free then(do let a<-cellOf env name;pure (ForInStep.yield ((name,a)::cs))) else pure (ForInStep.yield cs)):Sem (List (Str × Addr)))=pure cl/\
    (∀x c,(x,c)∈cl->env.cells.lookup x=some c)/\(∀p∈acc,p∈cl)/\ ∀x,(x,NameKind.free)∈names-> ∃c,(x,c)∈cl:=by
  intro names;induction names with
  | nil=>intro acc _ ha;exact⟨acc,by rw[List.forIn_nil],ha,fun _ hp=>hp,fun x hx=>by simp at hx⟩
  | cons p r ih=>
   intro acc hn ha;obtain⟨n,k⟩:=p;rw[List.forIn_cons];by_cases hk:(k==NameKind.free)=true
   . have Il:k= .free:=by simpa using hk
     obtain⟨c,hc⟩:=hn (n,k) TM Il;obtain⟨cl,e1,e2,e3,e4⟩:=ih ((n,c)::acc) (fun x hx=>hn x (Tn _ hx)) (fun x c' hx=>by
      rcases Tg.mp hx with e | hx
      . cases e;exact hc
      . exact ha x c' hx)
     refine⟨cl,?_,e2,fun q hq=>e3 q (Tn _ hq),fun x hx=>?_⟩
     . dsimp only;rw[if_pos hk];have:cellOf env n=pure c:=by unfold cellOf;rw[hc]
       rw[this];exact e1
     . rcases Tg.mp hx with e | hx
       . cases e;exact⟨c,e3 _ TM⟩
       . exact e4 x hx
   . obtain⟨cl,e1,e2,e3,e4⟩:=ih acc (fun x hx=>hn x (Tn _ hx)) ha;refine⟨cl,?_,e2,e3,fun x hx=>?_⟩
     . dsimp only;rw[if_neg hk];exact e1
     . rcases Tg.mp hx with e | hx
       . cases e;exact absurd rfl hk
       . exact e4 x hx
 obtain⟨cl,e1,e2,_,e4⟩:=gen scope.names [] h (fun _ _ hx=>nomatch hx);refine⟨cl,?_,e2,e4⟩;unfold closureFor;first
  | exact e1
  | (simp only [bind_pure];exact e1)
theorem nA (I : Nat -> Shared -> Prop) (turn : ∀ n s, I n s -> wpAny (model prog w) A (pyNext it) (fun r s₁ => match r with
   | none=>R (.ok .next) s₁
   | some v=>wpAny (model prog w) A (letOwnedTupleGo target it v) (fun _ s₀=>wpAny (model prog w) A (assign target env v) (fun _ s₂=>
     wpAny (model prog w) A (forIn ifs true fun c r=>if r=true then do let ok<-isTrue c env (eval c env);pure (ForInStep.yield ok) else pure (ForInStep.yield r)) (fun ok s₃=>
      if ok=true then wpAny (model prog w) A (eval elt env) (fun x s₄=>
       wpAny (model prog w) A (call (.builtin "list.append") [acc,x]) (fun _ s₅=> ∃m,m < n/\I m s₅) (fun _ _=>False) s₄) (fun _ _=>False) s₃
      else∃m,m < n/\I m s₃) (fun _ _=>False) s₂) (fun _ _=>False) s₀) (fun _ _=>False) s₁) (fun _ _=>False) s) (n:Nat) (h:I n s):codeAny (model prog w) A (.compLoop (.ListComp elt [⟨target,iter,ifs,0⟩] scope pos) 0 it acc env) R s:=by
 refine codeAny_loop rfl I (fun n s hI=>?_) n h;show wpAny _ A ((compTurn (.ListComp elt [⟨target,iter,ifs,0⟩] scope pos) 0 it acc env).onRaise (fun x=>do noteFrame x env;theTreesLotGoes x)) _ _ s;refine wpAny_noted ?_;rw[compTurn_list];refine Sw (Ut (Sw (To (turn n s hI) (fun r s₁ h₁=>?_) fun _ _ h'=>h'.elim)));cases r with
 | none=>exact SA h₁
 | some v=>
  refine Sw (To h₁ (fun _ s₀ h₀=>?_) fun _ _ h'=>h'.elim);refine Sw (To h₀ (fun _ s₂ h₂=>Sw (To h₂ (fun ok s₃ h₃=>?_) fun _ _ h'=>h'.elim)) fun _ _ h'=>h'.elim);cases ok with
  | false=>exact SA ⟨rfl,h₃⟩
  | true=>
   exact Sw (Sw (To h₃ (fun x s₄ h₄=>Sw (To h₄ (fun _ s₅ h₅=>SA (SA ⟨rfl,h₅⟩)) fun _ _ h'=>h'.elim)) fun _ _ h'=>h'.elim))
def PF(X:Cx)(ifs:List Expr)(t:TT):Prop:=
 ∀(pins:List (Addr × Obj)) (s:Shared) (σ:St) (H:Hp) (Q:Bool->Hp->Prop),Inv X pins σ H s->t σ H Q->
  wpAny (model X.prog X.w) X.A (forIn ifs true fun c r=>if r=true then do let ok<-isTrue c X.env (eval c X.env);pure (ForInStep.yield ok) else pure (ForInStep.yield r)) (TP X pins σ Q) X.xe s
def GN:TT:=fun _ H Q=>Q true H
theorem DP:PF X [] GN:=fun _ _ _ H _ I h=>wpAny_tests_nil ⟨H,I,h⟩
theorem DO(h:PT X c t):PF X [c] t:=fun pins s σ H Q I hw=>wpAny_tests_one (h pins s σ H Q I hw)
noncomputable def ic(nt:Nat)(js:List Nat)(σ:St):St:=List.replicate nt none++js.map fun j=>(σ[j]?).join
structure iZ(X:Cx)(N:List Str)(nt:Nat)(js:List Nat)(scope:Scope):Prop where
 kind:scope.kind= .function
 nd:(scope.names.map (·.1)).Nodup
 len:nt<=N.length
 OX:js.map (fun j=>X.N[j]?)=(N.drop nt).map some
 fr: ∀x∈N.drop nt,scope.names.lookup x=some .free
 G5: ∀x∈scope.names,x.2= .free->X.env.kindOf x.1=some .cell\/X.env.kindOf x.1=some .free
theorem iZ.names(S:iZ X N nt js scope): ∀x∈scope.names,x.2= .local->scope.names.lookup x.1=some .local:=fun x hx e=>by
 obtain⟨n,k⟩:=x;cases e;exact dg S.nd hx
theorem lZ(S:iZ X N nt js scope)(hc:X.calm=true)(I:Inv X pins σ H s)(hf: ∀b∈fp,cT X pins H b)(Oz: ∀b∈fp,b < s.heap.objs.size)(c1: ∀x c,(x,c)∈cl->X.env.cells.lookup x=some c)(c2: ∀x,(x,NameKind.free)∈scope.names-> ∃c,(x,c)∈cl):
  Inv (dr X N scope s H cl s.heap.objs.size fp) [] (ic nt js σ) H {s with heap:=pushCells (s.heap.push {cls:= .type "dict",data:= .dict #[]}) scope.names,toks:=tk}:=by
 have keep: ∀b o,s.heap.get? b=some o->(pushCells (s.heap.push {cls:= .type "dict",data:= .dict #[]}) scope.names).get? b=some o:=fun b o e=>Vq _ _ b o (Sz _ e);have ok:=cellsFrom_ok scope.names (s.heap.push {cls:= .type "dict",data:= .dict #[]}) (s.heap.objs.size+1) [] ⟨fun _ _ hm=>(nomatch hm),List.Pairwise.nil⟩ (by rw[TC];exact SD _);rw[TC] at ok;have split: ∀x c,(cellsFrom (s.heap.objs.size+1) scope.names cl).lookup x=some c->(x,c)∈cellsFrom (s.heap.objs.size+1) scope.names []\/(x,c)∈cl:=fun x c e=>by
  rw[aP] at e;exact Ts.mp (TU e)
 have old: ∀x c,(x,c)∈cl->c < s.heap.objs.size:=fun x c h=>by
  obtain⟨v,q⟩:=I.cell x c (c1 x c h);exact q.lt
 have new: ∀x c,(x,c)∈cellsFrom (s.heap.objs.size+1) scope.names []->s.heap.objs.size+1<=c:=fun x c h=>(ok.empty x c h).2;have fresh: ∀b,s.heap.objs.size<=b->H b=none:=fun b hb=>I.aO.fresh hb;have CL: ∀x,scope.names.lookup x=some .free-> ∀c,X.env.cells.lookup x=some c->(cellsFrom (s.heap.objs.size+1) scope.names cl).lookup x=some c:=fun x hx c QL=>by
  obtain⟨c',Co⟩:=c2 x (TU hx);have e1:(cellsFrom (s.heap.objs.size+1) scope.names []).lookup x=none:=by
   cases e:(cellsFrom (s.heap.objs.size+1) scope.names []).lookup x with
   | none=>rfl
   | some d=>
    have:=dg S.nd (dq _ _ (TU e));rw[hx] at this;cases this
  have e2: ∃d,cl.lookup x=some d:=by
   cases e:cl.lookup x with
   | some d=>exact⟨d,rfl⟩
   | none=>
    exfalso;have: ∀{l:List (Str × Addr)},(x,c')∈l->l.lookup x≠none:=fun{l}=>by
     induction l with
     | nil=>intro h;simp at h
     | cons p r ih=>
      intro h;obtain⟨k,v⟩:=p;rw[TQ];cases hb:x==k with
      | true=>simp
      | false=>
       rcases Tg.mp h with q | q
       . cases q;simp at hb
       . exact ih q
    exact this Co e
  obtain⟨d,hd⟩:=e2;have:d=c:=by
   have:=c1 x d (TU hd);rw[QL] at this;cases this;rfl
  subst this;rw[aP,List.lookup_append,e1,hd];rfl
 have QZ: ∀b,b≠X.env.locals->b∉X.fs->b∉pY X.stack:=fun b h1 h2 hb=>(Tg.mp (I.qj b hb)).elim h1 h2;refine⟨⟨I.ok.mod,S.kind,I.ok.glob,I.ok.blt,SD _,fun x y c e1 e2=>?_,fun x hx=>?_,fun x c h1 h2=>?_,I.ok.hd,I.ok.frames, .inl rfl,fun b hb=>⟨?_,fun x c e=>?_⟩,fun b o e=>⟨I.bk b o e,(I.bs b o e).2⟩,?_,fun b o e hb=>?_,fun b hb=>?_,I.stack,I.rS⟩,
  rfl,I.bare,Un.kept keep,⟨_,(Heap.Ns.new s.heap (.type "dict")).keeps (Vq _ _),fun i x v e1 e2 e3=>?_⟩,fun x c e=>?_,fresh _ (SD _),fun x c e=>?_,fun p hp=>absurd (show p∈([]:List (Addr × Obj)) from hp) (by simp),I.aO.kept keep,?_⟩
 . rcases split x c e1 with h1 | h1 <;> rcases split y c e2 with h2 | h2
   . exact name_of_addr ok.apart h1 h2
   . exact absurd (Tj (old y c h2) (Vz (new x c h1))) (Tu _)
   . exact absurd (Tj (old x c h1) (Vz (new y c h2))) (Tu _)
   . exact I.ok.inj x y c (c1 x c h1) (c1 y c h2)
 . have own : scope.names.lookup x = some .cell -> ∃ c, (cellsFrom (s.heap.objs.size + 1) scope.names cl).lookup x = some c := fun h => by
     obtain⟨c,e⟩:=gZ (n:=s.heap.objs.size+1) h;exact⟨c,by rw[aP,List.lookup_append,e];rfl⟩
   have OF:scope.names.lookup x=some .free-> ∃c,(cellsFrom (s.heap.objs.size+1) scope.names cl).lookup x=some c:=fun h=>by
    obtain⟨c,e⟩:=I.ok.has x (S.G5 _ (TU h) rfl);exact⟨c,CL x h c e⟩
   rcases hx with h | h <;> rcases fq h with q | ⟨z,q⟩
   . exact own q
   . exact OF q
   . exact OF q
   . cases z
 . have h1:scope.names.lookup x=some .cell:=by simpa [dr] using h1
   obtain⟨d,e⟩:=gZ (n:=s.heap.objs.size+1) h1;have h2:(cellsFrom (s.heap.objs.size+1) scope.names cl).lookup x=some c:=h2;rw[aP,List.lookup_append,e] at h2;have:d=c:=by simpa using h2
   subst this;exact Vz (new x d (TU e))
 . exact Tt (Oz b hb)
 . rcases split x c e with h | h
   . exact VB (Tj (Oz b hb) (Vz (new x c h)))
   . exact(hf b hb).2.2.2.2.1 x c (c1 x c h)
 . exact S4 I.ok.CO I.sz
 . rcases(hf b hb).2.2.2.1 with z | z
   . exact I.ok.xD b o e z
   . exact absurd (Tj (SQ e) (S4 I.ok.CO z)) (Tu _)
 . exact QZ b (hf b hb).2.1 (hf b hb).2.2.1
 . have hi : nt <= i := by
     apply Nat.le_of_not_lt;intro di;unfold ic at e2;rw[SY (by simpa using di),S6,if_pos di] at e2;cases e2
   have IK:(js.map fun j=>(σ[j]?).join)[i - nt]?=some (some v):=by
    unfold ic at e2;rw[Tc (by simpa using hi),UC] at e2;exact e2
   rw[SX] at IK;have OK:(N.drop nt)[i - nt]?=some x:=by
    rw[V1];have:nt+(i - nt)=i:=by lia
    rw[this];exact e1
   cases hj:js[i - nt]? with
   | none=>rw[hj] at IK;cases IK
   | some j=>
    rw[hj] at IK;have Bo:(σ[j]?).join=some v:=by simpa using IK
    have hσ:σ[j]?=some (some v):=by
     cases q:σ[j]? with
     | none=>rw[q] at Bo;cases Bo
     | some o=>rw[q] at Bo;simpa using Bo
    have hX:X.N[j]?=some x:=by
     have:=UI (fun l=>l[i - nt]?) S.OX;simp only [SX,hj,OK,Option.map_some] at this;exact Option.some.inj this
    have ly:=S.fr x (SW OK);have hk:=S.G5 _ (TU ly) rfl;obtain⟨m,_,hl⟩:=I.loc;obtain⟨u,ru,lk⟩:=hl j x v hX hσ (by rcases hk with q | q;exact .inr (.inl q);exact .inr (.inr q));refine⟨u,ru,?_⟩;rcases lk with ⟨Il,_⟩ | ⟨_,c,EL,iM⟩
    . rcases hk with q | q <;> rw[q] at Il <;> cases Il
    . refine .inr ⟨?_,c,CL x ly c EL,iM.keeps keep⟩;rcases cw (env:=X.env) ly with q | q
      . exact .inr q
      . exact .inl q
 . rcases split x c e with h | h
   . exact⟨none,(ok.empty x c h).1⟩
   . obtain⟨v,q⟩:=I.cell x c (c1 x c h);exact⟨v,q.keeps keep⟩
 . rcases split x c e with h | h
   . exact fresh _ (Vz (new x c h))
   . exact I.eL x c (c1 x c h)
 . unfold ic;show _=N.length;rw[SV,UC,Sx];have:=UI List.length S.OX;rw[Sx,Sx,List.length_drop] at this;have:=S.len;lia
def iX(nt:Nat)(g:TG):Prop:= ∀v σ H (Q:St->Hp->Prop),g v σ H Q->g v σ H fun σ' H'=>Q σ' H'/\σ'.length=σ.length/\ ∀k,nt<=k->σ'[k]?=σ[k]?
def tN(nt:Nat)(g:FT):Prop:= ∀vs σ H (Q:St->Hp->Prop),g vs σ H Q->g vs σ H fun σ' H'=>Q σ' H'/\σ'.length=σ.length/\ ∀k,nt<=k->σ'[k]?=σ[k]?
theorem bO(h:i < nt:=by decide):iX nt (cn i):=fun v σ H Q q=>⟨q,by simp,fun k hk=>by rw[SJ (by lia)]⟩
theorem yf:tN nt yg:=fun vs σ H Q cu=>(by obtain⟨e,q⟩:=cu;exact(⟨e,q,rfl,fun _ _=>rfl⟩))
def tM(g:FT):Prop:= ∀vs σ H (Q Q':St->Hp->Prop),(∀σ' H',Q σ' H'->Q' σ' H')->g vs σ H Q->g vs σ H Q'
theorem lB:tM yg:=fun vs σ H Q Q' hq fQ=>(by obtain⟨e,q⟩:=fQ;exact(⟨e,hq _ _ q⟩))
theorem qN(hu:tM u):tM (jO (cn i) u):=fun vs σ H Q Q' hq gD=>(by obtain⟨v,r,e,q⟩:=gD;exact(⟨v,r,e,hu r _ _ Q Q' hq q⟩))
theorem lD(h:i < nt:=by decide)(hm:tM u)(hu:tN nt u):tN nt (jO (cn i) u):=fun vs σ H Q cu=>(by obtain⟨v,r,e,q⟩:=cu;exact(by
 refine⟨v,r,e,hm _ _ _ _ _ (fun σ' H' z=>?_) (hu r (σ.set i (some v)) H Q q)⟩;obtain⟨z1,z2,z3⟩:=z;refine⟨z1,by simpa using z2,fun k hk=>?_⟩;rw[z3 k hk,SJ (by lia)]))
theorem ye{nt n:Nat}{K:PySem.W.Frag}(h:tN nt t):iX nt (Bi K n t):=fun v σ H Q mm=>(by obtain⟨a,xs,e,sq,l,q⟩:=mm;exact(⟨a,xs,e,sq,l,h xs σ H Q q⟩))
def zL(nt:Nat)(js:List Nat)(g:TG)(tc:TT)(te:TE)(σ:St)(Q:VK)(D:Addr)(J:It)(H0:Hp):Prop:=
 ∃W:Nat->Nat->List V->Hp->Prop,(∃m,W 0 m [] H0)/\ ∀i m acc H,W i m acc H->
  (J.stop i H/\Q (.ref D) H)\/(J.go i H/\acc.length < sizeLine/\ ∃B:List V->Hp->Prop,(∀bp H',B bp H'-> ∃m',m' < m/\W (i+1) m' bp H')/\ ∀x H',J.vG i H x H'->g x (ic nt js σ) H' fun σ2 H2=>
   tc σ2 H2 fun b H3=>if b=true then te σ2 H3 fun v H4=>H4 D=some (.lst acc)/\B (acc++ [v]) (upd H4 D (.lst (acc++ [v]))) else B acc H3)
def wm(nt:Nat)(js:List Nat)(wi:TI)(g:TG)(tc:TT)(te:TE):TE:=fun σ H Q=>wi σ H fun J H1=> ∀D,H1 D=none->zL nt js g tc te σ Q D J (upd H1 D (.lst []))
theorem fR{s:Shared}(h: ∀jZ:Env,{jZ with scope:=relabel scope env}=nG scope cl s.heap.objs.size env->jZ.locals=s.heap.objs.size->Q jZ {s with heap:=pushCells (s.heap.push {cls:= .type "dict",data:= .dict #[]}) scope.names}):
  wpAny M A (newFunctionEnv scope env.globals cl [] env.qual none .none (some env)) Q E s:=by
 simp only [newFunctionEnv,Option.isSome_some,VP];refine Sw (wpAny_alloc ?_);refine Sw (wpAny_layCells _ (fun name kind cells=>by cases QH:kind==NameKind.cell <;> simp [QH]) _ _ _ _ ?_);rw[show({s with heap:=s.heap.push {cls:= .type "dict",data:= .dict #[]}}:Shared).heap.objs.size=s.heap.objs.size+1 from TC ..];first
  | exact SA (h _ rfl rfl)
  | exact Sw (SA (SA (h _ rfl rfl)))
theorem lV{elt tg iter:Expr}{ifs:List Expr}{pos:Pos}{g:TG}{tc:TT}{te:TE}{cl:List (Str × Addr)}{Q:VK}{E:Value->Shared->Prop}{RR:Value->Addr->Result->Shared->Prop}(S:iZ X N nt js scope)(hc:X.calm=true)(hg: ∀s H cl C ex,PG (dr X N scope s H cl C ex) tg g)(fB:iX nt g)(hf: ∀s H cl C ex,PF (dr X N scope s H cl C ex) ifs tc)(he: ∀s H cl C ex,PE (dr X N scope s H cl C ex) elt te){tn:Nat->Heap->Prop}(I:Inv X pins σ H s)(T:Turn X.prog X.w X.K tg J fp it tn)(st:tn 0 s.heap)(ff: ∀b∈fp,cT X pins H b)(c1: ∀x c,(x,c)∈cl->X.env.cells.lookup x=some c)(c2: ∀x,(x,NameKind.free)∈scope.names-> ∃c,(x,c)∈cl)(R: ∀D,H D=none->zL nt js g tc te σ Q D J (upd H D (.lst [])))(fin: ∀(D C:Addr) (s':Shared) (H':Hp),Inv X pins σ H' s'->cT X pins H' C->(∃m,s'.heap.Ns C m)->Q (.ref D) H'->RR (.ref D) C (.ok .next) s'):
  wpAny (model X.prog X.w) X.A (newList []) (fun acc s₃=>wpAny (model X.prog X.w) X.A (newFunctionEnv scope X.env.globals cl [] X.env.qual none .none (some X.env)) (fun jZ s₄=>
   codeAny (model X.prog X.w) X.A (.compStart (.ListComp elt [⟨tg,iter,ifs,0⟩] scope pos) 0 (.ref it) acc {jZ with scope:=relabel scope X.env}) (RR acc jZ.locals) s₄) E s₃) E s:=by
 refine Uc (fR fun jZ yJ Ff=>?_);rw[yJ,Ff];dsimp only;have hD:H s.heap.objs.size=none:=I.aO.fresh (SD _);obtain⟨W,⟨m0,w0⟩,turn⟩:=R s.heap.objs.size hD;have kD: ∀b u,s.heap.get? b=some u->(s.heap.push {cls:= .type "list",data:= .seq ([]:List Value).toArray}).get? b=some u:=fun b u e=>Sz _ e;have I3:Inv X pins σ (upd H s.heap.objs.size (.lst [])) {s with heap:=s.heap.push {cls:= .type "list",data:= .seq ([]:List Value).toArray},toks:=s.toks}:=
  I.laid kD (SD _) ⟨Tw _,[],_, .nil,SI _ rfl⟩
 have fs: ∀b∈fp,b < s.heap.objs.size:=fun b hb=>by
  obtain⟨o,e,_⟩:=T.obj _ _ st b hb;exact SQ e
 have II: ∀b∈fp,cT X pins (upd H s.heap.objs.size (.lst [])) b:=fun b hb=>⟨by rw[ag (Tt (fs b hb))];exact(ff b hb).1,(ff b hb).2⟩
 have I4:=lZ (tk:=s.toks) S hc I3 II (fun b hb=>by show b < (s.heap.push _).objs.size;rw[TC];exact U0 (fs b hb)) c1 c2;dsimp only at I4;have MM:(s.heap.push {cls:= .type "list",data:= .seq ([]:List Value).toArray}).objs.size=s.heap.objs.size+1:=TC ..;generalize hY:dr X N scope {s with heap:=s.heap.push {cls:= .type "list",data:= .seq ([]:List Value).toArray},toks:=s.toks} (upd H s.heap.objs.size (.lst [])) cl (s.heap.push {cls:= .type "list",data:= .seq ([]:List Value).toArray}).objs.size fp=Y at I4;have QP:=hY;have rA:Y.env=nG scope cl (s.heap.push {cls:= .type "list",data:= .seq ([]:List Value).toArray}).objs.size X.env:=by rw[<-hY];rfl
 have cR:Y.prog=X.prog:=by rw[<-hY];rfl
 have Yw:Y.w=X.w:=by rw[<-hY];rfl
 have YA:Y.A=X.A:=by rw[<-hY];rfl
 have YK:Y.K=X.K:=by rw[<-hY];rfl
 have mf:Y.calm=true:=by rw[<-hY];exact hc
 have tK:Y.xe=fun _ _=>False:=by rw[<-hY];rfl
 have zt:Y.ex=fp:=by rw[<-hY];rfl
 have NC:Y.pn= []:=by rw[<-hY];rfl
 have ND:Y.fs=pY X.stack:=by rw[<-hY];rfl
 have Ju:Y.s₀={s with heap:=s.heap.push {cls:= .type "list",data:= .seq ([]:List Value).toArray},toks:=s.toks}:=by rw[<-hY];rfl
 have NF:Y.H₀=upd H s.heap.objs.size (.lst []):=by rw[<-hY];rfl
 have Mt:PG Y tg g:=by rw[<-hY];exact hg _ _ _ _ _
 have Mw:PF Y ifs tc:=by rw[<-hY];exact hf _ _ _ _ _
 have Mz:PE Y elt te:=by rw[<-hY];exact he _ _ _ _ _
 have hm:(Y.N.length:Nat)=(ic nt js σ).length:=I4.len.symm;rw[<-rA,<-cR,<-Yw,<-YA];have EX: ∀{H':Hp} (_: ∀b∈fp,H' b=none),∀b∈fp,cT Y [] H' b:=fun{H'} hn b hb=>by
  refine⟨hn b hb,(I4.ok.Gp b (by rw[zt];exact hb)).1,I4.ok.uS b (by rw[zt];exact hb), .inl (by rw[zt];exact hb),(I4.ok.Gp b (by rw[zt];exact hb)).2,fun p hp=>?_⟩;rw[NC] at hp;simp at hp
 have back: ∀{H':Hp} {s':Shared} {σ':St},Inv Y [] σ' H' s'->Inv X pins σ H' s'/\cT X pins H' Y.env.locals/\ ∃m,s'.heap.Ns Y.env.locals m:=fun{H' s' σ'} J=>by
  have hb:Un (pY X.stack) fp (upd H s.heap.objs.size (.lst [])) H' (s.heap.push {cls:= .type "list",data:= .seq ([]:List Value).toArray}) s'.heap:=by
   have:=J.base;rw[ND,zt,NF,Ju] at this;exact this
  have loc:Y.env.locals=s.heap.objs.size+1:=by rw[rA];exact MM
  have os:s'.os=s.os:=by
   have:=J.os;rw[Ju] at this;exact this
  have aO:fZ X.prog X.w H' s'.heap:=by
   have:=J.aO;rw[cR,Yw] at this;exact this
  refine⟨I3.CM (ch:=fp) os hb aO J.bare fun b hb=>⟨(ff b hb).2.2.2.1,(ff b hb).2.1,(ff b hb).2.2.2.2.1,(ff b hb).2.2.2.2.2⟩,?_,let ⟨m,q,_⟩:=J.loc;⟨m,q⟩⟩;exact I.nh (by rw[loc];exact Nat.le_succ _) J.free
 have loop:codeAny (model Y.prog Y.w) Y.A (.compLoop (.ListComp elt [⟨tg,iter,ifs,0⟩] scope pos) 0 (.ref it) (.ref s.heap.objs.size) Y.env) (RR (.ref s.heap.objs.size) Y.env.locals)
   {s with heap:=pushCells ((s.heap.push {cls:= .type "list",data:= .seq ([]:List Value).toArray}).push {cls:= .type "dict",data:= .dict #[]}) scope.names}:=by
  refine nA (fun n s'=> ∃i acc H',Inv Y [] (ic nt js σ) H' s'/\tn i s'.heap/\(∀b∈fp,H' b=none)/\W i n acc H') ?_ m0
   ⟨0,[],_,I4,T.keep _ _ _ st fun b _ o e=>Vq _ _ b o (Sz _ (kD b o e)),fun b hb=>(II b hb).1,w0⟩
  rintro n s5 ⟨i,acc,H5,I5,vH,zS,w5⟩
  rcases turn i n acc H5 w5 with ⟨stop,q⟩ | ⟨go,hlen,B,hB,step⟩
  . have hd:=T.done Y cR Yw YK mf i [] s5 _ H5 (fun _ _=>False) I5 (EX zS) vH stop;rw[<-cR,<-Yw] at hd;refine aG hd fun r s6 hU=>?_;obtain⟨hr,I6⟩:=hU;subst hr;obtain⟨b1,b2,b3⟩:=back I6;exact fin _ _ _ _ b1 b2 b3 q
  . have hd:=T.item Y cR Yw YK mf i [] s5 _ H5 (fun _ _=>False) I5 (EX zS) vH go;rw[<-cR,<-Yw] at hd;refine aG hd fun r s6 mj=>?_;obtain⟨u,hr,h6⟩:=mj;subst hr;refine aG h6 fun _ s7 tP=>?_;obtain⟨x,H7,I7,r7,y7,wu,IF⟩:=tP;have JH:=I7.pinned (EX IF) (T.obj _ _ wu);have g7:=fB _ _ _ _ (step x H7 y7);have h7:=Mt _ s7 _ H7 x u _ JH r7 g7;rw[tK] at h7;refine aG h7 fun _ s8 mi=>?_;obtain⟨σ8,H8,I8,q8,l8,k8⟩:=mi;have h8:=Mw _ s8 σ8 H8 _ I8 q8;rw[tK] at h8;refine aG h8 fun b s9 dW=>?_;obtain⟨H9,I9,q9⟩:=dW;have again: ∀{iW:Hp} {km:Shared} {bp:List V},Inv Y ([]++gm fp s7.heap) σ8 iW km->B bp iW-> ∃m,m < n/\ ∃i acc H',Inv Y [] (ic nt js σ) H' km/\tn i km.heap/\(∀b∈fp,H' b=none)/\W i m acc H':=fun{iW km bp} rC Jo=>by
     obtain⟨m',Ih,GG⟩:=hB bp iW Jo;refine⟨m',Ih,i+1,bp,iW,rC.dy.weak l8.symm fun k v e=>?_,T.keep _ _ _ wu fun b hb o e=>(rC.pin (b,o) (S8 _ (S8 _ (bz hb e)))).1,fun b hb=>?_,GG⟩
     . by_cases hk:nt<=k
       . rw[k8 k hk];exact e
       . exfalso;unfold ic at e;rw[SY (by simp;lia),S6,if_pos (by lia)] at e;cases e
     . obtain⟨o,e,d⟩:=T.obj _ _ wu b hb;exact(rC.pin (b,o) (S8 _ (S8 _ (bz hb e)))).2.1
    cases b with
    | false=>
     rw[if_neg SG] at q9 ⊢;exact again I9 q9
    | true=>
     rw[if_pos rfl] at q9 ⊢;have h9:=Mz _ s9 σ8 H9 _ I9 q9;rw[tK] at h9;refine aG h9 fun y km dU=>?_;obtain⟨v,iW,rC,LA,ES,Hl⟩:=dU;have EU:=(iu (X:=Y) _ km σ8 iW (.ref s.heap.objs.size) [v] (.ref s.heap.objs.size) [y] (fun _ H'=>B (acc++ [v]) H') rC rfl (.cons LA .nil) ⟨_,acc,v,rfl,rfl,ES,hlen,Hl⟩)
     rw[tK] at EU;refine aG EU fun _ JY mz=>?_;obtain⟨_,FX,JI,_,LC⟩:=mz;exact again JI LC
 have yI:(s.heap.push {cls:= .type "list",data:= .seq ([]:List Value).toArray}).objs.size=Y.env.locals:=by rw[rA];rfl
 rw[yI];exact codeAny_compStart_list loop (by rw[cR,Yw,YA] at*;exact T.self _ 0 _ _ _ (T.keep _ _ _ st fun b _ o e=>Vq _ _ b o (Sz _ (kD b o e))) loop)
theorem AJ(S:iZ X N nt js scope)(hc:X.calm=true)(hi:PI X tg iter wi)(hg: ∀s H cl C ex,PG (dr X N scope s H cl C ex) tg g)(fB:iX nt g)(hf: ∀s H cl C ex,PF (dr X N scope s H cl C ex) ifs tc)(he: ∀s H cl C ex,PE (dr X N scope s H cl C ex) elt te)(hs: ∀x,foldedSetIterable iter X.env x=pure x:=by intro _;rfl):PE X (.ListComp elt [⟨tg,iter,ifs,0⟩] scope pos) (wm nt js wi g tc te):=by
 intro pins s σ H Q I h;obtain⟨cl,Ir,c1,c2⟩:=gx (scope:=scope) (env:=X.env) fun x hx e=>I.ok.has x.1 (S.G5 x hx e);rw[eval_ListComp];refine V2 (use:=none) rfl hs Ir S.kind S.names (aG (hi pins s σ H _ I h) fun v s1 h1=>aG h1 fun HR s2 h2=>?_);obtain⟨it,fp,tn,J,H2,rfl,I2,T,eR,f2,R⟩:=h2;refine lV (RR:=fun acc C=>compPost (model X.prog X.w) X.A X.xe none (EP X pins σ Q) acc C) S hc hg fB hf he I2 T eR f2 c1 c2 R fun D C s' H' I' fo qc q=>?_;obtain⟨m,hn⟩:=qc;refine⟨m,hn,fun h' sb=>⟨.ref D,H',?_,rfl,q⟩⟩;obtain⟨f0,f1,_,f3,f4,f5⟩:=fo;exact I'.turned (t':=s'.toks) (fun b o hb e=>(sb.2 b hb).trans e) f0 f1 f3 f4 f5
theorem sd{pos pos' py:Pos}(hN:X.N.Nodup)(Be:X.N[i]?=some y)(hy:Loc X.env.scope y)(S:iZ X N nt js scope)(hc:X.calm=true)(hi:PI X tg iter wi)(hg: ∀s H cl C ex,PG (dr X N scope s H cl C ex) tg g)(fB:iX nt g)(hf: ∀s H cl C ex,PF (dr X N scope s H cl C ex) ifs tc)(he: ∀s H cl C ex,PE (dr X N scope s H cl C ex) elt te)(Ba:swapsWith (.ListComp elt [⟨tg,iter,ifs,0⟩] scope pos) (some (.Name y py)) pos'.line X.env=pure true:=by rfl)(hs: ∀x,foldedSetIterable iter X.env x=pure x:=by intro _;rfl)(uL:X.fn y=true\/X.env.scope.names.lookup y=some .local:=by first | exact .inl rfl | exact .inr rfl | assumption):
  PS X (.Assign [.Name y py] (.ListComp elt [⟨tg,iter,ifs,0⟩] scope pos) pos') (t7 (wm nt js wi g tc te) (cn i)):=by
 intro pins s σ H D I h;obtain⟨cl,Ir,c1,c2⟩:=gx (scope:=scope) (env:=X.env) fun x hx e=>I.ok.has x.1 (S.G5 x hx e);rw[exec_Assign_Name_used _ _ _ _ Ba];refine Sw (Ut (Sw ?_));show wpAny _ _ (do let _<-comprehension (.ListComp elt [⟨tg,iter,ifs,0⟩] scope pos) scope X.env _ (newList []) false (eval iter X.env) (some (assign (.Name y py) X.env))) _ _ s;refine Sw (To (V2 (use:=some (assign (.Name y py) X.env)) (Q:=fun _ s'=>SP X pins D .next s') rfl hs Ir S.kind S.names
  (aG (hi pins s σ H _ I h) fun v s1 h1=>aG h1 fun HR s2 h2=>?_)) (fun _ s' hq=>SA (SA hq)) fun _ _ e=>e)
 obtain⟨it,fp,tn,J,H2,rfl,I2,T,eR,f2,R⟩:=h2;refine lV (RR:=fun acc C=>compPost (model X.prog X.w) X.A X.xe (some (assign (.Name y py) X.env)) (fun _ s'=>SP X pins D .next s') acc C) (Q:=fun x H1=>cn i x σ H1 D.nx) S hc hg fB hf he I2 T eR f2 c1 c2 R fun Da C s' H' I' fo vT q=>?_;obtain⟨m,hn⟩:=vT;show wpAny _ _ (assign (.Name y py) X.env (.ref Da)) _ _ _;obtain⟨f0,f1,_,f3,f4,f5⟩:=fo;refine wpAny_assign_Name (hZ I' hN Be hy (v:= .ref Da) rfl (fun Dp NM mw=>?_) uL);obtain⟨a,sb,ha⟩:=mw;have MK:C≠a:=by
  rcases ha with z | z
  . rw[z];exact f1
  . exact Ne.symm (f4 _ _ z)
 refine⟨m,hn.sameBut sb MK,fun h' Lx=>⟨_,H',?_,q⟩⟩;exact NM.turned (t':=Dp.toks) (fun b o hb e=>(Lx.2 b hb).trans e) f0 f1 f3 f4 f5
open AutoSeq1 (wpAny_loadPart')
theorem Ez(q1:typeLookup (.type T) "__init__"=pure (some (.builtin "object.__init__")))(q2:Bind.madeBy (.type T)=pure (some newId))(q3:(some newId !=some "object.__new__")=true):Meets (Builtin.«object.__init__» ⟨me::more,kw⟩) (fun _ R s=>s.TypeIs me T/\R (.ok (.ret .none)) s):=by
 refine Meets.of_wp fun prog w A R s cu=>?_;obtain⟨hT,hq⟩:=cu;cases more with
 | nil=>
  cases kw with
  | nil=>exact SA ⟨_,rfl,hq⟩
  | cons p r=>
   repeat (any_goals (first | assumption | wp_step))
   all_goals exact⟨_,rfl,hq⟩
 | cons a r=>
  repeat (any_goals (first | assumption | wp_step))
  all_goals exact⟨_,rfl,hq⟩
theorem j4(ft:TypeCalled T newId "object.__init__")(i9:(some newId !=some "object.__new__")=true)(c1:checkTypeCall T ⟨xs,kw⟩=pure ())(c2:checkBuiltinCall newId ⟨.type T::xs,kw⟩=pure ())(c3: ∀ob,argsOk "object.__init__" ⟨ob::xs,kw⟩)(eN:entryFor table newId=some B)(mt:Meets (B ⟨.type T::xs,kw⟩) S)(h:S A.in1 (wants (fun ob z=>z.TypeIs ob T/\Q ob z) E) s):wpAny (model prog w) A (call (.type T) xs kw) Q E s:=by
 obtain⟨c,tl,Mi⟩:=ft.mro;have Ot:=ft.made;have Bb:=ft.sub;refine wpAny_call (VT (show wpAny _ _ (callAny (.type T) _) _ _ _ from SA ⟨Code.quiet_builtin _ (by decide+kernel),Uz F.entry_type_call ?_⟩));rw[Around.under_plain (weight_type_call_type T xs kw) (units_type_call_type T xs kw)];have k1:=ft.notType;have k2:=ft.canCreate;repeat (any_goals (first | assumption | wp_step))
 refine Vm (VL ft.plain eN (wpAny_of_eq c2 (mt prog w A.in1 _ s h))) fun r z hr=>?_;match r,hr with
 | .error e,hr=>exact hr
 | .ok (.ret ob),hr=>
  obtain⟨hT,hq⟩:=hr;have l1:=ft.init.lookup;have l2:=ft.init.bind ob;repeat (any_goals (first | assumption | wp_step))
  refine Vm (VL ft.init.plain F.entry_object_init (ft.init.check _ _ _ _ _ _ _ _ hT (c3 ob) (Ez ft.init.lookup ft.made i9 prog w A.in1 (wants (fun v z'=>v= .none/\Q ob z') E) z ⟨hT,rfl,hq⟩))) fun r2 z2 lr=>?_;match r2,lr with
  | .error e,lr=>exact lr
  | .ok (.ret v),lr=>
   obtain⟨rfl,Oh⟩:=lr;repeat (any_goals (first | assumption | wp_step))
  | .ok .next,lr=>exact lr.elim
  | .ok .brk,lr=>exact lr.elim
  | .ok .cont,lr=>exact lr.elim
 | .ok .next,hr=>exact hr.elim
 | .ok .brk,hr=>exact hr.elim
 | .ok .cont,hr=>exact hr.elim
open AutoSeq1 (wpAny_loadPart')
noncomputable def gY(h:Heap)(t:Addr)(k:Int):Heap:=
 (h.push {cls:= .type "tuple_iterator",data:= .fields #[.ref t, .int 0 0]}).push {cls:= .type "enumerate",data:= .fields #[.none, .bool false, .ref h.objs.size,rawInt k, .none, .none]}
def pf(t:Addr)(k:Int):PySem.Spec:=fun _ R s=>(∃items,s.heap.IsTuple t items)/\R (.ok (.ret (.ref (s.heap.push {cls:= .type "tuple_iterator",data:= .fields #[.ref t, .int 0 0]}).objs.size))) {s with heap:=gY s.heap t k}
theorem yD(t:Addr)(u:Tok):Meets (Builtin.«enumerate.__new__» ⟨[.type "enumerate", .ref t],[("start", .int 1 u)]⟩) (pf t 1):=
 .of_wp fun prog w A R s fQ=>(by obtain⟨⟨items,hT⟩,h⟩:=fQ;exact(by
  obtain⟨hp,g,d,tk,os⟩:=s;have Bb:=sub_enumerate;obtain⟨⟨c,MZ,dt,sl⟩,hl,hc,n,hd⟩:=id hT;replace hc:c= .type "tuple":=hc
  replace hd:dt= .seq items n:=hd
  subst hc hd;wp_walk using Uy hl
  refine wpAny_stack_any fun st=>SA ?_;split
  . rename_i c _ _ _ _ _;cases (c==Value.type "enumerate") <;> (wp_walk using Uy hl,Uo hT;exact⟨_,rfl,h⟩)
  . wp_walk using Uy hl,Uo hT
    exact⟨_,rfl,h⟩))
theorem yE(t:Addr)(u:Tok):Meets (Builtin.«enumerate.__new__» ⟨[.type "enumerate", .ref t, .int 1 u],[]⟩) (pf t 1):=
 .of_wp fun prog w A R s gD=>(by obtain⟨⟨items,hT⟩,h⟩:=gD;exact(by
  obtain⟨hp,g,d,tk,os⟩:=s;have Bb:=sub_enumerate;obtain⟨⟨c,MZ,dt,sl⟩,hl,hc,n,hd⟩:=id hT;replace hc:c= .type "tuple":=hc
  replace hd:dt= .seq items n:=hd
  subst hc hd;wp_walk using Uy hl
  refine wpAny_stack_any fun st=>SA ?_;split
  . rename_i c _ _ _ _ _;cases (c==Value.type "enumerate") <;> (wp_walk using Uy hl,Uo hT;exact⟨_,rfl,h⟩)
  . wp_walk using Uy hl,Uo hT
    exact⟨_,rfl,h⟩))
open AutoSeq1 (wpAny_loadPart')
theorem oa(a1:s.heap.IsTupleIter it t j)(a2:s.heap.IsTuple t af)(a3:af[j]?=some y)(k: ∀h',h'.IsTupleIter it t (j+1)->Heap.SameBut it s.heap h'->Q y {s with heap:=h'}):wpAny (model prog w) A (Builtin.SmallTypes.nextOf (.ref it)) Q E s:=by
 obtain⟨ob,b1,b2,b3⟩:=id a1;obtain⟨ot,d1,_,nt,d2⟩:=a2;unfold Builtin.SmallTypes.nextOf;refine Sw (U1 (name:=Str.ofString "__next__") a1.typeIs Vf (UE Vf a1.typeIs F.entry_tuple_iterator_next ?_ (F.args_tuple_iterator_next_1 _)));show wpAny _ _ (field (.ref it) 0 >>=_) _ _ s;refine Sw (UN b1 b3 (x:= .ref t) rfl ?_);show wpAny _ _ (if (Value.ref t==Value.none)=true then _ else _) _ _ s;rw[if_neg (show¬(Value.ref t==Value.none)=true from fun z=>nomatch (show false=true from z))];show wpAny _ _ (field (.ref it) 1 >>=_) _ _ s;refine Sw (UN b1 b3 (x:= .int j 0) rfl ?_);show wpAny _ _ (seqItems? (.ref t) >>=_) _ _ s;refine Sw (Uu d1 d2 ?_);simp only [Tp,a3];refine Sw (U4 b1 b3 (by simp) (SA ⟨y,rfl,SA (k _ ⟨_,TR _ b1 (Obj.isFreed_of_fields (Obj.data_mapFields b3 _)),(Obj.cls_mapFields ..).trans b2,by rw[Obj.data_mapFields b3];simp [rawInt]⟩ (Ux ..))⟩))
theorem og(hh:A.handled=none)(a1:s.heap.IsTupleIter it t j)(a2:s.heap.IsTuple t af)(a3:af[j]?=none)(k: ∀h' e,Heap.ExtBut it s.heap h'->(∃o,h'.get? e=some o/\o.cls= .type "StopIteration")->E (.ref e) {s with heap:=h'}):wpAny (model prog w) A (Builtin.SmallTypes.nextOf (.ref it)) Q E s:=by
 obtain⟨ob,b1,b2,b3⟩:=id a1;obtain⟨ot,d1,_,nt,d2⟩:=a2;unfold Builtin.SmallTypes.nextOf;refine Sw (U1 (name:=Str.ofString "__next__") a1.typeIs Vf (UE Vf a1.typeIs F.entry_tuple_iterator_next ?_ (F.args_tuple_iterator_next_1 _)));show wpAny _ _ (field (.ref it) 0 >>=_) _ _ s;refine Sw (UN b1 b3 (x:= .ref t) rfl ?_);show wpAny _ _ (if (Value.ref t==Value.none)=true then _ else _) _ _ s;rw[if_neg (show¬(Value.ref t==Value.none)=true from fun z=>nomatch (show false=true from z))];show wpAny _ _ (field (.ref it) 1 >>=_) _ _ s;refine Sw (UN b1 b3 (x:= .int j 0) rfl ?_);show wpAny _ _ (seqItems? (.ref t) >>=_) _ _ s;refine Sw (Uu d1 d2 ?_);simp only [Tp,a3];refine Sw (UG (Sw (U4 b1 b3 (by simp) ?_)));show wpAny _ _ (newExc (.type "StopIteration") [] >>=_) _ _ _;refine Sw ?_;simp only [newExc,newTuple];refine Sw (Uc ?_ (by size_fits));refine Sw (m:=firstArgMember _ _) (wpAny_of_eq (a:=Value.none) (by first | rfl | (simp only [firstArgMember];rfl)) (Uc ?_ (by size_fits)));simp only [raiseNew];refine Sw (wpAny_handled ?_);first | rw[show A.in1.handled=none from hh] | rw[hh]
 exact Sw (SA (wpAny_throw (k _ _ (((Ux ..).extBut.push _).push _) ⟨_,SI _ rfl,rfl⟩)))
theorem pz{prog:Program}{w:World}{A:Around}(hh:A.handled=none)(it t:Addr)(i9:t≠it)(af:Array Value)(k:Nat):
  Draws prog w A it [it,t] (af.size+k) (fun i v=>k<=i/\af[i - k]?=some v) (fun i h=>k<=i/\h.IsTupleIter it t (i - k)/\h.IsTuple t af) where
 live:=fun _ _ cu=>(by obtain⟨_,st,_⟩:=cu;exact(let ⟨o,ho,_⟩:=st;⟨o,ho⟩))
 frame:=fun _ _ _ fQ hk=>(by obtain⟨l,st,eR⟩:=fQ;exact(⟨l,let ⟨o,q,r⟩:=st;⟨o,hk it (by simp) o q,r⟩,let ⟨o,q,r⟩:=eR;⟨o,hk t (by simp) o q,r⟩⟩))
 item:=fun i s Q E hi ⟨l,st,eR⟩ hQ=>by
  have di:i - k < af.size:=by grind
  refine oa st eR (y:=af[i - k]) (by simp [di]) fun h' q1 q2=>hQ _ h' s.toks ⟨l,by simp [di]⟩ ⟨by grind,?_,?_⟩ q2
  . rw[show i+1 - k=i - k+1 by grind];exact q1
  . obtain⟨o,q,r⟩:=eR;exact⟨o,(q2.2 t i9).trans q,r⟩
 done:=fun s Q E kd hE=>(by obtain⟨l,st,eR⟩:=kd;exact(og hh st eR (by simp) hE))
section
variable {X : Cx} {pins : List (Addr × Obj)} {σ : St} {H : Hp} {s : Shared}
theorem Inv.kM{h':Heap}{t':Nat}{ch:List Addr}(I:Inv X pins σ H s)(hc: ∀b∈ch,cT X pins H b)(hT:s.heap.objs.size<=T)(k: ∀b u,b∉ch->s.heap.get? b=some u->h'.get? b=some u)(new:aQ X.prog X.w (upd H T o) h' T o):Inv X pins σ (upd H T o) {s with heap:=h',toks:=t'}:=by
 have nT:H T=none:=I.aO.fresh hT;have ne: ∀b u,s.heap.get? b=some u->b≠T:=fun b u e z=>absurd (Tj (SQ e) (z▸hT)) (Tu _);have zM: ∀b u,H b=some u->b∉ch:=fun b u e z=>by rw[(hc b z).1] at e;cases e
 refine I.step (g':=s.gens) (d':=s.drawn) (ch:=ch) (fun b hb=>?_) (fun b u _ _ hn e _=>k b u hn e) (fun b u _ _ hn e _=>⟨u.slots,k b u hn e⟩) (fun b u hn e n=>by rw[ag (ne b u e)];exact n)
  (fun b u hn e=>⟨u,k b u hn e⟩) (fun b xs e=>by rw[ag (aq e nT)];exact e) (fun b ob u e=>by rw[ag (aq e nT)];exact e) (fun b ps e=>⟨#[],by rw[ag (aq e nT),e];simp⟩) (fun m hm=>?_) (fun b u e=>?_) I.bare
 . obtain⟨f0,f1,f2,f3,f4,f5⟩:=hc b hb;exact⟨f3,f1,f4,f5⟩
 . obtain⟨ob,es,ep,ho,r⟩:=hm;exact⟨ob,es,ep,k _ ob (fun z=>(hc _ z).2.1 rfl) ho,r⟩
 . by_cases hb:b=T
   . subst hb;rw[ae] at e;cases e;exact new
   . rw[ag hb] at e;refine(I.aO b u e).qk (fun c v Co q=>k c v ?_ q) (fun c q=>by rw[ag (aq q nT)];exact q) fun c xs q=>by rw[ag (aq q nT)];exact q
     rcases Co with z | z
     . rw[z];exact zM b u e
     . exact zM c _ z
noncomputable def Gu(K:PySem.W.Frag)(a:Addr)(k:Nat):It:=
 ⟨fun i H=> ∃xs x,cS K H a xs/\xs[i]?=some x,fun i H x H'=> ∃p y,x= .ref p/\H p=none/\H'=upd H p (.tup [.int ((i+k:Nat):Int),y])/\ ∀xs,cS K H a xs->xs[i]?=some y,fun i H=> ∃xs,cS K H a xs/\xs.length=i⟩
theorem t5{P:Program}{w:World}{K:PySem.W.Frag}{es:List Expr}{x1}{tp:Pos}(a e it:Addr)(k:Nat)(My:e≠it):
  Turn P w K (.Tuple es x1 tp) (Gu K a k) [e,it] e (fun i h=>(∃old,IsEnum h e it ((i+k:Nat):Int) old)/\h.IsTupleIter it a i) where
 mem:=by simp
 obj:=fun i h st b hb=>by
  obtain⟨⟨old,oj⟩,eR⟩:=st;rcases Tg.mp hb with q | q
  . subst q;exact⟨_,oj,fun v z=>nomatch (show Data.fields _=Data.cell v from z)⟩
  . have q:b=it:=by simpa using q
    subst q;obtain⟨o,q1,q2,q3⟩:=eR;exact⟨o,q1,fun v z=>by rw[q3] at z;cases z⟩
 keep:=fun i h h' st kk=>by
  obtain⟨⟨old,oj⟩,eR⟩:=st;exact⟨⟨old,kk e (by simp) _ oj⟩,eR.at fun o q=>kk it (by simp) o q⟩
 item:=by
  intro X hP hw hK hc i pins s σ H E I hf st hg;subst hP hw hK;obtain⟨xs,x,hq,hx⟩:=hg;obtain⟨af,rv,p,hz⟩:=I.tuple hq;obtain⟨u,hu,ru⟩:=rv.get hx;obtain⟨⟨old,oj⟩,eR⟩:=st;have ha: ∃o,s.heap.get? a=some o:=let ⟨o,q,_⟩:=p;⟨o,q⟩;have QN:a≠e:=by
   rintro rfl
   obtain⟨o,q1,q2,_⟩:=p;rw[oj] at q1;cases q1;injection q2 with z;exact absurd z (by decide)
  have MF:a≠it:=by
   rintro rfl
   obtain⟨o,q1,q2,_⟩:=p;obtain⟨o',r1,r2,_⟩:=eR;rw[r1] at q1;cases q1;rw[r2] at q2;injection q2 with z;exact absurd z (by decide)
  have D:=pz (prog:=X.prog) (w:=X.w) (A:=X.A.in1) (I.ok.hd hc) it a MF af.toArray k;have hlen:i < af.length:=(SM.mp hu).1;refine wpAny_pyNext_enum_itemD D oj ⟨by lia,by rw[show i+k - k=i by lia];exact eR,p⟩ (by simp;lia) My (by simp [My,Ne.symm QN]) fun y h' tk hy ho Qt ht hsz hk=>?_;obtain⟨_,hy⟩:=hy;rw[show i+k - k=i by lia] at hy;have ey:y=u:=by
   have:af[i]?=some y:=by simpa using hy
   rw[hu] at this;cases this;rfl
  subst ey;refine⟨_,rfl,?_⟩;refine wpAny_letOwnedTupleGo_enum ho fun h2 MA B0=>?_;have IA:e < s.heap.objs.size:=SQ oj;have Io:it < s.heap.objs.size:=let ⟨o,q,_⟩:=eR;SQ q;have I1:Inv X pins σ (upd H s.heap.objs.size (.tup [.int ((i+k:Nat):Int),x])) {s with heap:=h2,toks:=tk+1}:=by
   refine I.kM (ch:= [e,it]) hf (SD _) (fun b o hb q=>?_) ⟨by show 2<=sizeLine;decide,[.int ((i+k:Nat):Int) tk,y], .cons ⟨_,rfl⟩ (.cons ru .nil),?_⟩
   . have h1:b≠e:=fun z=>hb (by simp [z]);have vN:b≠it:=fun z=>hb (by simp [z]);exact(B0.2 b h1).trans (hk b o h1 vN q)
   . exact⟨_,(B0.2 _ (VB IA)).trans ht,rfl,rfl,_,rfl⟩
  refine⟨.ref s.heap.objs.size,_,I1,rfl,⟨_,x,rfl,I.aO.fresh (SD _),rfl,fun ys hy=>by rw[I.kN hy hq];exact hx⟩,⟨⟨y,?_⟩,?_⟩,fun b hb=>?_⟩
  . rw[show((i+1+k:Nat):Int)=((i+k:Nat):Int)+1 by lia];exact MA
  . obtain⟨_,q,_⟩:=Qt;rw[show i+k+1 - k=i+1 by lia] at q;exact q.at fun o z=>(B0.2 it (Ne.symm My)).trans z
  . rw[ag (fun z=>?_)]
    . exact(hf b hb).1
    . rcases Tg.mp hb with q | q
      . subst q;exact absurd (z▸IA) (Tu _)
      . have q:b=it:=by simpa using q
        subst q;exact absurd (z▸Io) (Tu _)
 done:=by
  intro X hP hw hK hc i pins s σ H E I hf st hg;subst hP hw hK;obtain⟨xs,hq,hx⟩:=hg;obtain⟨af,rv,p,hz⟩:=I.tuple hq;obtain⟨⟨old,oj⟩,eR⟩:=st;have MF:a≠it:=by
   rintro rfl
   obtain⟨o,q1,q2,_⟩:=p;obtain⟨o',r1,r2,_⟩:=eR;rw[r1] at q1;cases q1;rw[r2] at q2;injection q2 with z;exact absurd z (by decide)
  have hl:=rv.length;have D:=pz (prog:=X.prog) (w:=X.w) (A:=X.A.in1) (I.ok.hd hc) it a MF af.toArray k;obtain⟨f0,f1,f2,f3,f4,f5⟩:=hf it (by simp);refine wpAny_pyNext_enum_endD D oj ⟨by simp,?_,p⟩ fun h' eb=>⟨rfl,I.turned (t':=s.toks) (fun b o hb q=>eb b o hb q) f0 f1 f3 f4 f5⟩
  rw[show af.toArray.size+k - k=i by simp;lia];exact eR
 self:=fun A i s Q E st h=>by
  obtain⟨⟨old,oj⟩,_⟩:=st;exact wpAny_pyIter_enum oj h
end
section
variable {X : Cx} {tg : Expr} {a b : Expr} {ta tb : TE} {pos : Pos}
def EC(K:PySem.W.Frag)(ta:TA):TI:=fun σ H R=>ta σ H fun vs H1=> ∃a,vs= [.ref a, .int 1]/\(∃xs,cS K H1 a xs)/\R (Gu K a 1) H1
def EB(K:PySem.W.Frag)(ta:TA)(tk:TA):TI:=fun σ H R=>ta σ H fun vs H1=>tk σ H1 fun zs H2=> ∃a,vs= [.ref a]/\zs= [.int 1]/\(∃xs,cS K H2 a xs)/\R (Gu K a 1) H2
theorem iO{x1}{k:Nat}(I:Inv X pins σ H s)(q:R (Gu X.K p k) H):
  wpAny (model X.prog X.w) X.A (pyIter (.ref (s.heap.push {cls:= .type "tuple_iterator",data:= .fields #[.ref p, .int 0 0]}).objs.size)) (Kr X pins σ (.Tuple es x1 tp) R) E {s with heap:=gY s.heap p k,toks:=tk}:=by
 have z:(s.heap.push {cls:= .type "tuple_iterator",data:= .fields #[.ref p, .int 0 0]}).objs.size=s.heap.objs.size+1:=TC ..;have he:IsEnum (gY s.heap p k) (s.heap.objs.size+1) s.heap.objs.size k .none:=by
  have:=SI (s.heap.push {cls:= .type "tuple_iterator",data:= .fields #[.ref p, .int 0 0]}) (o:={cls:= .type "enumerate",data:= .fields #[.none, .bool false, .ref s.heap.objs.size,rawInt k, .none, .none]}) rfl;rw[z] at this;exact this
 have hi:(gY s.heap p k).IsTupleIter s.heap.objs.size p 0:=⟨_,Sz _ (SI _ rfl),rfl,rfl⟩
 rw[z];refine wpAny_pyIter_enum he ?_;refine⟨s.heap.objs.size+1,[s.heap.objs.size+1,s.heap.objs.size],_,Gu X.K p k,H,rfl,I.kept fun c o e=>Sz _ (Sz _ e),t5 p _ _ k (Nat.succ_ne_self _),⟨⟨.none,?_⟩,hi⟩,fun c hc=>?_,q⟩
 . rw[Vn];exact he
 . have hle : s.heap.objs.size <= c := by
     rcases Tg.mp hc with q | q
     . rw[q];exact Nat.le_succ _
     . have q:c=s.heap.objs.size:=by simpa using q
       rw[q];exact SD _
   exact I.nh hle (I.aO.fresh hle)
theorem uV(a b:Value):checkTypeCall "enumerate" ⟨[a,b],[]⟩=pure ():=by kernel_rfl
theorem uX(a b:Value):checkBuiltinCall "enumerate.__new__" ⟨[.type "enumerate",a,b],[]⟩=pure ():=by kernel_rfl
theorem uU(a b:Value):checkTypeCall "enumerate" ⟨[a],[("start",b)]⟩=pure ():=by kernel_rfl
theorem uW(a b:Value):checkBuiltinCall "enumerate.__new__" ⟨[.type "enumerate",a],[("start",b)]⟩=pure ():=by kernel_rfl
theorem xx(a b c:Value):argsOk "object.__init__" ⟨[a,b,c],[]⟩:=by unfold argsOk;kernel_rfl
theorem xw(a b c:Value):argsOk "object.__init__" ⟨[a,b],[("start",c)]⟩:=by unfold argsOk;kernel_rfl
theorem xc{x1}(hg:Gl X "enumerate")(hm:X.mg "enumerate"=none)(ha:PA X [e,f] t)(hs:starEach [e,f] X.env= [(false,eval e X.env),(false,eval f X.env)]:=by rfl)(nU:starEach [f] X.env= [(false,eval f X.env)]:=by rfl):
  PI X (.Tuple es x1 tp) (.Call (.Name "enumerate" p) [e,f] [] pos) (EC X.K t):=by
 intro pins s σ H R I h;refine Call_ (cN I hg hm boot_enumerate (UL (aG (ha pos pins s σ H _ I h) fun us s1 fQ=>?_) (by rw[hs,nU]) (by rw[nU];rfl)));obtain⟨vs,H1,I1,r1,q1⟩:=fQ;obtain⟨p,rfl,⟨xs,hq⟩,q⟩:=q1;obtain⟨u,u2,rfl,ru,⟨tk,rfl⟩⟩:=vals2 r1;cases ru;obtain⟨af,rv,pt,hz⟩:=I1.tuple hq;exact j4 F.called_enumerate (by decide) (uV _ _) (uX _ _) (fun obj=>xx obj _ _) F.entry_enumerate_new (yE p tk) ⟨⟨_,pt⟩,⟨_,SI _ rfl,rfl⟩,iO (k:=1) I1 q⟩
theorem kG{M:Model}{A:Around}{E:Value->Shared->Prop}{s:Shared}{env:Env}{pos:Pos}{T:String}{Q:Value->Shared->Prop}{e:Expr}{rest:List Expr}(h:wpAny M A (spliced (backTo pos (starEach (e::rest) env))) (fun vs z=>wpAny M A (evalAll ((backToKw pos (keywordEach k6 env)).map (·.2))) (fun ks z2=>wpAny M A (call (.type T) vs (((backToKw pos (keywordEach k6 env)).filterMap (·.1)).zip ks)) Q E z2) E z) E s)(k1:backTo pos (starEach (e::rest) env)=(false,eval e env)::backTo pos (starEach rest env):=by rfl)(k2:(backTo pos (starEach (e::rest) env)).any (·.1)=false:=by rfl)(k3:(backToKw pos (keywordEach k6 env)).all (·.1.isSome)=true:=by rfl)(k4:(backToKw pos (keywordEach k6 env)).any (·.1.isNone)=false:=by rfl):
  wpAny M A (callWith pos (.type T) [] (backTo pos (starEach (e::rest) env)) (backToKw pos (keywordEach k6 env))) Q E s:=by
 have g:wpAny M A (evalArgs (.type T) true (backTo pos (starEach (e::rest) env)) (backToKw pos (keywordEach k6 env))) (fun a z=>wpAny M A (call (.type T) ([]++a.pos) a.kw) Q E z) E s:=by
  rw[k1] at h ⊢;exact evalArgs_kwB k3 h
 unfold callWith;refine Sw (T8 (To g (fun a z gz=>Sw (Ut ?_)) fun _ _ x=>x));simp only [k2,k4,Bool.or_false];exact Sw (SA (Sw (To gz (fun r z2 hr=>Sw (T8 (wpAny_point (SA hr)))) fun _ _ x=>x)))
theorem xb{x1}(hg:Gl X "enumerate")(hm:X.mg "enumerate"=none)(ha:PA X [e] t)(hk:PK X k6 tk)(Ij:(backToKw pos (keywordEach k6 X.env)).filterMap (·.1)=(["start"]:List Str):=by rfl)(k1:backTo pos (starEach [e] X.env)=(false,eval e X.env)::backTo pos (starEach [] X.env):=by rfl)(k2:(backTo pos (starEach [e] X.env)).any (·.1)=false:=by rfl)(k3:(backToKw pos (keywordEach k6 X.env)).all (·.1.isSome)=true:=by rfl)(k4:(backToKw pos (keywordEach k6 X.env)).any (·.1.isNone)=false:=by rfl):
  PI X (.Tuple es x1 tp) (.Call (.Name "enumerate" p) [e] k6 pos) (EB X.K t tk):=by
 intro pins s σ H R I h;refine UT (cN I hg hm boot_enumerate (kG (aG (ha pos pins s σ H _ I h) fun us s1 gD=>?_) k1 k2 k3 k4));obtain⟨vs,H1,I1,r1,q1⟩:=gD;refine aG (hk pos pins s1 σ H1 _ I1 q1) fun ws s2 kd=>?_;obtain⟨zs,H2,I2,rz,q2⟩:=kd;obtain⟨p,rfl,rfl,⟨xs,hq⟩,q⟩:=q2;obtain⟨u,rfl,ru⟩:=vals1 r1;cases ru;obtain⟨u2,rfl,⟨JR,rfl⟩⟩:=vals1 rz;obtain⟨af,rv,pt,hz⟩:=I2.tuple hq;rw[Ij];exact j4 F.called_enumerate (by decide) (uU _ _) (uW _ _) (fun obj=>xw obj _ _) F.entry_enumerate_new (yD p JR) ⟨⟨_,pt⟩,⟨_,SI _ rfl,rfl⟩,iO (k:=1) I2 q⟩
def rY(K:PySem.W.Frag):R2:=fun x y H Q=> ∃p q xs,x= .ref p/\y= .ref q/\cf K H p xs/\cf K H q []/\Q (.bl xs.isEmpty) H
theorem kY(hu:X.A.units < cLine):eS X (compareOp .Eq) (rY X.K):=by
 intro pins s σ H x y v u Q I rx ry h;obtain⟨p,q,xs,rfl,rfl,h1,h2,hq⟩:=h;cases rx;cases ry;obtain⟨af,rv,pl,_⟩:=I.list h1;obtain⟨bo,kU,vI,_⟩:=I.list h2;cases kU;cases rv with
 | nil=>exact SeqAt.eq_listAt (e:=fun _=>true) pl.isList vI.isList rfl hu (fun j h1 _=>absurd h1 (by simp)) ⟨.bl true,H,I,rfl,hq⟩
 | cons r rr=>exact SeqAt.eq_list_lengthsAt pl.isList vI.isList (by simp) hu ⟨.bl false,H,I,rfl,hq⟩
def JP(i j:Int):Prop:=0 < j/\j < 2^64
theorem LO(h1:0 < j)(h2:j < 2^64):Builtin.divisionGoesByPylong i j=false:=by
 have e:j.natAbs < 2^64:=by lia
 have l:j.natAbs.log2 < 64:=by
  rw[Nat.log2_lt (by lia)];exact e
 unfold Builtin.divisionGoesByPylong;have: ¬(if (j==0)=true then 0 else j.natAbs.log2 / 30+1) > 300:=by
  split <;> lia
 simp only [S9 this,Bool.false_and]
theorem nE:cq X (.builtin "divmod") (fun xs H Q=> ∃i j,xs= [.int i, .int j]/\JP i j/\ ∀p,H p=none->Q (.ref p) (upd H p (.tup [.int (i / j), .int (i % j)]))):=by
 intro pins s σ H xs us Q I r h;obtain⟨i,j,rfl,⟨h1,h2⟩,q⟩:=h;obtain⟨u,u2,rfl,⟨t,rfl⟩,⟨t',rfl⟩⟩:=vals2 r;refine divmod_int (by lia) ?_ (.inl (LO h1 h2));rw[Int.fdiv_eq_ediv_of_nonneg i (by lia),Int.fmod_eq_emod_of_nonneg i (by lia)];refine⟨.ref s.heap.objs.size,_,I.laid (o:= .tup [.int (i / j), .int (i % j)]) (fun b o e=>Sz _ e) (SD _) ⟨by show 2<=sizeLine;decide,[.int (i / j) s.toks, .int (i % j) (s.toks+1)], .cons ⟨_,rfl⟩ (.cons ⟨_,rfl⟩ .nil),_,SI s.heap rfl,rfl,rfl,0,rfl⟩,rfl,q _ (I.aO.fresh (SD _))⟩
noncomputable def oY(T:String)(H:Hp):V->Option Bool
 | .aI=>some false
 | .bl _=>some (T=="bool" || T=="int")
 | .int _=>some (T=="int")
 | .str _=>some (T=="str")
 | .ref a=>match H a with
  | some (.lst _)=>some (T=="list")
  | some (.tup _)=>some (T=="tuple")
  | _=>none
 | _=>none
theorem Ey(hT:T="int"\/T="bool"\/T="tuple"\/T="list"\/T="str"):cq X (.builtin "isinstance") (fun xs H Q=> ∃x b,xs= [x, .ty T]/\oY T H x=some b/\Q (.bl b) H):=by
 intro pins s σ H xs us Q I r h;obtain⟨x,b,rfl,e,q⟩:=h;obtain⟨u,u2,rfl,ru,G8⟩:=vals2 r;cases (show u2=Value.type T from G8);have fin: ∀tk:Nat,EP X pins σ Q (.bool b) {s with toks:=tk}:=fun tk=>⟨.bl b,H,I.tok _,rfl,q⟩
 cases x with
 | aI=>cases e;rcases hT with rfl | rfl | rfl | rfl | rfl <;> exact cE I ru .aI rfl fin
 | bl y=>cases e;rcases hT with rfl | rfl | rfl | rfl | rfl <;> exact cE I ru (.bl y) rfl fin
 | int y=>cases e;rcases hT with rfl | rfl | rfl | rfl | rfl <;> exact cE I ru (.int y) rfl fin
 | str y=>cases e;rcases hT with rfl | rfl | rfl | rfl | rfl <;> exact cE I ru (.str y) rfl fin
 | ref a=>
  cases ha:H a with
  | none=>simp only [oY,ha] at e;cases e
  | some o=>
   cases o with
   | lst xs=>simp only [oY,ha] at e;cases e;rcases hT with rfl | rfl | rfl | rfl | rfl <;> exact cE I ru (.lst ha) rfl fin
   | tup xs=>simp only [oY,ha] at e;cases e;rcases hT with rfl | rfl | rfl | rfl | rfl <;> exact cE I ru (.tup ha) rfl fin
   | _=>simp only [oY,ha] at e;cases e
 | _=>cases e
end
inductive du:List Value->List Bool->Prop
 | nil:du [] []
 | cons (b:Bool) {vs:List Value} {bs:List Bool}:du vs bs->du (.bool b::vs) (b::bs)
theorem du.of: ∀{bs:List Bool} {us:List Value},Vals (bs.map V.bl) us->du us bs
 | [],_, .nil=> .nil
 | b::bs,_, .cons r rr=>by
  cases (show _=Value.bool b from r);exact .cons b (du.of rr)
theorem du.get(h:du vs bs): ∀(i:Nat) (v:Value),vs[i]?=some v-> ∃b,bs[i]?=some b/\v= .bool b:=by
 induction h with
 | nil=>intro i v e;simp at e
 | cons b _ ih=>
  intro i v e;cases i with
  | zero=>simp at e;subst e;exact⟨b,rfl,rfl⟩
  | succ i=>simpa using ih i v (by simpa using e)
theorem wW(bs:List Bool):((List.range bs.length).all fun i=>(bs[i]?).getD true)=bs.all id:=by
 rw[T4,TH,TH];constructor
 . intro h b hb;obtain⟨i,hi,e⟩:=Ua hb;have:=h i (Td.mpr hi);simp only [Sy hi,Vo,e] at this;exact this
 . intro h i hi;have iy:=Td.mp hi;simp only [Sy iy,Vo];exact h _ (Ur iy)
theorem zk{X:Cx}(hc:X.calm=true):cq X (.builtin "all") (fun xs H Q=> ∃a bs,xs= [.ref a]/\cf X.K H a (List.map V.bl bs)/\Q (.bl (bs.all id)) H):=by
 intro pins s σ H xs us Q I r h;obtain⟨a,bs,rfl,hq,q⟩:=h;obtain⟨u,rfl,ru⟩:=vals1 r;cases ru;obtain⟨af,rv,pl,_⟩:=I.list hq;have hl:=pl.isList;have hb:=du.of rv;have hlen:af.length=bs.length:=by rw[<-rv.length,Sx]
 have di:a < s.heap.objs.size:=by obtain⟨_,e,_⟩:=hl;exact SQ e
 refine call_all_walk (Uk hl ?_);refine⟨s.heap.objs.size,[s.heap.objs.size,a],[s.heap.objs.size],af.toArray.size,_,_,fun i=>(bs[i]?).getD true,rfl,Walks.list (A:=X.A.in1) (I.ok.hd hc) _ a (Tt di) af.toArray,
  ⟨⟨_,SI _ rfl,rfl,rfl⟩,hl.push _⟩,fun i v s' Q' E' hP hQ=>?_,fun h' tk hk=>?_⟩
 . obtain⟨b,e,rfl⟩:=hb.get i v (by simpa using hP);simp only [e,Vo] at hQ;exact TJ hQ
 . have e : ((List.range af.toArray.size).all fun i => (bs[i]?).getD true) = bs.all id := by
     rw[SK,hlen];exact wW bs
   rw[e];exact⟨.bl (bs.all id),H,I.kept fun b x e=>hk b x (fun hm=>by rw[SS.mp hm] at e;exact Tu _ (SQ e)) (Sz _ e),rfl,q⟩
end L2
namespace L2
open PySem PySem.Spec PyProof.Rows HT
def vB(H:Hp)(zs:List V)(p:Addr)(H':Hp):Prop:=(H'=H/\H p=some (.tup zs))\/(H p=none/\H'=upd H p (.tup zs))
theorem vB.at(h:vB H zs p H'):H' p=some (.tup zs):=by
 rcases h with ⟨rfl,h⟩ | ⟨_,rfl⟩
 . exact h
 . exact ae
theorem vB.keep(h:vB H zs p H'):ay H H':=by
 rcases h with ⟨rfl,h⟩ | ⟨h,rfl⟩
 . exact fun _ _ e=>e
 . exact fun b o e=>by rw[ag (aq e h)];exact e
theorem zi{vs ws:List Value}(ht:IsTup s.heap t vs.toArray)(hb:IsTup s.heap b ws.toArray)(hv:vs= [])(h:Q (.ref b) s):wpAny (model prog w) A (binaryOp .Add (.ref t) (.ref b)) Q E s:=by
 obtain⟨⟨c1,d1,t1,l1⟩,a1,a2,n1,a3⟩:=id ht;obtain⟨⟨c2,d2,t2,l2⟩,b1,b2,n2,b3⟩:=id hb;simp only at a2 a3 b2 b3;subst a2 a3 b2 b3;exact concat_meets ⟨_,a1,rfl⟩ ⟨_,b1,rfl⟩ noFill_tuple_add seq_tuple_add PySem.F.slot_tuple_add V8 (V3 _ _) (tuple_addW0 t b vs.toArray ws.toArray n1 n2 d1 d2 l1 l2 (by simp [hv])) ⟨a1,b1,h⟩
section
variable {X : Cx} {e : Expr} {te : TE} {pos p2 : Pos}
def B5:R2:=fun x y H Q=> ∃a b xs ys,x= .ref a/\y= .ref b/\H a=some (.tup xs)/\H b=some (.tup ys)/\xs.length+ys.length<=sizeLine/\ ∀p H',vB H (xs++ys) p H'->Q (.ref p) H'
theorem AM:eS X (binaryOp .Add) B5:=by
 intro pins s σ H x y v u Q I rx ry h;obtain⟨a,b,xs,ys,rfl,rfl,h1,h2,hz,q⟩:=h;cases rx;cases ry;obtain⟨af,r1,p1,_⟩:=I.tuple (cS.of h1);obtain⟨bo,r2,p2,_⟩:=I.tuple (cS.of h2);by_cases e1:af= []
 . have ex:xs= []:=r1.sA.mp e1;refine zi p1 p2 e1 ⟨.ref b,H,I,rfl,q b H (.inl ⟨rfl,?_⟩)⟩;rw[ex];exact h2
 . refine BF p1 p2 e1 (fun e2=>⟨.ref a,H,I,rfl,q a H (.inl ⟨rfl,?_⟩)⟩) (fun e2=>?_) (by rw[<-r1.length,<-r2.length];exact hz)
   . have ey:ys= []:=r2.sA.mp e2;rw[ey,TX];exact h1
   . refine⟨.ref s.heap.objs.size,_,I.laid (t':=s.toks) (o:= .tup (xs++ys)) (fun b ob q=>Sz _ q) (SD _) ⟨by rw[SV];exact hz,_,r1.append r2,pS.new _ _⟩,rfl,q _ _ (.inr ⟨I.aO.fresh (SD _),rfl⟩)⟩
end
end L2
namespace L2
open PySem PySem.Spec PyProof.Rows
theorem tI(h:0<=i)(e:xs[i.toNat]?=some v):vy xs i=some v:=by
 have:i=((i.toNat:Nat):Int):=by lia
 rw[this];exact tH e
theorem A4{n:Nat}{i:Int}(h:0<=i)(hl:i < n):zP n i=some i.toNat:=by
 unfold zP;rw[if_pos h,if_pos hl]
def gB(P:Program)(w:World)(K:PySem.W.Frag)(mg:Str->Option Value)(base:Heap)(x:Str)(k:Nat)(ps:List Str)(sp:Sp):Prop:=
 ∃f fd,mg x=some (.ref f)/\PySem.W.keepIn K (.ref f)=true/\Binds K fd ps []/\aV P w K mg base eI k f fd ps sp
theorem jq{X:Cx}(h:gB X.prog X.w X.K X.mg X.base x k ps sp)(hr:bB k X.A)(hg:Gl X x)(ha:PA X (e::es) t)(jI:(x==("__debug__":Str))=false:=by decide)(he:starEach (e::es) X.env=(false,eval e X.env)::starEach es X.env:=by rfl)(cv:(backTo pos (starEach es X.env)).any (·.1)=false:=by rfl):
  PE X (.Call (.Name x p) (e::es) [] pos) (rQ sp [] E0 t):=by
 obtain⟨f,fd,h1,h2,h3,h4⟩:=h;exact AK h4 hr hg h1 h2 h3 .nil xk ha jI he cv
end L2
namespace LB
open PySem L2 PyProof.Rows
theorem lY:bootBuiltins "int"=some (.type "int"):=by decide+kernel
theorem da:bootBuiltins "tuple"=some (.type "tuple"):=by decide+kernel
theorem gy:bootBuiltins "bool"=some (.type "bool"):=by decide+kernel
theorem lX:bootBuiltins "str"=some (.type "str"):=by decide+kernel
theorem eE:bootBuiltins "list"=some (.type "list"):=by decide+kernel
theorem nF:bootBuiltins "divmod"=some (.builtin "divmod"):=by decide+kernel
theorem LZ: ¬(("cells":Str)="turn"):=by decide+kernel
noncomputable def bx(c:Addr)(t:Int):List (Key × V):= [(Sum.inr "cells", .ref c),(Sum.inr "turn", .int t)]
theorem pJ(c:Addr)(t:Int):eU (bx c t) (Sum.inr "cells":Key)=some (.ref c):=by
 simp [eU,bx]
theorem BG(c:Addr)(t:Int):eU (bx c t) (Sum.inr "turn":Key)=some (.int t):=by
 simp [eU,bx,LZ]
theorem FJ(c:Addr)(t u:Int):putK (bx c t) (Sum.inr "turn":Key) (.int u)=bx c u:=by
 simp [putK,bx,LZ]
structure vF(H:Hp)(d c:Addr)(t:Int):Prop where
 dc:H d=some (.dK (bx c t))
 cs: ∃ns:List Int,H c=some (.lst (ns.map V.int))/\0 < ns.length/\ns.length<=63
 t0:0<=t
 t1:t<=1000000
theorem vF.ne(b:vF H d c t):d≠c:=let ⟨_,h,_⟩:=b.cs;xG b.dc h (by intro z;cases z)
def Kp(d c:Addr)(H H':Hp):Prop:= ∀b o,H b=some o->b≠d->b≠c->H' b=some o
theorem vF.same(b:vF H d c t)(s:ay H H'):vF H' d c t:=⟨s _ _ b.dc,let ⟨ns,h,r⟩:=b.cs;⟨ns,s _ _ h,r⟩,b.t0,b.t1⟩
def wA:Sp:=fun vs H Q _=> ∃(d c:Addr) (t m:Int),vs= [.ref d, .int m]/\vF H d c t/\t < 1000000/\0 < m/\m < 2^64/\ ∀(r:Int) (H':Hp),0<=r->r < m->vF H' d c (t+1)->Kp d c H H'->Q (.int r) H'
def mG(K:PySem.W.Frag):Sp:=fun vs H Q _=> ∃(a:Addr) (ns:List Int),vs= [.ref a]/\cf K H a (ns.map V.int)/\ns.length<=63/\ ∀(d c:Addr) (H':Hp),vF H' d c 0->ay H H'->Q (.ref d) H'
theorem ay.new(h:H p=none):ay H (upd H p o):=fun b u e=>by rw[ag (aq e h)];exact e
theorem ay.tr(a:ay H H1)(b:ay H1 H2):ay H H2:=fun x o e=>b x o (a x o e)
end LB
namespace L2
open PySem PySem.Spec PyProof.Rows
theorem jG{k:Int}(h:k.natAbs < 2^n):Builtin.Int.intBits k<=n:=by
 unfold Builtin.Int.intBits;split
 . exact Tw _
 . rcases Nat.eq_zero_or_pos k.natAbs with h0 | hp
   . rename_i hk;exfalso;have:k=0:=by lia
     subst this;simp at hk
   . have:=(Nat.log2_lt (VB hp)).mpr h;lia
def j8(h:Heap)(it a:Addr)(xs:Array Value)(k:Nat):Prop:=(h.IsListIter it a k/\h.IsList a xs)\/(h.IsTupleIter it a k/\h.IsTuple a xs)
theorem j8.ext{h h':Heap}(z:j8 h it a xs k)(e1: ∀o,h.get? it=some o->h'.get? it=some o)(e2: ∀o,h.get? a=some o->h'.get? a=some o):j8 h' it a xs k:=by
 rcases z with ⟨z1,z2⟩ | ⟨z1,z2⟩
 . exact .inl ⟨let ⟨o,q,r⟩:=z1;⟨o,e1 o q,r⟩,let ⟨o,q,r⟩:=z2;⟨o,e2 o q,r⟩⟩
 . exact .inr ⟨let ⟨o,q,r⟩:=z1;⟨o,e1 o q,r⟩,let ⟨o,q,r⟩:=z2;⟨o,e2 o q,r⟩⟩
theorem qy(z:j8 s.heap it a xs k)(i9:a≠it)(hy:xs[k]?=some y)(hQ: ∀h',j8 h' it a xs (k+1)->Heap.SameBut it s.heap h'->Q y {s with heap:=h'}):wpAny (model prog w) A (Builtin.SmallTypes.nextOf (.ref it)) Q E s:=by
 rcases z with ⟨z1,z2⟩ | ⟨z1,z2⟩
 . exact wpAny_nextOf_list_item z1 z2 hy fun h' q sb=>hQ h' (.inl ⟨q,let ⟨o,e,r⟩:=z2;⟨o,(sb.2 a i9).trans e,r⟩⟩) sb
 . exact oa z1 z2 hy fun h' q sb=>hQ h' (.inr ⟨q,let ⟨o,e,r⟩:=z2;⟨o,(sb.2 a i9).trans e,r⟩⟩) sb
theorem xE(hh:A.handled=none)(z:j8 s.heap it a xs k)(hy:xs[k]?=none)(hE: ∀h' e,Heap.ExtBut it s.heap h'->(∃o,h'.get? e=some o/\o.cls= .type "StopIteration")->E (.ref e) {s with heap:=h'}):wpAny (model prog w) A (Builtin.SmallTypes.nextOf (.ref it)) Q E s:=by
 rcases z with ⟨z1,z2⟩ | ⟨z1,z2⟩
 . exact wpAny_nextOf_list_end hh z1 z2 hy hE
 . exact og hh z1 z2 hy hE
theorem tS{z TI TO i1 i2 l1 l2:Addr}{k1 k2:Nat}{xs ys:Array Value}{x y a b:Value}{Q:Value->Shared->Prop}(D:ZipApart z TI TO i1 i2 l1 l2)(hz:IsZip s.heap z TI TO .none)(ER:IsPair s.heap TI (.ref i1) (.ref i2))(EO:IsPair s.heap TO a b)
  (h1:j8 s.heap i1 l1 xs k1) (h2:j8 s.heap i2 l2 ys k2) (hx:xs[k1]?=some x) (hy:ys[k2]?=some y)
  (hQ: ∀h',IsZip h' z TI TO (rawInt s.heap.objs.size)->IsPair h' TO x y->j8 h' i1 l1 xs (k1+1)->j8 h' i2 l2 ys (k2+1)->IsPair h' s.heap.objs.size x y->h'.objs.size=s.heap.objs.size+1->
   (∀c o,c≠z->c≠TO->c≠i1->c≠i2->s.heap.get? c=some o->h'.get? c=some o)->Q (.ref s.heap.objs.size) {s with heap:=h'}):wpAny (model prog w) A (Builtin.«zip.__next__» ⟨[.ref z],[]⟩) (fun fin s'=> ∃v,fin= .done (.ret v)/\Q v s') E s:=by
 show wpAny _ _ (field (.ref z) 2 >>=_) _ _ _;refine Sw (UN hz rfl (x:= .bool false) rfl ?_);show wpAny _ _ (field (.ref z) 3 >>=_) _ _ _;refine Sw (UN hz rfl (x:= .ref TI) rfl ?_);refine Sw (Uu ER rfl ?_);show wpAny _ _ (Builtin.SmallTypes.ownedTupleIsFree (.ref z) >>=_) _ _ _;refine Sw ?_;unfold Builtin.SmallTypes.ownedTupleIsFree;refine Sw (UN hz rfl (x:= .none) rfl (SA ?_));simp only [VP];refine Sw (UG ?_);refine Sw (UN hz rfl (x:= .ref TO) rfl ?_);refine Sw (U8 hz (by simp) fun h₁ iL fA=>?_);replace iL:IsZip h₁ z TI TO .ellipsis:=iL;refine Sw ?_;simp only [List.zipIdx_cons,List.zipIdx_nil,List.forIn_cons,List.forIn_nil]
 refine Sw (Sw (wpAny_onRaise ?_));show wpAny _ _ (Builtin.SmallTypes.nextOf (.ref i1) >>=_) _ _ _;refine Sw (qy (h1.ext (fun o e=>fA.extBut _ _ D.i1z e) fun o e=>fA.extBut _ _ D.l1z e) D.l1i1 hx fun h₂ Cp fw=>SA ?_);have jJ:IsPair h₂ TO a b:=fw.extBut _ _ D.TOi1 (fA.extBut _ _ D.TOz EO);refine Sw (Uu jJ rfl ?_);refine Sw (wpAny_updateSeq_pair jJ fun h₃ m9 fv=>?_);replace m9:IsPair h₃ TO x b:=m9;refine Sw (wpAny_letGo (SA ?_));refine Sw (Sw (wpAny_onRaise ?_));show wpAny _ _ (Builtin.SmallTypes.nextOf (.ref i2) >>=_) _ _ _;have k3: ∀c o,c≠z->c≠i1->c≠TO->s.heap.get? c=some o->h₃.get? c=some o:=fun c o c1 c2 c3 e=>fv.extBut _ _ c3 (fw.extBut _ _ c2 (fA.extBut _ _ c1 e));refine Sw (qy (h2.ext (fun o e=>k3 _ o D.i2z D.i12.symm D.TOi2.symm e) fun o e=>k3 _ o D.l2z D.l2i1 D.l2TO e) D.l2i2 hy fun h₄ IC gQ=>SA ?_);have x4:IsPair h₄ TO x b:=gQ.extBut _ _ D.TOi2 m9;refine Sw (Uu x4 rfl ?_);refine Sw (wpAny_updateSeq_pair x4 fun h₅ m8 fW=>?_);replace m8:IsPair h₅ TO x y:=m8;refine Sw (wpAny_letGo (SA (SA ?_)));refine Sw (Uu m8 rfl ?_);refine Sw (wpAny_newTuple ?_);have hsz:h₅.objs.size=s.heap.objs.size:=by rw[fW.1,gQ.1,fv.1,fw.1,fA.1]
 have k5: ∀c o,c≠z->c≠TO->c≠i1->c≠i2->s.heap.get? c=some o->h₅.get? c=some o:=fun c o c1 c2 c3 c4 e=>fW.extBut _ _ c2 (gQ.extBut _ _ c4 (k3 c o c1 c3 c2 e));have Cj:IsZip h₅ z TI TO .ellipsis:=fW.extBut _ _ D.TOz.symm (gQ.extBut _ _ D.i2z.symm (fv.extBut _ _ D.TOz.symm (fw.extBut _ _ D.i1z.symm iL)));have f1:j8 h₅ i1 l1 xs (k1+1):=Cp.ext (fun o e=>fW.extBut _ _ D.TOi1.symm (gQ.extBut _ _ D.i12 (fv.extBut _ _ D.TOi1.symm e))) fun o e=>fW.extBut _ _ D.l1TO (gQ.extBut _ _ D.l1i2 (fv.extBut _ _ D.l1TO e));have f2:j8 h₅ i2 l2 ys (k2+1):=IC.ext (fun o e=>fW.extBut _ _ D.TOi2.symm e) fun o e=>fW.extBut _ _ D.l2TO e;have GC:z < h₅.objs.size:=SQ Cj;show wpAny _ _ (Builtin.SmallTypes.ownedTupleHandOut (.ref z) (.ref h₅.objs.size) >>=_) _ _ _;refine Sw ?_;unfold Builtin.SmallTypes.ownedTupleHandOut;have Ia:IsZip (h₅.push {cls:= .type "tuple",data:= .seq #[x,y]}) z TI TO .ellipsis:=Sz _ Cj;refine Sw (U8 Ia (by simp) fun h₇ xS xU=>?_);replace xS:IsZip h₇ z TI TO (rawInt h₅.objs.size):=xS;refine U8 xS (by simp) fun h₈ sO xT=>?_
 replace sO:IsZip h₈ z TI TO (rawInt h₅.objs.size):=sO
 have up: ∀c o,c≠z->h₅.get? c=some o->h₈.get? c=some o:=fun c o c1 e=>xT.extBut _ _ c1 (xU.extBut _ _ c1 (Sz _ e));have pT:IsPair h₈ h₅.objs.size x y:=xT.extBut _ _ (VB GC) (xU.extBut _ _ (VB GC) (SI _ rfl));have s8:h₈.objs.size=h₅.objs.size+1:=by rw[xT.1,xU.1,TC]
 rw[hsz] at sO pT s8;refine SA ⟨_,rfl,?_⟩;show Q (.ref h₅.objs.size) _;rw[hsz];exact hQ h₈ sO (up _ _ D.TOz m8) (f1.ext (fun o e=>up _ o D.i1z e) fun o e=>up _ o D.l1z e) (f2.ext (fun o e=>up _ o D.i2z e) fun o e=>up _ o D.l2z e) pT s8 fun c o c1 c2 c3 c4 e=>up c o c1 (k5 c o c1 c2 c3 c4 e)
theorem tQ{z TI TO i1 i2 l1 l2:Addr}{k1 k2:Nat}(hh:A.handled=none)(D:ZipApart z TI TO i1 i2 l1 l2)(hz:IsZip s.heap z TI TO .none)(ER:IsPair s.heap TI (.ref i1) (.ref i2))(EO:IsPair s.heap TO a b)(h1:j8 s.heap i1 l1 xs k1)(h2:j8 s.heap i2 l2 ys k2)(EK:xs[k1]?=none\/ys[k2]?=none)(hE: ∀h' e,(∀c o,c≠z->c≠TO->c≠i1->c≠i2->s.heap.get? c=some o->h'.get? c=some o)->(∃o,h'.get? e=some o/\o.cls= .type "StopIteration")->E (.ref e) {s with heap:=h'}):wpAny (model prog w) A (Builtin.«zip.__next__» ⟨[.ref z],[]⟩) Q E s:=by
 show wpAny _ _ (field (.ref z) 2 >>=_) _ _ _;refine Sw (UN hz rfl (x:= .bool false) rfl ?_);show wpAny _ _ (field (.ref z) 3 >>=_) _ _ _;refine Sw (UN hz rfl (x:= .ref TI) rfl ?_);refine Sw (Uu ER rfl ?_);show wpAny _ _ (Builtin.SmallTypes.ownedTupleIsFree (.ref z) >>=_) _ _ _;refine Sw ?_;unfold Builtin.SmallTypes.ownedTupleIsFree;refine Sw (UN hz rfl (x:= .none) rfl (SA ?_));simp only [VP];refine Sw (UG ?_);refine Sw (UN hz rfl (x:= .ref TO) rfl ?_);refine Sw (U8 hz (by simp) fun h₁ iL fA=>?_);replace iL:IsZip h₁ z TI TO .ellipsis:=iL;refine Sw ?_;simp only [List.zipIdx_cons,List.zipIdx_nil,List.forIn_cons,List.forIn_nil]
 refine Sw (Sw (wpAny_onRaise ?_));show wpAny _ _ (Builtin.SmallTypes.nextOf (.ref i1) >>=_) _ _ _;have g1:j8 h₁ i1 l1 xs k1:=h1.ext (fun o e=>fA.extBut _ _ D.i1z e) fun o e=>fA.extBut _ _ D.l1z e;cases hx:xs[k1]? with
 | none=>
  refine Sw (xE hh g1 hx fun h₂ e fw he=>?_);obtain⟨oe,EF,Iu⟩:=he;have Cm:IsZip h₂ z TI TO .ellipsis:=fw _ _ D.i1z.symm iL;have Mx:e≠z:=fun y=>by subst y;rw[Cm] at EF;cases EF;simp at Iu
  exact U8 Cm (by simp) fun h₃ _ fv=>hE h₃ e (fun c o c1 _ c3 _ y=>fv.extBut _ _ c1 (fw _ _ c3 (fA.extBut _ _ c1 y))) ⟨oe,fv.extBut _ _ Mx EF,Iu⟩
 | some x=>
  have hy:ys[k2]?=none:=EK.resolve_left fun q=>by rw[hx] at q;cases q
  refine Sw (qy g1 D.l1i1 hx fun h₂ Cp fw=>SA ?_);have jJ:IsPair h₂ TO a b:=fw.extBut _ _ D.TOi1 (fA.extBut _ _ D.TOz EO);refine Sw (Uu jJ rfl ?_);refine Sw (wpAny_updateSeq_pair jJ fun h₃ m9 fv=>?_);refine Sw (wpAny_letGo (SA ?_));refine Sw (Sw (wpAny_onRaise ?_));show wpAny _ _ (Builtin.SmallTypes.nextOf (.ref i2) >>=_) _ _ _;have k3: ∀c o,c≠z->c≠i1->c≠TO->s.heap.get? c=some o->h₃.get? c=some o:=fun c o c1 c2 c3 e=>fv.extBut _ _ c3 (fw.extBut _ _ c2 (fA.extBut _ _ c1 e));refine Sw (xE hh (h2.ext (fun o e=>k3 _ o D.i2z D.i12.symm D.TOi2.symm e) fun o e=>k3 _ o D.l2z D.l2i1 D.l2TO e) hy fun h₄ e gQ he=>?_);obtain⟨oe,EF,Iu⟩:=he;have Ck:IsZip h₄ z TI TO .ellipsis:=gQ _ _ D.i2z.symm (fv.extBut _ _ D.TOz.symm (fw.extBut _ _ D.i1z.symm iL));have Mx:e≠z:=fun y=>by subst y;rw[Ck] at EF;cases EF;simp at Iu
  exact U8 Ck (by simp) fun h₅ _ fW=>hE h₅ e (fun c o c1 c2 c3 c4 y=>fW.extBut _ _ c1 (gQ _ _ c4 (k3 c o c1 c3 c2 y))) ⟨oe,fW.extBut _ _ Mx EF,Iu⟩
theorem tR {z TI TO i1 i2 l1 l2 : Addr} {k1 k2 : Nat} (D : ZipApart z TI TO i1 i2 l1 l2) (hz : IsZip s.heap z TI TO .none) (ER : IsPair s.heap TI (.ref i1) (.ref i2)) (EO : IsPair s.heap TO a b) (h1 : j8 s.heap i1 l1 xs k1) (h2 : j8 s.heap i2 l2 ys k2) (hx : xs[k1]? = some x) (hy : ys[k2]? = some y) (hQ : ∀ h', IsZip h' z TI TO (rawInt s.heap.objs.size) -> IsPair h' TO x y -> j8 h' i1 l1 xs (k1 + 1) -> j8 h' i2 l2 ys (k2 + 1) -> IsPair h' s.heap.objs.size x y -> h'.objs.size = s.heap.objs.size + 1 ->
   (∀c o,c≠z->c≠TO->c≠i1->c≠i2->s.heap.get? c=some o->h'.get? c=some o)->Q (some (.ref s.heap.objs.size)) {s with heap:=h'}):wpAny (model prog w) A (pyNext (.ref z)) Q E s:=by
 have hT:s.TypeIs (.ref z) "zip":=⟨_,hz,rfl⟩;unfold pyNext;exact Sw (wpAny_attempt (U1 (name:=Str.ofString "__next__") hT F.slot_zip_next (UE F.slot_zip_next hT F.entry_zip_next
   (tS D hz ER EO h1 h2 hx hy fun h' a1 a2 a3 a4 a5 a6 a7=>SA (hQ h' a1 a2 a3 a4 a5 a6 a7)) (F.args_zip_next_1 _))))
theorem vU{z TI TO i1 i2 l1 l2:Addr}{k1 k2:Nat}(hh:A.handled=none)(D:ZipApart z TI TO i1 i2 l1 l2)(hz:IsZip s.heap z TI TO .none)(ER:IsPair s.heap TI (.ref i1) (.ref i2))(EO:IsPair s.heap TO a b)(h1:j8 s.heap i1 l1 xs k1)(h2:j8 s.heap i2 l2 ys k2)(EK:xs[k1]?=none\/ys[k2]?=none)(hQ: ∀h',(∀c o,c≠z->c≠TO->c≠i1->c≠i2->s.heap.get? c=some o->h'.get? c=some o)->Q none {s with heap:=h'}):wpAny (model prog w) A (pyNext (.ref z)) Q E s:=by
 have hT:s.TypeIs (.ref z) "zip":=⟨_,hz,rfl⟩;unfold pyNext;refine Sw (wpAny_attempt (U1 (name:=Str.ofString "__next__") hT F.slot_zip_next (UE F.slot_zip_next hT F.entry_zip_next (tQ hh D hz ER EO h1 h2 EK fun h' e hk he=>?_) (F.args_zip_next_1 _))));obtain⟨o,ho,hc⟩:=he;refine Sw (wpAny_isInstance (T:="StopIteration") (b:=true) ⟨o,ho,hc⟩ isSubtype_stop ?_);exact SA (hQ _ hk)
open AutoSeq1 (wpAny_loadPart')
noncomputable def pW(b:Bool)(a:Addr):Obj:={cls:= .type (if b then "tuple_iterator" else "list_iterator"),data:= .fields #[.ref a, .int 0 0]}
def rB(b:Bool)(h:Heap)(a:Addr)(xs:Array Value):Prop:=match b with
 | true=>h.IsTuple a xs
 | false=>h.IsList a xs
noncomputable def dw(h:Heap)(b1 b2:Bool)(a1 a2:Addr):Heap:=(h.push (pW b1 a1)).push (pW b2 a2)
noncomputable def eT(h:Heap)(b1 b2:Bool)(a1 a2:Addr):Heap:=((dw h b1 b2 a1 a2).push {cls:= .type "tuple",data:= .seq #[.ref h.objs.size, .ref (h.push (pW b1 a1)).objs.size]}).push {cls:= .type "tuple",data:= .seq #[.none, .none]}
noncomputable def ck(h:Heap)(b1 b2:Bool)(a1 a2:Addr):Heap:=
 (eT h b1 b2 a1 a2).push {cls:= .type "zip",data:= .fields #[.none, .bool false, .bool false, .ref (dw h b1 b2 a1 a2).objs.size, .ref ((dw h b1 b2 a1 a2).push {cls:= .type "tuple",data:= .seq #[.ref h.objs.size, .ref (h.push (pW b1 a1)).objs.size]}).objs.size]}
theorem C1(b1 b2:Bool)(a1 a2:Addr)(xs ys:Array Value):
  Meets (Builtin.«zip.__new__» ⟨[.type "zip", .ref a1, .ref a2],[]⟩) (fun _ R s=>rB b1 s.heap a1 xs/\rB b2 s.heap a2 ys/\R (.ok (.ret (.ref (eT s.heap b1 b2 a1 a2).objs.size))) {s with heap:=ck s.heap b1 b2 a1 a2}):=
 .of_wp fun prog w A R s h=>by
  obtain⟨hp,g,d,tk,os⟩:=s;obtain⟨h1,h2,h⟩:=h;have Bb:=sub_zip;cases b1 <;> cases b2
  . have q1:Heap.IsList (Shared.heap ⟨hp,g,d,tk,os⟩) a1 xs:=h1;have q2:Heap.IsList (Shared.heap ⟨hp.push {cls:= .type "list_iterator",data:= .fields #[.ref a1, .int 0 0]},g,d,tk,os⟩) a2 ys:=Heap.IsList.push h2 _;wp_walk using Uk q1,Uk q2
    exact⟨_,rfl,h⟩
  . have q1:Heap.IsList (Shared.heap ⟨hp,g,d,tk,os⟩) a1 xs:=h1;have q2:Heap.IsTuple (Shared.heap ⟨hp.push {cls:= .type "list_iterator",data:= .fields #[.ref a1, .int 0 0]},g,d,tk,os⟩) a2 ys:=let ⟨o,e,r⟩:=h2;⟨o,Sz _ e,r⟩;wp_walk using Uk q1,Uo q2
    exact⟨_,rfl,h⟩
  . have q1:Heap.IsTuple (Shared.heap ⟨hp,g,d,tk,os⟩) a1 xs:=h1;have q2:Heap.IsList (Shared.heap ⟨hp.push {cls:= .type "tuple_iterator",data:= .fields #[.ref a1, .int 0 0]},g,d,tk,os⟩) a2 ys:=Heap.IsList.push h2 _;wp_walk using Uo q1,Uk q2
    exact⟨_,rfl,h⟩
  . have q1:Heap.IsTuple (Shared.heap ⟨hp,g,d,tk,os⟩) a1 xs:=h1;have q2:Heap.IsTuple (Shared.heap ⟨hp.push {cls:= .type "tuple_iterator",data:= .fields #[.ref a1, .int 0 0]},g,d,tk,os⟩) a2 ys:=let ⟨o,e,r⟩:=h2;⟨o,Sz _ e,r⟩;wp_walk using Uo q1,Uo q2
    exact⟨_,rfl,h⟩
def kH(b:Bool)(H:Hp)(a:Addr)(xs:List V):Prop:=match b with
 | true=>H a=some (.tup xs)
 | false=>H a=some (.lst xs)
theorem kH.inj(h:kH b H a xs)(k:kH b H a ys):xs=ys:=by
 cases b
 . have h:H a=some (.lst xs):=h;have k:H a=some (.lst ys):=k;rw[h] at k;cases k;rfl
 . have h:H a=some (.tup xs):=h;have k:H a=some (.tup ys):=k;rw[h] at k;cases k;rfl
theorem kH.some{b:Bool}{H:Hp}{a:Addr}{xs:List V}(h:kH b H a xs): ∃o,H a=some o:=by
 cases b
 . exact⟨_,h⟩
 . exact⟨_,h⟩
def vP(b:Bool)(h:Heap)(it a:Addr)(k:Nat):Prop:=match b with
 | true=>h.IsTupleIter it a k
 | false=>h.IsListIter it a k
theorem vP.obj(z:vP b h it a k): ∃o,h.get? it=Option.some o/\ ∀v,o.data≠ .cell v:=by
 cases b
 . obtain⟨o,q,_,d⟩:=(show h.IsListIter it a k from z);exact⟨o,q,fun v y=>by rw[d] at y;cases y⟩
 . obtain⟨o,q,_,d⟩:=(show h.IsTupleIter it a k from z);exact⟨o,q,fun v y=>by rw[d] at y;cases y⟩
theorem vP.keep{h h':Heap}(z:vP b h it a k)(e: ∀o,h.get? it=Option.some o->h'.get? it=Option.some o):vP b h' it a k:=by
 cases b
 . obtain⟨o,q,r⟩:=(show h.IsListIter it a k from z);exact(show h'.IsListIter it a k from⟨o,e o q,r⟩)
 . obtain⟨o,q,r⟩:=(show h.IsTupleIter it a k from z);exact(show h'.IsTupleIter it a k from⟨o,e o q,r⟩)
theorem vP.JX(z:vP b h it a k)(q:rB b h a xs):j8 h it a xs k:=by
 cases b
 . exact .inl ⟨z,q⟩
 . exact .inr ⟨z,q⟩
theorem xQ(z:j8 h it a xs k)(q:rB b h a xs):vP b h it a k:=by
 cases b
 . rcases z with ⟨z1,_⟩ | ⟨_,o,e1,e2,_⟩
   . exact z1
   . obtain⟨o',f1,f2,_⟩:=(show h.IsList a xs from q)
     rw[f1] at e1;cases e1;rw[f2] at e2;injection e2 with y;exact absurd y (by decide)
 . rcases z with ⟨_,o,e1,e2,_⟩ | ⟨z1,_⟩
   . obtain⟨o',f1,f2,_⟩:=(show h.IsTuple a xs from q)
     rw[f1] at e1;cases e1;rw[f2] at e2;injection e2 with y;exact absurd y (by decide)
   . exact z1
theorem Inv.F6(I:Inv X pins σ H s)(h:kH b H a xs): ∃af:List Value,Vals xs af/\rB b s.heap a af.toArray:=by
 cases b
 . obtain⟨af,rv,pl,_⟩:=I.list (cf.of (show H a=Option.some (.lst xs) from h));exact⟨af,rv,pl.isList⟩
 . obtain⟨af,rv,pl,_⟩:=I.tuple (cS.of (show H a=Option.some (.tup xs) from h));exact⟨af,rv,pl⟩
theorem Inv.tX{h':Heap}{t':Nat}{ch:List Addr}(I:Inv X pins σ H s)(hc: ∀b∈ch,cT X pins H b)(k: ∀b u,b∉ch->s.heap.get? b=some u->h'.get? b=some u):Inv X pins σ H {s with heap:=h',toks:=t'}:=by
 have zM: ∀b u,H b=some u->b∉ch:=fun b u e z=>by rw[(hc b z).1] at e;cases e
 refine I.step (g':=s.gens) (d':=s.drawn) (ch:=ch) (fun b hb=>?_) (fun b u _ _ hn e _=>k b u hn e) (fun b u _ _ hn e _=>⟨u.slots,k b u hn e⟩) (fun _ _ _ _ n=>n)
  (fun b u hn e=>⟨u,k b u hn e⟩) (fun _ _ e=>e) (fun _ _ _ e=>e) (fun b ps e=>⟨#[],by rw[e];simp⟩) (fun m hm=>?_) (fun b u e=>?_) I.bare
 . obtain⟨f0,f1,f2,f3,f4,f5⟩:=hc b hb;exact⟨f3,f1,f4,f5⟩
 . obtain⟨ob,es,ep,ho,r⟩:=hm;exact⟨ob,es,ep,k _ ob (fun z=>(hc _ z).2.1 rfl) ho,r⟩
 . refine(I.aO b u e).qk (fun c v Co q=>k c v ?_ q) (fun c q=>q) fun c xs q=>q;rcases Co with z | z
   . rw[z];exact zM b u e
   . exact zM c _ z
structure Z5(n:Nat):Prop where
 a:n+2≠n+4
 b:n+3≠n+4
 c:n≠n+4
 d:n+1≠n+4
 e:n+2≠n+3
 f:n+2≠n
 g:n+2≠n+1
 h:n+3≠n
 i:n+3≠n+1
 j:n≠n+1
theorem aW(n:Nat):Z5 n:=⟨by lia,by lia,by lia,by lia,by lia,by lia,by lia,by lia,by lia,by lia⟩
noncomputable def JF(b1 b2:Bool)(a1 a2:Addr):It:=
 ⟨fun i H=> ∃xs x ys y,kH b1 H a1 xs/\xs[i]?=some x/\kH b2 H a2 ys/\ys[i]?=some y,
  fun i H v H'=> ∃p x y,v= .ref p/\H p=none/\H'=upd H p (.tup [x,y])/\(∀xs,kH b1 H a1 xs->xs[i]?=some x)/\ ∀ys,kH b2 H a2 ys->ys[i]?=some y,
  fun i H=> ∃xs ys,kH b1 H a1 xs/\kH b2 H a2 ys/\(xs.length<=i\/ys.length<=i)⟩
theorem v8{P:Program}{w:World}{K:PySem.W.Frag}{es:List Expr}{x1}{tp:Pos}(b1 b2:Bool)(a1 a2:Addr)(n:Nat):
  Turn P w K (.Tuple es x1 tp) (JF b1 b2 a1 a2) [n+4,n+2,n+3,n,n+1] (n+4) (fun i h=>IsZip h (n+4) (n+2) (n+3) .none/\IsPair h (n+2) (.ref n) (.ref (n+1))/\(∃a b,IsPair h (n+3) a b)/\vP b1 h n a1 i/\vP b2 h (n+1) a2 i) where
 mem:=by simp
 obj:=fun i h st b hb=>by
  obtain⟨z1,z2,⟨u,v,z3⟩,z4,z5⟩:=st;simp only [Tg,SH,or_false] at hb;rcases hb with rfl | rfl | rfl | rfl | rfl
  . exact⟨_,z1,fun v y=>nomatch (show Data.fields _=Data.cell v from y)⟩
  . exact⟨_,z2,fun v y=>nomatch (show Data.seq _ _=Data.cell v from y)⟩
  . exact⟨_,z3,fun v y=>nomatch (show Data.seq _ _=Data.cell v from y)⟩
  . exact z4.obj
  . exact z5.obj
 keep:=fun i h h' st kk=>by
  obtain⟨z1,z2,⟨u,v,z3⟩,z4,z5⟩:=st;exact⟨kk _ (by simp) _ z1,kk _ (by simp) _ z2,⟨u,v,kk _ (by simp) _ z3⟩,z4.keep fun o q=>kk _ (by simp) o q,z5.keep fun o q=>kk _ (by simp) o q⟩
 item:=by
  intro X hP hw hK hc i pins s σ H E I hf st hg;subst hP hw hK;obtain⟨xs,x,ys,y,q1,hx,q2,hy⟩:=hg;obtain⟨af,rv,p1⟩:=I.F6 q1;obtain⟨bo,kU,p2⟩:=I.F6 q2;obtain⟨u,hu,ru⟩:=rv.get hx;obtain⟨u2,J8,G8⟩:=kU.get hy;obtain⟨z1,z2,⟨c1,c2,z3⟩,z4,z5⟩:=st;have ap: ∀{b:Bool} {a:Addr} {zs:List V},kH b H a zs-> ∀f∈ [n+4,n+2,n+3,n,n+1],a≠f:=fun hq f Bg e=>by
   obtain⟨o,q⟩:=hq.some;have:=(hf f Bg).1;rw[<-e,q] at this;cases this
  have D:ZipApart (n+4) (n+2) (n+3) n (n+1) a1 a2:=⟨(aW n).a,(aW n).b,(aW n).c,(aW n).d,(aW n).e,(aW n).f,(aW n).g,(aW n).h,(aW n).i,(aW n).j,ap q1 _ (by simp),ap q1 _ (by simp),ap q1 _ (by simp),ap q1 _ (by simp),ap q2 _ (by simp),ap q2 _ (by simp),ap q2 _ (by simp),ap q2 _ (by simp)⟩
  refine tR D z1 z2 z3 (z4.JX p1) (z5.JX p2) (x:=u) (y:=u2) (by simpa using hu) (by simpa using J8) fun h' e1 e2 e3 e4 e5 e6 e7=>⟨_,rfl,?_⟩
  refine wpAny_letOwnedTupleGo_zip e1 fun h2 g1 sb=>?_;have GC:n+4 < s.heap.objs.size:=SQ z1;have I1:Inv X pins σ (upd H s.heap.objs.size (.tup [x,y])) {s with heap:=h2,toks:=s.toks}:=by
   refine I.kM (ch:= [n+4,n+2,n+3,n,n+1]) hf (SD _) (fun b o hb q=>?_) ⟨by show 2<=sizeLine;decide,[u,u2], .cons ru (.cons G8 .nil),?_⟩
   . have m: ∀f,f∈ [n+4,n+2,n+3,n,n+1]->b≠f:=fun f Bg e=>hb (e▸Bg);exact(sb.2 b (m _ (by simp))).trans (e7 b o (m _ (by simp)) (m _ (by simp)) (m _ (by simp)) (m _ (by simp)) q)
   . exact⟨_,(sb.2 _ (VB GC)).trans e5,rfl,rfl,_,rfl⟩
  have up: ∀b o,b≠n+4->h'.get? b=some o->h2.get? b=some o:=fun b o hb q=>(sb.2 b hb).trans q;have Cg: ∀{b:Bool} {a:Addr} {zs:Array Value} {ws:List V},kH b H a ws->rB b s.heap a zs->rB b h' a zs:=fun{b a zs ws} hq hs=>by
   have k: ∀o,s.heap.get? a=some o->h'.get? a=some o:=fun o q=>e7 a o (ap hq _ (by simp)) (ap hq _ (by simp)) (ap hq _ (by simp)) (ap hq _ (by simp)) q;cases b
   . obtain⟨o,f1,f2⟩:=(show s.heap.IsList a zs from hs);exact(show h'.IsList a zs from⟨o,k o f1,f2⟩)
   . obtain⟨o,f1,f2⟩:=(show s.heap.IsTuple a zs from hs);exact(show h'.IsTuple a zs from⟨o,k o f1,f2⟩)
  refine⟨.ref s.heap.objs.size,_,I1,rfl,⟨_,x,y,rfl,I.aO.fresh (SD _),rfl,fun zs hz=>by rw[hz.inj q1];exact hx,fun zs hz=>by rw[hz.inj q2];exact hy⟩,⟨g1,?_,⟨u,u2,up _ _ (aW n).b e2⟩,?_,?_⟩,fun b hb=>?_⟩
  . exact up _ _ (aW n).a (e7 _ _ (aW n).a (aW n).e (aW n).f (aW n).g z2)
  . exact(xQ e3 (Cg q1 p1)).keep fun o q=>up _ o (aW n).c q
  . exact(xQ e4 (Cg q2 p2)).keep fun o q=>up _ o (aW n).d q
  . rw[ag (fun z=>?_)]
    . exact(hf b hb).1
    . have Pe:n+4 < s.heap.objs.size:=GC;have: ∀f:Nat,f∈ [n+4,n+2,n+3,n,n+1]->f < s.heap.objs.size:=fun f Bg=>by
       simp only [Tg,SH,or_false] at Bg;lia
      exact absurd (z▸this b hb) (Tu _)
 done:=by
  intro X hP hw hK hc i pins s σ H E I hf st hg;subst hP hw hK;obtain⟨xs,ys,q1,q2,hx⟩:=hg;obtain⟨af,rv,p1⟩:=I.F6 q1;obtain⟨bo,kU,p2⟩:=I.F6 q2;have l1:=rv.length;have l2:=kU.length;obtain⟨z1,z2,⟨c1,c2,z3⟩,z4,z5⟩:=st;have ap: ∀{b:Bool} {a:Addr} {zs:List V},kH b H a zs-> ∀f∈ [n+4,n+2,n+3,n,n+1],a≠f:=fun hq f Bg e=>by
   obtain⟨o,q⟩:=hq.some;have:=(hf f Bg).1;rw[<-e,q] at this;cases this
  have D:ZipApart (n+4) (n+2) (n+3) n (n+1) a1 a2:=⟨(aW n).a,(aW n).b,(aW n).c,(aW n).d,(aW n).e,(aW n).f,(aW n).g,(aW n).h,(aW n).i,(aW n).j,ap q1 _ (by simp),ap q1 _ (by simp),ap q1 _ (by simp),ap q1 _ (by simp),ap q2 _ (by simp),ap q2 _ (by simp),ap q2 _ (by simp),ap q2 _ (by simp)⟩
  refine vU (I.ok.hd hc) D z1 z2 z3 (z4.JX p1) (z5.JX p2) (hx.elim (fun h=> .inl (by rw[VF];exact Ub (by lia))) fun h=> .inr (by rw[VF];exact Ub (by lia))) fun h' kk=>⟨rfl,?_⟩
  refine I.tX (ch:= [n+4,n+2,n+3,n,n+1]) hf fun b o hb q=>?_;have m: ∀f,f∈ [n+4,n+2,n+3,n,n+1]->b≠f:=fun f Bg e=>hb (e▸Bg);exact kk b o (m _ (by simp)) (m _ (by simp)) (m _ (by simp)) (m _ (by simp)) q
 self:=fun A i s Q E st h=>wpAny_pyIter_zip st.1 h
theorem vo:bootBuiltins "zip"=some (.type "zip"):=by decide+kernel
def HW(ta:TA):TI:=fun σ H R=>ta σ H fun vs H1=> ∃b1 b2 a1 a2 xs ys,vs= [.ref a1, .ref a2]/\kH b1 H1 a1 xs/\kH b2 H1 a2 ys/\R (JF b1 b2 a1 a2) H1
theorem qd{x1}(I:Inv X pins σ H s)(q:R (JF b1 b2 a1 a2) H):
  wpAny (model X.prog X.w) X.A (pyIter (.ref (eT s.heap b1 b2 a1 a2).objs.size)) (Kr X pins σ (.Tuple es x1 tp) R) E {s with heap:=ck s.heap b1 b2 a1 a2,toks:=tk}:=by
 have z1:(s.heap.push (pW b1 a1)).objs.size=s.heap.objs.size+1:=TC ..;have z2:(dw s.heap b1 b2 a1 a2).objs.size=s.heap.objs.size+2:=by unfold dw;rw[TC,z1]
 have z3:((dw s.heap b1 b2 a1 a2).push {cls:= .type "tuple",data:= .seq #[.ref s.heap.objs.size, .ref (s.heap.push (pW b1 a1)).objs.size]}).objs.size=s.heap.objs.size+3:=by rw[TC,z2]
 have z4:(eT s.heap b1 b2 a1 a2).objs.size=s.heap.objs.size+4:=by unfold eT;rw[TC,z3]
 have keep: ∀c o,s.heap.get? c=some o->(ck s.heap b1 b2 a1 a2).get? c=some o:=fun c o e=>by
  unfold ck eT dw;exact Sz _ (Sz _ (Sz _ (Sz _ (Sz _ e))))
 have g5:IsZip (ck s.heap b1 b2 a1 a2) (s.heap.objs.size+4) (s.heap.objs.size+2) (s.heap.objs.size+3) .none:=by
  have:=SI (eT s.heap b1 b2 a1 a2) (o:={cls:= .type "zip",data:= .fields #[.none, .bool false, .bool false, .ref (dw s.heap b1 b2 a1 a2).objs.size, .ref ((dw s.heap b1 b2 a1 a2).push {cls:= .type "tuple",data:= .seq #[.ref s.heap.objs.size, .ref (s.heap.push (pW b1 a1)).objs.size]}).objs.size]}) rfl;rw[z4,z2,z3] at this;unfold ck;rw[z2,z3];exact this
 have g3:IsPair (ck s.heap b1 b2 a1 a2) (s.heap.objs.size+2) (.ref s.heap.objs.size) (.ref (s.heap.objs.size+1)):=by
  have:=SI (dw s.heap b1 b2 a1 a2) (o:={cls:= .type "tuple",data:= .seq #[.ref s.heap.objs.size, .ref (s.heap.push (pW b1 a1)).objs.size]}) rfl;rw[z2] at this;have h2:(ck s.heap b1 b2 a1 a2).get? (s.heap.objs.size+2)=some {cls:= .type "tuple",data:= .seq #[.ref s.heap.objs.size, .ref (s.heap.push (pW b1 a1)).objs.size]}:=by
   unfold ck eT;exact Sz _ (Sz _ this)
  rw[z1] at h2;exact h2
 have g4:IsPair (ck s.heap b1 b2 a1 a2) (s.heap.objs.size+3) .none .none:=by
  have:=SI ((dw s.heap b1 b2 a1 a2).push {cls:= .type "tuple",data:= .seq #[.ref s.heap.objs.size, .ref (s.heap.push (pW b1 a1)).objs.size]}) (o:={cls:= .type "tuple",data:= .seq #[.none, .none]}) rfl;rw[z3] at this;unfold ck eT;exact Sz _ this
 have i1:vP b1 (ck s.heap b1 b2 a1 a2) s.heap.objs.size a1 0:=by
  have h:(ck s.heap b1 b2 a1 a2).get? s.heap.objs.size=some (pW b1 a1):=by
   unfold ck eT dw;refine Sz _ (Sz _ (Sz _ (Sz _ (SI _ ?_))));cases b1 <;> rfl
  cases b1
  . exact(show Heap.IsListIter _ _ _ _ from⟨_,h,rfl,rfl⟩)
  . exact(show Heap.IsTupleIter _ _ _ _ from⟨_,h,rfl,rfl⟩)
 have i2:vP b2 (ck s.heap b1 b2 a1 a2) (s.heap.objs.size+1) a2 0:=by
  have h:(ck s.heap b1 b2 a1 a2).get? (s.heap.push (pW b1 a1)).objs.size=some (pW b2 a2):=by
   unfold ck eT dw;refine Sz _ (Sz _ (Sz _ (SI _ ?_)));cases b2 <;> rfl
  rw[z1] at h;cases b2
  . exact(show Heap.IsListIter _ _ _ _ from⟨_,h,rfl,rfl⟩)
  . exact(show Heap.IsTupleIter _ _ _ _ from⟨_,h,rfl,rfl⟩)
 rw[z4];refine wpAny_pyIter_zip g5 ?_;refine⟨s.heap.objs.size+4,_,_,JF b1 b2 a1 a2,H,rfl,I.kept keep,v8 b1 b2 a1 a2 s.heap.objs.size,⟨g5,g3,⟨_,_,g4⟩,i1,i2⟩,fun c hc=>?_,q⟩;have hle:s.heap.objs.size<=c:=by
  have: ∀n f:Nat,f∈ [n+4,n+2,n+3,n,n+1]->n<=f:=fun n f hf=>by
   simp only [Tg,SH,or_false] at hf;omega
  exact this _ _ hc
 exact I.nh hle (I.aO.fresh hle)
theorem DK{x1}(hg:Gl X "zip")(hm:X.mg "zip"=none)(ha:PA X [e,f] t)(hs:starEach [e,f] X.env= [(false,eval e X.env),(false,eval f X.env)]:=by rfl)(nU:starEach [f] X.env= [(false,eval f X.env)]:=by rfl):
  PI X (.Tuple es x1 tp) (.Call (.Name "zip" p) [e,f] [] pos) (HW t):=by
 intro pins s σ H R I h;refine Call_ (cN I hg hm vo (UL (aG (ha pos pins s σ H _ I h) fun us s1 cu=>?_) (by rw[hs,nU]) (by rw[nU];rfl)));obtain⟨vs,H1,I1,r1,q1⟩:=cu;obtain⟨b1,b2,a1,a2,xs,ys,rfl,k1,k2,q⟩:=q1;obtain⟨u,u2,rfl,ru,G8⟩:=vals2 r1;cases ru;cases G8;obtain⟨af,rv,p1⟩:=I1.F6 k1;obtain⟨bo,kU,p2⟩:=I1.F6 k2;exact j4 F.called_zip (by decide) (F.typeCall_zip_2 _ _) (F.newCall_zip_2 _ _) (fun obj=>F.args_object_init_3 obj _ _) F.entry_zip_new (C1 b1 b2 a1 a2 af.toArray bo.toArray) ⟨p1,p2,⟨_,SI _ rfl,rfl⟩,qd I1 q⟩
end L2
namespace bC
open PySem PySem.W PyProof.Rows
variable {N : Nat} {K : Nat -> Int} {s : Shared} {cmp : Nat -> Nat -> (Bool -> Shared -> Prop) -> Shared -> Prop}
def Pb(N:Nat)(K:Nat->Int)(cmp:Nat->Nat->(Bool->Shared->Prop)->Shared->Prop)(s:Shared):Prop:= ∀i j,i < N->j < N-> ∀C:Bool->Shared->Prop,C (decide (K i < K j)) s->cmp i j C s
structure Pm(N:Nat)(p:Array Nat):Prop where
 pm:p.Perm (List.range N).toArray
theorem Pm.sz(h:Pm N p):p.size=N:=by rw[h.pm.size_eq];simp
noncomputable def kp(K:Nat->Int)(p:Array Nat)(i:Nat):Int:=K (p.getD i 0)
def NQ(K:Nat->Int)(p:Array Nat)(n:Nat):Prop:= ∀i j,i<=j->j < n->kp K p i<=kp K p j
end bC
namespace LW
open PySem L2 LB PyProof.Rows
theorem ay.none{H H':Hp}{a:Addr}(s:ay H H')(h:H' a=none):H a=none:=by
 cases e:H a with
 | none=>rfl
 | some o=>rw[s _ _ e] at h;cases h
end LW
namespace L2
open PySem PySem.Spec PyProof.Rows
section
variable {X : Cx}
def As:V->List V->Hp->VK->Prop:=fun x vs H Q=> ∃a xs y,x= .ref a/\vs= [y]/\H a=some (.tup xs)/\bX y=true/\xs.all bX=true/\Q (.int (xs.countP fun z=>kq z y:Nat)) H
theorem Fc(r:Vals xs af)(ry:RelV y u)(fy:bX y=true)(fx:xs.all bX=true):
  ∃e:Value->Bool,(∀v∈af,SeqAt.EqAt A s v u (e v))/\ ∀(i:Nat) x v,xs[i]?=some x->af[i]?=some v->e v=kq x y:=by
 refine⟨fun v=>match BI v with | some x=>kq x y | none=>false,fun v hv=>?_,fun i x v hx hv=>?_⟩
 . obtain⟨i,hi,e⟩:=Ua hv;have hx:xs[i]?=some (xs[i]'(by rw[r.length];exact hi)):=Sy _;obtain⟨w,hw,pU⟩:=r.get hx;rw[Sy hi,e] at hw;cases hw;show SeqAt.EqAt A s v u (match BI v with | some x=>kq x y | none=>false);rw[pU.abs];exact qR pU ry (TH.mp fx _ (SW hx)) fy
 . obtain⟨w,hw,pU⟩:=r.get hx;rw[hv] at hw;cases hw;show(match BI v with | some x=>kq x y | none=>false)=_;rw[pU.abs]
theorem lU: ∀{xs:List V} {af:List Value},Vals xs af->(∀(i:Nat) x v,xs[i]?=some x->af[i]?=some v->e v=kq x y)->af.countP e=xs.countP fun z=>kq z y
 | _,_, .nil,_=>rfl
 | _,_, .cons r t,h=>by
  rw[List.countP_cons,List.countP_cons,lU t fun i x v h1 h2=>h (i+1) x v (by simpa using h1) (by simpa using h2),h 0 _ _ rfl rfl]
theorem uA:NJ X "tuple.count" As:=by
 intro pins s σ H x xs v us Q I rx rs h;obtain⟨a,ys,y,rfl,rfl,ha,fy,fx,q⟩:=h;cases rx;obtain⟨u,rfl,ru⟩:=vals1 rs;obtain⟨af,rv,pl,_⟩:=I.tuple (cS.of ha);obtain⟨⟨cls,dd,data,sl⟩,ho,hc,n,hd⟩:=(show s.heap.IsTuple a af.toArray from pl)
 simp only at hc hd;subst hc hd;obtain⟨e,he,hv⟩:=Fc (A:=X.A.in1) (s:=s) rv ru fy fx;refine V4 PySem.F.slot_tuple_count ⟨_,ho,rfl⟩ PySem.F.entry_tuple_count (PySem.F.args_tuple_count_2 _ _) (SeqAt.tuple_countAt a af.toArray n dd sl u e) ⟨ho,fun z hz=>he z (by simpa using hz),?_⟩;have:af.toArray.toList.countP e=ys.countP fun z=>kq z y:=by simpa using lU rv hv
 rw[this];exact⟨.int _,H,I.tok _,⟨_,rfl⟩,q⟩
end
end L2
namespace bC
open PySem PySem.W PyProof.Rows
section
variable {prog : Program} {w : World} {A : Around} {E : Value -> Shared -> Prop} {z : Shared} {K : Nat -> Int} {vs : List Value}
structure Ask(prog:Program)(w:World)(A:Around)(vs:List Value)(K:Nat->Int)(z:Shared)(κ:SortKind):Prop where
 kind: ∀Q:SortKind->Shared->Prop,Q κ z->wpAny (model prog w) A (keyKind' vs.toArray) Q (fun _ _=>False) z
 ask:Pb vs.length K (kas_ask prog w A κ vs) z
noncomputable def outs(vs:List Value)(p:Array Nat):Array Value:=List.toArray (p.toList.map fun i=>vs.getD i Value.none)
theorem xl(hp:Pm vs.length p):(outs vs p).size=vs.length:=by
 unfold outs;rw[SK,Sx,SN,hp.sz]
theorem AL:((vs.toArray.zip vs.toArray).map fun q:Keyed=>q.2)=outs vs (List.range vs.length).toArray:=by
 apply VJ.mp;unfold outs;apply VI
 . simp
 . intro i h1 h2;have hi:i < vs.length:=by simpa using h1
   simp [hi]
end
noncomputable def enc(B:Int)(q:Int × Int):Int:=q.1*B+q.2
theorem yG(hp:0<=p.2/\p.2 < B)(hq:0<=q.2/\q.2 < B):decide (enc B p < enc B q)=(if (p.1==q.1)=true then(if (p.2==q.2)=true then false else decide (p.2 < q.2)) else decide (p.1 < q.1)):=by
 obtain⟨a,b⟩:=p;obtain⟨c,d⟩:=q;unfold enc;simp only at hp hq ⊢;by_cases h1:a=c
 . subst h1;rw[if_pos (by rw[SO])];by_cases h2:b=d
   . subst h2;rw[if_pos (by rw[SO])];rw[Vp];lia
   . rw[if_neg (by rw[SO];exact h2)];exact decide_eq_decide.mpr ⟨fun h=>by lia,fun h=>by lia⟩
 . rw[if_neg (by rw[SO];exact h1)];refine decide_eq_decide.mpr ⟨fun h=>?_,fun h=>?_⟩
   . refine Int.lt_of_not_ge fun z=>?_;have:(c+1)*B<=a*B:=Vw (by lia) (by lia);rw[Int.add_mul] at this;lia
   . have:(a+1)*B<=c*B:=Vw (by lia) (by lia);rw[Int.add_mul] at this;lia
def pQ(h:Heap)(v:Value)(q:Int × Int):Prop:= ∃(t:Addr) (o:Obj) (a b:Tok) (n:Nat),v= .ref t/\h.get? t=some o/\o.cls= .type "tuple"/\o.data= .seq #[.int q.1 a, .int q.2 b] n
theorem pQ.keep{h h':Heap}(x:pQ h v q)(k: ∀b o,h.get? b=some o->h'.get? b=some o):pQ h' v q:=let ⟨t,o,a,b,n,e,g,c,d⟩:=x;⟨t,o,a,b,n,e,k _ _ g,c,d⟩
section
variable {prog : Program} {w : World} {A : Around} {E : Value -> Shared -> Prop} {z : Shared} {vs : List Value} {ps : List (Int × Int)} {B : Int}
theorem yq: ∀{vs:List Value} {ps:List (Int × Int)},vs.length=ps.length->(∀(i:Nat) v q,vs[i]?=some v->ps[i]?=some q->pQ h v q)-> ∃fs,KatTups h vs fs/\fs.length=vs.length/\ ∀v∈fs,∃x t,v=Value.int x t
 | [],[],_,_=>⟨[], .nil,rfl,fun v hv=>absurd hv SH⟩
 | [],_::_,l,_=>by simp at l
 | _::_,[],l,_=>by simp at l
 | v::vs,q::ps,l,hp=>by
  obtain⟨fs,t,lf,hi⟩:=yq (vs:=vs) (ps:=ps) (by simpa using l) fun i v q h1 h2=>hp (i+1) v q (by simpa using h1) (by simpa using h2);obtain⟨t0,o,a,b,n,rfl,g,c,d⟩:=hp 0 v q rfl rfl;refine⟨.int q.1 a::fs, .cons g c d rfl t,by rw[Tq,Tq,lf],fun v hv=>?_⟩;rcases Tg.mp hv with e | hv
  . exact⟨_,_,e⟩
  . exact hi v hv
theorem vz(hl:vs.length=ps.length)(h2:2<=vs.length)(hp: ∀(i:Nat) v q,vs[i]?=some v->ps[i]?=some q->pQ z.heap v q)(hb: ∀q∈ps,0<=q.2/\q.2 < B): ∃κ,Ask prog w A vs (fun i=>enc B (ps.getD i (0,0))) z κ:=by
 obtain⟨fs,t,lf,hi⟩:=yq hl hp;refine⟨tuples' true,fun Q q=>kat_kind (T:= .type "int") t (by lia) (fun v hv=>?_) (by rfl) q,fun i j iy Bd C q=>?_⟩
 . obtain⟨x,tk,rfl⟩:=hi v hv;exact Looks.of_pure rfl
 . have li:i < ps.length:=by lia
   have lj:j < ps.length:=by lia
   have ei:ps.getD i (0,0)=ps[i]:=by simp [List.getD,li]
   have ej:ps.getD j (0,0)=ps[j]:=by simp [List.getD,lj]
   have fi:vs.getD i Value.none=vs[i]:=by simp [List.getD,iy]
   have fj:vs.getD j Value.none=vs[j]:=by simp [List.getD,Bd]
   rw[ei,ej,yG (hb _ (Ur li)) (hb _ (Ur lj))] at q;obtain⟨t1,o1,a1,b1,n1,e1,g1,c1,d1⟩:=hp i _ _ (Sy iy) (Sy li);obtain⟨t2,o2,a2,b2,n2,e2,g2,c2,d2⟩:=hp j _ _ (Sy Bd) (Sy lj);unfold kas_ask;rw[fi,fj,e1,e2];refine kat_lt g1 d1 g2 d2 (kat_cons (wpAny_eqBool_int ?_));by_cases h1:(ps[i].1==ps[j].1)=true
   . rw[h1];rw[if_pos h1] at q;refine kat_yes (kat_cons (wpAny_eqBool_int ?_));by_cases h2:(ps[i].2==ps[j].2)=true
     . rw[h2];rw[if_pos h2] at q;exact kat_yes (kat_nil q)
     . rw[if_neg h2] at q;rw[Vi.mpr h2];exact kat_no (kat_one _ _ (lt_int q))
   . rw[if_neg h1] at q;rw[Vi.mpr h1];exact kat_no (oneLt_int q)
end
end bC
namespace LD
open PySem PySem.Spec L2 LB PyProof.Rows
inductive Dt where
 | aI | bl (b:Bool) | int (i:Int) | str (x:Str) | lst (ds:List Dt) | tup (ds:List Dt) | kx (ks:List Key) (ds:List Dt) | u3 (ks:List (List Key)) (ds:List Dt)
noncomputable def Dt.Ci:Dt->Bool
 | .aI=>true
 | _=>false
inductive Rep(M:Addr->Prop)(H:Hp):V->Dt->Prop where
 | aI:Rep M H .aI .aI
 | bl (b:Bool):Rep M H (.bl b) (.bl b)
 | int (i:Int):Rep M H (.int i) (.int i)
 | str (x:Str):Rep M H (.str x) (.str x)
 | lst {a:Addr} {xs:List V} {ds:List Dt}:H a=some (.lst xs)-> ¬M a->xs.length=ds.length->(∀(i:Nat) x d,xs[i]?=some x->ds[i]?=some d->Rep M H x d)->Rep M H (.ref a) (.lst ds)
 | tup {a:Addr} {xs:List V} {ds:List Dt}:H a=some (.tup xs)-> ¬M a->xs.length=ds.length->(∀(i:Nat) x d,xs[i]?=some x->ds[i]?=some d->Rep M H x d)->Rep M H (.ref a) (.tup ds)
 | kx {a:Addr} {vs:List (Key × V)} {ks:List Key} {ds:List Dt}:H a=some (.dK vs)-> ¬M a->vs.map (·.1)=ks->(vs.map (·.2)).length=ds.length->(∀(i:Nat) x d,(vs.map (·.2))[i]?=some x->ds[i]?=some d->Rep M H x d)->Rep M H (.ref a) (.kx ks ds)
 | u3 {a:Addr} {vs:List (List Key × V)} {ks:List (List Key)} {ds:List Dt}:H a=some (.dT vs)-> ¬M a->vs.map (·.1)=ks->(vs.map (·.2)).length=ds.length->(∀(i:Nat) x d,(vs.map (·.2))[i]?=some x->ds[i]?=some d->Rep M H x d)->Rep M H (.ref a) (.u3 ks ds)
def ax(M:Addr->Prop)(H:Hp)(xs:List V)(ds:List Dt):Prop:=xs.length=ds.length/\ ∀(i:Nat) x d,xs[i]?=some x->ds[i]?=some d->Rep M H x d
theorem Rep.mono(h:Rep M H v d)(m: ∀a o,H a=some o-> ¬M a->H' a=some o/\ ¬M' a):Rep M' H' v d:=by
 induction h with
 | aI=>exact .aI
 | bl b=>exact .bl b
 | int i=>exact .int i
 | str x=>exact .str x
 | lst h n l r ih=>exact .lst (m _ _ h n).1 (m _ _ h n).2 l ih
 | tup h n l r ih=>exact .tup (m _ _ h n).1 (m _ _ h n).2 l ih
 | kx h n e l r ih=>exact .kx (m _ _ h n).1 (m _ _ h n).2 e l ih
 | u3 h n e l r ih=>exact .u3 (m _ _ h n).1 (m _ _ h n).2 e l ih
theorem ax.mono(h:ax M H xs ds)(m: ∀a o,H a=some o-> ¬M a->H' a=some o/\ ¬M' a):ax M' H' xs ds:=⟨h.1,fun i x d h1 h2=>(h.2 i x d h1 h2).mono m⟩
theorem Rep.same(h:Rep M H v d)(s:ay H H'):Rep M H' v d:=h.mono fun a o e n=>⟨s _ _ e,n⟩
theorem ax.same(h:ax M H xs ds)(s:ay H H'):ax M H' xs ds:=h.mono fun a o e n=>⟨s _ _ e,n⟩
theorem ax.nil:ax M H [] []:=⟨rfl,fun i x d h=>by simp at h⟩
theorem ax.cons{M:Addr->Prop}{H:Hp}{x:V}{d:Dt}{xs:List V}{ds:List Dt}(h:Rep M H x d)(r:ax M H xs ds):ax M H (x::xs) (d::ds):=
 ⟨by rw[Tq,Tq,r.1],fun i y e h1 h2=>by
  cases i with
  | zero=>cases h1;cases h2;exact h
  | succ j=>exact r.2 j y e (by simpa using h1) (by simpa using h2)⟩
theorem ax.append(h:ax M H xs ds)(r:ax M H ys es):ax M H (xs++ys) (ds++es):=
 ⟨by rw[SV,SV,h.1,r.1],fun i y e h1 h2=>by
  by_cases hi:i < xs.length
  . rw[SY hi] at h1;rw[SY (by rw[<-h.1];exact hi)] at h2;exact h.2 i y e h1 h2
  . rw[Tc (by omega)] at h1;rw[Tc (by have:=h.1;omega),<-h.1] at h2;exact r.2 _ y e h1 h2⟩
theorem ax.one(h:Rep M H x d):ax M H [x] [d]:= .cons h .nil
theorem ax.get(h:ax M H xs ds){i:Nat}(e:ds[i]?=some d): ∃x,xs[i]?=some x/\Rep M H x d:=by
 have hi:=(SM.mp e).1;have hx:xs[i]?=some (xs[i]'(by rw[h.1];exact hi)):=Sy _;exact⟨_,hx,h.2 i _ _ hx e⟩
theorem ax.aK(h:ax M H xs (d::ds)): ∃x ys,xs=x::ys/\Rep M H x d/\ax M H ys ds:=by
 cases xs with
 | nil=>have:=h.1;simp at this
 | cons x ys=>exact⟨x,ys,rfl,h.2 0 x d rfl rfl,⟨by have:=h.1;simpa using this,fun i y e h1 h2=>h.2 (i+1) y e (by simpa using h1) (by simpa using h2)⟩⟩
theorem ax.fS(h:ax M H xs []):xs= []:=Uq.mp (by rw[h.1];rfl)
theorem Rep.rL(h:H a=some (.lst xs))(n: ¬M a)(r:ax M H xs ds):Rep M H (.ref a) (.lst ds):= .lst h n r.1 r.2
theorem Rep.kO(h:H a=some (.tup xs))(n: ¬M a)(r:ax M H xs ds):Rep M H (.ref a) (.tup ds):= .tup h n r.1 r.2
theorem Rep.b6(h:Rep M H v (.lst ds)): ∃a xs,v= .ref a/\H a=some (.lst xs)/\ ¬M a/\ax M H xs ds:=by
 cases h with
 | lst h n l r=>exact⟨_,_,rfl,h,n,l,r⟩
theorem Rep.bM(h:Rep M H v (.tup ds)): ∃a xs,v= .ref a/\H a=some (.tup xs)/\ ¬M a/\ax M H xs ds:=by
 cases h with
 | tup h n l r=>exact⟨_,_,rfl,h,n,l,r⟩
theorem Rep.Ca(h:Rep M H v (.kx ks ds)): ∃a vs,v= .ref a/\H a=some (.dK vs)/\ ¬M a/\vs.map (·.1)=ks/\ax M H (vs.map (·.2)) ds:=by
 cases h with
 | kx h n e l r=>exact⟨_,_,rfl,h,n,e,l,r⟩
theorem Rep.ofInt(h:Rep M H v (.int i)):v= .int i:=by cases h;rfl
theorem Rep.mU(h:Rep M H v (.bl i)):v= .bl i:=by cases h;rfl
structure Rp where
 rel:(Addr->Prop)->Hp->V->List Addr->Prop
 st: ∀{M M':Addr->Prop} {H H':Hp} {v:V} {as:List Addr},rel M H v as->(∀a∈as,∀o,H a=some o->H' a=some o)->(∀a o,H a=some o-> ¬M a->H' a=some o/\ ¬M' a)->rel M' H' v as
inductive Sl where
 | no | im (d:Dt) | ow (ds:List Dt) | bx (t:Int) | dk (ks:List Key) (ds:List Dt) | ob (R:Rp) | fn (f:Addr)
def nK(M:Addr->Prop)(H:Hp)(o:Option V):Sl->List Addr->Prop
 | .no,as=>as= []
 | .im d,as=>as= []/\ ∃v,o=some v/\Rep M H v d
 | .ow ds,as=> ∃a xs,as= [a]/\o=some (.ref a)/\H a=some (.lst xs)/\ax M H xs ds
 | .bx t,as=> ∃d c,as= [d,c]/\o=some (.ref d)/\vF H d c t
 | .dk ks ds,as=> ∃a vs,as= [a]/\o=some (.ref a)/\H a=some (.dK vs)/\vs.map (·.1)=ks/\ax M H (vs.map (·.2)) ds
 | .ob R,as=> ∃v,o=some v/\R.rel M H v as
 | .fn f,as=>as= []/\o=some (.ref f)
structure Wd where
 H0:Hp
 A0:Addr->Prop
 M0:Addr->Prop
 M1:Addr->Prop
 box:Option (Addr × Addr)
noncomputable def Sl.cO:Sl->Bool
 | .bx _=>true
 | _=>false
structure Km(W:Wd)(M:Addr->Prop)(α:List (List Addr))(H:Hp)(δ:List Sl):Prop where
 bs: ∀b o,W.H0 b=some o-> ¬W.A0 b->H b=some o
 ex: ∀b,W.H0 b≠none->H b≠none
 fr: ∀a∈α.flatten,W.A0 a\/W.H0 a=none
 m0: ∀a,W.M0 a->M a
 m1: ∀a,M a->W.M1 a\/W.H0 a=none
 bx: ∀d c,W.box=some (d,c)-> ∃t,δ[0]?=some (.bx t)/\α[0]?=some [d,c]
 fz: ∀(i:Nat) s as,δ[i]?=some s->α[i]?=some as->s.cO=false-> ∀a∈as,¬W.M0 a
def hC(M:Addr->Prop)(H:Hp):Prop:= ∀a,M a-> ∃o,H a=some o/\ ∀xs,o≠ .tup xs
structure av(Ws:List Wd)(M:Addr->Prop)(α:List (List Addr))(H:Hp)(σ:L2.St)(δ:List Sl):Prop where
 ls:σ.length=δ.length
 la:α.length=δ.length
 sl: ∀(i:Nat) (s:Sl),δ[i]?=some s-> ∃o as,σ[i]?=some o/\α[i]?=some as/\nK M H o s as
 nd:α.flatten.Nodup
 mu: ∀a∈α.flatten,M a
 al:hC M H
 w: ∀W∈Ws,Km W M α H δ
def b7(α:List (List Addr))(H H':Hp):Prop:= ∀b o,H b=some o->b∉α.flatten->H' b=some o
theorem b7.rf:b7 α H H:=fun _ _ e _=>e
theorem b7.tr(a:b7 α H H1)(b:b7 α H1 H2):b7 α H H2:=fun x o e n=>b _ _ (a _ _ e n) n
theorem b7.of(s:ay H H'):b7 α H H':=fun x o e _=>s _ _ e
theorem Rep.chg(h:Rep M H v d)(E:av W M α H σ δ)(c:b7 α H H'):Rep M H' v d:=h.mono fun a o e n=>⟨c _ _ e fun z=>n (E.mu a z),n⟩
theorem ax.chg(h:ax M H v d)(E:av W M α H σ δ)(c:b7 α H H'):ax M H' v d:=h.mono fun a o e n=>⟨c _ _ e fun z=>n (E.mu a z),n⟩
theorem nK.same(h:nK M H o s as)(z:ay H H'):nK M H' o s as:=by
 cases s with
 | no=>exact h
 | im d=>exact⟨h.1,let ⟨v,e,r⟩:=h.2;⟨v,e,r.same z⟩⟩
 | ow ds=>obtain⟨a,xs,e1,e2,e3,r⟩:=h;exact⟨a,xs,e1,e2,z _ _ e3,r.same z⟩
 | bx t=>obtain⟨d,c,e1,e2,r⟩:=h;exact⟨d,c,e1,e2,r.same z⟩
 | dk ks ds=>obtain⟨a,vs,e1,e2,e3,e4,r⟩:=h;exact⟨a,vs,e1,e2,z _ _ e3,e4,r.same z⟩
 | ob R=>obtain⟨v,e,r⟩:=h;exact⟨v,e,R.st r (fun a _ o q=>z _ _ q) fun a o q n=>⟨z _ _ q,n⟩⟩
 | fn f=>exact h
theorem av.same(E:av W M α H σ δ)(z:ay H H'):av W M α H' σ δ:=by
 refine⟨E.ls,E.la,fun i s h=>?_,E.nd,E.mu,fun a h=>?_,fun W hW=>let k:=E.w W hW;⟨fun b o e n=>z _ _ (k.bs b o e n),fun b n y=>k.ex b n (LW.ay.none z y),k.fr,k.m0,k.m1,k.bx,k.fz⟩⟩
 . obtain⟨o,as,h1,h2,h3⟩:=E.sl i s h;exact⟨o,as,h1,h2,h3.same z⟩
 . obtain⟨o,e,n⟩:=E.al a h;exact⟨o,z _ _ e,n⟩
theorem av.fresh(E:av W M α H σ δ)(h:H p=none): ¬M p:=fun z=>let ⟨_,e,_⟩:=E.al p z;by rw[h] at e;cases e
theorem hC.fresh(h:hC M H)(e:H p=none): ¬M p:=fun z=>let ⟨_,e',_⟩:=h p z;by rw[e] at e';cases e'
theorem hC.tup{M:Addr->Prop}{H:Hp}(h:hC M H){p:Addr}{xs:List V}(e:H p=some (.tup xs)): ¬M p:=fun z=>let ⟨_,e',n⟩:=h p z;by rw[e] at e';cases e';exact n xs rfl
theorem hC.LP(h:hC M H)(n:vB H xs p H'): ¬M p:=by
 rcases n with ⟨_,e⟩ | ⟨e,_⟩
 . exact h.tup e
 . exact h.fresh e
abbrev bj:=List Sl->(Dt->List Sl->Prop)->Prop
abbrev mh:=List Sl->(Bool->List Sl->Prop)->Prop
abbrev eG:=List Sl->(List Dt->List Sl->Prop)->Prop
inductive lE(t:bj)(σ:L2.St)(H:Hp)(Q:VK):Prop
 | mk (W:List Wd) (M:Addr->Prop) (α:List (List Addr)) (δ:List Sl) (Qd:Dt->List Sl->Prop) (h1:av W M α H σ δ) (h2:t δ Qd) (h3: ∀d δ' H' v,Qd d δ'->av W M α H' σ δ'->b7 α H H'->Rep M H' v d->Q v H')
inductive lT(t:mh)(σ:L2.St)(H:Hp)(Q:Bool->Hp->Prop):Prop
 | mk (W:List Wd) (M:Addr->Prop) (α:List (List Addr)) (δ:List Sl) (Qd:Bool->List Sl->Prop) (h1:av W M α H σ δ) (h2:t δ Qd) (h3: ∀b δ' H',Qd b δ'->av W M α H' σ δ'->b7 α H H'->Q b H')
inductive lA(t:eG)(σ:L2.St)(H:Hp)(Q:List V->Hp->Prop):Prop
 | mk (W:List Wd) (M:Addr->Prop) (α:List (List Addr)) (δ:List Sl) (Qd:List Dt->List Sl->Prop) (h1:av W M α H σ δ) (h2:t δ Qd) (h3: ∀ds δ' H' vs,Qd ds δ'->av W M α H' σ δ'->b7 α H H'->ax M H' vs ds->Q vs H')
abbrev p6:=List Sl->(List Dt->List Sl->Prop)->Prop
inductive lO(t:p6)(σ:L2.St)(H:Hp)(Q:VK):Prop
 | mk (W:List Wd) (M:Addr->Prop) (α:List (List Addr)) (δ:List Sl) (Qd:List Dt->List Sl->Prop) (h1:av W M α H σ δ) (h2:t δ Qd) (h3: ∀ds δ' H1 xs a,Qd ds δ'->av W M α H1 σ δ'->b7 α H H1->ax M H1 xs ds->H1 a=none->Q (.ref a) (upd H1 a (.lst xs)))
theorem PE.imp(h:PE X e t)(i: ∀σ H Q,t' σ H Q->t σ H Q):PE X e t':=fun pins s σ H Q I q=>h pins s σ H Q I (i _ _ _ q)
theorem PT.imp(h:PT X e t)(i: ∀σ H Q,t' σ H Q->t σ H Q):PT X e t':=fun pins s σ H Q I q=>h pins s σ H Q I (i _ _ _ q)
theorem PW.imp(h:PW X e t)(i: ∀σ H Q,t' σ H Q->t σ H Q):PW X e t':=fun w pins s σ H Q I q=>h w pins s σ H Q I (i _ _ _ q)
theorem PA.imp(h:PA X e t)(i: ∀σ H Q,t' σ H Q->t σ H Q):PA X e t':=fun pos pins s σ H Q I q=>h pos pins s σ H Q I (i _ _ _ q)
theorem PS.imp(h:PS X e t)(i: ∀D σ H,t' D σ H->t D σ H):PS X e t':=fun pins s σ H D I q=>h pins s σ H D I (i _ _ _ q)
theorem nM.imp(h:nM X e t)(i: ∀D σ H,t' D σ H->t D σ H):nM X e t':=fun pins s σ H D I q=>h pins s σ H D I (i _ _ _ q)
abbrev Ev(X:Cx)(e:Expr)(t:bj):Prop:=PE X e (lE t)
abbrev Tv(X:Cx)(e:Expr)(t:mh):Prop:=PT X e (lT t)
abbrev Av(X:Cx)(es:List Expr)(t:eG):Prop:=PA X es (lA t)
abbrev Ov(X:Cx)(e:Expr)(t:p6):Prop:=PE X e (lO t)
section
variable {X : Cx} {a b c e : Expr} {es : List Expr} {ta tb t : bj} {pos : Pos}
inductive IW(i:Nat)(δ:List Sl)(Q:Dt->List Sl->Prop):Prop
 | mk (d:_) (h1:δ[i]?=some (.im d)) (h2:Q d δ)
theorem av.im(E:av W M α H σ δ){i:Nat}(h:δ[i]?=some (.im d)): ∃v,σ[i]?=some (some v)/\Rep M H v d:=by
 obtain⟨o,as,h1,_,_,v,rfl,r⟩:=E.sl i _ h;exact⟨v,h1,r⟩
theorem av.ow(E:av W M α H σ δ){i:Nat}(h:δ[i]?=some (.ow ds)): ∃a xs,σ[i]?=some (some (.ref a))/\α[i]?=some [a]/\H a=some (.lst xs)/\ax M H xs ds:=by
 obtain⟨o,as,h1,h2,a,xs,rfl,rfl,e,r⟩:=E.sl i _ h;exact⟨a,xs,h1,h2,e,r⟩
theorem Fb(i:Nat)(h:PE X (.Name x pos) (iR i)):Ev X (.Name x pos) (IW i):=PE.imp h fun σ H Q cu=>(by obtain⟨W,M,α,δ,Qd,E,⟨d,hd,q⟩,k⟩:=cu;exact(by
 obtain⟨v,h1,r⟩:=E.im hd;exact⟨v,h1,k _ _ _ _ q E b7.rf r⟩))
theorem dv(i:Nat)(hN:X.N[i]?=some x:=by rfl)(hv:Jv X.env.scope x:=by first | exact Or.inl rfl | exact Or.inr (Or.inl rfl) | exact Or.inr (Or.inr rfl))(hd:(x==("__debug__":Str))=false:=by decide)(uN:(x==("__classdict__":Str))=false:=by decide):Ev X (.Name x pos) (IW i):=Fb i (xf hN hv hd uN)
def dC(d:Dt):bj:=fun δ Q=>Q d δ
theorem aD{i j pos}:Ev X (.Constant (.int i) j pos) (dC (.int i)):=PE.imp aX fun σ H Q fQ=>(by obtain⟨W,M,α,δ,Qd,E,q,k⟩:=fQ;exact(k _ _ _ _ q E b7.rf (.int i)))
theorem pD{i j pos}:Ev X (.Constant (.bool i) j pos) (dC (.bl i)):=PE.imp Hs fun σ H Q gD=>(by obtain⟨W,M,α,δ,Qd,E,q,k⟩:=gD;exact(k _ _ _ _ q E b7.rf (.bl i)))
def dO(t:p6):bj:=fun δ Q=>t δ fun ds δ'=>Q (.lst ds) δ'
theorem Ov.ev{t:p6}(h:Ov X e t):Ev X e (dO t):=PE.imp h fun σ H Q cu=>(by obtain⟨W,M,α,δ,Qd,E,q,k⟩:=cu;exact(by
 refine⟨W,M,α,δ,_,E,q,fun ds δ' H1 xs a q1 E1 c1 r1 h1=>?_⟩;have s:ay H1 (upd H1 a (.lst xs)):=ay.new h1;exact k _ _ _ _ q1 (E1.same s) (c1.tr (b7.of s)) (Rep.rL ae (E1.fresh h1) (r1.same s))))
abbrev D2:=Dt->Dt->(Dt->Prop)->Prop
def p8(r:R2)(R:D2):Prop:= ∀(M:Addr->Prop) (H:Hp) (x y:V) (d1 d2:Dt) (Qd:Dt->Prop) (Q:VK),hC M H->Rep M H x d1->Rep M H y d2->R d1 d2 Qd->(∀H' v d,Qd d->ay H H'->Rep M H' v d->Q v H')->r x y H Q
def pF(R:D2)(ta tb:bj):bj:=fun δ Q=>ta δ fun d1 δ1=>tb δ1 fun d2 δ2=>R d1 d2 fun d=>Q d δ2
theorem i5(hd:p8 r R): ∀σ H Q,lE (pF R ta tb) σ H Q->F5 r (lE ta) (lE tb) σ H Q:=fun σ H Q mj=>(by obtain⟨W,M,α,δ,Qd,E,q,k⟩:=mj;exact(
 ⟨W,M,α,δ,_,E,q,fun d1 δ1 H1 x q1 E1 c1 r1=>⟨W,M,α,δ1,_,E1,q1,fun d2 δ2 H2 y q2 E2 c2 r2=>hd M H2 x y d1 d2 _ _ E2.al (r1.chg E1 c2) r2 q2 fun H' v d q3 s r3=>k _ _ _ _ q3 (E2.same s) ((c1.tr c2).tr (b7.of s)) r3⟩⟩))
theorem yP(ho:eS X (binaryOp op) r)(hd:p8 r R)(ha:Ev X a ta)(hb:Ev X b tb):Ev X (.BinOp a op b pos) (pF R ta tb):=PE.imp (aZ ho ha hb) (i5 hd)
theorem tq(ho:eS X (compareOp op) r)(hd:p8 r R)(ha:Ev X a ta)(hb:Ev X b tb)(hm:behindInMarks op b=false):Ev X (.Compare a [op] [b] pos) (pF R ta tb):=PE.imp (mP ho ha hb hm) (i5 hd)
inductive Na(Q:Bool->List Sl->Prop)(d:Dt)(δ':List Sl):Prop
 | mk (c:_) (h1:d= .bl c) (h2:Q c δ')
def dT(t:bj):mh:=fun δ Q=>t δ fun d δ'=>Na Q d δ'
theorem bL: ∀σ H (Q:Bool->Hp->Prop),lT (dT t) σ H Q->lE t σ H fun x H1=> ∃c,x= .bl c/\Q c H1:=fun σ H Q tP=>(by obtain⟨W,M,α,δ,Qd,E,q,k⟩:=tP;exact(
 ⟨W,M,α,δ,_,E,q,fun d δ' H' v mi E1 c1 r1=>(by obtain⟨c,e,q1⟩:=mi;exact(⟨c,by subst e;exact r1.mU,k _ _ _ q1 E1 c1⟩))⟩))
theorem qV(ho:eS X (compareOp op) r)(hd:p8 r R)(ha:Ev X a ta)(hb:Ev X b tb)(hm:behindInMarks op b=false):Tv X (.Compare a [op] [b] pos) (dT (pF R ta tb)):=
 PT.imp (mM ho ha hb hm) fun σ H Q h=>i5 hd _ _ _ (bL _ _ _ h |> fun dW=>(by obtain⟨W,M,α,δ,Qd,E,q,k⟩:=dW;exact(⟨W,M,α,δ,Qd,E,q,k⟩)))
theorem fY(h:Ev X e t)(he: ∀whole,isTrue e X.env whole=(do let v<-whole;standAt e.pos;holding [v] (truthy v)):=by intro _;rfl):Tv X e (dT t):=PT.imp (Dz h he) fun σ H Q h=>bL _ _ _ h
def Fx(ta:bj):bj:=fun δ Q=>ta δ fun d δ'=>Q (.bl d.Ci) δ'
theorem Ew(r:Rep M H v d):decide (v= .aI)=d.Ci:=by cases r <;> rfl
theorem oX: ∀σ H Q,lE (Fx ta) σ H Q->GU (lE ta) σ H Q:=fun σ H Q dU=>(by obtain⟨W,M,α,δ,Qd,E,q,k⟩:=dU;exact(
 ⟨W,M,α,δ,_,E,q,fun d δ' H' v q1 E1 c1 r1=>by show Q (V.bl (decide (v=V.aI))) H';rw[Ew r1];exact k _ _ _ _ q1 E1 c1 (.bl _)⟩))
theorem IU{j pos'}(ha:Ev X a ta):Ev X (.Compare a [.Is] [.Constant .none j pos'] pos) (Fx ta):=PE.imp (DU (xj ha)) oX
theorem GK{j pos'}(ha:Ev X a ta):Tv X (.Compare a [.Is] [.Constant .none j pos'] pos) (dT (Fx ta)):=PT.imp (qt (xj ha)) fun σ H Q h=>oX _ _ _ (bL _ _ _ h)
end
section
variable {X : Cx} {a b c e : Expr} {es rest : List Expr} {ta tb t : bj} {u v : mh} {pos : Pos}
def Nt(t u:mh):mh:=fun δ Q=>t δ fun c δ1=>if c=true then u δ1 Q else Q false δ1
def Q9(t u:mh):mh:=fun δ Q=>t δ fun c δ1=>if c=true then Q true δ1 else u δ1 Q
def Ng(t:mh):mh:=fun δ Q=>t δ fun c δ1=>Q (!c) δ1
theorem v3(h:Tv X a u):PW X (.BoolOp .And [a] pos) (lT u):=pw_and1 h
theorem vZ(h:Tv X a u):PW X (.BoolOp .Or [a] pos) (lT u):=pw_or1 h
theorem w_and(ha:Tv X a u)(hb:PW X (.BoolOp .And (b::rest) pos) (lT v)):PW X (.BoolOp .And (a::b::rest) pos) (lT (Nt u v)):=PW.imp (pw_and ha hb) fun σ H Q qc=>(by obtain⟨W,M,α,δ,Qd,E,q,k⟩:=qc;exact(
 ⟨W,M,α,δ,_,E,q,fun c δ1 H1 q1 E1 c1=>by
  cases c with
  | true=>rw[if_pos rfl] at q1 ⊢;exact⟨W,M,α,δ1,_,E1,q1,fun c2 δ2 H2 q2 E2 CN=>k _ _ _ q2 E2 (c1.tr CN)⟩
  | false=>rw[if_neg SG] at q1 ⊢;exact k _ _ _ q1 E1 c1⟩))
theorem w_or(ha:Tv X a u)(hb:PW X (.BoolOp .Or (b::rest) pos) (lT v)):PW X (.BoolOp .Or (a::b::rest) pos) (lT (Q9 u v)):=PW.imp (pw_or ha hb) fun σ H Q vT=>(by obtain⟨W,M,α,δ,Qd,E,q,k⟩:=vT;exact(
 ⟨W,M,α,δ,_,E,q,fun c δ1 H1 q1 E1 c1=>by
  cases c with
  | false=>rw[if_neg SG] at q1 ⊢;exact⟨W,M,α,δ1,_,E1,q1,fun c2 δ2 H2 q2 E2 CN=>k _ _ _ q2 E2 (c1.tr CN)⟩
  | true=>rw[if_pos rfl] at q1 ⊢;exact k _ _ _ q1 E1 c1⟩))
theorem rO(ha:Tv X a u):Tv X (.UnaryOp .Not a pos) (Ng u):=PT.imp (DA ha) fun σ H Q mw=>(by obtain⟨W,M,α,δ,Qd,E,q,k⟩:=mw;exact(⟨W,M,α,δ,_,E,q,fun c δ1 H1 q1 E1 c1=>k _ _ _ q1 E1 c1⟩))
inductive BE(tb:bj)(Q:Dt->List Sl->Prop)(d:Dt)(δ1:List Sl):Prop
 | mk (c:_) (h1:d= .bl c) (h2:if c=true then tb δ1 Q else Q (.bl false) δ1)
def Jk(ta tb:bj):bj:=fun δ Q=>ta δ fun d δ1=>BE tb Q d δ1
inductive Fq(tb:bj)(Q:Dt->List Sl->Prop)(d:Dt)(δ1:List Sl):Prop
 | mk (c:_) (h1:d= .bl c) (h2:if c=true then Q (.bl true) δ1 else tb δ1 Q)
def Nf(ta tb:bj):bj:=fun δ Q=>ta δ fun d δ1=>Fq tb Q d δ1
inductive By(Q:Dt->List Sl->Prop)(d:Dt)(δ1:List Sl):Prop
 | mk (c:_) (h1:d= .bl c) (h2:Q (.bl (!c)) δ1)
def Jd(ta:bj):bj:=fun δ Q=>ta δ fun d δ1=>By Q d δ1
theorem jU{op}(h:Ev X a t):Ev X (.BoolOp op [a] pos) t:=DR h
theorem jV(ha:Ev X a ta)(hb:Ev X (.BoolOp .And (b::rest) pos) tb):Ev X (.BoolOp .And (a::b::rest) pos) (Jk ta tb):=PE.imp (DW ha hb) fun σ H Q qb=>(by obtain⟨W,M,α,δ,Qd,E,q,k⟩:=qb;exact(
 ⟨W,M,α,δ,_,E,q,fun d δ1 H1 x vS E1 c1 r1=>(by obtain⟨c,e,q1⟩:=vS;exact(⟨c,by subst e;exact r1.mU,by
  cases c with
  | true=>rw[if_pos rfl] at q1 ⊢;exact⟨W,M,α,δ1,_,E1,q1,fun d2 δ2 H2 y q2 E2 c2 r2=>k _ _ _ _ q2 E2 (c1.tr c2) r2⟩
  | false=>rw[if_neg SG] at q1 ⊢;exact k _ _ _ _ q1 E1 c1 (.bl _)⟩))⟩))
theorem IS(ha:Ev X a ta)(hb:Ev X (.BoolOp .Or (b::rest) pos) tb):Ev X (.BoolOp .Or (a::b::rest) pos) (Nf ta tb):=PE.imp (Hr ha hb) fun σ H Q qa=>(by obtain⟨W,M,α,δ,Qd,E,q,k⟩:=qa;exact(
 ⟨W,M,α,δ,_,E,q,fun d δ1 H1 x mq E1 c1 r1=>(by obtain⟨c,e,q1⟩:=mq;exact(⟨c,by subst e;exact r1.mU,by
  cases c with
  | false=>rw[if_neg SG] at q1 ⊢;exact⟨W,M,α,δ1,_,E1,q1,fun d2 δ2 H2 y q2 E2 c2 r2=>k _ _ _ _ q2 E2 (c1.tr c2) r2⟩
  | true=>rw[if_pos rfl] at q1 ⊢;exact k _ _ _ _ q1 E1 c1 (.bl _)⟩))⟩))
theorem CA(ha:Ev X a ta):Ev X (.UnaryOp .Not a pos) (Jd ta):=PE.imp (DT ha) fun σ H Q mn=>(by obtain⟨W,M,α,δ,Qd,E,q,k⟩:=mn;exact(
 ⟨W,M,α,δ,_,E,q,fun d δ1 H1 x p9 E1 c1 r1=>(by obtain⟨c,e,q1⟩:=p9;exact(⟨c,by subst e;exact r1.mU,k _ _ _ _ q1 E1 c1 (.bl _)⟩))⟩))
def BA:eG:=fun δ Q=>Q [] δ
def za(ta:bj)(tr:eG):eG:=fun δ Q=>ta δ fun d δ1=>tr δ1 fun ds δ2=>Q (d::ds) δ2
theorem aj:Av X [] BA:=PA.imp aN fun σ H Q C0=>(by obtain⟨W,M,α,δ,Qd,E,q,k⟩:=C0;exact(k _ _ _ _ q E b7.rf .nil))
theorem aa(ha:Ev X e ta)(hr:Av X es tr)(hs:starEach (e::es) X.env=(false,eval e X.env)::starEach es X.env:=by rfl):Av X (e::es) (za ta tr):=PA.imp (az ha hr hs) fun σ H Q CZ=>(by obtain⟨W,M,α,δ,Qd,E,q,k⟩:=CZ;exact(
 ⟨W,M,α,δ,_,E,q,fun d δ1 H1 x q1 E1 c1 r1=>⟨W,M,α,δ1,_,E1,q1,fun ds δ2 H2 xs q2 E2 c2 r2=>k _ _ _ _ q2 E2 (c1.tr c2) (.cons (r1.chg E1 c2) r2)⟩⟩))
def M9(t:eG):bj:=fun δ Q=>t δ fun ds δ'=>ds.length<=sizeLine/\Q (.tup ds) δ'
def Je(t:eG):p6:=fun δ Q=>t δ fun ds δ'=>ds.length<=sizeLine/\Q ds δ'
theorem eM{x1}{t:eG}(h:Av X es t):Ev X (.Tuple es x1 pos) (M9 t):=PE.imp (DQ h) fun σ H Q vR=>(by obtain⟨W,M,α,δ,Qd,E,q,k⟩:=vR;exact(
 ⟨W,M,α,δ,_,E,q,fun ds δ1 H1 xs vQ E1 c1 r1=>(by obtain⟨l,q1⟩:=vQ;exact(⟨by rw[r1.1];exact l,fun p hp=>by
  have s:ay H1 (upd H1 p (.tup xs)):=ay.new hp;exact k _ _ _ _ q1 (E1.same s) (c1.tr (b7.of s)) (Rep.kO ae (E1.fresh hp) (r1.same s))⟩))⟩))
theorem xy{t:eG}(h:Av X es t):Ov X (.List es pos) (Je t):=PE.imp (mO h) fun σ H Q CY=>(by obtain⟨W,M,α,δ,Qd,E,q,k⟩:=CY;exact(
 ⟨W,M,α,δ,_,E,q,fun ds δ1 H1 xs K6 E1 c1 r1=>(by obtain⟨l,q1⟩:=K6;exact(⟨by rw[r1.1];exact l,fun p hp=>k _ _ _ _ _ q1 E1 c1 r1 hp⟩))⟩))
theorem lM{t:eG}(h:Av X es t):Ev X (.List es pos) (dO (Je t)):=Ov.ev (xy h)
abbrev DN:=List Dt->(Dt->Prop)->Prop
def NO(r:List V->Hp->VK->Prop)(R:DN):Prop:= ∀(M:Addr->Prop) (H:Hp) (xs:List V) (ds:List Dt) (Qd:Dt->Prop) (Q:VK),hC M H->ax M H xs ds->R ds Qd->(∀H' v d,Qd d->ay H H'->Rep M H' v d->Q v H')->r xs H Q
def zc(R:DN)(t:eG):bj:=fun δ Q=>t δ fun ds δ'=>R ds fun d=>Q d δ'
theorem vi{r:List V->Hp->VK->Prop}{R:DN}{t:eG}(hd:NO r R): ∀σ H Q,lE (zc R t) σ H Q->Lq r (lA t) σ H Q:=fun σ H Q K5=>(by obtain⟨W,M,α,δ,Qd,E,q,k⟩:=K5;exact(
 ⟨W,M,α,δ,_,E,q,fun ds δ1 H1 xs q1 E1 c1 r1=>hd M H1 xs ds _ _ E1.al r1 q1 fun H' v d q3 s r3=>k _ _ _ _ q3 (E1.same s) (c1.tr (b7.of s)) r3⟩))
theorem fO{id:String}{x:Str}{p:Pos}{r:List V->Hp->VK->Prop}{R:DN}{t:eG}(hc:cq X (.builtin id) r)(hd:NO r R)(hg:Gl X x)(hm:X.mg x=none)(hv:bootBuiltins x=some (.builtin id))(ha:Av X (e::es) t)(hn:x≠"__name__":=by decide)(jI:(x==("__debug__":Str))=false:=by decide)
  (he:starEach (e::es) X.env=(false,eval e X.env)::starEach es X.env:=by rfl) (cv:(backTo pos (starEach es X.env)).any (·.1)=false:=by rfl):Ev X (.Call (.Name x p) (e::es) [] pos) (zc R t):=
 PE.imp (cK hc hg hm hv ha hn jI he cv) (vi hd)
end
inductive JM(g:Int->Int->Dt)(d1:Dt)(d2:Dt)(Q:Dt->Prop):Prop
 | mk (i j:_) (h1:d1= .int i) (h2:d2= .int j) (h3:Q (g i j))
inductive F1(C:Int->Int->Prop)(g:Int->Int->Dt)(d1:Dt)(d2:Dt)(Q:Dt->Prop):Prop
 | mk (i j:_) (h1:d1= .int i) (h2:d2= .int j) (h3:C i j) (h4:Q (g i j))
theorem yK(h: ∀M H i j,Rep M H (g i j) (gd i j)):p8 (wY g) (JM gd):=fun M H x y d1 d2 Qd Q al r1 r2 cu k=>(by obtain⟨i,j,e1,e2,q⟩:=cu;exact(by
 subst e1;subst e2;exact⟨i,j,r1.ofInt,r2.ofInt,k H _ _ q (fun _ _ z=>z) (h M H i j)⟩))
theorem Cy(h: ∀M H i j,Rep M H (g i j) (gd i j)):p8 (rI C g) (F1 C gd):=fun M H x y d1 d2 Qd Q al r1 r2 fQ k=>(by obtain⟨i,j,e1,e2,c,q⟩:=fQ;exact(by
 subst e1;subst e2;exact⟨i,j,r1.ofInt,r2.ofInt,c,k H _ _ q (fun _ _ z=>z) (h M H i j)⟩))
section
variable {X : Cx} {a b c e : Expr} {es rest : List Expr} {ta tb tc t : bj} {pos : Pos}
abbrev Nv(ta tb:bj):bj:=pF (JM fun i j=> .int (i+j)) ta tb
abbrev Nb(ta tb:bj):bj:=pF (JM fun i j=> .int (i - j)) ta tb
theorem lN(ha:Ev X a ta)(hb:Ev X b tb):Ev X (.BinOp a .Add b pos) (Nv ta tb):=yP gp (yK fun _ _ _ _=> .int _) ha hb
theorem yO(ha:Ev X a ta)(hb:Ev X b tb):Ev X (.BinOp a .Sub b pos) (Nb ta tb):=yP DZ (yK fun _ _ _ _=> .int _) ha hb
theorem CB(ha:Ev X a ta)(hb:Ev X b tb):Ev X (.BinOp a .Mult b pos) (pF (F1 BS fun i j=> .int (i*j)) ta tb):=yP fh (Cy fun _ _ _ _=> .int _) ha hb
theorem yS(ha:Ev X a ta)(hb:Ev X b tb):Ev X (.BinOp a .FloorDiv b pos) (pF (F1 JQ fun i j=> .int (i / j)) ta tb):=yP sj (Cy fun _ _ _ _=> .int _) ha hb
abbrev JJ:D2:=JM fun i j=> .bl (decide (i < j))
abbrev NN:D2:=JM fun i j=> .bl (decide (j < i))
theorem M7(ha:Ev X a ta)(hb:Ev X b tb):Ev X (.Compare a [.Gt] [b] pos) (pF NN ta tb):=tq Hu (yK fun _ _ _ _=> .bl _) ha hb (df _)
noncomputable def eq2:Dt->Dt->Option Bool
 | .aI, .aI=>some true | .aI, .int _=>some false | .int _, .aI=>some false | .aI, .bl _=>some false | .bl _, .aI=>some false | .aI, .str _=>some false | .str _, .aI=>some false
 | .int i, .int j=>some (decide (i=j)) | .bl i, .bl j=>some (decide (i=j)) | .str i, .str j=>some (decide (i=j))
 | .int _, .str _=>some false | .str _, .int _=>some false | .bl _, .str _=>some false | .str _, .bl _=>some false
 | _,_=>none
inductive F2(d1:Dt)(d2:Dt)(Q:Dt->Prop):Prop
 | mk (b:_) (h1:eq2 d1 d2=some b) (h2:Q (.bl b))
inductive FY(d1:Dt)(d2:Dt)(Q:Dt->Prop):Prop
 | mk (b:_) (h1:eq2 d1 d2=some b) (h2:Q (.bl (!b)))
noncomputable def EY:Dt->Option V
 | .aI=>some .aI | .bl b=>some (.bl b) | .int i=>some (.int i) | .str x=>some (.str x) | _=>none
theorem Rep.fl(r:Rep M H v d)(h:EY d=some u):v=u:=by
 cases r <;> cases h <;> rfl
theorem Q6:decide (V.int i=V.int j)=decide (i=j):=by simp
theorem Q7:decide (V.bl i=V.bl j)=decide (i=j):=by simp
theorem Q5:decide (V.str i=V.str j)=decide (i=j):=by simp
inductive E2(d1 d2:Dt)(b:Bool):Prop
 | mk (u1 u2:V) (h1:EY d1=some u1) (h2:EY d2=some u2) (h3:Ai u1 u2=true/\decide (u1=u2)=b)
def O9(d1 d2:Dt):Option Bool->Prop
 | none=>True
 | some b=>E2 d1 d2 b
theorem Fe:O9 d1 d2 (eq2 d1 d2):=by
 cases d1 with
 | lst _=>trivial
 | tup _=>trivial
 | kx _ _=>trivial
 | u3 _ _=>trivial
 | _=>cases d2 with
  | lst _=>trivial
  | tup _=>trivial
  | kx _ _=>trivial
  | u3 _ _=>trivial
  | _=>first | trivial | exact⟨_,_,rfl,rfl,rfl,rfl⟩ | exact⟨_,_,rfl,rfl,rfl,Q6⟩ | exact⟨_,_,rfl,rfl,rfl,Q7⟩ | exact⟨_,_,rfl,rfl,rfl,Q5⟩
theorem yC{b:Bool}(r1:Rep M H x d1)(r2:Rep M H y d2)(h:eq2 d1 d2=some b):Ai x y=true/\decide (x=y)=b:=by
 have z:O9 d1 d2 (some b):=h▸Fe;obtain⟨u1,u2,e1,e2,q⟩:=z;rw[r1.fl e1,r2.fl e2];exact q
theorem Cz:p8 N0 F2:=fun M H x y d1 d2 Qd Q al r1 r2 gD k=>(by obtain⟨b,e,q⟩:=gD;exact(by
 obtain⟨h1,h2⟩:=yC r1 r2 e;exact⟨h1,by rw[h2];exact k H _ _ q (fun _ _ z=>z) (.bl b)⟩))
theorem Cw:p8 NX FY:=fun M H x y d1 d2 Qd Q al r1 r2 kd k=>(by obtain⟨b,e,q⟩:=kd;exact(by
 obtain⟨h1,h2⟩:=yC r1 r2 e;exact⟨h1,by rw[h2];exact k H _ _ q (fun _ _ z=>z) (.bl _)⟩))
theorem u7(ha:Ev X a ta)(hb:Ev X b tb):Ev X (.Compare a [.Eq] [b] pos) (pF F2 ta tb):=tq xm Cz ha hb (df _)
theorem M5(ha:Ev X a ta)(hb:Ev X b tb):Ev X (.Compare a [.NotEq] [b] pos) (pF FY ta tb):=tq B9 Cw ha hb (df _)
theorem Dc(ha:Ev X a ta)(hb:Ev X b tb):Tv X (.Compare a [.Eq] [b] pos) (dT (pF F2 ta tb)):=qV xm Cz ha hb (df _)
theorem wd(ha:Ev X a ta)(hb:Ev X b tb):Tv X (.Compare a [.NotEq] [b] pos) (dT (pF FY ta tb)):=qV B9 Cw ha hb (df _)
theorem tG(r:ax M H xs ds)(h:vy ds i=some d): ∃x,vy xs i=some x/\Rep M H x d:=by
 unfold vy at h ⊢;rw[r.1];cases hn:zP ds.length i with
 | none=>rw[hn] at h;cases h
 | some j=>rw[hn] at h;exact r.get h
inductive JK(d1:Dt)(d2:Dt)(Q:Dt->Prop):Prop
 | mk (ds i d:_) (h1:(d1= .lst ds\/d1= .tup ds)) (h2:d2= .int i) (h3:vy ds i=some d) (h4:Q d)
theorem IP{K:PySem.W.Frag}:p8 (NY K) JK:=fun M H x y d1 d2 Qd Q al r1 r2 mj k=>(by obtain⟨ds,i,d,e1,e2,h,q⟩:=mj;exact(by
 subst e2;rcases e1 with e1 | e1
 . subst e1;obtain⟨a,xs,rfl,ha,n,rr⟩:=r1.b6;obtain⟨v,hv,rv⟩:=tG rr h;exact .inl ⟨a,xs,i,v,rfl,r2.ofInt,cf.of ha,hv,k H _ _ q (fun _ _ z=>z) rv⟩
 . subst e1;obtain⟨a,xs,rfl,ha,n,rr⟩:=r1.bM;obtain⟨v,hv,rv⟩:=tG rr h;exact .inr (.inl ⟨a,xs,i,v,rfl,r2.ofInt,cS.of ha,hv,k H _ _ q (fun _ _ z=>z) rv⟩)))
theorem ky(ha:Ev X a ta)(hb:Ev X b tb)(hs:tL b:=by exact fun _ _=>rfl):Ev X (.Subscript a b pos) (pF JK ta tb):=PE.imp (B8 Eu ha hb hs) (i5 IP)
inductive zG(d1:Dt)(d2:Dt)(Q:Dt->Prop):Prop
 | mk (ds es:_) (h1:d1= .tup ds) (h2:d2= .tup es) (h3:ds.length+es.length<=sizeLine) (h4:Q (.tup (ds++es)))
theorem Bq:p8 B5 zG:=fun M H x y d1 d2 Qd Q al r1 r2 mw k=>(by obtain⟨ds,es,e1,e2,l,q⟩:=mw;exact(by
 subst e1;subst e2;obtain⟨a,xs,rfl,ha,n,rr⟩:=r1.bM;obtain⟨b,ys,rfl,hb,n2,pV⟩:=r2.bM;exact⟨a,b,xs,ys,rfl,rfl,ha,hb,by rw[rr.1,pV.1];exact l,fun p H' nt=>k H' _ _ q nt.keep (Rep.kO nt.at (al.LP nt) ((rr.append pV).same nt.keep))⟩))
theorem qX(ha:Ev X a ta)(hb:Ev X b tb):Ev X (.BinOp a .Add b pos) (pF zG ta tb):=yP AM Bq ha hb
noncomputable def bQ:Dt->Bool
 | .lst _=>false
 | .tup _=>false
 | .kx _ _=>false
 | .u3 _ _=>false
 | _=>true
noncomputable def yB:Dt->Dt->Bool
 | .aI, .aI=>true
 | .bl a, .bl b=>a==b
 | .bl a, .int b=>(if a then 1 else 0)==b
 | .int a, .bl b=>a==(if b then 1 else 0)
 | .int a, .int b=>a==b
 | .str a, .str b=>a==b
 | _,_=>false
noncomputable def inD(d:Dt)(ds:List Dt):Bool:=ds.any fun e=>yB e d
theorem fD(r:Rep M H v d)(h:bQ d=true):bX v=true:=by cases r <;> first | rfl | cases h
def RE(d e:Dt):Option V->Option V->Prop
 | some u,some v=>kq u v=yB d e
 | _,_=>False
theorem Fd{d e:Dt}(h:bQ d=true)(h2:bQ e=true):RE d e (EY d) (EY e):=by
 cases d with
 | lst _=>cases h
 | tup _=>cases h
 | kx _ _=>cases h
 | u3 _ _=>cases h
 | _=>cases e with
  | lst _=>cases h2
  | tup _=>cases h2
  | kx _ _=>cases h2
  | u3 _ _=>cases h2
  | _=>exact(rfl:_=_)
theorem nk{M:Addr->Prop}{H:Hp}{v w:V}{d e:Dt}(r:Rep M H v d)(r2:Rep M H w e)(h:bQ d=true)(h2:bQ e=true):kq v w=yB d e:=by
 have z:=Fd h h2;cases e1:EY d with
 | none=>rw[e1] at z;exact z.elim
 | some u=>
  cases e2:EY e with
  | none=>rw[e1,e2] at z;exact z.elim
  | some u2=>
   rw[e1,e2] at z;rw[r.fl e1,r2.fl e2];exact z
theorem lF(r:ax M H xs ds)(h:ds.all bQ=true):xs.all bX=true:=TH.mpr fun x hx=>by
 obtain⟨i,hi,e⟩:=Ua hx;have h1:xs[i]?=some x:=by rw[Sy hi,e]
 have h2:ds[i]?=some (ds[i]'(by rw[<-r.1];exact hi)):=Sy _;exact fD (r.2 i _ _ h1 h2) (TH.mp h _ (SW h2))
theorem sN(r:Rep M H v d)(hd:bQ d=true): ∀{xs:List V} {ds:List Dt},ax M H xs ds->ds.all bQ=true->Gd v xs=inD d ds
 | [],[],_,_=>rfl
 | [],_::_,h,_=>by have:=h.1;simp at this
 | _::_,[],h,_=>by have:=h.1;simp at this
 | x::xs,e::ds,h,hf=>by
  obtain⟨y,ys,e1,e2,e3⟩:=h.aK;cases e1;rw[List.all_cons,T9] at hf;have ih:=sN r hd e3 hf.2;unfold Gd inD at ih ⊢;rw[Ve,Ve,ih,nk e2 r hf.1 hd]
inductive JL(neg:Bool)(d1:Dt)(d2:Dt)(Q:Dt->Prop):Prop
 | mk (ds:_) (h1:(d2= .lst ds\/d2= .tup ds)) (h2:bQ d1=true) (h3:ds.all bQ=true) (h4:Q (.bl (if neg then !inD d1 ds else inD d1 ds)))
theorem IQ{K:PySem.W.Frag}{neg:Bool}:p8 (NZ K neg) (JL neg):=fun M H x y d1 d2 Qd Q al r1 r2 mq k=>(by obtain⟨ds,e2,f1,f2,q⟩:=mq;exact(by
 have fin: ∀xs,ax M H xs ds->bX x=true/\xs.all bX=true/\Q (.bl (if neg then !Gd x xs else Gd x xs)) H:=fun xs rr=>⟨fD r1 f1,lF rr f2,by rw[sN r1 f1 rr f2];exact k H _ _ q (fun _ _ z=>z) (.bl _)⟩
 rcases e2 with e2 | e2
 . subst e2;obtain⟨a,xs,rfl,ha,n,rr⟩:=r2.b6;exact⟨a,xs,rfl, .inl (cf.of ha),fin xs rr⟩
 . subst e2;obtain⟨a,xs,rfl,ha,n,rr⟩:=r2.bM;exact⟨a,xs,rfl, .inr (cS.of ha),fin xs rr⟩))
theorem Bs(ha:Ev X a ta)(hb:Ev X b tb)(hm:behindInMarks .NotIn b=false:=by rfl):Ev X (.Compare a [.NotIn] [b] pos) (pF (JL true) ta tb):=tq mR IQ ha hb hm
inductive CT(ds:List Dt)(Q:Dt->Prop):Prop
 | mk (es:_) (h1:(ds= [.lst es]\/ds= [.tup es])) (h2:Q (.int es.length))
theorem Fl{K:PySem.W.Frag}:NO (fun xs H Q=> ∃p ys,xs= [.ref p]/\(cf K H p ys\/cS K H p ys)/\Q (.int ys.length) H) CT:=fun M H xs ds Qd Q al r mn k=>(by obtain⟨es,e,q⟩:=mn;exact(by
 rcases e with e | e <;> subst e <;> obtain⟨x,ys,rfl,r1,r2⟩:=r.aK <;> cases r2.fS
 . obtain⟨a,zs,rfl,ha,n,rr⟩:=r1.b6;exact⟨a,zs,rfl, .inl (cf.of ha),by rw[rr.1];exact k H _ _ q (fun _ _ z=>z) (.int _)⟩
 . obtain⟨a,zs,rfl,ha,n,rr⟩:=r1.bM;exact⟨a,zs,rfl, .inr (cS.of ha),by rw[rr.1];exact k H _ _ q (fun _ _ z=>z) (.int _)⟩))
theorem fF(hm:X.mg "len"=none)(ha:Av X [e] tA)(hg:Gl X "len":=by rfl)(he:starEach [e] X.env=(false,eval e X.env)::starEach [] X.env:=by rfl)(cv:(backTo pos (starEach [] X.env)).any (·.1)=false:=by rfl):
  Ev X (.Call (.Name "len" p) [e] [] pos) (zc CT tA):=fO eD Fl hg hm PySem.boot_len ha (by decide) (by decide) he cv
end
theorem aY{α:List (List Addr)}(h:x∈(α.set i as).flatten):x∈α.flatten\/x∈as:=by
 obtain⟨l,hl,hx⟩:=VH.mp h;rcases List.mem_or_eq_of_mem_set hl with y | y
 . exact .inl (VH.mpr ⟨l,y,hx⟩)
 . exact .inr (y▸hx)
theorem bg{α:List (List Addr)}{i:Nat}(h:α[i]?=some as)(hx:x∈as):x∈α.flatten:=VH.mpr ⟨as,SW h,hx⟩
theorem bP: ∀{α:List (List Addr)} {i:Nat} {as:List Addr},α.flatten.Nodup->as.Nodup->(∀x∈as,x∉α.flatten)->(α.set i as).flatten.Nodup
 | [],_,_,_,_,_=>by simp
 | l::r,0,as,h,ha,hx=>by
  rw[List.set_cons_zero,T7];rw[T7] at h;refine UK.mpr ⟨ha,(UK.mp h).2.1,fun x h1 y h2 e=>?_⟩;subst e;exact hx x h1 (by rw[T7];exact S8 _ h2)
 | l::r,i+1,as,h,ha,hx=>by
  rw[List.set_cons_succ,T7];rw[T7] at h;obtain⟨h1,h2,h3⟩:=UK.mp h;refine UK.mpr ⟨h1,bP h2 ha fun x z y=>hx x z (by rw[T7];exact S8 _ y),fun x z y w e=>?_⟩;subst e;rcases aY w with q | q
  . exact h3 x z x q rfl
  . exact hx x q (by rw[T7];exact List.mem_append_left _ z)
theorem eA: ∀{α:List (List Addr)} {i j:Nat} {as bs:List Addr} {x:Addr},α.flatten.Nodup->α[i]?=some as->α[j]?=some bs->i≠j->x∈as->x∉bs
 | [],i,j,as,bs,x,_,h1,_,_,_=>by simp at h1
 | l::r,i,j,as,bs,x,h,h1,h2,bb,hx=>by
  rw[T7] at h;obtain⟨n1,n2,n3⟩:=UK.mp h;cases i with
  | zero=>
   cases j with
   | zero=>exact absurd rfl bb
   | succ j=>
    simp at h1 h2;subst h1;exact fun y=>n3 x hx x (bg h2 y) rfl
  | succ i=>
   cases j with
   | zero=>
    simp at h1 h2;subst h2;exact fun y=>n3 x y x (bg h1 hx) rfl
   | succ j=>exact eA n2 (by simpa using h1) (by simpa using h2) (by lia) hx
section
variable {Ws : List Wd} {M : Addr -> Prop} {α : List (List Addr)} {H H' : Hp} {σ : L2.St} {δ : List Sl} {i : Nat} {v : V} {d : Dt} {s : Sl}
def cX(δ:List Sl)(i:Nat):Prop:= ∃s,δ[i]?=some s/\s.cO=false
theorem cX.lt(h:cX δ i):i < δ.length:=let ⟨s,e,_⟩:=h;(SM.mp e).1
theorem av.oy(E:av Ws M α H σ δ)(r:Rep M H v d)(ok:cX δ i):av Ws M (α.set i []) H (σ.set i (some v)) (δ.set i (.im d)):=by
 have hi:=ok.lt;obtain⟨s0,Gg,nb⟩:=ok;refine⟨by rw[Te,Te,E.ls],by rw[Te,Te,E.la],fun j s hj=>?_,bP E.nd VC (fun x hx=>absurd hx SH),fun a ha=>(aY ha).elim (E.mu a) fun z=>absurd z SH,E.al,fun W hW=>?_⟩
 . by_cases bb:i=j
   . subst bb;rw[SR hi] at hj;cases hj;exact⟨some v,[],by rw[SR (by rw[E.ls];exact hi)],by rw[SR (by rw[E.la];exact hi)],rfl,v,rfl,r⟩
   . rw[SJ bb] at hj;obtain⟨o,as,h1,h2,h3⟩:=E.sl j s hj;exact⟨o,as,by rw[SJ bb];exact h1,by rw[SJ bb];exact h2,h3⟩
 . have k:=E.w W hW;refine⟨k.bs,k.ex,fun a ha=>(aY ha).elim (k.fr a) fun z=>absurd z SH,k.m0,k.m1,fun d c e=>?_,fun j s as h1 h2 nb'=>?_⟩
   . obtain⟨t,e1,e2⟩:=k.bx d c e;have:i≠0:=fun z=>by subst z;rw[Gg] at e1;cases e1;cases nb
     exact⟨t,by rw[SJ this];exact e1,by rw[SJ this];exact e2⟩
   . by_cases bb:i=j
     . subst bb;rw[SR (by rw[E.la];exact hi)] at h2;cases h2;exact fun a ha=>absurd ha SH
     . rw[SJ bb] at h1 h2;exact k.fz j s as h1 h2 nb'
theorem ax.grow(r:ax M H xs ds)(hp:H p=none):ax (fun b=>M b\/b=p) (upd H p o) xs ds:=r.mono fun a u e n=>⟨by rw[ag (aq e hp)];exact e,fun z=>z.elim n (aq e hp)⟩
theorem Rep.grow(r:Rep M H x d)(hp:H p=none):Rep (fun b=>M b\/b=p) (upd H p o) x d:=r.mono fun a u e n=>⟨by rw[ag (aq e hp)];exact e,fun z=>z.elim n (aq e hp)⟩
theorem nK.grow(h:nK M H o s as)(hp:H p=none):nK (fun b=>M b\/b=p) (upd H p u) o s as:=by
 have sm:ay H (upd H p u):=ay.new hp;cases s with
 | no=>exact h
 | im d=>exact⟨h.1,let ⟨v,e,r⟩:=h.2;⟨v,e,r.grow hp⟩⟩
 | ow ds=>obtain⟨a,xs,e1,e2,e3,r⟩:=h;exact⟨a,xs,e1,e2,sm _ _ e3,r.grow hp⟩
 | bx t=>obtain⟨d,c,e1,e2,r⟩:=h;exact⟨d,c,e1,e2,r.same sm⟩
 | dk ks ds=>obtain⟨a,vs,e1,e2,e3,e4,r⟩:=h;exact⟨a,vs,e1,e2,sm _ _ e3,e4,r.grow hp⟩
 | ob R=>obtain⟨v,e,r⟩:=h;exact⟨v,e,R.st r (fun a _ o q=>sm _ _ q) fun a u q n=>⟨sm _ _ q,fun z=>z.elim n (aq q hp)⟩⟩
 | fn f=>exact h
theorem av.jg(E:av Ws M α H σ δ)(hp:H p=none)(hu: ∀xs,u≠ .tup xs)(ok:cX δ i)(nb:s.cO=false)(hs:nK (fun b=>M b\/b=p) (upd H p u) (some (.ref p)) s [p]):
  av Ws (fun b=>M b\/b=p) (α.set i [p]) (upd H p u) (σ.set i (some (.ref p))) (δ.set i s):=by
 have hi:=ok.lt;have sm:ay H (upd H p u):=ay.new hp;have np:p∉α.flatten:=fun z=>E.fresh hp (E.mu p z);obtain⟨s0,Gg,P7⟩:=ok;refine⟨by rw[Te,Te,E.ls],by rw[Te,Te,E.la],fun j s' hj=>?_,bP E.nd (by simp) (fun x hx=>by rw[SS.mp hx];exact np),fun a ha=>(aY ha).elim (fun z=> .inl (E.mu a z)) fun z=> .inr (SS.mp z),fun a ha=>?_,fun W hW=>?_⟩
 . by_cases bb:i=j
   . subst bb;rw[SR hi] at hj;cases hj;exact⟨_,_,by rw[SR (by rw[E.ls];exact hi)],by rw[SR (by rw[E.la];exact hi)],hs⟩
   . rw[SJ bb] at hj;obtain⟨o,as,h1,h2,h3⟩:=E.sl j s' hj;exact⟨o,as,by rw[SJ bb];exact h1,by rw[SJ bb];exact h2,h3.grow hp⟩
 . rcases ha with ha | ha
   . obtain⟨o,e,n⟩:=E.al a ha;exact⟨o,sm _ _ e,n⟩
   . subst ha;exact⟨u,ae,hu⟩
 . have k:=E.w W hW;have QQ:W.A0 p\/W.H0 p=none:=by
    by_cases z:W.A0 p
    . exact .inl z
    . right;cases e:W.H0 p with
      | none=>rfl
      | some o=>have:=k.bs p o e z;rw[hp] at this;cases this
   refine⟨fun b o e n=>sm _ _ (k.bs b o e n),fun b n y=>k.ex b n (LW.ay.none sm y),fun a ha=>(aY ha).elim (k.fr a) fun z=>by rw[SS.mp z];exact QQ,fun a h=> .inl (k.m0 a h),fun a h=>?_,fun d c e=>?_,fun j s' as h1 h2 nb'=>?_⟩
   . rcases h with h | h
     . exact k.m1 a h
     . subst h;by_cases z:W.H0 a=none
       . exact .inr z
       . exact absurd hp (k.ex a z)
   . obtain⟨t,e1,e2⟩:=k.bx d c e;have:i≠0:=fun z=>by subst z;rw[Gg] at e1;cases e1;cases P7
     exact⟨t,by rw[SJ this];exact e1,by rw[SJ this];exact e2⟩
   . by_cases bb:i=j
     . subst bb;rw[SR (by rw[E.la];exact hi)] at h2;cases h2;exact fun a ha z=>by rw[SS.mp ha] at z;exact E.fresh hp (k.m0 _ z)
     . rw[SJ bb] at h1 h2;exact k.fz j s' as h1 h2 nb'
theorem av.mod(E:av Ws M α H σ δ){s s':Sl}(hi:δ[i]?=some s)(ho:σ[i]?=some o)(ha:α[i]?=some as)(hb:s'.cO=s.cO)(hs:nK M H' o s' as)(keep: ∀b u,H b=some u->b∉as->H' b=some u)(ex: ∀a∈as,∃u,H' a=some u/\ ∀xs,u≠ .tup xs):av Ws M α H' σ (δ.set i s')/\b7 α H H':=by
 have di:=(SM.mp hi).1;have NA: ∀a∈as,M a:=fun a h=>E.mu a (bg ha h);have rep: ∀{v:V} {d:Dt},Rep M H v d->Rep M H' v d:=fun r=>r.mono fun a u e n=>⟨keep a u e fun z=>n (NA a z),n⟩
 have G9: ∀{v:List V} {d:List Dt},ax M H v d->ax M H' v d:=fun r=>r.mono fun a u e n=>⟨keep a u e fun z=>n (NA a z),n⟩
 refine⟨⟨by rw[Te,E.ls],by rw[Te,E.la],fun j s2 hj=>?_,E.nd,E.mu,fun a h=>?_,fun W hW=>?_⟩,fun b u e n=>keep b u e fun z=>n (bg ha z)⟩
 . by_cases bb:i=j
   . subst bb;rw[SR di] at hj;cases hj;exact⟨o,as,ho,ha,hs⟩
   . rw[SJ bb] at hj;obtain⟨o2,pM,h1,h2,h3⟩:=E.sl j s2 hj;have ap: ∀x∈pM,x∉as:=fun x hx=>eA E.nd h2 ha (Ne.symm bb) hx;refine⟨o2,pM,h1,h2,?_⟩;cases s2 with
     | no=>exact h3
     | im d=>exact⟨h3.1,let ⟨v,e,r⟩:=h3.2;⟨v,e,rep r⟩⟩
     | ow ds=>obtain⟨a,xs,e1,e2,e3,r⟩:=h3;subst e1;exact⟨a,xs,rfl,e2,keep _ _ e3 (ap a (by simp)),G9 r⟩
     | bx t=>
      obtain⟨d,c,e1,e2,r⟩:=h3;subst e1;refine⟨d,c,rfl,e2,keep _ _ r.dc (ap d (by simp)),?_,r.t0,r.t1⟩;obtain⟨ns,h,q⟩:=r.cs;exact⟨ns,keep _ _ h (ap c (by simp)),q⟩
     | dk ks ds=>obtain⟨a,vs,e1,e2,e3,e4,r⟩:=h3;subst e1;exact⟨a,vs,rfl,e2,keep _ _ e3 (ap a (by simp)),e4,G9 r⟩
     | ob R=>obtain⟨v,e,r⟩:=h3;exact⟨v,e,R.st r (fun a ha u q=>keep _ _ q (ap a ha)) fun a u q n=>⟨keep a u q fun z=>n (NA a z),n⟩⟩
     | fn f=>exact h3
 . by_cases z:a∈as
   . exact ex a z
   . obtain⟨u,e,n⟩:=E.al a h;exact⟨u,keep _ _ e z,n⟩
 . have k:=E.w W hW;have Qh: ∀a∈as,W.A0 a\/W.H0 a=none:=fun a z=>k.fr a (bg ha z);refine⟨fun b u e n=>keep _ _ (k.bs b u e n) fun z=>?_,fun b n y=>?_,k.fr,k.m0,k.m1,fun d c e=>?_,fun j s2 pM h1 h2 nb=>?_⟩
   . rcases Qh b z with q | q
     . exact n q
     . rw[q] at e;cases e
   . by_cases z:b∈as
     . obtain⟨u,e,_⟩:=ex b z;rw[e] at y;cases y
     . cases e:H b with
       | none=>exact k.ex b n e
       | some u=>rw[keep _ _ e z] at y;cases y
   . obtain⟨t,e1,e2⟩:=k.bx d c e;by_cases bb:i=0
     . subst bb;rw[hi] at e1;cases e1;cases s' with
       | bx t'=>exact⟨t',by rw[SR di],e2⟩
       | _=>cases hb
     . exact⟨t,by rw[SJ bb];exact e1,e2⟩
   . by_cases bb:i=j
     . subst bb;rw[SR di] at h1;cases h1;exact k.fz i s pM hi h2 (by rw[<-hb];exact nb)
     . rw[SJ bb] at h1;exact k.fz j s2 pM h1 h2 nb
theorem av.yi(E:av Ws M α H σ δ)(hi:δ[i]?=some (.ow ds))(ha:α[i]?=some [a]):av Ws (fun b=>M b/\b≠a) (α.set i []) H σ (δ.set i (.im (.lst ds))):=by
 have di:=(SM.mp hi).1;obtain⟨a',xs,h1,h2,h3,r⟩:=E.ow hi;rw[ha] at h2;cases h2;have mono: ∀{v:V} {d:Dt},Rep M H v d->Rep (fun b=>M b/\b≠a) H v d:=fun r=>r.mono fun b u e n=>⟨e,fun z=>n z.1⟩
 have jv: ∀{v:List V} {d:List Dt},ax M H v d->ax (fun b=>M b/\b≠a) H v d:=fun r=>r.mono fun b u e n=>⟨e,fun z=>n z.1⟩
 refine⟨by rw[Te,E.ls],by rw[Te,Te,E.la],fun j s hj=>?_,bP E.nd VC (fun x hx=>absurd hx SH),fun b hb=>?_,fun b hb=>E.al b hb.1,fun W hW=>?_⟩
 . by_cases bb:i=j
   . subst bb;rw[SR di] at hj;cases hj;exact⟨some (.ref a),[],h1,by rw[SR (by rw[E.la];exact di)],rfl,_,rfl,Rep.rL h3 (fun z=>z.2 rfl) (jv r)⟩
   . rw[SJ bb] at hj;obtain⟨o2,pM,g1,g2,g3⟩:=E.sl j s hj;refine⟨o2,pM,g1,by rw[SJ bb];exact g2,?_⟩;cases s with
     | no=>exact g3
     | im d=>exact⟨g3.1,let ⟨v,e,r⟩:=g3.2;⟨v,e,mono r⟩⟩
     | ow ds=>obtain⟨b,xs,e1,e2,e3,r⟩:=g3;exact⟨b,xs,e1,e2,e3,jv r⟩
     | bx t=>exact g3
     | dk ks ds=>obtain⟨b,vs,e1,e2,e3,e4,r⟩:=g3;exact⟨b,vs,e1,e2,e3,e4,jv r⟩
     | ob R=>obtain⟨v,e,r⟩:=g3;exact⟨v,e,R.st r (fun _ _ _ q=>q) fun b u q n=>⟨q,fun z=>n z.1⟩⟩
     | fn f=>exact g3
 . obtain⟨l,hl,hx⟩:=VH.mp hb;obtain⟨j,hj,e⟩:=Ua hl;have ej:(α.set i [])[j]?=some l:=by rw[Sy hj,e]
   by_cases bb:i=j
   . subst bb;rw[SR (by rw[E.la];exact di)] at ej;cases ej;exact absurd hx SH
   . rw[SJ bb] at ej;refine⟨E.mu b (bg ej hx),fun z=>?_⟩;subst z;exact eA E.nd ej ha (Ne.symm bb) hx (by simp)
 . have k:=E.w W hW;refine⟨k.bs,k.ex,fun b hb=>(aY hb).elim (k.fr b) fun z=>absurd z SH,fun b z=>⟨k.m0 b z,fun y=>?_⟩,fun b z=>k.m1 b z.1,fun d c e=>?_,fun j s as g1 g2 nb=>?_⟩
   . subst y;exact k.fz i _ _ hi ha rfl b (by simp) z
   . obtain⟨t,e1,e2⟩:=k.bx d c e;have:i≠0:=fun z=>by subst z;rw[hi] at e1;cases e1
     exact⟨t,by rw[SJ this];exact e1,by rw[SJ this];exact e2⟩
   . by_cases bb:i=j
     . subst bb;rw[SR (by rw[E.la];exact di)] at g2;cases g2;exact fun b hb=>absurd hb SH
     . rw[SJ bb] at g1 g2;exact k.fz j s as g1 g2 nb
theorem av.nV(E:av Ws M α H σ δ){ds:List Dt}(hi:δ[i]?=some (.ow ds)): ∃M' α',av Ws M' α' H σ (δ.set i (.im (.lst ds)))/\ ∀a,M' a->M a:=by
 obtain⟨a,xs,h1,h2,h3,r⟩:=E.ow hi;exact⟨_,_,E.yi hi h2,fun b z=>z.1⟩
theorem av.drop(E:av (W::Ws) M α H σ δ):av Ws M α H σ δ:=⟨E.ls,E.la,E.sl,E.nd,E.mu,E.al,fun W' h=>E.w W' (Tn _ h)⟩
theorem av.loop(E:av Ws M α H σ δ):av (⟨H,M,fun _=>False,M,none⟩::Ws) M α H σ δ:=⟨E.ls,E.la,E.sl,E.nd,E.mu,E.al,fun W h=>by
 rcases Tg.mp h with e | e
 . subst e;exact⟨fun b o e _=>e,fun b n=>n,fun a h=> .inl (E.mu a h),fun a h=>h.elim,fun a h=> .inl h,fun d c e=>(by cases e),fun j s as _ _ _ a _ z=>z⟩
 . exact E.w W e⟩
end
structure eO where
 nx:List Sl->Prop
 rt:Dt->List Sl->Prop
 bk:List Sl->Prop:=fun _=>False
 ct:List Sl->Prop:=fun _=>False
abbrev iY:=eO->List Sl->Prop
structure Lk(Ws:List Wd)(D:Ends)(Δ:eO):Prop where
 nx: ∀M α H σ δ,av Ws M α H σ δ->Δ.nx δ->D.nx σ H
 rt: ∀M α H σ δ v d,av Ws M α H σ δ->Rep M H v d->Δ.rt d δ->D.rt v H
 bk: ∀M α H σ δ,av Ws M α H σ δ->Δ.bk δ->D.bk σ H
 ct: ∀M α H σ δ,av Ws M α H σ δ->Δ.ct δ->D.ct σ H
inductive lS(T:iY)(D:L2.Ends)(σ:L2.St)(H:Hp):Prop
 | mk (Ws:List Wd) (M:Addr->Prop) (α:List (List Addr)) (δ:List Sl) (Δ:eO) (h1:av Ws M α H σ δ) (h2:Lk Ws D Δ) (h3:T Δ δ)
abbrev Ex(X:Cx)(s:Stmt)(T:iY):Prop:=PS X s (lS T)
abbrev zF(X:Cx)(s:List Stmt)(T:iY):Prop:=nM X s (lS T)
section
variable {X : Cx} {st : Stmt} {rest : List Stmt} {T U : iY} {e a b c : Expr} {es : List Expr} {t ta tb : bj} {u : mh} {pos : Pos}
def lP:iY:=fun Δ δ=>Δ.nx δ
def IY(T U:iY):iY:=fun Δ δ=>T {Δ with nx:=U Δ} δ
theorem dz:zF X [] lP:=nM.imp r9 fun D σ H cu=>(by obtain⟨Ws,M,α,δ,Δ,E,L,q⟩:=cu;exact(L.nx _ _ _ _ _ E q))
theorem aC(h1:Ex X st T)(h2:zF X rest U):zF X (st::rest) (IY T U):=nM.imp (bF h1 h2) fun D σ H fQ=>(by obtain⟨Ws,M,α,δ,Δ,E,L,q⟩:=fQ;exact(
 ⟨Ws,M,α,δ,{Δ with nx:=U Δ},E,⟨fun M α H σ δ E q=>⟨Ws,M,α,δ,Δ,E,L,q⟩,L.rt,L.bk,L.ct⟩,q⟩))
theorem aF(h1:Ex X st T):zF X [st] T:=i3 h1
def Nd(t:bj):iY:=fun Δ δ=>t δ Δ.rt
theorem aS(h:Ev X e t):Ex X (.Return (some e) pos) (Nd t):=PS.imp (mN h) fun D σ H kd=>(by obtain⟨Ws,M,α,δ,Δ,E,L,q⟩:=kd;exact(⟨Ws,M,α,δ,_,E,q,fun d δ' H' v q1 E1 c1 r1=>L.rt _ _ _ _ _ _ _ E1 r1 q1⟩))
def Nk(u:mh)(T U:iY):iY:=fun Δ δ=>u δ fun b δ'=>if b=true then T Δ δ' else U Δ δ'
theorem ig(hc:Tv X c u)(ha:zF X sa T)(hb:zF X sb U):Ex X (.If c sa sb pos) (Nk u T U):=PS.imp (B7 hc ha hb) fun D σ H mm=>(by obtain⟨Ws,M,α,δ,Δ,E,L,q⟩:=mm;exact(
 ⟨Ws,M,α,δ,_,E,q,fun b δ' H' q1 E1 c1=>by
  cases b with
  | true=>rw[if_pos rfl] at q1 ⊢;exact⟨Ws,M,α,δ',Δ,E1,L,q1⟩
  | false=>rw[if_neg SG] at q1 ⊢;exact⟨Ws,M,α,δ',Δ,E1,L,q1⟩⟩))
def Ji(t:bj):iY:=fun Δ δ=>t δ fun _ δ'=>Δ.nx δ'
theorem ji(h:Ev X e t)(hs:swapsWith e none pos.line X.env=pure false:=by rfl):Ex X (.Expr e pos) (Ji t):=PS.imp (Aw h hs) fun D σ H hU=>(by obtain⟨Ws,M,α,δ,Δ,E,L,q⟩:=hU;exact(⟨Ws,M,α,δ,_,E,q,fun d δ' H' v q1 E1 c1 r1=>L.nx _ _ _ _ _ E1 q1⟩))
def Nc(i:Nat)(t:bj):iY:=fun Δ δ=>t δ fun d δ'=>cX δ' i/\Δ.nx (δ'.set i (.im d))
theorem cI(i:Nat)(hN:X.N.Nodup)(he:Ev X e t)(hi:X.N[i]?=some x:=by rfl)(hx:Loc X.env.scope x:=by first | exact Or.inl rfl | exact Or.inr rfl)(hs:swapsWith e (some (.Name x pos')) pos.line X.env=pure false:=by rfl)(hf:X.fn x=true\/X.env.scope.names.lookup x=some .local:=by first | exact .inl rfl | exact .inr rfl | assumption):
  Ex X (.Assign [.Name x pos'] e pos) (Nc i t):=PS.imp (dZ hN hi hx he hs hf) fun D σ H mj=>(by obtain⟨Ws,M,α,δ,Δ,E,L,q⟩:=mj;exact(⟨Ws,M,α,δ,_,E,q,fun d δ' H' v tP E1 c1 r1=>(by obtain⟨ok,q1⟩:=tP;exact(L.nx _ _ _ _ _ (E1.oy r1 ok) q1))⟩))
def yY(i:Nat)(t:p6):iY:=fun Δ δ=>t δ fun ds δ'=>cX δ' i/\Δ.nx (δ'.set i (.ow ds))
theorem ub{i:Nat}{t:p6}: ∀D σ H,lS (yY i t) D σ H->t7 (lO t) (cn i) D σ H:=fun D σ H mi=>(by obtain⟨Ws,M,α,δ,Δ,E,L,q⟩:=mi;exact(⟨Ws,M,α,δ,_,E,q,fun ds δ' H1 xs a dW E1 c1 r1 h1=>(by obtain⟨ok,q1⟩:=dW;exact(
 L.nx _ _ _ _ _ (E1.jg (s:= .ow ds) h1 (fun xs z=>by cases z) ok rfl ⟨a,xs,rfl,rfl,ae,r1.grow h1⟩) q1))⟩))
theorem wL(i:Nat){x:Str}{pos':Pos}{t:p6}(hN:X.N.Nodup)(he:Ov X e t)(hi:X.N[i]?=some x:=by rfl)(hx:Loc X.env.scope x:=by first | exact Or.inl rfl | exact Or.inr rfl)(hs:swapsWith e (some (.Name x pos')) pos.line X.env=pure false:=by rfl)(hf:X.fn x=true\/X.env.scope.names.lookup x=some .local:=by first | exact .inl rfl | exact .inr rfl | assumption):
  Ex X (.Assign [.Name x pos'] e pos) (yY i t):=PS.imp (dZ hN hi hx he hs hf) ub
inductive Jh(i:Nat)(T:iY)(Δ:eO)(δ:List Sl):Prop
 | mk (ds:_) (h1:δ[i]?=some (.ow ds)) (h2:T Δ (δ.set i (.im (.lst ds))))
theorem yh: ∀D σ H,lS (Jh i T) D σ H->lS T D σ H:=fun D σ H dU=>(by obtain⟨Ws,M,α,δ,Δ,E,L,ds,h,q⟩:=dU;exact(by
 obtain⟨M',α',E',_⟩:=E.nV h;exact⟨Ws,M',α',_,Δ,E',L,q⟩))
theorem wM(i:Nat)(h:Ex X st T):Ex X st (Jh i T):=PS.imp h yh
theorem mQ{Ws:List Wd}{M:Addr->Prop}{α:List (List Addr)}{H:Hp}{σ:L2.St}{δ:List Sl}{i:Nat}{ds Gq:List Dt}{a:Addr}(E:av Ws M α H σ δ)(h:δ[i]?=some (.ow ds))(h1:σ[i]?=some (some (.ref a)))(h2:α[i]?=some [a])(r:ax M H La Gq):
  av Ws M α (upd H a (.lst La)) σ (δ.set i (.ow Gq))/\b7 α H (upd H a (.lst La)):=
 E.mod h h1 h2 rfl ⟨a,La,rfl,rfl,ae,r.mono fun b u e n=>⟨by rw[ag (fun z=>n (by rw[z];exact E.mu a (bg h2 (by simp))))];exact e,n⟩⟩ (fun b u e n=>by rw[ag (fun z=>n (by rw[z];simp))];exact e) (fun b hb=>by rw[SS.mp hb];exact⟨_,ae,fun xs z=>by cases z⟩)
inductive FD(i:Nat)(Q:Dt->List Sl->Prop)(es:List Dt)(δ':List Sl):Prop
 | mk (ds d:_) (h1:es= [d]) (h2:δ'[i]?=some (.ow ds)) (h3:ds.length < sizeLine) (h4:Q .aI (δ'.set i (.ow (ds++ [d]))))
def Nr(i:Nat)(t:eG):bj:=fun δ Q=>(∃Cv,δ[i]?=some (.ow Cv))/\t δ fun es δ'=>FD i Q es δ'
theorem pE(i:Nat){xp apos ba:Pos}(ho:PE X (.Name x xp) (iR i))(ha:Av X [e] tA)(dH:attributeBase (.Name x xp) "append" X.env (eval (.Name x xp) X.env)=eval (.Name x xp) X.env:=by rfl)(m7:((backTo ba (starEach [e] X.env)).all (fun x=>!x.1) && (backToKw ba (keywordEach [] X.env)).all (fun x=>x.1.isSome) && decide ([e].length+([]:List Keyword).length+(if ([]:List Keyword).isEmpty then 0 else 1) < 30))=true:=by rfl)(dG:(apos.endLine==ba.line)=true:=by rfl)(hs:starEach [e] X.env=(false,eval e X.env)::starEach [] X.env:=by rfl)(eu:(backTo ba (starEach [] X.env)).any (·.1)=false:=by rfl):
  Ev X (.Call (.Attribute (.Name x xp) "append" apos) [e] [] ba) (Nr i tA):=
 PE.imp (si V7 PySem.F.slot_list_append PySem.F.type_list_append iu ho ha dH m7 dG hs eu) fun σ H Q cu=>(by obtain⟨W,M,α,δ,Qd,E,⟨⟨Cv,h0⟩,q⟩,k⟩:=cu;exact(by
  obtain⟨a,Pr,h1,h2,h3,r3⟩:=E.ow h0;refine⟨_,h1, .inl ⟨rfl,_,cf.of h3⟩,W,M,α,δ,_,E,q,fun es δ' H' vs qc E1 c1 r1=>?_⟩;obtain⟨ds,d,e,hd,l,q1⟩:=qc;subst e;obtain⟨y,ys,rfl,ry,rn⟩:=r1.aK;cases rn.fS;obtain⟨a',xs,sQ,vN,ET,Hj⟩:=E1.ow hd;rw[h1] at sQ;cases sQ;refine⟨a,xs,y,rfl,rfl,ET,by rw[Hj.1];exact l,?_⟩;obtain⟨E2,c2⟩:=mQ E1 hd h1 vN (Hj.append (.one ry));exact k _ _ _ _ q1 E2 (c1.tr c2) .aI))
theorem uY(r:ax M H xs ds):xs.isEmpty=ds.isEmpty:=by
 have:=r.1;cases xs <;> cases ds <;> simp at this ⊢
end
def cC(S:DN):Sp:=fun vs H Q _=> ∃M ds Qd,hC M H/\ax M H vs ds/\S ds Qd/\ ∀r H' v',Qd r->ay H H'->Rep M H' v' r->Q v' H'
abbrev DB:=Int->List Dt->(Dt->Int->Prop)->Prop
def G2(S:DB):Sp:=fun vs H Q _=> ∃M d c t ws ds Qd,vs= .ref d::ws/\hC M H/\M d/\M c/\vF H d c t/\ax M H ws ds/\S t ds Qd/\ ∀r t' H' v',Qd r t'->Kp d c H H'->vF H' d c t'->Rep M H' v' r->Q v' H'
section
variable {X : Cx} {e : Expr} {es : List Expr} {pos p : Pos} {x : Str} {k : Nat} {ps : List Str}
theorem bR(h:gB X.prog X.w X.K X.mg X.base x k ps (cC S))(hr:bB k X.A)(ha:Av X (e::es) t)(hg:Gl X x:=by rfl)(jI:(x==("__debug__":Str))=false:=by decide)(he:starEach (e::es) X.env=(false,eval e X.env)::starEach es X.env:=by rfl)(cv:(backTo pos (starEach es X.env)).any (·.1)=false:=by rfl):
  Ev X (.Call (.Name x p) (e::es) [] pos) (zc S t):=PE.imp (jq h hr hg ha jI he cv) fun σ H Q cu=>(by obtain⟨W,M,α,δ,Qd,E,q,k⟩:=cu;exact(
 ⟨W,M,α,δ,_,E,q,fun ds δ' H' vs q1 E1 c1 r1=>by
  show cC S (vs++ []) H' Q E0;rw[TX];exact⟨M,ds,_,E1.al,r1,q1,fun r H2 v2 q2 s r2=>k _ _ _ _ q2 (E1.same s) (c1.tr (b7.of s)) r2⟩⟩))
theorem av.box{i:Nat}(E:av Ws M α H σ δ)(h:δ[i]?=some (.bx t)): ∃d c,σ[i]?=some (some (.ref d))/\α[i]?=some [d,c]/\vF H d c t:=by
 obtain⟨o,as,h1,h2,d,c,rfl,rfl,r⟩:=E.sl i _ h;exact⟨d,c,h1,h2,r⟩
theorem BH(E:av Ws M α H σ δ)(h:δ[i]?=some (.bx t))(h1:σ[i]?=some (some (.ref d)))(h2:α[i]?=some [d,c])(k:Kp d c H H')(B:vF H' d c t'):
  av Ws M α H' σ (δ.set i (.bx t'))/\b7 α H H':=
 E.mod h h1 h2 rfl ⟨d,c,rfl,rfl,B⟩ (fun b u e n=>k b u e (fun z=>n (by rw[z];simp)) (fun z=>n (by rw[z];simp))) (fun b hb=>by
  simp only [Tg,SH,or_false] at hb;rcases hb with rfl | rfl
  . exact⟨_,B.dc,fun xs z=>by cases z⟩
  . obtain⟨ns,h,_⟩:=B.cs;exact⟨_,h,fun xs z=>by cases z⟩)
def Nn(S:DB)(i:Nat)(t:eG):bj:=fun δ Q=>(∃t0,δ[i]?=some (.bx t0))/\t δ fun ds δ'=> ∃t,δ'[i]?=some (.bx t)/\S t ds fun r t'=>Q r (δ'.set i (.bx t'))
theorem CF(i:Nat)(h:gB X.prog X.w X.K X.mg X.base x k ps (G2 S))(hr:bB k X.A)(ho:PE X (.Name y yp) (iR i))(ha:Av X es t)(hg:Gl X x:=by rfl)(jI:(x==("__debug__":Str))=false:=by decide)(he:starEach (.Name y yp::es) X.env=(false,eval (.Name y yp) X.env)::starEach es X.env:=by rfl)(cv:(backTo pos (starEach es X.env)).any (·.1)=false:=by rfl):
  Ev X (.Call (.Name x p) (.Name y yp::es) [] pos) (Nn S i t):=PE.imp (jq h hr hg (az ho ha he) jI he cv) fun σ H Q cu=>(by obtain⟨W,M,α,δ,Qd,E,⟨⟨t0,h0⟩,q⟩,k⟩:=cu;exact(by
  obtain⟨d,c,h1,h2,B⟩:=E.box h0;refine⟨_,h1,W,M,α,δ,_,E,q,fun ds δ' H' vs gD E1 c1 r1=>?_⟩;obtain⟨t,hd,q1⟩:=gD;obtain⟨d',c',sQ,vN,B'⟩:=E1.box hd;rw[h1] at sQ;cases sQ;show G2 S ((V.ref d::vs)++ []) H' Q E0;rw[TX];refine⟨M,d,c',t,vs,ds,_,rfl,E1.al,E1.mu d (bg vN (by simp)),E1.mu c' (bg vN (by simp)),B',r1,q1,fun r t' H2 v2 q2 kp B2 r2=>?_⟩;obtain⟨E2,c2⟩:=BH E1 hd h1 vN kp B2;exact k _ _ _ _ q2 E2 (c1.tr c2) r2))
end
section
variable {P : Program} {w : World} {K : PySem.W.Frag} {mg : Str -> Option Value} {base : Heap}
theorem uT(al:hC M H)(r:ax M H vs ds)(w: ∀W∈Ws,Km W M (List.replicate (ds.length+n) []) H (ds.map .im++List.replicate n .no)):
  av Ws M (List.replicate (ds.length+n) []) H (vs.map some++List.replicate n none) (ds.map .im++List.replicate n .no):=by
 have bW:(List.replicate (ds.length+n) ([]:List Addr)).flatten= []:=by simp
 refine⟨by simp [r.1],by simp,fun i s h=>?_,by rw[bW];exact VC,fun a ha=>by rw[bW] at ha;exact absurd ha SH,al,w⟩;have hi:=(SM.mp h).1;rw[SV,Sx,UC] at hi;have ha:(List.replicate (ds.length+n) ([]:List Addr))[i]?=some []:=by rw[S6,if_pos hi]
 by_cases hl:i < ds.length
 . rw[SY (by rw[Sx];exact hl),SX,Sy hl] at h;cases h;obtain⟨v,hv,rv⟩:=r.get (Sy hl);exact⟨some v,[],by rw[SY (by rw[Sx,r.1];exact hl),SX,hv];rfl,ha,rfl,v,rfl,rv⟩
 . rw[Tc (by rw[Sx];omega),S6] at h;split at h
   . rename_i hn;cases h;rw[Sx] at hn;exact⟨none,[],by rw[Tc (by rw[Sx,r.1];omega),S6,if_pos (by rw[Sx,r.1];exact hn)],ha,rfl⟩
   . cases h
theorem qP {x qual : Str} {st : Stmt} {k : Nat} (F : g8 K x qual st f fd) (sc : aE N ps (ab st)) (len : ∀ ds Qd, S ds Qd -> ds.length = ps.length) (gR : ∀ (b5 : Value) (A : Around) (outer : List Env) (s : Shared) (H : Hp) (E : XK), bB k (A.deeper (envOfC qual (ab st) s.heap.objs.size f b5)) ->
   ∃T,zF (kz eI P w K mg base N qual (ab st) f b5 A outer s H E).xA (cj st) T/\ ∀ds Qd,S ds Qd->T {nx:=fun _=>Qd .aI,rt:=fun d _=>Qd d} (ds.map .im++List.replicate (N.length - ps.length) .no)):
  aV P w K mg base eI (k+1) f fd ps (cC S):=by
 refine F.ok sc (fun vs H Q E h=>?_) (fun b5 A outer s H vs Q E hr h=>?_)
 . obtain⟨M,ds,Qd,al,r,q,_⟩:=h;rw[r.1];exact len ds Qd q
 . obtain⟨M,ds,Qd,al,r,q,kk⟩:=h;obtain⟨T,hT,hq⟩:=gR b5 A outer s H E hr;refine⟨lS T,hT,[⟨H,fun _=>False,M,M,none⟩],M,List.replicate (ds.length+(N.length - ps.length)) [],ds.map .im++List.replicate (N.length - ps.length) .no,_,?_,?_,hq ds Qd q⟩
   . have e:L2.start N vs=vs.map some++List.replicate (N.length - ps.length) none:=by unfold L2.start;rw[r.1,len ds Qd q]
     rw[e];refine uT al r fun W hW=>?_;rw[SS.mp hW];have bW:(List.replicate (ds.length+(N.length - ps.length)) ([]:List Addr)).flatten= []:=by simp
     refine⟨fun b o e _=>e,fun b n=>n,fun a ha=>by rw[bW] at ha;exact absurd ha SH,fun a h=>h,fun a h=> .inl h,fun d c e=>(by cases e),fun j s as h1 h2 _ a ha=>?_⟩;rw[S6] at h2;split at h2
     . cases h2;exact absurd ha SH
     . cases h2
   . have same : ∀ {M' α' H' σ' δ'}, av [⟨H, fun _ => False, M, M, none⟩] M' α' H' σ' δ' -> ay H H' /\ ∀ a, M a -> M' a := fun E' => by
       have k:=E'.w _ (SS.mpr rfl);exact⟨fun b o e=>k.bs b o e (fun z=>z),k.m0⟩
     refine⟨fun M' α' H' σ' δ' E' q=>kk _ _ _ q (same E').1 .aI,fun M' α' H' σ' δ' v d E' r' q=>kk _ _ _ q (same E').1 (r'.mono fun a o e n=>⟨e,fun z=>n ((same E').2 a z)⟩),fun _ _ _ _ _ _ z=>z.elim,fun _ _ _ _ _ _ z=>z.elim⟩
end
def Kf(M:Addr->Prop)(H H1:Hp):Prop:= ∀b o,H b=some o-> ¬M b->H1 b=some o
structure Yl(M:Addr->Prop)(H:Hp)(J:It)(af:List Dt):Prop where
 go: ∀i H1 M',Kf M H H1->hC M' H1->(∀b,H b≠none-> ¬M b-> ¬M' b)->i < af.length->J.go i H1/\ ∀x H2,J.vG i H1 x H2->ay H1 H2/\ ∃d,af[i]?=some d/\Rep M' H2 x d
 stop: ∀H1,Kf M H H1->J.stop af.length H1
abbrev p7:=List Sl->(List Dt->List Sl->Prop)->Prop
inductive lI(t:p7)(σ:L2.St)(H:Hp)(R:It->Hp->Prop):Prop
 | mk (W:List Wd) (M:Addr->Prop) (α:List (List Addr)) (δ:List Sl) (Qd:List Dt->List Sl->Prop) (h1:av W M α H σ δ) (h2:t δ Qd) (h3: ∀af δ' H' J,Qd af δ'->av W M α H' σ δ'->b7 α H H'->Yl M H' J af->R J H')
theorem PI.imp(h:PI X tg iter t)(i: ∀σ H R,t' σ H R->t σ H R):PI X tg iter t':=fun pins s σ H R I q=>h pins s σ H R I (i _ _ _ q)
abbrev Iv(X:Cx)(tg iter:Expr)(t:p7):Prop:=PI X tg iter (lI t)
section
variable {X : Cx} {tg e a b : Expr} {ta t : bj} {tA : eG} {p pos : Pos}
theorem nW{lo:Int}:Yl M H (JG lo n) ((List.range n).map fun k=> .int (lo+(k:Nat))):=by
 refine⟨fun i H1 M' kf mo hb hi=>⟨?_,fun x H2 cu=>?_⟩,fun H1 _=>?_⟩
 . rw[Sx,Tf] at hi;exact hi
 . obtain⟨e1,e2⟩:=cu;rw[Sx,Tf] at hi;subst e1;subst e2;exact⟨fun _ _ z=>z, .int (lo+i),by rw[SX,List.getElem?_range hi];rfl, .int _⟩
 . show n<=_;rw[Sx,Tf];exact SD _
inductive Bw(Q:List Dt->List Sl->Prop)(ds:List Dt)(δ':List Sl):Prop
 | mk (j:Int) (h1:ds= [.int j]) (h2: -(2^62)<=j) (h3:j < 2^62) (h4:Q ((List.range j.toNat).map fun k=> .int (0+(k:Nat))) δ')
def Ja(t:eG):p7:=fun δ Q=>t δ fun ds δ'=>Bw Q ds δ'
inductive Bv(Q:List Dt->List Sl->Prop)(ds:List Dt)(δ':List Sl):Prop
 | mk (i j:Int) (h1:ds= [.int i, .int j]) (h2:(-(2^62)<=i/\i < 2^62/\ -(2^62)<=j/\j < 2^62)) (h3:Q ((List.range (j - i).toNat).map fun k=> .int (i+(k:Nat))) δ')
def IZ(t:eG):p7:=fun δ Q=>t δ fun ds δ'=>Bv Q ds δ'
theorem fu(hm:X.mg "range"=none)(ha:Av X [a] tA)(hg:Gl X "range":=by rfl)(hs:starEach [a] X.env= [(false,eval a X.env)]:=by rfl):Iv X tg (.Call (.Name "range" p) [a] [] pos) (Ja tA):=PI.imp (uk hg hm ha hs) fun σ H R fQ=>(by obtain⟨W,M,α,δ,Qd,E,q,k⟩:=fQ;exact(
 ⟨W,M,α,δ,_,E,q,fun ds δ' H' vs gD E1 c1 r1=>(by obtain⟨j,e,l1,l2,q1⟩:=gD;exact(by
  subst e;obtain⟨x,ys,rfl,r2,r3⟩:=r1.aK;cases r3.fS;cases r2.ofInt;exact⟨j,rfl,l1,l2,k _ _ _ _ q1 E1 c1 nW⟩))⟩))
theorem EA(hm:X.mg "range"=none)(ha:Av X [a,b] tA)(hg:Gl X "range":=by rfl)(hs:starEach [a,b] X.env= [(false,eval a X.env),(false,eval b X.env)]:=by rfl)(nU:starEach [b] X.env= [(false,eval b X.env)]:=by rfl):Iv X tg (.Call (.Name "range" p) [a,b] [] pos) (IZ tA):=PI.imp (uj hg hm ha hs nU) fun σ H R kd=>(by obtain⟨W,M,α,δ,Qd,E,q,k⟩:=kd;exact(
 ⟨W,M,α,δ,_,E,q,fun ds δ' H' vs mm E1 c1 r1=>(by obtain⟨i,j,e,l,q1⟩:=mm;exact(by
  subst e;obtain⟨x,ys,rfl,r2,r3⟩:=r1.aK;obtain⟨y,zs,rfl,r4,r5⟩:=r3.aK;cases r5.fS;cases r2.ofInt;cases r4.ofInt;exact⟨i,j,rfl,l,k _ _ _ _ q1 E1 c1 nW⟩))⟩))
theorem jN(r:ax M H xs ds)(kf:Kf M H H1)(hb: ∀b,H b≠none-> ¬M b-> ¬M' b):ax M' H1 xs ds:=r.mono fun a o e n=>⟨kf a o e n,hb a (by rw[e];intro z;cases z) n⟩
theorem zW{K:PySem.W.Frag}{M:Addr->Prop}{H:Hp}{a:Addr}(h:H a=some (.lst xs))(n: ¬M a)(r:ax M H xs ds):Yl M H (NL K a) ds:=by
 refine⟨fun i H1 M' kf mo hb hi=>?_,fun H1 kf=>⟨xs,cf.of (kf _ _ h n),by rw[r.1];exact SD _⟩⟩;have rr:=jN r kf hb;have hx:xs[i]?=some (xs[i]'(by rw[r.1];exact hi)):=Sy _;refine⟨⟨xs,_,cf.of (kf _ _ h n),hx⟩,fun x H2 hU=>?_⟩;obtain⟨e,y⟩:=hU;subst e;have:=y xs (cf.of (kf _ _ h n));exact⟨fun _ _ z=>z,_,Sy hi,rr.2 i x _ this (Sy hi)⟩
theorem C3{K:PySem.W.Frag}{M:Addr->Prop}{H:Hp}{a:Addr}(h:H a=some (.tup xs))(n: ¬M a)(r:ax M H xs ds):Yl M H (NK K a) ds:=by
 refine⟨fun i H1 M' kf mo hb hi=>?_,fun H1 kf=>⟨xs,cS.of (kf _ _ h n),by rw[r.1];exact SD _⟩⟩;have rr:=jN r kf hb;have hx:xs[i]?=some (xs[i]'(by rw[r.1];exact hi)):=Sy _;refine⟨⟨xs,_,cS.of (kf _ _ h n),hx⟩,fun x H2 mj=>?_⟩;obtain⟨e,y⟩:=mj;subst e;have:=y xs (cS.of (kf _ _ h n));exact⟨fun _ _ z=>z,_,Sy hi,rr.2 i x _ this (Sy hi)⟩
inductive Fv(Q:List Dt->List Sl->Prop)(d:Dt)(δ':List Sl):Prop
 | mk (ds:_) (h1:d= .lst ds) (h2:Q ds δ')
def Ni(t:bj):p7:=fun δ Q=>t δ fun d δ'=>Fv Q d δ'
inductive Fu(Q:List Dt->List Sl->Prop)(d:Dt)(δ':List Sl):Prop
 | mk (ds:_) (h1:d= .tup ds) (h2:Q ds δ')
def Nh(t:bj):p7:=fun δ Q=>t δ fun d δ'=>Fu Q d δ'
theorem dh(h:Ev X e t):Iv X tg e (Ni t):=PI.imp (AF h) fun σ H R tP=>(by obtain⟨W,M,α,δ,Qd,E,q,k⟩:=tP;exact(⟨W,M,α,δ,_,E,q,fun d δ' H' v mi E1 c1 r1=>(by obtain⟨ds,e,q1⟩:=mi;exact(by
 subst e;obtain⟨a,xs,rfl,ha,n,rr⟩:=r1.b6;exact⟨a,rfl,⟨xs,cf.of ha⟩,k _ _ _ _ q1 E1 c1 (zW ha n rr)⟩))⟩))
theorem HV(h:Ev X e t):Iv X tg e (Nh t):=PI.imp (DL h) fun σ H R dW=>(by obtain⟨W,M,α,δ,Qd,E,q,k⟩:=dW;exact(⟨W,M,α,δ,_,E,q,fun d δ' H' v dU E1 c1 r1=>(by obtain⟨ds,e,q1⟩:=dU;exact(by
 subst e;obtain⟨a,xs,rfl,ha,n,rr⟩:=r1.bM;exact⟨a,rfl,⟨xs,cS.of ha⟩,k _ _ _ _ q1 E1 c1 (C3 ha n rr)⟩))⟩))
noncomputable def dM(k:Nat)(ds:List Dt):List Dt:=ds.mapIdx fun i d=> .tup [.int ((i+k:Nat):Int),d]
theorem rG{K:PySem.W.Frag}{M:Addr->Prop}{H:Hp}{a:Addr}{k:Nat}(h:H a=some (.tup xs))(n: ¬M a)(r:ax M H xs ds):Yl M H (Gu K a k) (dM k ds):=by
 have hl:(dM k ds).length=ds.length:=by unfold dM;rw[List.length_mapIdx]
 refine⟨fun i H1 M' kf mo hb hi=>?_,fun H1 kf=>⟨xs,cS.of (kf _ _ h n),by rw[r.1,hl]⟩⟩;rw[hl] at hi;have rr:=jN r kf hb;have hx:xs[i]?=some (xs[i]'(by rw[r.1];exact hi)):=Sy _;refine⟨⟨xs,_,cS.of (kf _ _ h n),hx⟩,fun x H2 mz=>?_⟩;obtain⟨pp,y,e1,e2,e3,e4⟩:=mz;subst e1;subst e3;have hy:=e4 xs (cS.of (kf _ _ h n));have s:ay H1 (upd H1 pp (.tup [.int ((i+k:Nat):Int),y])):=ay.new e2;refine⟨s,_,by unfold dM;rw[List.getElem?_mapIdx,Sy hi];rfl,Rep.kO ae (mo.fresh e2) (.cons (.int _) (.one ((rr.2 i y _ hy (Sy hi)).same s)))⟩
inductive y9(Q:List Dt->List Sl->Prop)(es:List Dt)(δ':List Sl):Prop
 | mk (ds:_) (h1:es= [.tup ds, .int 1]) (h2:Q (dM 1 ds) δ')
def Fz(t:eG):p7:=fun δ Q=>t δ fun es δ'=>y9 Q es δ'
theorem m3{x1}(hm:X.mg "enumerate"=none)(ha:Av X [e,f] tA)(hg:Gl X "enumerate":=by rfl)(hs:starEach [e,f] X.env= [(false,eval e X.env),(false,eval f X.env)]:=by rfl)(nU:starEach [f] X.env= [(false,eval f X.env)]:=by rfl):Iv X (.Tuple es x1 tp) (.Call (.Name "enumerate" p) [e,f] [] pos) (Fz tA):=PI.imp (xc hg hm ha hs nU) fun σ H R mw=>(by obtain⟨W,M,α,δ,Qd,E,q,k⟩:=mw;exact(
 ⟨W,M,α,δ,_,E,q,fun es δ' H' vs qb E1 c1 r1=>(by obtain⟨ds,e,q1⟩:=qb;exact(by
  subst e;obtain⟨x,ys,rfl,r2,r3⟩:=r1.aK;obtain⟨y,zs,rfl,r4,r5⟩:=r3.aK;cases r5.fS;cases r4.ofInt;obtain⟨a,xs,rfl,ha,n,rr⟩:=r2.bM;exact⟨a,rfl,⟨xs,cS.of ha⟩,k _ _ _ _ q1 E1 c1 (rG ha n rr)⟩))⟩))
noncomputable def hV(xs ys:List Dt):List Dt:=List.zipWith (fun x y=> .tup [x,y]) xs ys
noncomputable def Lw(b:Bool)(ds:List Dt):Dt:=if b then .tup ds else .lst ds
theorem Rep.HC{b:Bool}(h:Rep M H v (Lw b ds)): ∃a xs,v= .ref a/\kH b H a xs/\ ¬M a/\ax M H xs ds/\ ∀H1,Kf M H H1->kH b H1 a xs:=by
 cases b with
 | true=>obtain⟨a,xs,e,ha,n,r⟩:=Rep.bM h;exact⟨a,xs,e,ha,n,r,fun H1 k=>k _ _ ha n⟩
 | false=>obtain⟨a,xs,e,ha,n,r⟩:=Rep.b6 h;exact⟨a,xs,e,ha,n,r,fun H1 k=>k _ _ ha n⟩
theorem C2(k1: ∀H1,Kf M H H1->kH b1 H1 a1 xs)(k2: ∀H1,Kf M H H1->kH b2 H1 a2 ys)(r:ax M H xs ds)(r2:ax M H ys es):Yl M H (JF b1 b2 a1 a2) (hV ds es):=by
 have hl:(hV ds es).length=min ds.length es.length:=by unfold hV;rw[List.length_zipWith]
 refine⟨fun i H1 M' kf mo hb hi=>?_,fun H1 kf=>⟨xs,ys,k1 _ kf,k2 _ kf,by rw[hl,r.1,r2.1];grind⟩⟩;rw[hl] at hi;have rr:=jN r kf hb;have pV:=jN r2 kf hb;have hd:ds[i]?=some (ds[i]'(by grind)):=Sy _;have he:es[i]?=some (es[i]'(by grind)):=Sy _;obtain⟨x,hx,rx⟩:=rr.get hd;obtain⟨y,hy,ry⟩:=pV.get he;refine⟨⟨xs,x,ys,y,k1 _ kf,hx,k2 _ kf,hy⟩,fun v H2 vS=>?_⟩;obtain⟨pp,x',y',e1,e2,e3,e4,e5⟩:=vS;subst e1;subst e3;have h1:=e4 xs (k1 _ kf);have h2:=e5 ys (k2 _ kf);rw[hx] at h1;cases h1;rw[hy] at h2;cases h2;have s:ay H1 (upd H1 pp (.tup [x,y])):=ay.new e2;exact⟨s,_,by unfold hV;rw[List.getElem?_zipWith,hd,he],Rep.kO ae (mo.fresh e2) (.cons (rx.same s) (.one (ry.same s)))⟩
inductive Fp(Q:List Dt->List Sl->Prop)(es:List Dt)(δ':List Sl):Prop
 | mk (b1 b2 MY MX:_) (h1:es= [Lw b1 MY,Lw b2 MX]) (h2:Q (hV MY MX) δ')
def M8(t:eG):p7:=fun δ Q=>t δ fun es δ'=>Fp Q es δ'
theorem HU{x1}(ha:Av X [e,f] tA)(hp: ∀{t:TA},PA X [e,f] t->PI X (.Tuple es x1 tp) (.Call (.Name "zip" p) [e,f] [] pos) (HW t)):Iv X (.Tuple es x1 tp) (.Call (.Name "zip" p) [e,f] [] pos) (M8 tA):=PI.imp (hp ha) fun σ H R qa=>(by obtain⟨W,M,α,δ,Qd,E,q,k⟩:=qa;exact(
 ⟨W,M,α,δ,_,E,q,fun es δ' H' vs mq E1 c1 r1=>(by obtain⟨b1,b2,MY,MX,e,q1⟩:=mq;exact(by
  subst e;obtain⟨x,ys,rfl,r2,r3⟩:=r1.aK;obtain⟨y,zs,rfl,r4,r5⟩:=r3.aK;cases r5.fS;obtain⟨a,xs,rfl,ha,n,rr,kk⟩:=r2.HC;obtain⟨a2,K9,rfl,OC,n2,pV,Qe⟩:=r4.HC;exact⟨b1,b2,a,a2,xs,K9,rfl,ha,OC,k _ _ _ _ q1 E1 c1 (C2 kk Qe rr pV)⟩))⟩))
abbrev zH:=Dt->List Sl->(List Sl->Prop)->Prop
inductive lG(g:zH)(v:V)(σ:L2.St)(H:Hp)(Q:L2.St->Hp->Prop):Prop
 | mk (W:List Wd) (M:Addr->Prop) (α:List (List Addr)) (δ:List Sl) (d:Dt) (Qd:List Sl->Prop) (h1:av W M α H σ δ) (h2:Rep M H v d) (h3:g d δ Qd) (h4: ∀α' δ' σ',Qd δ'->av W M α' H σ' δ'->(∀x∈α'.flatten,x∈α.flatten)->Q σ' H)
theorem PG.imp{X:Cx}{tg:Expr}{t t':TG}(h:PG X tg t)(i: ∀v σ H Q,t' v σ H Q->t v σ H Q):PG X tg t':=fun pins s σ H v u Q I r q=>h pins s σ H v u Q I r (i _ _ _ _ q)
abbrev Gv(X:Cx)(tg:Expr)(g:zH):Prop:=PG X tg (lG g)
def yM(i:Nat):zH:=fun d δ Q=>cX δ i/\Q (δ.set i (.im d))
theorem jQ{α:List (List Addr)}: ∀x∈(α.set i []).flatten,x∈α.flatten:=fun x h=>(aY h).elim id fun z=>absurd z SH
theorem aR: ∀v σ H Q,lG (yM i) v σ H Q->cn i v σ H Q:=fun v σ H Q mn=>(by obtain⟨W,M,α,δ,d,Qd,E,r,⟨ok,q⟩,k⟩:=mn;exact(k _ _ _ q (E.oy r ok) jQ))
theorem dj(i:Nat)(hN:X.N.Nodup)(hi:X.N[i]?=some x:=by rfl)(hx:Loc X.env.scope x:=by first | exact Or.inl rfl | exact Or.inr rfl)(hf:X.fn x=true\/X.env.scope.names.lookup x=some .local:=by first | exact .inl rfl | exact .inr rfl | assumption):Gv X (.Name x pos) (yM i):=PG.imp (aJ hN hi hx hf) aR
inductive Fj(i:Nat)(j:Nat)(d:Dt)(δ:List Sl)(Q:List Sl->Prop):Prop
 | mk (d1 d2:_) (h1:d= .tup [d1,d2]) (h2:cX δ i) (h3:cX (δ.set i (.im d1)) j) (h4:Q ((δ.set i (.im d1)).set j (.im d2)))
theorem cP{i j:Nat}{K:PySem.W.Frag}: ∀v σ H Q,lG (Fj i j) v σ H Q->Bi K 2 (jO (cn i) (jO (cn j) yg)) v σ H Q:=fun v σ H Q p9=>(by obtain⟨W,M,α,δ,d,Qd,E,r,⟨d1,d2,e,LJ,LI,q⟩,k⟩:=p9;exact(by
 subst e;obtain⟨a,xs,rfl,ha,n,rr⟩:=r.bM;obtain⟨x,ys,rfl,r2,r3⟩:=rr.aK;obtain⟨y,zs,rfl,r4,r5⟩:=r3.aK;cases r5.fS;exact⟨a,_,rfl,cS.of ha,rfl,x,_,rfl,y,_,rfl,rfl,k _ _ _ q ((E.oy r2 LJ).oy r4 LI) fun x h=>jQ x (jQ x h)⟩))
end
section
variable {X : Cx} {tg iter c : Expr} {body : List Stmt} {ti : p7} {g : zH} {tb : iY} {u : mh} {pos : Pos}
def Nl(ti:p7)(g:zH)(tb:iY):iY:=fun Δ δ=>ti δ fun af δ1=> ∃P:Nat->List Sl->Prop,P 0 δ1/\(∀i d δ2,af[i]?=some d->P i δ2->g d δ2 fun δ3=>tb {Δ with nx:=P (i+1),ct:=P (i+1),bk:=Δ.nx} δ3)/\ ∀δ2,P af.length δ2->Δ.nx δ2
theorem fU(hc:X.calm=true)(hi:Iv X tg iter ti)(hg:Gv X tg g)(hb:zF X body tb)(hp:PassesOwn (model X.prog X.w) X.A X.env X.xe)(hs: ∀x,foldedSetIterable iter X.env x=pure x:=by intro _;rfl):Ex X (.For tg iter body [] pos) (Nl ti g tb):=
 PS.imp (DE hp hc hi hg hb hs) fun D σ H cu=>(by obtain⟨Ws,M,α,δ,Δ,E,L,q⟩:=cu;exact(⟨Ws,M,α,δ,_,E,q,fun af δ1 H1 J fQ E1 c1 yl=>(by obtain⟨P,p0,step,fin⟩:=fQ;exact(by
  refine⟨fun i m σ' H'=>m=af.length - i/\i<=af.length/\ ∃M' α' δ',av (⟨H1,M,fun _=>False,M,none⟩::Ws) M' α' H' σ' δ'/\P i δ',⟨af.length,by simp,Tw _,M,α,δ1,E1.loop,p0⟩,?_⟩;rintro i m σ' H' ⟨rfl,hi,M',α',δ',E',p'⟩
  have w:=E'.w _ TM;have kf:Kf M H1 H':=w.bs;have hb: ∀b,H1 b≠none-> ¬M b-> ¬M' b:=fun b n z y=>(w.m1 b y).elim z n;by_cases di:i < af.length
  . obtain⟨go,vG⟩:=yl.go i H' M' kf E'.al hb di;refine .inr ⟨go,fun σ2 H2=> ∃M2 α2 δ2,av (⟨H1,M,fun _=>False,M,none⟩::Ws) M2 α2 H2 σ2 δ2/\P (i+1) δ2,fun σ2 H2 z=>⟨af.length - (i+1),by grind,rfl,di,z⟩,fun x H2 y=>?_⟩;obtain⟨s,d,hd,rx⟩:=vG x H2 y;refine⟨_,M',α',δ',d,_,E'.same s,rx,step i d δ' hd p',fun α3 δ3 σ3 q3 E3 _=>?_⟩;refine⟨_,M',α3,δ3,{Δ with nx:=P (i+1),ct:=P (i+1),bk:=Δ.nx},E3,⟨fun M4 α4 H4 σ4 δ4 E4 q4=>⟨M4,α4,δ4,E4,q4⟩,fun M4 α4 H4 σ4 δ4 v d E4 r4 q4=>L.rt _ _ _ _ _ _ _ E4.drop r4 q4,fun M4 α4 H4 σ4 δ4 E4 q4=>L.nx _ _ _ _ _ E4.drop q4,fun M4 α4 H4 σ4 δ4 E4 q4=>⟨M4,α4,δ4,E4,q4⟩⟩,q3⟩
  . have e:i=af.length:=by grind
    subst e;exact .inl ⟨yl.stop H' kf,L.nx _ _ _ _ _ E'.drop (fin _ p')⟩))⟩))
def yV(u:mh)(tb:iY):iY:=fun Δ δ=> ∃P:Nat->List Sl->Prop,(∃m,P m δ)/\ ∀m δ1,P m δ1->u δ1 fun b δ2=>if b=true then tb {Δ with nx:=fun δ3=> ∃m',m' < m/\P m' δ3,ct:=fun δ3=> ∃m',m' < m/\P m' δ3,bk:=Δ.nx} δ2 else Δ.nx δ2
theorem Al(hc:Tv X c u)(hb:zF X body tb)(hp:PassesOwn (model X.prog X.w) X.A X.env X.xe):Ex X (.While c body [] pos) (yV u tb):=
 PS.imp (w8 hp hc hb) fun D σ H gD=>(by obtain⟨Ws,M,α,δ,Δ,E,L,P,⟨m0,p0⟩,turn⟩:=gD;exact(by
  refine⟨fun m σ' H'=> ∃M' α' δ',av Ws M' α' H' σ' δ'/\P m δ',⟨m0,M,α,δ,E,p0⟩,?_⟩;rintro m σ' H' ⟨M',α',δ',E',p'⟩
  refine⟨Ws,M',α',δ',_,E',turn m δ' p',fun b δ2 H2 q2 E2 c2=>?_⟩;cases b with
  | true=>
   rw[if_pos rfl] at q2 ⊢;refine⟨fun σ3 H3=> ∃m',m' < m/\ ∃M3 α3 δ3,av Ws M3 α3 H3 σ3 δ3/\P m' δ3,fun σ3 H3 z=>z,?_⟩;exact⟨Ws,M',α',δ2,{Δ with nx:=fun δ3=> ∃m',m' < m/\P m' δ3,ct:=fun δ3=> ∃m',m' < m/\P m' δ3,bk:=Δ.nx},E2,⟨fun M4 α4 H4 σ4 δ4 E4 vR=>(by obtain⟨m',l,q4⟩:=vR;exact(⟨m',l,M4,α4,δ4,E4,q4⟩)),L.rt,fun M4 α4 H4 σ4 δ4 E4 q4=>L.nx _ _ _ _ _ E4 q4,fun M4 α4 H4 σ4 δ4 E4 vQ=>(by obtain⟨m',l,q4⟩:=vQ;exact(⟨m',l,M4,α4,δ4,E4,q4⟩))⟩,q2⟩
  | false=>
   rw[if_neg SG] at q2 ⊢;exact L.nx _ _ _ _ _ E2 q2))
end
noncomputable def seen:Sl->Sl
 | .im d=> .im d
 | .fn f=> .fn f
 | _=> .no
noncomputable def cin(nt:Nat)(js:List Nat)(δ:List Sl):List Sl:=List.replicate nt .no++js.map fun j=>seen (δ.getD j .no)
theorem tD{js:List Nat}(E:av Ws M α H σ δ):av [] M (List.replicate (nt+js.length) []) H (ic nt js σ) (cin nt js δ):=by
 have bW:(List.replicate (nt+js.length) ([]:List Addr)).flatten= []:=by simp
 refine⟨by simp [ic,cin],by simp [cin],fun i s h=>?_,by rw[bW];exact VC,fun a ha=>by rw[bW] at ha;exact absurd ha SH,E.al,fun W hW=>absurd hW SH⟩;have hi:=(SM.mp h).1;have iy:i < nt+js.length:=by simpa [cin] using hi
 have ha:(List.replicate (nt+js.length) ([]:List Addr))[i]?=some []:=by rw[S6,if_pos iy]
 unfold cin at h;unfold ic;by_cases hl:i < nt
 . rw[SY (by simpa using hl),S6,if_pos hl] at h;cases h;exact⟨none,[],by rw[SY (by simpa using hl),S6,if_pos hl],ha,rfl⟩
 . rw[Tc (by simpa using hl),UC,SX] at h;cases hj:js[i - nt]? with
   | none=>rw[hj] at h;cases h
   | some j=>
    rw[hj] at h;have hs:seen (δ.getD j .no)=s:=Option.some.inj h;refine⟨(σ[j]?).join,[],by rw[Tc (by simpa using hl),UC,SX,hj];rfl,ha,?_⟩;cases hd:δ[j]? with
    | none=>
     have:δ.getD j .no= .no:=by rw[List.getD,hd];rfl
     rw[this] at hs;subst hs;rfl
    | some s'=>
     have e:δ.getD j .no=s':=by rw[List.getD,hd];rfl
     rw[e] at hs;cases s' with
     | im d=>
      subst hs;obtain⟨v,h1,r⟩:=E.im hd;exact⟨rfl,v,by rw[h1];rfl,r⟩
     | fn f=>
      subst hs;obtain⟨o2,pM,h1,_,_,h3⟩:=E.sl j _ hd;exact⟨rfl,by rw[h1,h3];rfl⟩
     | _=>subst hs;rfl
section
variable {X : Cx} {N : List Str} {nt : Nat} {js : List Nat} {scope : Scope} {elt tg iter : Expr} {ifs : List Expr} {pos : Pos} {ti : p7} {g : zH} {tc : mh} {te : bj}
def tw(nt:Nat)(js:List Nat)(ti:p7)(g:zH)(tc:mh)(te:bj):p6:=fun δ Q=>ti δ fun af δ1=>af.length<=sizeLine/\ ∃(p:Dt->Bool) (f:Dt->Dt),(∀d∈af,g d (cin nt js δ1) fun δ2=>tc δ2 fun b δ3=>b=p d/\(b=true->te δ3 fun r _=>r=f d))/\Q ((af.filter p).map f) δ1
theorem vd(uK: ∀v σ H Q,lG g v σ H Q->gh v σ H Q)(E1:av W M α H1 σ δ1)(yl:Yl M H1 J af)(hsz:af.length<=sizeLine)(step: ∀d∈af,g d (cin nt js δ1) fun δ2=>tc δ2 fun b δ3=>b=p d/\(b=true->te δ3 fun r _=>r=f d))(k: ∀H3 xs a,av W M α H3 σ δ1->b7 α H1 H3->ax M H3 xs ((af.filter p).map f)->H3 a=none->Q (.ref a) (upd H3 a (.lst xs)))(D:Addr)(hD:H1 D=none):zL nt js gh (lT tc) (lE te) σ Q D J (upd H1 D (.lst [])):=by
 have s0:ay H1 (upd H1 D (.lst [])):=ay.new hD;refine⟨fun i m acc H2=>m=af.length - i/\i<=af.length/\H2 D=some (.lst acc)/\ax (fun b=>M b\/b=D) H2 acc (((af.take i).filter p).map f)/\ay H1 H2/\hC (fun b=>M b\/b=D) H2,⟨af.length,by simp,Tw _,ae, .nil,s0,fun a ha=>?_⟩,?_⟩
 . rcases ha with ha | ha
   . obtain⟨o,e,n⟩:=E1.al a ha;exact⟨o,s0 _ _ e,n⟩
   . subst ha;exact⟨_,ae,fun xs z=>by cases z⟩
 rintro i m acc H2 ⟨rfl,hi,Bh,kn,s2,HI⟩
 have kf:Kf M H1 H2:=fun b o e _=>s2 _ _ e;by_cases di:i < af.length
 . have hb: ∀b,H1 b≠none-> ¬M b-> ¬(fun b=>M b\/b=D) b:=fun b n z y=>y.elim z fun w=>n (by rw[w];exact hD);obtain⟨go,vG⟩:=yl.go i H2 (fun b=>M b\/b=D) kf HI hb di;have hlen:acc.length < sizeLine:=by
    rw[kn.1,Sx];exact UU (S4 (UD _ _) (by rw[US];omega)) (Tj di hsz)
   refine .inr ⟨go,hlen,fun bp H'=>H' D=some (.lst bp)/\ax (fun b=>M b\/b=D) H' bp (((af.take (i+1)).filter p).map f)/\ay H1 H'/\hC (fun b=>M b\/b=D) H',fun bp H' gD=>(by obtain⟨z1,z2,z3,z4⟩:=gD;exact(⟨af.length - (i+1),by omega,rfl,di,z1,z2,z3,z4⟩)),fun x H3 y=>?_⟩;obtain⟨s3,d,hd,rx⟩:=vG x H3 y;have E2:av [] (fun b=>M b\/b=D) (List.replicate (nt+js.length) []) H2 (ic nt js σ) (cin nt js δ1):=by
    have su:ay (upd H1 D (.lst acc)) H2:=fun b o e=>by
     by_cases hb:b=D
     . subst hb;rw[ae] at e;cases e;exact Bh
     . rw[ag hb] at e;exact s2 _ _ e
    have Ea:av [] (fun b=>M b\/b=D) α H2 σ δ1:=⟨E1.ls,E1.la,fun i s h=>let ⟨o,as,h1,h2,h3⟩:=E1.sl i s h;⟨o,as,h1,h2,(h3.grow (u:= .lst acc) hD).same su⟩,E1.nd,fun a h=> .inl (E1.mu a h),HI,fun W hW=>absurd hW SH⟩
    exact tD Ea
   have E3:=E2.same s3;have bW:(List.replicate (nt+js.length) ([]:List Addr)).flatten= []:=by simp
   refine uK _ _ _ _ ⟨[],_,_,_,d,_,E3,rx,step d (SW hd),fun α4 δ4 σ4 q4 E4 hα=>?_⟩;have EZ:α4.flatten= []:=UA.mpr fun x hx=>by have:=hα x hx;rw[bW] at this;exact absurd this SH
   refine⟨[],_,α4,δ4,_,E4,q4,fun b δ5 H5 kd E5 c5=>?_⟩;obtain⟨hp,q5⟩:=kd;have s5:ay H3 H5:=fun b o e=>c5 b o e (by rw[EZ];exact SH);have Aq:ay H2 H5:=fun b o e=>s5 _ _ (s3 _ _ e);have tk:af.take (i+1)=af.take i++ [d]:=by rw[Wb,hd];rfl
   cases b with
   | false=>
    refine bJ ⟨Aq _ _ Bh,?_,fun b o e=>Aq _ _ (s2 _ _ e),E5.al⟩;rw[tk,U9,TV];simp [<-hp];exact kn.same Aq
   | true=>
    refine dE ⟨[],_,α4,δ5,_,E5,q5 rfl,fun r δ6 H6 v e6 E6 c6 r6=>?_⟩;subst e6;have s6:ay H5 H6:=fun b o e=>c6 b o e (by rw[EZ];exact SH);have Dn:ay H2 H6:=fun b o e=>s6 _ _ (Aq _ _ e);have QT:=Dn _ _ Bh;have up: ∀{zs:List V} {ds:List Dt},ax (fun b=>M b\/b=D) H6 zs ds->ax (fun b=>M b\/b=D) (upd H6 D (.lst (acc++ [v]))) zs ds:=fun r=>r.mono fun a o e n=>⟨by rw[ag (fun z=>n (.inr z))];exact e,n⟩
    refine⟨QT,ae,?_,fun b o e=>by rw[ag (aq e hD)];exact Dn _ _ (s2 _ _ e),fun a ha=>?_⟩
    . rw[tk,U9,TV];have e1:List.filter p [d]= [d]:=by simp [<-hp]
      rw[e1];exact up ((kn.same Dn).append (.one r6))
    . by_cases hb:a=D
      . subst hb;exact⟨_,ae,fun xs z=>by cases z⟩
      . rw[ag hb];exact E6.al a ha
 . have e:i=af.length:=by omega
   subst e;refine .inl ⟨yl.stop H2 kf,?_⟩;rw[Uh] at kn;have eH:upd (fun b=>if b=D then none else H2 b) D (.lst acc)=H2:=by
    funext b
    by_cases hb:b=D
    . subst hb;rw[ae,Bh]
    . rw[ag hb,if_neg hb]
   rw[<-eH];have sH:ay H1 (fun b=>if b=D then none else H2 b):=fun b o e=>by
    show(if b=D then none else H2 b)=some o;rw[if_neg (aq e hD)];exact s2 _ _ e
   refine k _ _ _ (E1.same sH) (b7.of sH) (kn.mono fun a o e n=>⟨?_,fun z=>n (.inl z)⟩) (by show(if D=D then none else H2 D)=none;rw[if_pos rfl]);show(if a=D then none else H2 a)=some o;rw[if_neg (fun z=>n (.inr z))];exact e
theorem iA(uK: ∀v σ H Q,lG g v σ H Q->gh v σ H Q): ∀σ H Q,lO (tw nt js ti g tc te) σ H Q->wm nt js (lI ti) gh (lT tc) (lE te) σ H Q:=fun σ H Q cu=>(by obtain⟨W,M,α,δ,Qd,E,q,k⟩:=cu;exact(by
 refine⟨W,M,α,δ,_,E,q,fun af δ1 H1 J fQ E1 c1 yl D hD=>?_⟩;obtain⟨hsz,p,f,step,q1⟩:=fQ;exact vd uK E1 yl hsz step (fun H3 xs a E3 c3 r3 h3=>k _ _ _ _ _ q1 E3 (c1.tr c3) r3 h3) D hD))
theorem ef(S:iZ X N nt js scope)(hc:X.calm=true)(hi:Iv X tg iter ti)(hg: ∀s H cl C ex,PG (dr X N scope s H cl C ex) tg gh)(fB:iX nt gh)(uK: ∀v σ H Q,lG g v σ H Q->gh v σ H Q)(hf: ∀s H cl C ex,PF (dr X N scope s H cl C ex) ifs (lT tc))(he: ∀s H cl C ex,Ev (dr X N scope s H cl C ex) elt te)(hs: ∀x,foldedSetIterable iter X.env x=pure x:=by intro _;rfl):Ov X (.ListComp elt [⟨tg,iter,ifs,0⟩] scope pos) (tw nt js ti g tc te):=PE.imp (AJ S hc hi hg fB hf he hs) (iA uK)
theorem Dj(i:Nat){pos' py:Pos}(hN:X.N.Nodup)(S:iZ X N nt js scope)(hc:X.calm=true)(hi:Iv X tg iter ti)(hg: ∀s H cl C ex,PG (dr X N scope s H cl C ex) tg gh)(fB:iX nt gh)(uK: ∀v σ H Q,lG g v σ H Q->gh v σ H Q)(hf: ∀s H cl C ex,PF (dr X N scope s H cl C ex) ifs (lT tc))(he: ∀s H cl C ex,Ev (dr X N scope s H cl C ex) elt te)(Be:X.N[i]?=some y:=by rfl)(hy:Loc X.env.scope y:=by first | exact Or.inl rfl | exact Or.inr rfl)(Ba:swapsWith (.ListComp elt [⟨tg,iter,ifs,0⟩] scope pos) (some (.Name y py)) pos'.line X.env=pure true:=by rfl)(hs: ∀x,foldedSetIterable iter X.env x=pure x:=by intro _;rfl)(uL:X.fn y=true\/X.env.scope.names.lookup y=some .local:=by first | exact .inl rfl | exact .inr rfl | assumption):
  Ex X (.Assign [.Name y py] (.ListComp elt [⟨tg,iter,ifs,0⟩] scope pos) pos') (yY i (tw nt js ti g tc te)):=PS.imp (sd hN Be hy S hc hi hg fB hf he Ba hs uL) fun D σ H h=>by
 obtain⟨Ws,M,α,δ,Δ,E,L,q⟩:=h;exact iA uK _ _ _ ⟨Ws,M,α,δ,_,E,q,fun ds δ' H1 xs a mm E1 c1 r1 h1=>(by obtain⟨ok,q1⟩:=mm;exact(L.nx _ _ _ _ _ (E1.jg (s:= .ow ds) h1 (fun xs z=>by cases z) ok rfl ⟨a,xs,rfl,rfl,ae,r1.grow h1⟩) q1))⟩
def yW:mh:=fun δ Q=>Q true δ
theorem gX:PF X [] (lT yW):=fun pins s σ H Q I hU=>(by obtain⟨W,M,α,δ,Qd,E,q,k⟩:=hU;exact(DP pins s σ H Q I (k _ _ _ q E b7.rf)))
theorem lJ(h:Tv X c t):PF X [c] (lT t):=DO h
theorem dI{nt i j:Nat}{K:PySem.W.Frag}(hi:i < nt:=by decide)(hj:j < nt:=by decide):iX nt (Bi K 2 (jO (cn i) (jO (cn j) yg))):=ye (lD hi (qN lB) (lD hj lB yf))
end
structure rD(Ws:List Wd)(M:Addr->Prop)(α:List (List Addr))(a:Addr):Prop where
 m:M a
 n:a∉α.flatten
 w: ∀W∈Ws,(W.A0 a\/W.H0 a=none)/\ ¬W.M0 a
def O8(M:Addr->Prop)(H:Hp)(v:V)(s:Sl)(as:List Addr):Prop:=s.cO=false/\nK M H (some v) s as
inductive rE(Ws:List Wd)(M:Addr->Prop)(α:List (List Addr))(H:Hp):List V->List Sl->List Addr->Prop where
 | nil:rE Ws M α H [] [] []
 | cons {v:V} {s:Sl} {as bs:List Addr} {vs:List V} {ss:List Sl}:O8 M H v s as->(∀a∈as,rD Ws M α a)->as.Nodup->(∀a∈as,a∉bs)->rE Ws M α H vs ss bs->rE Ws M α H (v::vs) (s::ss) (as++bs)
abbrev CV:=List Sl->(List Sl->List Sl->Prop)->Prop
inductive lH(t:CV)(σ:L2.St)(H:Hp)(Q:List V->Hp->Prop):Prop
 | mk (W:List Wd) (M:Addr->Prop) (α:List (List Addr)) (δ:List Sl) (Qd:List Sl->List Sl->Prop) (h1:av W M α H σ δ) (h2:t δ Qd) (h3: ∀ss δ' H' vs M' bs,Qd ss δ'->av W M' α H' σ δ'->b7 α H H'->(∀a,M a->M' a)->(∀a,M' a->M a\/H a=none)->rE W M' α H' vs ss bs->(∀a∈bs,¬M a)->Q vs H')
abbrev Hv(X:Cx)(es:List Expr)(t:CV):Prop:=PA X es (lH t)
theorem nK.keep(h:nK M H o s as)(k: ∀b u,H b=some u-> ¬M b->H' b=some u/\ ¬M' b)(k2: ∀a∈as,∀u,H a=some u->H' a=some u)(nb:s.cO=false):nK M' H' o s as:=by
 cases s with
 | no=>exact h
 | im d=>exact⟨h.1,let ⟨v,e,r⟩:=h.2;⟨v,e,r.mono k⟩⟩
 | ow ds=>obtain⟨a,xs,e1,e2,e3,r⟩:=h;subst e1;exact⟨a,xs,rfl,e2,k2 a (by simp) _ e3,r.mono k⟩
 | bx t=>cases nb
 | dk ks ds=>obtain⟨a,vs,e1,e2,e3,e4,r⟩:=h;subst e1;exact⟨a,vs,rfl,e2,k2 a (by simp) _ e3,e4,r.mono k⟩
 | ob R=>obtain⟨v,e,r⟩:=h;exact⟨v,e,R.st r (fun a ha u q=>k2 a ha _ q) k⟩
 | fn f=>exact h
section
variable {X : Cx} {e : Expr} {es : List Expr} {t : bj} {th : CV}
def MI:CV:=fun δ Q=>Q [] δ
def QS(t:p6)(th:CV):CV:=fun δ Q=>t δ fun ds δ1=>th δ1 fun ss δ2=>Q (.ow ds::ss) δ2
theorem Iz:Hv X [] MI:=PA.imp aN fun σ H Q cu=>(by obtain⟨W,M,α,δ,Qd,E,q,k⟩:=cu;exact(k _ _ _ _ _ _ q E b7.rf (fun _ z=>z) (fun _ z=> .inl z) .nil (fun a ha=>absurd ha SH)))
theorem av.hold(E:av W M α H σ δ)(hp:H p=none)(hu: ∀xs,u≠ .tup xs):av W (fun b=>M b\/b=p) α (upd H p u) σ δ/\rD W (fun b=>M b\/b=p) α p:=by
 have sm:ay H (upd H p u):=ay.new hp;have np:p∉α.flatten:=fun z=>E.fresh hp (E.mu p z);have h0: ∀W'∈W,W'.H0 p=none:=fun W' hW=>by
  cases e:W'.H0 p with
  | none=>rfl
  | some o=>exact absurd hp ((E.w W' hW).ex p (by rw[e];intro z;cases z))
 refine⟨⟨E.ls,E.la,fun j s hj=>let ⟨o,as,h1,h2,h3⟩:=E.sl j s hj;⟨o,as,h1,h2,h3.grow hp⟩,E.nd,fun a h=> .inl (E.mu a h),fun a ha=>?_,fun W' hW=>?_⟩,⟨.inr rfl,np,fun W' hW=>⟨.inr (h0 W' hW),fun z=>E.fresh hp ((E.w W' hW).m0 p z)⟩⟩⟩
 . rcases ha with ha | ha
   . obtain⟨o,e,n⟩:=E.al a ha;exact⟨o,sm _ _ e,n⟩
   . subst ha;exact⟨u,ae,hu⟩
 . have k:=E.w W' hW;exact⟨fun b o e n=>sm _ _ (k.bs b o e n),fun b n y=>k.ex b n (LW.ay.none sm y),k.fr,fun a h=> .inl (k.m0 a h),fun a h=>h.elim (k.m1 a) fun z=> .inr (by rw[z];exact h0 W' hW),k.bx,k.fz⟩
theorem uM(hp:H1 p=none)(E1:av W M α H1 σ δ1)(hd:rD W (fun b=>M b\/b=p) α p)(hs:nK (fun b=>M b\/b=p) (upd H1 p u) (some (.ref p)) s [p])(nb:s.cO=false)(E2:av W M' α H2 σ δ2)(c2:b7 α (upd H1 p u) H2)(m1: ∀a,(M a\/a=p)->M' a)(m2: ∀a,M' a->(M a\/a=p)\/(upd H1 p u) a=none)(hh:rE W M' α H2 vs ss bs)(hb: ∀a∈bs,¬(M a\/a=p)):rE W M' α H2 (.ref p::vs) (s::ss) ([p]++bs):=
 rE.cons ⟨nb,hs.keep (fun b w e n=>⟨c2 _ _ e fun z=>n (.inl (E1.mu b z)),fun z=>(m2 b z).elim n fun y=>by rw[e] at y;cases y⟩) (fun a ha w e=>c2 _ _ e (by rw[SS.mp ha];exact hd.n)) nb⟩
  (fun a ha=>by rw[SS.mp ha];exact⟨m1 p (.inr rfl),hd.n,hd.w⟩) (by simp) (fun a ha=>by rw[SS.mp ha];exact fun z=>hb p z (.inr rfl)) hh
theorem HK{α:List (List Addr)}{M M':Addr->Prop}(mu: ∀a∈α.flatten,M a)(c1:b7 α H H1)(h1:H1 p=none)(m2:M' a->(M a\/a=p)\/(upd H1 p u) a=none)(z:M' a):M a\/H a=none:=by
 cases e:H a with
 | none=>exact .inr rfl
 | some o=>
  by_cases hf:a∈α.flatten
  . exact .inl (mu a hf)
  . have e1:=c1 _ _ e hf;rcases m2 z with (y | y) | y
    . exact .inl y
    . subst y;rw[h1] at e1;cases e1
    . rw[ag (aq e1 h1),e1] at y;cases y
theorem Iy{t:p6}(ha:Ov X e t)(hr:Hv X es th)(hs:starEach (e::es) X.env=(false,eval e X.env)::starEach es X.env:=by rfl):Hv X (e::es) (QS t th):=PA.imp (az ha hr hs) fun σ H Q cu=>(by obtain⟨W,M,α,δ,Qd,E,q,k⟩:=cu;exact(
 ⟨W,M,α,δ,_,E,q,fun ds δ1 H1 xs p q1 E1 c1 r1 h1=>by
  have sm:ay H1 (upd H1 p (.lst xs)):=ay.new h1;obtain⟨RG,hd⟩:=E1.hold (u:= .lst xs) h1 (fun xs z=>by cases z);refine⟨W,_,α,δ1,_,RG,q1,fun ss δ2 H2 vs M' bs q2 E2 c2 m1 m2 hh hb=>?_⟩;exact k _ _ _ _ _ _ q2 E2 ((c1.tr (b7.of sm)).tr c2) (fun a z=>m1 a (.inl z)) (fun a z=>HK E.mu c1 h1 (m2 a) z) (uM (s:= .ow ds) h1 E1 hd ⟨p,xs,rfl,rfl,ae,r1.grow h1⟩ rfl E2 c2 m1 m2 hh hb)
   (fun a ha=>by
    rcases Ts.mp ha with y | y
    . rw[SS.mp y];exact E1.fresh h1
    . exact fun z=>hb a y (.inl z))⟩))
end
theorem av.BZ(E:av Ws M α H σ δ)(h:O8 M H v s as)(hh: ∀a∈as,rD Ws M α a)(nd:as.Nodup)(ok:cX δ i):av Ws M (α.set i as) H (σ.set i (some v)) (δ.set i s):=by
 have hi:=ok.lt;obtain⟨s0,Gg,nb⟩:=ok;refine⟨by rw[Te,Te,E.ls],by rw[Te,Te,E.la],fun j s' hj=>?_,bP E.nd nd (fun x hx=>(hh x hx).n),fun a ha=>(aY ha).elim (E.mu a) fun z=>(hh a z).m,E.al,fun W hW=>?_⟩
 . by_cases bb:i=j
   . subst bb;rw[SR hi] at hj;cases hj;exact⟨some v,as,by rw[SR (by rw[E.ls];exact hi)],by rw[SR (by rw[E.la];exact hi)],h.2⟩
   . rw[SJ bb] at hj;obtain⟨o,as,h1,h2,h3⟩:=E.sl j s' hj;exact⟨o,as,by rw[SJ bb];exact h1,by rw[SJ bb];exact h2,h3⟩
 . have k:=E.w W hW;refine⟨k.bs,k.ex,fun a ha=>(aY ha).elim (k.fr a) fun z=>((hh a z).w W hW).1,k.m0,k.m1,fun d c e=>?_,fun j s Rl h1 h2 nb'=>?_⟩
   . obtain⟨t,e1,e2⟩:=k.bx d c e;have:i≠0:=fun z=>by subst z;rw[Gg] at e1;cases e1;cases nb
     exact⟨t,by rw[SJ this];exact e1,by rw[SJ this];exact e2⟩
   . by_cases bb:i=j
     . subst bb;rw[SR (by rw[E.la];exact hi)] at h2;cases h2;exact fun a ha=>((hh a ha).w W hW).2
     . rw[SJ bb] at h1 h2;exact k.fz j s Rl h1 h2 nb'
theorem rD.set(h:rD Ws M α a)(n:a∉as):rD Ws M (α.set i as) a:=⟨h.m,fun z=>(aY z).elim h.n n,h.w⟩
section
variable {X : Cx} {a b c : Expr} {pos : Pos} {th : CV}
inductive Bx(i:Nat)(j:Nat)(Δ:eO)(ss:List Sl)(δ':List Sl):Prop
 | mk (s1 s2:_) (h1:ss= [s1,s2]) (h2:cX δ' i) (h3:cX (δ'.set i s1) j) (h4:Δ.nx ((δ'.set i s1).set j s2))
def Jc(i j:Nat)(th:CV):iY:=fun Δ δ=>th δ fun ss δ'=>Bx i j Δ ss δ'
theorem Di(i j:Nat){kt k2 DC}(hc:X.calm=true)(hN:X.N.Nodup)(ha:Hv X [a,b] th)(hi:X.N[i]?=some x:=by rfl)(hj:X.N[j]?=some y:=by rfl)(bb:i≠j:=by decide)(hx:X.env.scope.names.lookup x=some .local:=by rfl)(hy:X.env.scope.names.lookup y=some .local:=by rfl)(hw:swappedStores [.Tuple [.Name x px, .Name y py] kt pt] (.Tuple [a,b] k2 DC) X.env=pure (some [x,y]):=by rfl)(hs:swapsWithSole [.Tuple [.Name x px, .Name y py] kt pt] (.Tuple [a,b] k2 DC) pos.line X.env=pure false:=by rfl):
  Ex X (.Assign [.Tuple [.Name x px, .Name y py] kt pt] (.Tuple [a,b] k2 DC) pos) (Jc i j th):=PS.imp (DD hc hN hi hj bb hx hy ha hw hs) fun D σ H mm=>(by obtain⟨Ws,M,α,δ,Δ,E,L,q⟩:=mm;exact(
 ⟨Ws,M,α,δ,_,E,q,fun ss δ' H' vs M' bs hU E1 c1 m1 m2 hh hb=>(by obtain⟨s1,s2,e,LJ,LI,q1⟩:=hU;exact(by
  subst e;cases hh with
  | cons h1 h2 h3 h4 h5=>
   cases h5 with
   | cons g1 g2 g3 g4 g5=>
    cases g5;rename_i v1 Sv v2 pM;have Ea:=E1.BZ h1 h2 h3 LJ;have Eb:=Ea.BZ (i:=j) g1 (fun a ha=>(g2 a ha).set fun z=>h4 a z (by simpa using ha)) g3 LI;exact⟨_,_,rfl,L.nx _ _ _ _ _ Eb q1⟩))⟩))
end
noncomputable def HQ:Dt->Option Key
 | .int i=>some (.inl i)
 | .str x=>some (.inr x)
 | _=>none
theorem sJ(r:Rep M H v d)(h:HQ d=some k):v=kV k:=by
 cases r <;> first | (cases h;rfl) | cases h
noncomputable def iP:List Key->List Dt->Key->Option Dt
 | k'::ks,d::ds,k=>if k'=k then some d else iP ks ds k
 | _,_,_=>none
instance {k:Key} {ks:List Key}:Decidable (k∈ks):=decidable_of_iff ((ks.any fun x=>decide (x=k))=true) (by simp)
theorem mB: ∀{vs:List (Key × V)} {ds:List Dt},ax M H (vs.map (·.2)) ds->(∀d,iP (vs.map (·.1)) ds k=some d-> ∃v,eU vs k=some v/\Rep M H v d)/\(iP (vs.map (·.1)) ds k).isSome=(eU vs k).isSome
 | [],ds,r=>by
  refine⟨fun d h=>?_,?_⟩
  . cases ds <;> simp [iP] at h
  . cases ds <;> rfl
 | p::vs,[],r=>by have:=r.1;simp at this
 | p::vs,d0::ds,r=>by
  obtain⟨x,ys,e,r1,r2⟩:=r.aK;cases e;obtain⟨i1,i2⟩:=mB (k:=k) r2;rw[Ti];by_cases h:p.1=k
  . rw[gE h,iP,if_pos h];exact⟨fun d e=>by cases e;exact⟨_,rfl,r1⟩,rfl⟩
  . rw[gG h,iP,if_neg h];exact⟨i1,i2⟩
theorem tJ: ∀{vs:List (Key × V)},(vs.any fun kv=>decide (kv.1=k))=decide (k∈vs.map (·.1))
 | []=>by simp
 | p::vs=>by
  rw[Ve,tJ,Ti];by_cases h:p.1=k
  . subst h;simp
  . simp [h,Ne.symm h]
theorem av.dk{i:Nat}(E:av Ws M α H σ δ)(h:δ[i]?=some (.dk ks ds)): ∃a vs,σ[i]?=some (some (.ref a))/\α[i]?=some [a]/\H a=some (.dK vs)/\vs.map (·.1)=ks/\ax M H (vs.map (·.2)) ds:=by
 obtain⟨o,as,h1,h2,a,vs,rfl,rfl,e,e2,r⟩:=E.sl i _ h;exact⟨a,vs,h1,h2,e,e2,r⟩
theorem Fi{vs':List (Key × V)}(E:av Ws M α H σ δ)(h:δ[i]?=some (.dk ks ds))(h1:σ[i]?=some (some (.ref a)))(h2:α[i]?=some [a])(e:vs'.map (·.1)=Qc)(r:ax M H (vs'.map (·.2)) Gq):
  av Ws M α (upd H a (.dK vs')) σ (δ.set i (.dk Qc Gq))/\b7 α H (upd H a (.dK vs')):=
 E.mod h h1 h2 rfl ⟨a,vs',rfl,rfl,ae,e,r.mono fun b u e n=>⟨by rw[ag (fun z=>n (by rw[z];exact E.mu a (bg h2 (by simp))))];exact e,n⟩⟩ (fun b u e n=>by rw[ag (fun z=>n (by rw[z];simp))];exact e) (fun b hb=>by rw[SS.mp hb];exact⟨_,ae,fun xs z=>by cases z⟩)
section
variable {X : Cx} {st : Stmt} {rest : List Stmt} {T : iY} {a b c e : Expr} {ta tb tv t : bj} {pos : Pos}
inductive FC(neg:Bool)(Q:Dt->List Sl->Prop)(d2:Dt)(d1:Dt)(δ2:List Sl):Prop
 | mk (ks ds k:_) (h1:d1= .kx ks ds) (h2:HQ d2=some k) (h3:Q (.bl (if neg then !(iP ks ds k).isSome else(iP ks ds k).isSome)) δ2)
def BC(neg:Bool)(tb ta:bj):bj:=fun δ Q=>tb δ fun d2 δ1=>ta δ1 fun d1 δ2=>FC neg Q d2 d1 δ2
theorem yL: ∀σ H Q,lE (BC false tb ta) σ H Q->GX (lE tb) (lE ta) σ H Q:=fun σ H Q mi=>(by obtain⟨W,M,α,δ,Qd,E,q,k⟩:=mi;exact(
 ⟨W,M,α,δ,_,E,q,fun d2 δ1 H1 y q1 E1 c1 r1=>⟨W,M,α,δ1,_,E1,q1,fun d1 δ2 H2 x dW E2 c2 r2=>(by obtain⟨ks,ds,kk,e,hk,q2⟩:=dW;exact(by
  subst e;obtain⟨a,vs,rfl,ha,n,e2,rr⟩:=r2.Ca;subst e2;rw[sJ r1 hk];exact⟨a,_,rfl,gC.k ha,by rw[<-(mB rr).2];exact k _ _ _ _ q2 E2 (c1.tr c2) (.bl _)⟩))⟩⟩))
theorem pA: ∀σ H Q,lE (BC true tb ta) σ H Q->rP (lE tb) (lE ta) σ H Q:=fun σ H Q dU=>(by obtain⟨W,M,α,δ,Qd,E,q,k⟩:=dU;exact(
 ⟨W,M,α,δ,_,E,q,fun d2 δ1 H1 y q1 E1 c1 r1=>⟨W,M,α,δ1,_,E1,q1,fun d1 δ2 H2 x mz E2 c2 r2=>(by obtain⟨ks,ds,kk,e,hk,q2⟩:=mz;exact(by
  subst e;obtain⟨a,vs,rfl,ha,n,e2,rr⟩:=r2.Ca;subst e2;rw[sJ r1 hk];exact⟨a,_,rfl,gC.k ha,by rw[<-(mB rr).2];exact k _ _ _ _ q2 E2 (c1.tr c2) (.bl _)⟩))⟩⟩))
theorem GL(hu:X.A.units+1 < cLine)(hb:Ev X b tb)(ha:Ev X a ta)(h1:behindInMarks .In a=false:=by rfl):Tv X (.Compare b [.In] [a] pos) (dT (BC false tb ta)):=PT.imp (qt (DX hu hb ha) h1) fun σ H Q h=>yL _ _ _ (bL _ _ _ h)
theorem we(hu:X.A.units+1 < cLine)(hb:Ev X b tb)(ha:Ev X a ta)(h1:behindInMarks .NotIn a=false:=by rfl):Tv X (.Compare b [.NotIn] [a] pos) (dT (BC true tb ta)):=PT.imp (qt (uo hu hb ha) h1) fun σ H Q h=>pA _ _ _ (bL _ _ _ h)
end
def om(K:PySem.W.Frag):Sp:=fun vs H Q _=> ∃(a:Addr) (ns:List Int),vs= [.ref a]/\cf K H a (ns.map V.int)/\ns.length<=63/\ ∀H',Q (.bl true) H'
def wc:DB:=fun t ds Q=> ∃m,ds= [.int m]/\t < 1000000/\0 < m/\m < 2^64/\ ∀r,0<=r->r < m->Q (.int r) (t+1)
theorem z0(h:G2 wc vs H Q E):wA vs H Q E:=by
 obtain⟨M,d,c,t,ws,ds,Qd,rfl,al,md,mc,B,r,⟨m,rfl,t1,m0,m1,q⟩,k⟩:=h;obtain⟨x,ys,rfl,r1,r2⟩:=r.aK;cases r2.fS;cases r1.ofInt;exact⟨d,c,t,m,rfl,B,t1,m0,m1,fun r H' r0 r1 B' kp=>k _ _ _ _ (q r r0 r1) kp B' (.int r)⟩
section
variable {P : Program} {w : World} {K : PySem.W.Frag} {mg : Str -> Option Value} {base : Heap}
theorem HN {st : Stmt} {k : Nat} (F : g8 K "law" "law" st f fd) (sc : aE N ["_law_script"] (ab st)) (hN : 2 <= N.length) (gR : ∀ (b5 : Value) (A : Around) (outer : List Env) (s : Shared) (H : Hp) (E : XK), bB k (A.deeper (envOfC "law" (ab st) s.heap.objs.size f b5)) ->
   ∃s1 rest T,cj st=s1::rest/\PS (kz eI P w K mg base N "law" (ab st) f b5 A outer s H E).xA s1 (t7 (rQ (mG K) [] E0 (kS (iR 0) qi)) (cn 1))/\zF (kz eI P w K mg base N "law" (ab st) f b5 A outer s H E).xA rest T/\
    T {nx:=fun _=>False,rt:=fun d _=>d= .bl true} (.no:: .bx 0::List.replicate (N.length - 2) .no)):aV P w K mg base eI (k+1) f fd ["_law_script"] (om K):=by
 refine F.ok sc (fun vs H Q E h=>?_) (fun b5 A outer s H vs Q E hr h=>?_)
 . obtain⟨a,ns,rfl,_⟩:=h;rfl
 . obtain⟨a,ns,rfl,hS,hlen,q⟩:=h;obtain⟨s1,rest,T,e,h1,h2,hT⟩:=gR b5 A outer s H E hr;rw[e];refine⟨_,bF h1 h2,?_⟩;have es:L2.start N [V.ref a]=some (.ref a)::none::List.replicate (N.length - 2) none:=by
    unfold L2.start;rw[show N.length - [V.ref a].length=(N.length - 2)+1 by show N.length - 1=_;omega,U3];rfl
   rw[es];refine⟨_,rfl,a,ns,rfl,hS,hlen,fun d c H1 B1 RN=>?_⟩;have bW:(([]:List Addr):: [d,c]::List.replicate (N.length - 2) []).flatten= [d,c]:=by simp
   refine⟨[],fun b=>b=d\/b=c,[]:: [d,c]::List.replicate (N.length - 2) [], .no:: .bx 0::List.replicate (N.length - 2) .no,_,?_,?_,hT⟩
   . refine⟨by simp,by simp,fun i s' hi=>?_,by rw[bW];simp [B1.ne],fun b hb=>by rw[bW] at hb;simpa using hb,fun b hb=>?_,fun W hW=>absurd hW SH⟩
     . match i with
       | 0=>cases hi;exact⟨_,_,rfl,rfl,rfl⟩
       | 1=>cases hi;exact⟨_,_,rfl,rfl,d,c,rfl,rfl,B1⟩
       | i+2=>
        have iy:(List.replicate (N.length - 2) Sl.no)[i]?=some s':=by simpa using hi
        rw[S6] at iy;split at iy
        . rename_i di;cases iy;refine⟨none,[],?_,?_,rfl⟩
          . show(List.replicate (N.length - 2) (none:Option V))[i]?=_;rw[S6,if_pos di]
          . show(List.replicate (N.length - 2) ([]:List Addr))[i]?=_;rw[S6,if_pos di]
        . cases iy
     . rcases hb with rfl | rfl
       . exact⟨_,B1.dc,fun xs z=>by cases z⟩
       . obtain⟨ns,h,_⟩:=B1.cs;exact⟨_,h,fun xs z=>by cases z⟩
   . exact⟨fun _ _ _ _ _ _ z=>z.elim,fun M' α' H' σ' δ' v dd E' r' z=>by subst z;rw[r'.mU];exact q H',fun _ _ _ _ _ _ z=>z.elim,fun _ _ _ _ _ _ z=>z.elim⟩
end
section
variable {X : Cx} {a b c e : Expr} {es : List Expr} {ta tb tc t : bj} {tA : eG} {pos p : Pos}
def qY(R R':D2)(ta tb tc:bj):bj:=fun δ Q=>ta δ fun d1 δ1=>tb δ1 fun d2 δ2=>R d1 d2 fun d=> ∃k,d= .bl k/\(if k=true then tc δ2 fun d3 δ3=>R' d2 d3 fun d'=>Q d' δ3 else Q (.bl false) δ2)
theorem rg(hd:p8 r R)(Iq:p8 r' R'): ∀σ H Q,lE (qY R R' ta tb tc) σ H Q->wo r r' (lE ta) (lE tb) (lE tc) σ H Q:=fun σ H Q cu=>(by obtain⟨W,M,α,δ,Qd,E,q,k⟩:=cu;exact(
 ⟨W,M,α,δ,_,E,q,fun d1 δ1 H1 x q1 E1 c1 r1=>⟨W,M,α,δ1,_,E1,q1,fun d2 δ2 H2 y q2 E2 c2 r2=>hd M H2 x y d1 d2 _ _ E2.al (r1.chg E1 c2) r2 q2 fun H3 v d fQ s r3=>(by obtain⟨kk,e,q3⟩:=fQ;exact(by
  subst e;refine⟨kk,r3.mU,?_⟩;have E3:=E2.same s;cases kk with
  | true=>
   rw[if_pos rfl] at q3 ⊢;exact⟨W,M,α,δ2,_,E3,q3,fun d3 δ3 H4 z q4 E4 c4 r4=>Iq M H4 y z d2 d3 _ _ E4.al ((r2.same s).chg E3 c4) r4 q4 fun H5 v d q5 s5 r5=>k _ _ _ _ q5 (E4.same s5) ((((c1.tr c2).tr (b7.of s)).tr c4).tr (b7.of s5)) r5⟩
  | false=>
   rw[if_neg SG] at q3 ⊢;exact k _ _ _ _ q3 E3 ((c1.tr c2).tr (b7.of s)) (.bl _)))⟩⟩))
theorem Aa(ho:eS X (compareOp op) r)(xW:eS X (compareOp Hy) r')(hd:p8 r R)(Iq:p8 r' R')(ha:Ev X a ta)(hb:Ev X b tb)(hc:Ev X c tc)(hm:lastMarks [op,Hy] [b,c]=false:=by with_unfolding_all rfl):
  Tv X (.Compare a [op,Hy] [b,c] pos) (dT (qY R R' ta tb tc)):=PT.imp (w6 ho xW ha hb hc hm) fun σ H Q h=>rg hd Iq _ _ _ (bL _ _ _ h)
theorem ints_rep: ∀{xs:List V} {ns:List Int},ax M H xs (ns.map .int)->xs=ns.map V.int
 | [],[],_=>rfl
 | [],_::_,h=>by have:=h.1;simp at this
 | _::_,[],h=>by have:=h.1;simp at this
 | x::xs,n::ns,h=>by
  rw[Ti] at h;obtain⟨y,ys,e,r1,r2⟩:=h.aK;cases e;rw[r1.ofInt,ints_rep r2,Ti]
theorem jm: ∀{ns:List Int},ax M H (ns.map V.int) (ns.map .int)
 | []=> .nil
 | n::ns=> .cons (.int n) jm
theorem g0:bootBuiltins "sorted"=some (.builtin "sorted"):=by decide+kernel
theorem vt:bootBuiltins "max"=some (.builtin "max"):=by decide+kernel
theorem vq:bootBuiltins "min"=some (.builtin "min"):=by decide+kernel
theorem vx:bootBuiltins "all"=some (.builtin "all"):=by decide+kernel
theorem bI(h:ax M H xs [d]): ∃x,xs= [x]/\Rep M H x d:=by
 obtain⟨x,ys,rfl,r1,r2⟩:=h.aK;cases r2.fS;exact⟨x,rfl,r1⟩
theorem iB: ∀{xs:List V} {ns:List Bool},ax M H xs (ns.map .bl)->xs=ns.map V.bl
 | [],[],_=>rfl
 | [],_::_,h=>by have:=h.1;simp at this
 | _::_,[],h=>by have:=h.1;simp at this
 | x::xs,n::ns,h=>by
  rw[Ti] at h;obtain⟨y,ys,e,r1,r2⟩:=h.aK;cases e;rw[r1.mU,iB r2,Ti]
inductive JO(ds:List Dt)(Q:Dt->Prop):Prop
 | mk (bs:List Bool) (h1:ds= [.lst (bs.map .bl)]) (h2:Q (.bl (bs.all id)))
theorem CG(hc:X.calm=true)(hm:X.mg "all"=none)(ha:Av X [e] tA)(hg:Gl X "all":=by rfl)(he:starEach [e] X.env=(false,eval e X.env)::starEach [] X.env:=by rfl)(cv:(backTo pos (starEach [] X.env)).any (·.1)=false:=by rfl):
  Ev X (.Call (.Name "all" p) [e] [] pos) (zc JO tA):=fO (zk hc) (fun M H xs ds Qd Q al r hU k=>(by obtain⟨bs,e,q⟩:=hU;exact(by
 subst e;obtain⟨x,rfl,r1⟩:=bI r;obtain⟨a,zs,rfl,ha,n,rr⟩:=r1.b6;rw[iB rr] at ha;exact⟨a,bs,rfl,cf.of ha,k H _ _ q (fun _ _ z=>z) (.bl _)⟩))) hg hm vx ha (by decide) (by decide) he cv
def ON(R:Dt->List Dt->(Dt->Prop)->Prop)(ta:bj)(tA:eG):bj:=fun δ Q=>ta δ fun d δ1=>(∃ds,d= .tup ds)/\tA δ1 fun es δ2=>R d es fun r=>Q r δ2
inductive BP(d:Dt)(es:List Dt)(Q:Dt->Prop):Prop
 | mk (ds x:_) (h1:d= .tup ds) (h2:es= [x]) (h3:bQ x=true) (h4:ds.all bQ=true) (h5:Q (.int (ds.countP fun z=>yB z x:Nat)))
theorem lR(ry:Rep M H y x)(fx:bQ x=true): ∀{xs:List V} {ds:List Dt},ax M H xs ds->ds.all bQ=true->xs.countP (fun z=>kq z y)=ds.countP fun z=>yB z x
 | [],[],_,_=>rfl
 | [],_::_,h,_=>by have:=h.1;simp at this
 | _::_,[],h,_=>by have:=h.1;simp at this
 | v::xs,d::ds,h,hf=>by
  obtain⟨w,ws,e,r1,r2⟩:=h.aK;cases e;rw[List.all_cons,T9] at hf;rw[List.countP_cons,List.countP_cons,lR ry fx r2 hf.2,nk r1 ry hf.1 fx]
end
section
variable {X : Cx} {a b c e : Expr} {es : List Expr} {ta tb tc t : bj} {tA : eG} {pos p apos ba : Pos}
theorem AU{r:V->List V->Hp->VK->Prop}{R:Dt->List Dt->(Dt->Prop)->Prop}{K:PySem.W.Frag}(hd: ∀(M:Addr->Prop) (H:Hp) (x:V) (xs:List V) (d:Dt) (ds:List Dt) (Qd:Dt->Prop) (Q:VK),hC M H->Rep M H x d->ax M H xs ds->R d ds Qd->(∀H' v d,Qd d->ay H H'->Rep M H' v d->Q v H')->r x xs H Q):
  ∀σ H Q,lE (ON R ta tA) σ H Q->NS K "tuple" r (lE ta) (lA tA) σ H Q:=fun σ H Q cu=>(by obtain⟨W,M,α,δ,Qd,E,q,k⟩:=cu;exact(
 ⟨W,M,α,δ,_,E,q,fun d δ1 H1 x fQ E1 c1 r1=>(by obtain⟨⟨ds,e⟩,q1⟩:=fQ;exact(by
  subst e;obtain⟨a,xs,rfl,ha,n,rr⟩:=r1.bM;refine⟨.inr (.inr (.inr (.inr ⟨rfl,xs,ha⟩))),W,M,α,δ1,_,E1,q1,fun es δ2 H2 ys q2 E2 c2 r2=>?_⟩;exact hd M H2 _ ys _ es _ _ E2.al (r1.chg E1 c2) r2 q2 fun H3 v d q3 s r3=>k _ _ _ _ q3 (E2.same s) ((c1.tr c2).tr (b7.of s)) r3))⟩))
theorem Bu(ha:Ev X a ta)(hA:Av X [e] tA)
  (dH:attributeBase a "count" X.env (eval a X.env)=eval a X.env:=by rfl)
  (m7:((backTo ba (starEach [e] X.env)).all (fun x=>!x.1) && (backToKw ba (keywordEach [] X.env)).all (fun x=>x.1.isSome) && decide ([e].length+([]:List Keyword).length+(if ([]:List Keyword).isEmpty then 0 else 1) < 30))=true:=by rfl)
  (dG:(apos.endLine==ba.line)=true:=by rfl) (hs:starEach [e] X.env=(false,eval e X.env)::starEach [] X.env:=by rfl) (eu:(backTo ba (starEach [] X.env)).any (·.1)=false:=by rfl):
  Ev X (.Call (.Attribute a "count" apos) [e] [] ba) (ON BP ta tA):=
 PE.imp (si PySem.F.plainAttrs_tuple PySem.F.slot_tuple_count PySem.F.type_tuple_count uA ha hA dH m7 dG hs eu) (AU fun M H x xs d ds Qd Q al r1 r2 gD k=>(by obtain⟨es,y,e1,e2,f1,f2,q⟩:=gD;exact(by
  subst e1;subst e2;obtain⟨a,zs,rfl,ha,n,rr⟩:=r1.bM;obtain⟨v,rfl,rv⟩:=bI r2;exact⟨a,zs,v,rfl,rfl,ha,fD rv f1,lF rr f2,by rw[lR rv f1 rr f2];exact k H _ _ q (fun _ _ z=>z) (.int _)⟩)))
inductive Fy(i:Nat)(Q:Dt->List Sl->Prop)(es:List Dt)(δ':List Sl):Prop
 | mk (ds zs:_) (h1:es= [.lst zs]) (h2:δ'[i]?=some (.ow ds)) (h3:ds.length+zs.length<=sizeLine) (h4:Q .aI (δ'.set i (.ow (ds++zs))))
def Np(i:Nat)(t:eG):bj:=fun δ Q=>(∃Cv,δ[i]?=some (.ow Cv))/\t δ fun es δ'=>Fy i Q es δ'
theorem yT(i:Nat)(ho:PE X (.Name x xp) (iR i))(ha:Av X [e] tA)(dH:attributeBase (.Name x xp) "extend" X.env (eval (.Name x xp) X.env)=eval (.Name x xp) X.env:=by rfl)(m7:((backTo ba (starEach [e] X.env)).all (fun x=>!x.1) && (backToKw ba (keywordEach [] X.env)).all (fun x=>x.1.isSome) && decide ([e].length+([]:List Keyword).length+(if ([]:List Keyword).isEmpty then 0 else 1) < 30))=true:=by rfl)(dG:(apos.endLine==ba.line)=true:=by rfl)(hs:starEach [e] X.env=(false,eval e X.env)::starEach [] X.env:=by rfl)(eu:(backTo ba (starEach [] X.env)).any (·.1)=false:=by rfl):
  Ev X (.Call (.Attribute (.Name x xp) "extend" apos) [e] [] ba) (Np i tA):=
 PE.imp (si V7 PySem.F.slot_list_extend PySem.F.type_list_extend uz ho ha dH m7 dG hs eu) fun σ H Q kd=>(by obtain⟨W,M,α,δ,Qd,E,⟨⟨Cv,h0⟩,q⟩,k⟩:=kd;exact(by
  obtain⟨a,Pr,h1,h2,h3,r3⟩:=E.ow h0;refine⟨_,h1, .inl ⟨rfl,_,cf.of h3⟩,W,M,α,δ,_,E,q,fun es δ' H' vs hU E1 c1 r1=>?_⟩;obtain⟨ds,zs,e,hd,l,q1⟩:=hU;subst e;obtain⟨y,rfl,ry⟩:=bI r1;obtain⟨b,ws,rfl,hb,nb,rb⟩:=ry.b6;obtain⟨a',xs,sQ,vN,ET,Hj⟩:=E1.ow hd;rw[h1] at sQ;cases sQ;refine⟨a,b,xs,ws,rfl,rfl,ET,hb,by rw[Hj.1,rb.1];exact l,?_⟩;obtain⟨E2,c2⟩:=mQ E1 hd h1 vN (Hj.append rb);exact k _ _ _ _ q1 E2 (c1.tr c2) .aI))
inductive y6(Q:List Dt->List Sl->Prop)(es:List Dt)(ks:List Dt)(δ2:List Sl):Prop
 | mk (ds:_) (h1:es= [.tup ds]) (h2:ks= [.int 1]) (h3:Q (dM 1 ds) δ2)
def y8(tA tk:eG):p7:=fun δ Q=>tA δ fun es δ1=>tk δ1 fun ks δ2=>y6 Q es ks δ2
theorem A9{x1}(hm:X.mg "enumerate"=none)(ha:Av X [e] tA)(hk:PK X k6 tk)(QG: ∀σ H Q,lA PB σ H Q->tk σ H Q)(hg:Gl X "enumerate":=by rfl)(Ij:(backToKw pos (keywordEach k6 X.env)).filterMap (·.1)=(["start"]:List Str):=by rfl)(k1:backTo pos (starEach [e] X.env)=(false,eval e X.env)::backTo pos (starEach [] X.env):=by rfl)(k2:(backTo pos (starEach [e] X.env)).any (·.1)=false:=by rfl)(k3:(backToKw pos (keywordEach k6 X.env)).all (·.1.isSome)=true:=by rfl)(k4:(backToKw pos (keywordEach k6 X.env)).any (·.1.isNone)=false:=by rfl):Iv X (.Tuple es x1 tp) (.Call (.Name "enumerate" p) [e] k6 pos) (y8 tA PB):=
 PI.imp (xb hg hm ha hk Ij k1 k2 k3 k4) fun σ H R mj=>(by obtain⟨W,M,α,δ,Qd,E,q,k⟩:=mj;exact(⟨W,M,α,δ,_,E,q,fun es δ1 H1 vs q1 E1 c1 r1=>QG _ _ _ ⟨W,M,α,δ1,_,E1,q1,fun ks δ2 H2 zs tP E2 c2 r2=>(by obtain⟨ds,e1,e2,q2⟩:=tP;exact(by
  subst e1;subst e2;obtain⟨x,rfl,rx⟩:=bI (r1.chg E1 c2);obtain⟨y,rfl,ry⟩:=bI r2;cases ry.ofInt;obtain⟨a,xs,rfl,ha,n,rr⟩:=rx.bM;exact⟨a,rfl,rfl,⟨xs,cS.of ha⟩,k _ _ _ _ q2 E2 (c1.tr c2) (rG ha n rr)⟩))⟩⟩))
theorem vc: ∀σ H Q,lA (za t BA) σ H Q->kS (lE t) qi σ H Q:=fun σ H Q mi=>(by obtain⟨W,M,α,δ,Qd,E,q,k⟩:=mi;exact(⟨W,M,α,δ,_,E,q,fun d δ1 H1 x q1 E1 c1 r1=>k _ _ _ _ q1 E1 c1 (.one r1)⟩))
theorem A8{x1}(hm:X.mg "enumerate"=none)(ha:Av X [e] tA)(hf:Ev X f t)(hg:Gl X "enumerate":=by rfl)(Ij:(backToKw pos (keywordEach [⟨nm,f,A3⟩] X.env)).filterMap (·.1)=(["start"]:List Str):=by rfl)(k1:backTo pos (starEach [e] X.env)=(false,eval e X.env)::backTo pos (starEach [] X.env):=by rfl)(k2:(backTo pos (starEach [e] X.env)).any (·.1)=false:=by rfl)(k3:(backToKw pos (keywordEach [⟨nm,f,A3⟩] X.env)).all (·.1.isSome)=true:=by rfl)(k4:(backToKw pos (keywordEach [⟨nm,f,A3⟩] X.env)).any (·.1.isNone)=false:=by rfl):Iv X (.Tuple es x1 tp) (.Call (.Name "enumerate" p) [e] [⟨nm,f,A3⟩] pos) (y8 tA (za t BA)):=
 A9 hm ha (AE hf DJ) vc hg Ij k1 k2 k3 k4
inductive Bz(neg:Bool)(Q:Dt->List Sl->Prop)(d:Dt)(δ':List Sl):Prop
 | mk (ds:_) (h1:d= .lst ds) (h2:Q (.bl (if neg then !ds.isEmpty else ds.isEmpty)) δ')
def yZ(neg:Bool)(ta:bj):bj:=fun δ Q=>ta δ fun d δ'=>Bz neg Q d δ'
theorem kZ(hr: ∀(H:Hp) (Q:VK) (p q:Addr) (xs:List V),H p=some (.lst xs)->H q=some (.lst [])->Q (.bl (if neg then !xs.isEmpty else xs.isEmpty)) H->r (.ref p) (.ref q) H Q): ∀σ H Q,lE (yZ neg ta) σ H Q->F5 r (lE ta) (GR qi) σ H Q:=fun σ H Q dW=>(by obtain⟨W,M,α,δ,Qd,E,q,k⟩:=dW;exact(
 ⟨W,M,α,δ,_,E,q,fun d δ1 H1 x dU E1 c1 r1=>(by obtain⟨ds,e,q1⟩:=dU;exact(⟨Tw _,fun p hp=>by
  subst e;obtain⟨a,xs,rfl,ha,n,rr⟩:=r1.b6;have s:ay H1 (upd H1 p (.lst [])):=ay.new hp;exact hr _ _ _ _ xs (s _ _ ha) ae (by rw[uY rr];exact k _ _ _ _ q1 (E1.same s) (c1.tr (b7.of s)) (.bl _))⟩))⟩))
theorem yA{K:PySem.W.Frag}: ∀(H:Hp) (Q:VK) (p q:Addr) (xs:List V),H p=some (.lst xs)->H q=some (.lst [])->Q (.bl (if false=true then !xs.isEmpty else xs.isEmpty)) H->rY K (.ref p) (.ref q) H Q:=fun H Q p q xs h1 h2 z=>⟨p,q,xs,rfl,rfl,cf.of h1,cf.of h2,z⟩
theorem yU(hu:X.A.units < cLine)(ha:Ev X a ta):Ev X (.Compare a [.Eq] [.List [] p2] pos) (yZ false ta):=PE.imp (mP (kY hu) ha (mO aN) (df _)) (kZ yA)
theorem oi(hu:X.A.units < cLine)(ha:Ev X a ta):Tv X (.Compare a [.Eq] [.List [] p2] pos) (dT (yZ false ta)):=PT.imp (mM (kY hu) ha (mO aN) (df _)) fun σ H Q h=>kZ yA _ _ _ (bL _ _ _ h)
end
end LD
namespace L2
open PySem PySem.Spec PyProof.Rows
theorem kB(it acc:Value)(env:Env):
  compTurn (.ListComp elt [⟨tg,iter,ifs,0⟩,⟨eJ,iter2,bK,0⟩] scope pos) 0 it acc env=(do
   standAt iter.pos
   match<-pyNext it with
   | none=>pure (.done .next)
   | some v=>
    letOwnedTupleGo tg it v
    assign tg env v
    let mut ok:=true
    for c in ifs do
     if ok then ok<-isTrue c env (eval c env)
    if ok then
     let x<-eval iter2 env
     standAt iter2.pos
     let x<-foldedSetIterable iter2 env x
     let _<-runOwn (.compStart (.ListComp elt [⟨tg,iter,ifs,0⟩,⟨eJ,iter2,bK,0⟩] scope pos) 1 (<-holding [x] (pyIter x)) acc env) env
    again (.compLoop (.ListComp elt [⟨tg,iter,ifs,0⟩,⟨eJ,iter2,bK,0⟩] scope pos) 0 it acc env)):=by rfl
theorem kA(it acc:Value)(env:Env):
  compTurn (.ListComp elt [⟨tg,iter,ifs,0⟩,⟨eJ,iter2,bK,0⟩] scope pos) 1 it acc env=(do
   standAt iter2.pos
   match<-pyNext it with
   | none=>pure (.done .next)
   | some v=>
    letOwnedTupleGo eJ it v
    assign eJ env v
    let mut ok:=true
    for c in bK do
     if ok then ok<-isTrue c env (eval c env)
    if ok then
     (do let _<-call (.builtin "list.append") [acc,<-eval elt env])
    again (.compLoop (.ListComp elt [⟨tg,iter,ifs,0⟩,⟨eJ,iter2,bK,0⟩] scope pos) 1 it acc env)):=by rfl
theorem kC (I : Nat -> Shared -> Prop) (turn : ∀ n s, I n s -> wpAny (model prog w) A (pyNext it) (fun r s₁ => match r with
   | none=>R (.ok .next) s₁
   | some v=>wpAny (model prog w) A (letOwnedTupleGo eJ it v) (fun _ s₀=>wpAny (model prog w) A (assign eJ env v) (fun _ s₂=>
     wpAny (model prog w) A (forIn bK true fun c r=>if r=true then do let ok<-isTrue c env (eval c env);pure (ForInStep.yield ok) else pure (ForInStep.yield r)) (fun ok s₃=>
      if ok=true then wpAny (model prog w) A (eval elt env) (fun x s₄=>
       wpAny (model prog w) A (call (.builtin "list.append") [acc,x]) (fun _ s₅=> ∃m,m < n/\I m s₅) (fun _ _=>False) s₄) (fun _ _=>False) s₃
      else∃m,m < n/\I m s₃) (fun _ _=>False) s₂) (fun _ _=>False) s₀) (fun _ _=>False) s₁) (fun _ _=>False) s) (n:Nat) (h:I n s):codeAny (model prog w) A (.compLoop (.ListComp elt [⟨tg,iter,ifs,0⟩,⟨eJ,iter2,bK,0⟩] scope pos) 1 it acc env) R s:=by
 refine codeAny_loop rfl I (fun n s hI=>?_) n h;show wpAny _ A ((compTurn (.ListComp elt [⟨tg,iter,ifs,0⟩,⟨eJ,iter2,bK,0⟩] scope pos) 1 it acc env).onRaise (fun x=>do noteFrame x env;theTreesLotGoes x)) _ _ s;refine wpAny_noted ?_;rw[kA];refine Sw (Ut (Sw (To (turn n s hI) (fun r s₁ h₁=>?_) fun _ _ h'=>h'.elim)));cases r with
 | none=>exact SA h₁
 | some v=>
  refine Sw (To h₁ (fun _ s₀ h₀=>?_) fun _ _ h'=>h'.elim);refine Sw (To h₀ (fun _ s₂ h₂=>Sw (To h₂ (fun ok s₃ h₃=>?_) fun _ _ h'=>h'.elim)) fun _ _ h'=>h'.elim);cases ok with
  | false=>exact SA ⟨rfl,h₃⟩
  | true=>
   exact Sw (Sw (To h₃ (fun x s₄ h₄=>Sw (To h₄ (fun _ s₅ h₅=>SA (SA ⟨rfl,h₅⟩)) fun _ _ h'=>h'.elim)) fun _ _ h'=>h'.elim))
theorem jY (h0 : codeAny (model prog w) A (.compLoop (.ListComp elt [⟨tg, iter, ifs, 0⟩, ⟨eJ, iter2, bK, 0⟩] scope pos) 1 it acc env) R s) (h : wpAny (model prog w) A (pyIter it) (fun L3 s' => codeAny (model prog w) A (.compLoop (.ListComp elt [⟨tg, iter, ifs, 0⟩, ⟨eJ, iter2, bK, 0⟩] scope pos) 1 L3 acc env) R s')
   (notedBy (model prog w) A env fun x s'=>R (.error x) s') s):
  codeAny (model prog w) A (.compStart (.ListComp elt [⟨tg,iter,ifs,0⟩,⟨eJ,iter2,bK,0⟩] scope pos) 1 it acc env) R s:=by
 refine VT ?_;show wpAny _ _ ((compStart (.ListComp elt [⟨tg,iter,ifs,0⟩,⟨eJ,iter2,bK,0⟩] scope pos) 1 it acc env).onRaise (fun x=>do noteFrame x env;standAt theWindowsPlace)) _ _ s;refine wpAny_notedAt ?_;unfold compStart;show wpAny _ _ (ask >>=_) _ _ s;refine Sw (wpAny_askSetting (wpAny_ite ?_));split
 . first
     | exact Sw (SA (SA (And.intro rfl h0)))
     | exact SA (And.intro rfl h0)
 . first
     | exact Sw (UG (Sw (Ut (Sw (To h (fun L3 s' h'=>SA (And.intro rfl h')) fun _ _ x=>x)))))
     | (refine Sw (UG ?_);show wpAny _ _ (standAt iter2.pos >>=_) _ _ s;exact Sw (Ut (Sw (To h (fun L3 s' h'=>SA (And.intro rfl h')) fun _ _ x=>x))))
theorem kE (I : Nat -> Shared -> Prop) (hs : ∀ x, foldedSetIterable iter2 env x = pure x) (turn : ∀ n s, I n s -> wpAny (model prog w) A (pyNext it) (fun r s₁ => match r with
   | none=>R (.ok .next) s₁
   | some v=>wpAny (model prog w) A (letOwnedTupleGo tg it v) (fun _ s₀=>wpAny (model prog w) A (assign tg env v) (fun _ s₂=>
     wpAny (model prog w) A (forIn ifs true fun c r=>if r=true then do let ok<-isTrue c env (eval c env);pure (ForInStep.yield ok) else pure (ForInStep.yield r)) (fun ok s₃=>
      if ok=true then wpAny (model prog w) A (eval iter2 env) (fun x s₄=>wpAny (model prog w) A (pyIter x) (fun L1 s₅=>
       codeAny (model prog w) A (.compStart (.ListComp elt [⟨tg,iter,ifs,0⟩,⟨eJ,iter2,bK,0⟩] scope pos) 1 L1 acc env) (fun r s₆=>r= .ok .next/\ ∃m,m < n/\I m s₆) s₅) (fun _ _=>False) s₄) (fun _ _=>False) s₃
      else∃m,m < n/\I m s₃) (fun _ _=>False) s₂) (fun _ _=>False) s₀) (fun _ _=>False) s₁) (fun _ _=>False) s) (n:Nat) (h:I n s):codeAny (model prog w) A (.compLoop (.ListComp elt [⟨tg,iter,ifs,0⟩,⟨eJ,iter2,bK,0⟩] scope pos) 0 it acc env) R s:=by
 refine codeAny_loop rfl I (fun n s hI=>?_) n h;show wpAny _ A ((compTurn (.ListComp elt [⟨tg,iter,ifs,0⟩,⟨eJ,iter2,bK,0⟩] scope pos) 0 it acc env).onRaise (fun x=>do noteFrame x env;theTreesLotGoes x)) _ _ s;refine wpAny_noted ?_;rw[kB];refine Sw (Ut (Sw (To (turn n s hI) (fun r s₁ h₁=>?_) fun _ _ h'=>h'.elim)));cases r with
 | none=>exact SA h₁
 | some v=>
  refine Sw (To h₁ (fun _ s₀ h₀=>?_) fun _ _ h'=>h'.elim);refine Sw (To h₀ (fun _ s₂ h₂=>Sw (To h₂ (fun ok s₃ h₃=>?_) fun _ _ h'=>h'.elim)) fun _ _ h'=>h'.elim);cases ok with
  | false=>exact SA ⟨rfl,h₃⟩
  | true=>
   refine Sw (To h₃ (fun x s₄ h₄=>Sw (Ut ?_)) fun _ _ h'=>h'.elim);rw[hs];refine Sw (SA ?_);refine Sw (T8 (To h₄ (fun L1 s₅ h₅=>?_) fun _ _ h'=>h'.elim));refine Sw (wpAny_runOwn (Vm h₅ fun r s₆ h₆=>?_));obtain⟨rfl,h₆⟩:=h₆;exact SA ⟨rfl,h₆⟩
def zE(n1 nt:Nat)(g:TG):Prop:= ∀v σ H (Q:St->Hp->Prop),g v σ H Q->g v σ H fun σ' H'=>Q σ' H'/\σ'.length=σ.length/\ ∀k,k < n1\/nt<=k->σ'[k]?=σ[k]?
theorem lC(h1:n1<=i:=by decide)(h:i < nt:=by decide):zE n1 nt (cn i):=fun v σ H Q q=>⟨q,by simp,fun k hk=>by rw[SJ (by omega)]⟩
def O7(g2:TG)(kR:TT)(te:TE)(σ:St)(B:List V->Hp->Prop)(D:Addr)(J2:It)(FQ:List V)(H0:Hp):Prop:=
 ∃W2:Nat->Nat->List V->Hp->Prop,(∃m,W2 0 m FQ H0)/\ ∀i m acc H,W2 i m acc H->
  (J2.stop i H/\B acc H)\/(J2.go i H/\acc.length < sizeLine/\ ∃B2:List V->Hp->Prop,(∀bp H',B2 bp H'-> ∃m',m' < m/\W2 (i+1) m' bp H')/\ ∀x H',J2.vG i H x H'->g2 x σ H' fun σ2 H2=>
   kR σ2 H2 fun b H3=>if b=true then te σ2 H3 fun v H4=>H4 D=some (.lst acc)/\B2 (acc++ [v]) (upd H4 D (.lst (acc++ [v]))) else B2 acc H3)
def zK(nt:Nat)(js:List Nat)(g:TG)(tc:TT)(zY:TI)(g2:TG)(kR:TT)(te:TE)(σ:St)(Q:VK)(D:Addr)(J:It)(H0:Hp):Prop:=
 ∃W:Nat->Nat->List V->Hp->Prop,(∃m,W 0 m [] H0)/\ ∀i m acc H,W i m acc H->
  (J.stop i H/\Q (.ref D) H)\/(J.go i H/\ ∃B:List V->Hp->Prop,(∀bp H',B bp H'-> ∃m',m' < m/\W (i+1) m' bp H')/\ ∀x H',J.vG i H x H'->g x (ic nt js σ) H' fun σ2 H2=>
   tc σ2 H2 fun b H3=>if b=true then zY σ2 H3 fun J2 H4=>O7 g2 kR te σ2 B D J2 acc H4 else B acc H3)
def wk(nt:Nat)(js:List Nat)(wi:TI)(g:TG)(tc:TT)(zY:TI)(g2:TG)(kR:TT)(te:TE):TE:=fun σ H Q=>wi σ H fun J H1=> ∀D,H1 D=none->zK nt js g tc zY g2 kR te σ Q D J (upd H1 D (.lst []))
theorem qG{Y:Cx}(hc:Y.calm=true)(tK:Y.xe=fun _ _=>False)(Bf:PG Y eJ g2)(qI:zE n1 nt g2)(EJ:PF Y bK kR)(he:PE Y elt te)(I:Inv Y pins σ H s)(T:Turn Y.prog Y.w Y.K eJ J fp it tn)(st:tn 0 s.heap)(ff: ∀b∈fp,cT Y pins H b)(aI: ∀k,n1<=k->k < nt-> ∀v,σ[k]?≠some (some v))(R:O7 g2 kR te σ B D J FQ H)(fin: ∀acc H' s',Inv Y pins σ H' s'->B acc H'->RR (.ok .next) s'):
  codeAny (model Y.prog Y.w) Y.A (.compLoop (.ListComp elt [⟨tg,iter,ifs,0⟩,⟨eJ,iter2,bK,0⟩] scope pos) 1 (.ref it) (.ref D) Y.env) RR s:=by
 obtain⟨W,⟨m0,w0⟩,turn⟩:=R;have ql: ∀{H':Hp},(∀b∈fp,H' b=none)-> ∀b∈fp,cT Y pins H' b:=fun hn b hb=>⟨hn b hb,(ff b hb).2⟩
 refine kC (fun n s'=> ∃i acc H',Inv Y pins σ H' s'/\tn i s'.heap/\(∀b∈fp,H' b=none)/\W i n acc H') ?_ m0 ⟨0,FQ,H,I,st,fun b hb=>(ff b hb).1,w0⟩;rintro n s5 ⟨i,acc,H5,I5,vH,zS,w5⟩
 rcases turn i n acc H5 w5 with ⟨stop,q⟩ | ⟨go,hlen,B2,hB,step⟩
 . refine aG (T.done Y rfl rfl rfl hc i pins s5 _ H5 (fun _ _=>False) I5 (ql zS) vH stop) fun r s6 ⟨hr,I6⟩=>?_;subst hr;exact fin _ _ _ I6 q
 . refine aG (T.item Y rfl rfl rfl hc i pins s5 _ H5 (fun _ _=>False) I5 (ql zS) vH go) fun r s6 ⟨u,hr,h6⟩=>?_;subst hr;refine aG h6 fun _ s7 gD=>?_;obtain⟨x,H7,I7,r7,y7,wu,IF⟩:=gD;have JH:=I7.pinned (ql IF) (T.obj _ _ wu);have g7:=qI _ _ _ _ (step x H7 y7);have h7:=Bf _ s7 _ H7 x u _ JH r7 g7;rw[tK] at h7;refine aG h7 fun _ s8 kd=>?_;obtain⟨σ8,H8,I8,q8,l8,k8⟩:=kd;have h8:=EJ _ s8 σ8 H8 _ I8 q8;rw[tK] at h8;refine aG h8 fun b s9 mm=>?_;obtain⟨H9,I9,q9⟩:=mm;have again: ∀{iW:Hp} {km:Shared} {bp:List V},Inv Y (pins++gm fp s7.heap) σ8 iW km->B2 bp iW-> ∃m,m < n/\ ∃i acc H',Inv Y pins σ H' km/\tn i km.heap/\(∀b∈fp,H' b=none)/\W i m acc H':=fun{iW km bp} rC Jo=>by
    obtain⟨m',Ih,GG⟩:=hB bp iW Jo;refine⟨m',Ih,i+1,bp,iW,rC.dy.weak l8.symm fun k v e=>?_,T.keep _ _ _ wu fun b hb o e=>(rC.pin (b,o) (S8 _ (S8 _ (bz hb e)))).1,fun b hb=>?_,GG⟩
    . by_cases hk:n1<=k/\k < nt
      . exact absurd e (aI k hk.1 hk.2 v)
      . rw[k8 k (by omega)];exact e
    . obtain⟨o,e,d⟩:=T.obj _ _ wu b hb;exact(rC.pin (b,o) (S8 _ (S8 _ (bz hb e)))).2.1
   cases b with
   | false=>
    rw[if_neg SG] at q9 ⊢;exact again I9 q9
   | true=>
    rw[if_pos rfl] at q9 ⊢;have h9:=he _ s9 σ8 H9 _ I9 q9;rw[tK] at h9;refine aG h9 fun y km hU=>?_;obtain⟨v,iW,rC,LA,ES,Hl⟩:=hU;have EU:=(iu (X:=Y) _ km σ8 iW (.ref D) [v] (.ref D) [y] (fun _ H'=>B2 (acc++ [v]) H') rC rfl (.cons LA .nil) ⟨_,acc,v,rfl,rfl,ES,hlen,Hl⟩)
    rw[tK] at EU;refine aG EU fun _ JY mj=>?_;obtain⟨_,FX,JI,_,LC⟩:=mj;exact again JI LC
theorem ra{elt tg iter eJ iter2:Expr}{ifs bK:List Expr}{pos:Pos}{g g2:TG}{zY:TI}{tc kR:TT}{te:TE}{n1:Nat}{cl:List (Str × Addr)}{Q:VK}{E:Value->Shared->Prop}{RR:Value->Addr->Result->Shared->Prop}
  (S:iZ X N nt js scope) (hc:X.calm=true)
  (hg: ∀s H cl C ex,PG (dr X N scope s H cl C ex) tg g) (fB:iX n1 g) (ID:n1<=nt) (Gj: ∀s H cl C ex,PI (dr X N scope s H cl C ex) eJ iter2 zY) (nU: ∀s H cl C ex x,foldedSetIterable iter2 (dr X N scope s H cl C ex).env x=pure x) (Bf: ∀s H cl C ex,PG (dr X N scope s H cl C ex) eJ g2) (qI:zE n1 nt g2) (EJ: ∀s H cl C ex,PF (dr X N scope s H cl C ex) bK kR) (hf: ∀s H cl C ex,PF (dr X N scope s H cl C ex) ifs tc) (he: ∀s H cl C ex,PE (dr X N scope s H cl C ex) elt te)
  {it:Addr} {fp:List Addr} {tn:Nat->Heap->Prop} {J:It} (I:Inv X pins σ H s) (T:Turn X.prog X.w X.K tg J fp it tn) (st:tn 0 s.heap) (ff: ∀b∈fp,cT X pins H b)
  (c1: ∀x c,(x,c)∈cl->X.env.cells.lookup x=some c) (c2: ∀x,(x,NameKind.free)∈scope.names-> ∃c,(x,c)∈cl)
  (R: ∀D,H D=none->zK nt js g tc zY g2 kR te σ Q D J (upd H D (.lst [])))
  (fin: ∀(D C:Addr) (s':Shared) (H':Hp),Inv X pins σ H' s'->cT X pins H' C->(∃m,s'.heap.Ns C m)->Q (.ref D) H'->RR (.ref D) C (.ok .next) s'):
  wpAny (model X.prog X.w) X.A (newList []) (fun acc s₃=>wpAny (model X.prog X.w) X.A (newFunctionEnv scope X.env.globals cl [] X.env.qual none .none (some X.env)) (fun jZ s₄=>
   codeAny (model X.prog X.w) X.A (.compStart (.ListComp elt [⟨tg,iter,ifs,0⟩,⟨eJ,iter2,bK,0⟩] scope pos) 0 (.ref it) acc {jZ with scope:=relabel scope X.env}) (RR acc jZ.locals) s₄) E s₃) E s:=by
 refine Uc (fR fun jZ yJ Ff=>?_);rw[yJ,Ff];dsimp only;have hD:H s.heap.objs.size=none:=I.aO.fresh (SD _);obtain⟨W,⟨m0,w0⟩,turn⟩:=R s.heap.objs.size hD;have kD: ∀b u,s.heap.get? b=some u->(s.heap.push {cls:= .type "list",data:= .seq ([]:List Value).toArray}).get? b=some u:=fun b u e=>Sz _ e;have I3:Inv X pins σ (upd H s.heap.objs.size (.lst [])) {s with heap:=s.heap.push {cls:= .type "list",data:= .seq ([]:List Value).toArray},toks:=s.toks}:=
  I.laid kD (SD _) ⟨Tw _,[],_, .nil,SI _ rfl⟩
 have fs: ∀b∈fp,b < s.heap.objs.size:=fun b hb=>by
  obtain⟨o,e,_⟩:=T.obj _ _ st b hb;exact SQ e
 have II: ∀b∈fp,cT X pins (upd H s.heap.objs.size (.lst [])) b:=fun b hb=>⟨by rw[ag (Tt (fs b hb))];exact(ff b hb).1,(ff b hb).2⟩
 have I4:=lZ (tk:=s.toks) S hc I3 II (fun b hb=>by show b < (s.heap.push _).objs.size;rw[TC];exact U0 (fs b hb)) c1 c2;dsimp only at I4;have MM:(s.heap.push {cls:= .type "list",data:= .seq ([]:List Value).toArray}).objs.size=s.heap.objs.size+1:=TC ..;generalize hY:dr X N scope {s with heap:=s.heap.push {cls:= .type "list",data:= .seq ([]:List Value).toArray},toks:=s.toks} (upd H s.heap.objs.size (.lst [])) cl (s.heap.push {cls:= .type "list",data:= .seq ([]:List Value).toArray}).objs.size fp=Y at I4;have QP:=hY;have rA:Y.env=nG scope cl (s.heap.push {cls:= .type "list",data:= .seq ([]:List Value).toArray}).objs.size X.env:=by rw[<-hY];rfl
 have cR:Y.prog=X.prog:=by rw[<-hY];rfl
 have Yw:Y.w=X.w:=by rw[<-hY];rfl
 have YA:Y.A=X.A:=by rw[<-hY];rfl
 have YK:Y.K=X.K:=by rw[<-hY];rfl
 have mf:Y.calm=true:=by rw[<-hY];exact hc
 have tK:Y.xe=fun _ _=>False:=by rw[<-hY];rfl
 have zt:Y.ex=fp:=by rw[<-hY];rfl
 have NC:Y.pn= []:=by rw[<-hY];rfl
 have ND:Y.fs=pY X.stack:=by rw[<-hY];rfl
 have Ju:Y.s₀={s with heap:=s.heap.push {cls:= .type "list",data:= .seq ([]:List Value).toArray},toks:=s.toks}:=by rw[<-hY];rfl
 have NF:Y.H₀=upd H s.heap.objs.size (.lst []):=by rw[<-hY];rfl
 have Mt:PG Y tg g:=by rw[<-hY];exact hg _ _ _ _ _
 have Mw:PF Y ifs tc:=by rw[<-hY];exact hf _ _ _ _ _
 have Mv:PF Y bK kR:=by rw[<-hY];exact EJ _ _ _ _ _
 have Ms:PG Y eJ g2:=by rw[<-hY];exact Bf _ _ _ _ _
 have Mo:PI Y eJ iter2 zY:=by rw[<-hY];exact Gj _ _ _ _ _
 have Ma: ∀x,foldedSetIterable iter2 Y.env x=pure x:=by rw[<-hY];exact nU _ _ _ _ _
 have Mz:PE Y elt te:=by rw[<-hY];exact he _ _ _ _ _
 have hm:(Y.N.length:Nat)=(ic nt js σ).length:=I4.len.symm;rw[<-rA,<-cR,<-Yw,<-YA];have EX: ∀{H':Hp} (_: ∀b∈fp,H' b=none),∀b∈fp,cT Y [] H' b:=fun{H'} hn b hb=>by
  refine⟨hn b hb,(I4.ok.Gp b (by rw[zt];exact hb)).1,I4.ok.uS b (by rw[zt];exact hb), .inl (by rw[zt];exact hb),(I4.ok.Gp b (by rw[zt];exact hb)).2,fun p hp=>?_⟩;rw[NC] at hp;simp at hp
 have back: ∀{H':Hp} {s':Shared} {σ':St},Inv Y [] σ' H' s'->Inv X pins σ H' s'/\cT X pins H' Y.env.locals/\ ∃m,s'.heap.Ns Y.env.locals m:=fun{H' s' σ'} J=>by
  have hb:Un (pY X.stack) fp (upd H s.heap.objs.size (.lst [])) H' (s.heap.push {cls:= .type "list",data:= .seq ([]:List Value).toArray}) s'.heap:=by
   have:=J.base;rw[ND,zt,NF,Ju] at this;exact this
  have loc:Y.env.locals=s.heap.objs.size+1:=by rw[rA];exact MM
  have os:s'.os=s.os:=by
   have:=J.os;rw[Ju] at this;exact this
  have aO:fZ X.prog X.w H' s'.heap:=by
   have:=J.aO;rw[cR,Yw] at this;exact this
  refine⟨I3.CM (ch:=fp) os hb aO J.bare fun b hb=>⟨(ff b hb).2.2.2.1,(ff b hb).2.1,(ff b hb).2.2.2.2.1,(ff b hb).2.2.2.2.2⟩,?_,let ⟨m,q,_⟩:=J.loc;⟨m,q⟩⟩;exact I.nh (by rw[loc];exact Nat.le_succ _) J.free
 have loop:codeAny (model Y.prog Y.w) Y.A (.compLoop (.ListComp elt [⟨tg,iter,ifs,0⟩,⟨eJ,iter2,bK,0⟩] scope pos) 0 (.ref it) (.ref s.heap.objs.size) Y.env) (RR (.ref s.heap.objs.size) Y.env.locals)
   {s with heap:=pushCells ((s.heap.push {cls:= .type "list",data:= .seq ([]:List Value).toArray}).push {cls:= .type "dict",data:= .dict #[]}) scope.names}:=by
  refine kE (fun n s'=> ∃i acc H',Inv Y [] (ic nt js σ) H' s'/\tn i s'.heap/\(∀b∈fp,H' b=none)/\W i n acc H') Ma ?_ m0
   ⟨0,[],_,I4,T.keep _ _ _ st fun b _ o e=>Vq _ _ b o (Sz _ (kD b o e)),fun b hb=>(II b hb).1,w0⟩
  rintro n s5 ⟨i,acc,H5,I5,vH,zS,w5⟩
  rcases turn i n acc H5 w5 with ⟨stop,q⟩ | ⟨go,B,hB,step⟩
  . have hd:=T.done Y cR Yw YK mf i [] s5 _ H5 (fun _ _=>False) I5 (EX zS) vH stop;rw[<-cR,<-Yw] at hd;refine aG hd fun r s6 tP=>?_;obtain⟨hr,I6⟩:=tP;subst hr;obtain⟨b1,b2,b3⟩:=back I6;exact fin _ _ _ _ b1 b2 b3 q
  . have hd:=T.item Y cR Yw YK mf i [] s5 _ H5 (fun _ _=>False) I5 (EX zS) vH go;rw[<-cR,<-Yw] at hd;refine aG hd fun r s6 mi=>?_;obtain⟨u,hr,h6⟩:=mi;subst hr;refine aG h6 fun _ s7 dW=>?_;obtain⟨x,H7,I7,r7,y7,wu,IF⟩:=dW;have JH:=I7.pinned (EX IF) (T.obj _ _ wu);have g7:=fB _ _ _ _ (step x H7 y7);have h7:=Mt _ s7 _ H7 x u _ JH r7 g7;rw[tK] at h7;refine aG h7 fun _ s8 dU=>?_;obtain⟨σ8,H8,I8,q8,l8,k8⟩:=dU;have h8:=Mw _ s8 σ8 H8 _ I8 q8;rw[tK] at h8;refine aG h8 fun b s9 mz=>?_;obtain⟨H9,I9,q9⟩:=mz;have again: ∀{iW:Hp} {km:Shared} {bp:List V},Inv Y ([]++gm fp s7.heap) σ8 iW km->B bp iW-> ∃m,m < n/\ ∃i acc H',Inv Y [] (ic nt js σ) H' km/\tn i km.heap/\(∀b∈fp,H' b=none)/\W i m acc H':=fun{iW km bp} rC Jo=>by
     obtain⟨m',Ih,GG⟩:=hB bp iW Jo;refine⟨m',Ih,i+1,bp,iW,rC.dy.weak l8.symm fun k v e=>?_,T.keep _ _ _ wu fun b hb o e=>(rC.pin (b,o) (S8 _ (S8 _ (bz hb e)))).1,fun b hb=>?_,GG⟩
     . by_cases hk:nt<=k
       . rw[k8 k (S4 ID hk)];exact e
       . exfalso;unfold ic at e;rw[SY (by simp;omega),S6,if_pos (by omega)] at e;cases e
     . obtain⟨o,e,d⟩:=T.obj _ _ wu b hb;exact(rC.pin (b,o) (S8 _ (S8 _ (bz hb e)))).2.1
    cases b with
    | false=>
     rw[if_neg SG] at q9 ⊢;exact again I9 q9
    | true=>
     rw[if_pos rfl] at q9 ⊢;have h9:=Mo _ s9 σ8 H9 _ I9 q9;rw[tK] at h9;refine aG h9 fun y km EU=>aG EU fun L1 JY QX=>?_;obtain⟨i2,R4,RL,J2,FX,rfl,JI,T2,G1,MR,R2⟩:=QX;have LL: ∀k,n1<=k->k < nt-> ∀v,σ8[k]?≠some (some v):=fun k a1 a2 v e=>by
      rw[k8 k a1] at e;unfold ic at e;rw[SY (by simp;omega),S6,if_pos (by omega)] at e;cases e
     have lp:=qG (elt:=elt) (tg:=tg) (iter:=iter) (ifs:=ifs) (iter2:=iter2) (scope:=scope) (pos:=pos) mf tK Ms qI Mv Mz JI T2 G1 MR LL R2 (RR:=fun r s₆=>r= .ok .next/\ ∃m,m < n/\ ∃i acc H',Inv Y [] (ic nt js σ) H' s₆/\tn i s₆.heap/\(∀b∈fp,H' b=none)/\W i m acc H') fun bp H' s' I' b'=>⟨rfl,again I' b'⟩
     exact jY lp (T2.self _ 0 _ _ _ G1 lp)
 have yI:(s.heap.push {cls:= .type "list",data:= .seq ([]:List Value).toArray}).objs.size=Y.env.locals:=by rw[rA];rfl
 rw[yI];exact codeAny_compStart_list (rest:= [⟨eJ,iter2,bK,0⟩]) loop (by rw[cR,Yw,YA] at*;exact T.self _ 0 _ _ _ (T.keep _ _ _ st fun b _ o e=>Vq _ _ b o (Sz _ (kD b o e))) loop)
theorem w9{pos pos' py:Pos}(hN:X.N.Nodup)(Be:X.N[i]?=some y)(hy:Loc X.env.scope y)(S:iZ X N nt js scope)(hc:X.calm=true)(hi:PI X tg iter wi)(hg: ∀s H cl C ex,PG (dr X N scope s H cl C ex) tg g)(fB:iX n1 g)(ID:n1<=nt)(Gj: ∀s H cl C ex,PI (dr X N scope s H cl C ex) eJ iter2 zY)(nU: ∀s H cl C ex x,foldedSetIterable iter2 (dr X N scope s H cl C ex).env x=pure x)(Bf: ∀s H cl C ex,PG (dr X N scope s H cl C ex) eJ g2)(qI:zE n1 nt g2)(EJ: ∀s H cl C ex,PF (dr X N scope s H cl C ex) bK kR)(hf: ∀s H cl C ex,PF (dr X N scope s H cl C ex) ifs tc)(he: ∀s H cl C ex,PE (dr X N scope s H cl C ex) elt te)(Ba:swapsWith (.ListComp elt [⟨tg,iter,ifs,0⟩,⟨eJ,iter2,bK,0⟩] scope pos) (some (.Name y py)) pos'.line X.env=pure true:=by rfl)(hs: ∀x,foldedSetIterable iter X.env x=pure x:=by intro _;rfl)(uL:X.fn y=true\/X.env.scope.names.lookup y=some .local:=by first | exact .inl rfl | exact .inr rfl | assumption):
  PS X (.Assign [.Name y py] (.ListComp elt [⟨tg,iter,ifs,0⟩,⟨eJ,iter2,bK,0⟩] scope pos) pos') (t7 (wk nt js wi g tc zY g2 kR te) (cn i)):=by
 intro pins s σ H D I h;obtain⟨cl,Ir,c1,c2⟩:=gx (scope:=scope) (env:=X.env) fun x hx e=>I.ok.has x.1 (S.G5 x hx e);rw[exec_Assign_Name_used _ _ _ _ Ba];refine Sw (Ut (Sw ?_));show wpAny _ _ (do let _<-comprehension (.ListComp elt [⟨tg,iter,ifs,0⟩,⟨eJ,iter2,bK,0⟩] scope pos) scope X.env _ (newList []) false (eval iter X.env) (some (assign (.Name y py) X.env))) _ _ s;refine Sw (To (V2 (use:=some (assign (.Name y py) X.env)) (Q:=fun _ s'=>SP X pins D .next s') rfl hs Ir S.kind S.names
  (aG (hi pins s σ H _ I h) fun v s1 h1=>aG h1 fun HR s2 h2=>?_)) (fun _ s' hq=>SA (SA hq)) fun _ _ e=>e)
 obtain⟨it,fp,tn,J,H2,rfl,I2,T,eR,f2,R⟩:=h2;refine ra (RR:=fun acc C=>compPost (model X.prog X.w) X.A X.xe (some (assign (.Name y py) X.env)) (fun _ s'=>SP X pins D .next s') acc C) (Q:=fun x H1=>cn i x σ H1 D.nx) S hc hg fB ID Gj nU Bf qI EJ hf he I2 T eR f2 c1 c2 R fun Da C s' H' I' fo vT q=>?_;obtain⟨m,hn⟩:=vT;show wpAny _ _ (assign (.Name y py) X.env (.ref Da)) _ _ _;obtain⟨f0,f1,_,f3,f4,f5⟩:=fo;refine wpAny_assign_Name (hZ I' hN Be hy (v:= .ref Da) rfl (fun Dp NM mw=>?_) uL);obtain⟨a,sb,ha⟩:=mw;have MK:C≠a:=by
  rcases ha with z | z
  . rw[z];exact f1
  . exact Ne.symm (f4 _ _ z)
 refine⟨m,hn.sameBut sb MK,fun h' Lx=>⟨_,H',?_,q⟩⟩;exact NM.turned (t':=Dp.toks) (fun b o hb e=>(Lx.2 b hb).trans e) f0 f1 f3 f4 f5
end L2
namespace LD
open PySem PySem.Spec L2 LB PyProof.Rows
theorem av.wq(E:av [] M α H σ δ)(fl:α.flatten= [])(keep: ∀b u,H b=some u-> ¬M b->H' b=some u)(mo:hC M H'):av [] M α H' σ δ:=by
 refine⟨E.ls,E.la,fun i s h=>?_,E.nd,E.mu,mo,fun W hW=>absurd hW SH⟩;obtain⟨o,as,h1,h2,h3⟩:=E.sl i s h;have hn:as= []:=UA.mpr fun a ha=>by
  have:=bg h2 ha;rw[fl] at this;exact SH this
 subst hn;refine⟨o,[],h1,h2,h3.keep (fun b u e n=>⟨keep b u e n,n⟩) (fun a ha=>absurd ha SH) ?_⟩;cases s with
 | bx t=>
  obtain⟨d,c,e,_⟩:=h3;first | cases e | (obtain⟨_,e,_⟩:=h3;cases e)
 | _=>rfl
section
variable {X : Cx} {N : List Str} {nt n1 : Nat} {js : List Nat} {scope : Scope} {elt tg iter eJ iter2 : Expr} {ifs bK : List Expr} {pos : Pos} {ti F4 : p7} {g g2 : zH} {tc kR : mh} {te : bj}
def zb(nt:Nat)(js:List Nat)(ti:p7)(g:zH)(tc:mh)(F4:p7)(g2:zH)(kR:mh)(te:bj):p6:=fun δ Q=>ti δ fun af δ1=> ∃F:Dt->List Dt,(af.flatMap F).length < sizeLine/\
 (∀d∈af,g d (cin nt js δ1) fun δ2=>tc δ2 fun b δ3=>if b=true then F4 δ3 fun bo δ4=> ∃(p:Dt->Bool) (f:Dt->Dt),(∀e∈bo,g2 e δ4 fun δ5=>kR δ5 fun b δ6=>b=p e/\(b=true->te δ6 fun r _=>r=f e))/\F d=(bo.filter p).map f else F d= [])/\Q (af.flatMap F) δ1
theorem rd(uK: ∀v σ H Q,lG g v σ H Q->gh v σ H Q)(EI: ∀v σ H Q,lG g2 v σ H Q->Ki v σ H Q): ∀σ H Q,lO (zb nt js ti g tc F4 g2 kR te) σ H Q->wk nt js (lI ti) gh (lT tc) (lI F4) Ki (lT kR) (lE te) σ H Q:=fun σ H Q cu=>(by obtain⟨W,M,α,δ,Qd,E,q,k⟩:=cu;exact(by
 refine⟨W,M,α,δ,_,E,q,fun af δ1 H1 J fQ E1 c1 yl D hD=>?_⟩;obtain⟨F,hsz,step,q1⟩:=fQ;have s0:ay H1 (upd H1 D (.lst [])):=ay.new hD;refine⟨fun i m acc H2=>m=af.length - i/\i<=af.length/\H2 D=some (.lst acc)/\ax (fun b=>M b\/b=D) H2 acc ((af.take i).flatMap F)/\ay H1 H2/\hC (fun b=>M b\/b=D) H2,⟨af.length,by simp,Tw _,ae, .nil,s0,fun a ha=>?_⟩,?_⟩
 . rcases ha with ha | ha
   . obtain⟨o,e,n⟩:=E1.al a ha;exact⟨o,s0 _ _ e,n⟩
   . subst ha;exact⟨_,ae,fun xs z=>by cases z⟩
 rintro i m acc H2 ⟨rfl,hi,Bh,kn,s2,HI⟩
 have kf:Kf M H1 H2:=fun b o e _=>s2 _ _ e;by_cases di:i < af.length
 . have hb: ∀b,H1 b≠none-> ¬M b-> ¬(fun b=>M b\/b=D) b:=fun b n z y=>y.elim z fun w=>n (by rw[w];exact hD);obtain⟨go,vG⟩:=yl.go i H2 (fun b=>M b\/b=D) kf HI hb di;refine .inr ⟨go,fun bp H'=>H' D=some (.lst bp)/\ax (fun b=>M b\/b=D) H' bp ((af.take (i+1)).flatMap F)/\ay H1 H'/\hC (fun b=>M b\/b=D) H',fun bp H' gD=>(by obtain⟨z1,z2,z3,z4⟩:=gD;exact(⟨af.length - (i+1),by grind,rfl,di,z1,z2,z3,z4⟩)),fun x H3 y=>?_⟩;obtain⟨s3,d,hd,rx⟩:=vG x H3 y;have E2:av [] (fun b=>M b\/b=D) (List.replicate (nt+js.length) []) H2 (ic nt js σ) (cin nt js δ1):=by
    have su:ay (upd H1 D (.lst acc)) H2:=fun b o e=>by
     by_cases hb:b=D
     . subst hb;rw[ae] at e;cases e;exact Bh
     . rw[ag hb] at e;exact s2 _ _ e
    have Ea:av [] (fun b=>M b\/b=D) α H2 σ δ1:=⟨E1.ls,E1.la,fun i s h=>let ⟨o,as,h1,h2,h3⟩:=E1.sl i s h;⟨o,as,h1,h2,(h3.grow (u:= .lst acc) hD).same su⟩,E1.nd,fun a h=> .inl (E1.mu a h),HI,fun W hW=>absurd hW SH⟩
    exact tD Ea
   have E3:=E2.same s3;have bW:(List.replicate (nt+js.length) ([]:List Addr)).flatten= []:=by simp
   refine uK _ _ _ _ ⟨[],_,_,_,d,_,E3,rx,step d (SW hd),fun α4 δ4 σ4 q4 E4 hα=>?_⟩;have EZ:α4.flatten= []:=UA.mpr fun x hx=>by have:=hα x hx;rw[bW] at this;exact absurd this SH
   refine⟨[],_,α4,δ4,_,E4,q4,fun b δ5 H5 q5 E5 c5=>?_⟩;have s5:ay H3 H5:=fun b o e=>c5 b o e (by rw[EZ];exact SH);have Aq:ay H2 H5:=fun b o e=>s5 _ _ (s3 _ _ e);have tk:af.take (i+1)=af.take i++ [d]:=by rw[Wb,hd];rfl
   have Le:(af.take (i+1)).flatMap F=(af.take i).flatMap F++F d:=by rw[tk,VR];simp
   cases b with
   | false=>
    have q5:F d= []:=by simpa using q5
    refine bJ ⟨Aq _ _ Bh,?_,fun b o e=>Aq _ _ (s2 _ _ e),E5.al⟩;rw[Le,q5,TX];exact kn.same Aq
   | true=>
    rw[if_pos rfl] at q5;refine dE ⟨[],_,α4,δ5,_,E5,q5,fun bo δ6 H6 J2 kd E6 c6 NR=>?_⟩;obtain⟨p,f,G0,hF⟩:=kd;have s6:ay H5 H6:=fun b o e=>c6 b o e (by rw[EZ];exact SH);have Dn:ay H2 H6:=fun b o e=>s6 _ _ (Aq _ _ e);have Qb:((af.take i).flatMap F).length+(F d).length<=(af.flatMap F).length:=by
     have e:af.flatMap F=(af.take (i+1)).flatMap F++(af.drop (i+1)).flatMap F:=by rw[<-VR,UB]
     rw[e,Le,SV,SV];grind
    refine⟨fun i2 m2 zr H7=>m2=bo.length - i2/\i2<=bo.length/\H7 D=some (.lst zr)/\ax (fun b=>M b\/b=D) H7 zr ((af.take i).flatMap F++((bo.take i2).filter p).map f)/\(∀b o,H6 b=some o->b≠D->H7 b=some o)/\hC (fun b=>M b\/b=D) H7,⟨bo.length,by simp,Tw _,Dn _ _ Bh,by simpa using kn.same Dn,fun b o e _=>e,E6.al⟩,?_⟩;rintro i2 m2 zr H7 ⟨rfl,Gj,MJ,oG,k7,LQ⟩
    have LX:Kf (fun b=>M b\/b=D) H6 H7:=fun b o e n=>k7 b o e fun z=>n (.inr z);by_cases Ii:i2 < bo.length
    . obtain⟨go2,K8⟩:=NR.go i2 H7 (fun b=>M b\/b=D) LX LQ (fun b _ n=>n) Ii;have hlen:zr.length < sizeLine:=by
       rw[oG.1,SV,Sx];have:((bo.take i2).filter p).length<=(F d).length:=by
        rw[hF,Sx];have e:bo.filter p=(bo.take i2).filter p++(bo.drop i2).filter p:=by rw[<-U9,UB]
        rw[e,SV];grind
       grind
      refine .inr ⟨go2,hlen,fun bp H'=>H' D=some (.lst bp)/\ax (fun b=>M b\/b=D) H' bp ((af.take i).flatMap F++((bo.take (i2+1)).filter p).map f)/\(∀b o,H6 b=some o->b≠D->H' b=some o)/\hC (fun b=>M b\/b=D) H',fun bp H' mm=>(by obtain⟨z1,z2,z3,z4⟩:=mm;exact(⟨bo.length - (i2+1),by grind,rfl,Ii,z1,z2,z3,z4⟩)),fun x2 H8 y2=>?_⟩;obtain⟨s8,d2,hd2,PR⟩:=K8 x2 H8 y2;have E7:=(E6.wq EZ (fun b u e n=>LX b u e n) LQ).same s8;refine EI _ _ _ _ ⟨[],_,_,_,d2,_,E7,PR,G0 d2 (SW hd2),fun α9 δ9 σ9 q9 E9 L5=>?_⟩;have OI:α9.flatten= []:=UA.mpr fun x hx=>by have:=L5 x hx;rw[EZ] at this;exact absurd this SH
      refine⟨[],_,α9,δ9,_,E9,q9,fun b Ku iW hU Pa Ri=>?_⟩;obtain⟨hp,Hl⟩:=hU;have km:ay H8 iW:=fun b o e=>Ri b o e (by rw[OI];exact SH);have Ap:ay H7 iW:=fun b o e=>km _ _ (s8 _ _ e);have JR:bo.take (i2+1)=bo.take i2++ [d2]:=by rw[Wb,hd2];rfl
      cases b with
      | false=>
       refine bJ ⟨Ap _ _ MJ,?_,fun b o e n=>Ap _ _ (k7 b o e n),Pa.al⟩;rw[JR,U9,TV];simp [<-hp];exact oG.same Ap
      | true=>
       refine dE ⟨[],_,α9,Ku,_,Pa,Hl rfl,fun r Pd FX v OJ RF Rh PV=>?_⟩;subst OJ;have JY:ay iW FX:=fun b o e=>Rh b o e (by rw[OI];exact SH);have Dm:ay H7 FX:=fun b o e=>JY _ _ (Ap _ _ e);have up: ∀{zs:List V} {ds:List Dt},ax (fun b=>M b\/b=D) FX zs ds->ax (fun b=>M b\/b=D) (upd FX D (.lst (zr++ [v]))) zs ds:=fun r=>r.mono fun a o e n=>⟨by rw[ag (fun z=>n (.inr z))];exact e,n⟩
       refine⟨Dm _ _ MJ,ae,?_,fun b o e n=>by rw[ag n];exact Dm _ _ (k7 b o e n),fun a ha=>?_⟩
       . rw[JR,U9,TV,<-Tz];have e1:List.filter p [d2]= [d2]:=by simp [<-hp]
         rw[e1];exact up ((oG.same Dm).append (.one PV))
       . by_cases hb:a=D
         . subst hb;exact⟨_,ae,fun xs z=>by cases z⟩
         . rw[ag hb];exact RF.al a ha
    . have e:i2=bo.length:=by grind
      subst e;refine .inl ⟨NR.stop H7 LX,MJ,?_,fun b o e=>k7 b o (Dn _ _ (s2 _ _ e)) (aq e hD),LQ⟩;rw[Uh] at oG;rw[Le,hF];exact oG
 . have e:i=af.length:=by grind
   subst e;refine .inl ⟨yl.stop H2 kf,?_⟩;rw[Uh] at kn;have eH:upd (fun b=>if b=D then none else H2 b) D (.lst acc)=H2:=by
    funext b
    by_cases hb:b=D
    . subst hb;rw[ae,Bh]
    . rw[ag hb,if_neg hb]
   rw[<-eH];have sH:ay H1 (fun b=>if b=D then none else H2 b):=fun b o e=>by
    show(if b=D then none else H2 b)=some o;rw[if_neg (aq e hD)];exact s2 _ _ e
   refine k _ _ _ _ _ q1 (E1.same sH) (c1.tr (b7.of sH)) (kn.mono fun a o e n=>⟨?_,fun z=>n (.inl z)⟩) (by show(if D=D then none else H2 D)=none;rw[if_pos rfl]);show(if a=D then none else H2 a)=some o;rw[if_neg (fun z=>n (.inr z))];exact e))
def yX(i:Nat)(t:p6):iY:=fun Δ δ=>t δ fun ds δ'=>cX δ' i/\Δ.nx (δ'.set i (.im (.lst ds)))
theorem oz(i n1:Nat){pos' py:Pos}(hN:X.N.Nodup)(S:iZ X N nt js scope)(hc:X.calm=true)(hi:Iv X tg iter ti)(hg: ∀s H cl C ex,PG (dr X N scope s H cl C ex) tg gh)(fB:iX n1 gh)(uK: ∀v σ H Q,lG g v σ H Q->gh v σ H Q)(hf: ∀s H cl C ex,PF (dr X N scope s H cl C ex) ifs (lT tc))(Gj: ∀s H cl C ex,Iv (dr X N scope s H cl C ex) eJ iter2 F4)(Bf: ∀s H cl C ex,PG (dr X N scope s H cl C ex) eJ Ki)(qI:zE n1 nt Ki)(EI: ∀v σ H Q,lG g2 v σ H Q->Ki v σ H Q)(EJ: ∀s H cl C ex,PF (dr X N scope s H cl C ex) bK (lT kR))(he: ∀s H cl C ex,Ev (dr X N scope s H cl C ex) elt te)(Be:X.N[i]?=some y:=by rfl)(hy:Loc X.env.scope y:=by first | exact Or.inl rfl | exact Or.inr rfl)(Ba:swapsWith (.ListComp elt [⟨tg,iter,ifs,0⟩,⟨eJ,iter2,bK,0⟩] scope pos) (some (.Name y py)) pos'.line X.env=pure true:=by rfl)(ID:n1<=nt:=by decide)(hs: ∀x,foldedSetIterable iter X.env x=pure x:=by intro _;rfl)(nU: ∀s H cl C ex x,foldedSetIterable iter2 (dr X N scope s H cl C ex).env x=pure x:=by intro _ _ _ _ _ _;rfl)(uL:X.fn y=true\/X.env.scope.names.lookup y=some .local:=by first | exact .inl rfl | exact .inr rfl | assumption):
  Ex X (.Assign [.Name y py] (.ListComp elt [⟨tg,iter,ifs,0⟩,⟨eJ,iter2,bK,0⟩] scope pos) pos') (yX i (zb nt js ti g tc F4 g2 kR te)):=PS.imp (w9 hN Be hy S hc hi hg fB ID Gj nU Bf qI EJ hf he Ba hs uL) fun D σ H h=>by
 obtain⟨Ws,M,α,δ,Δ,E,L,q⟩:=h;exact rd uK EI _ _ _ ⟨Ws,M,α,δ,_,E,q,fun ds δ' H1 xs a ⟨ok,q1⟩ E1 c1 r1 h1=>by
  have E2:=E1.jg (s:= .ow ds) h1 (fun xs z=>by cases z) ok rfl ⟨a,xs,rfl,rfl,ae,r1.grow h1⟩;obtain⟨M',α',E3,_⟩:=E2.nV (SR ok.lt);rw[List.set_set] at E3;exact L.nx _ _ _ _ _ E3 q1⟩
end
end LD
namespace bC
open PySem PySem.Spec L2 LB PyProof.Rows
theorem jd: ∀{l:List Nat},(∀i∈l,RelV (f i) (g i))->Vals (l.map f) (l.map g)
 | [],_=> .nil
 | i::l,h=> .cons (h i (by simp)) (jd fun j hj=>h j (by simp [hj]))
theorem map_getD{α:Type}{ws:List α}{d:α}:(List.range ws.length).map (fun i=>ws.getD i d)=ws:=by
 apply VI
 . simp
 . intro i h1 h2;simp [h2]
end bC
namespace LD
open PySem PySem.Spec L2 LB PyProof.Rows bC
section
variable {X : Cx} {e : Expr} {tA : eG} {pos p : Pos}
noncomputable def DH(q:Int × Int):Dt:= .tup [.int q.1, .int q.2]
theorem se: ∀{xs:List V} {qs:List (Int × Int)},ax M H xs (qs.map DH)-> ∃ws:List (V × Int × Int),ws.map (·.1)=xs/\ws.map (·.2)=qs/\ ∀w∈ws,Rep M H w.1 (DH w.2)
 | [],[],_=>⟨[],rfl,rfl,fun w hw=>absurd hw SH⟩
 | [],_::_,h=>by have:=h.1;simp at this
 | _::_,[],h=>by have:=h.1;simp at this
 | x::xs,q::qs,h=>by
  rw[Ti] at h;obtain⟨y,ys,e,r1,r2⟩:=h.aK;cases e;obtain⟨ws,e1,e2,hw⟩:=se r2;refine⟨(x,q)::ws,by rw[Ti,e1],by rw[Ti,e2],fun w hm=>?_⟩;rcases Tg.mp hm with z | z
  . rw[z];exact r1
  . exact hw w z
theorem rX: ∀{ws:List (V × Int × Int)},(∀w∈ws,Rep M H w.1 (DH w.2))->ax M H (ws.map (·.1)) ((ws.map (·.2)).map DH)
 | [],_=> .nil
 | w::ws,h=> .cons (h w (by simp)) (rX fun v hv=>h v (by simp [hv]))
end
end LD
namespace L2
open PySem PySem.Spec PyProof.Rows
section
variable {X : Cx} {a b c e : Expr} {ta tb tc te : TE} {pos : Pos}
def mE(r r' Hk:R2)(ta tb tc te:TE):TE:=fun σ H Q=>ta σ H fun x H1=>tb σ H1 fun y H2=>r x y H2 fun z H3=> ∃k,z= .bl k/\
 (if k=true then tc σ H3 fun w H4=>r' y w H4 fun z' H5=> ∃k',z'= .bl k'/\(if k'=true then te σ H5 fun v H6=>Hk w v H6 Q else Q (.bl false) H5) else Q (.bl false) H3)
theorem um(h1:eS X (compareOp o) r)(h2:eS X (compareOp o') r')(h3:eS X (compareOp HD) Hk)(ha:PE X a ta)(hb:PE X b tb)(hc:PE X c tc)(he:PE X e te)(hm:lastMarks [o,o',HD] [b,c,e]=false:=by with_unfolding_all rfl):PE X (.Compare a [o,o',HD] [b,c,e] pos) (mE r r' Hk ta tb tc te):=by
 intro pins s σ H Q I h;refine Compare_chain (aG (ha pins s σ H _ I h) fun v s1 z1=>?_) hm;obtain⟨x,H1,I1,r1,q1⟩:=z1;refine chain_link (aG (hb pins s1 σ H1 _ I1 q1) fun u s2 z2=>?_);obtain⟨y,H2,I2,r2,q2⟩:=z2;refine aG (h1 pins s2 σ H2 x y v u _ I2 r1 r2 q2) fun d s3 z3=>?_;obtain⟨z,H3,I3,r3,k,ek,q3⟩:=z3;subst ek;cases r3;refine TJ ?_;cases k with
 | false=>exact ite_ff ⟨.bl false,H3,I3,rfl,q3⟩
 | true=>
  refine ite_tt (chain_link (aG (hc pins s3 σ H3 _ I3 q3) fun w s4 z4=>?_));obtain⟨y2,H4,I4,r4,q4⟩:=z4;refine aG (h2 pins s4 σ H4 y y2 u w _ I4 r2 r4 q4) fun d s5 mm=>?_;obtain⟨z2,H5,I5,r5,k2,MU,q5⟩:=mm;subst MU;cases r5;refine TJ ?_;cases k2 with
  | false=>exact ite_ff ⟨.bl false,H5,I5,rfl,q5⟩
  | true=>exact ite_tt (chain_last (aG (he pins s5 σ H5 _ I5 q5) fun w2 s6 hU=>(by obtain⟨y3,H6,I6,r6,q6⟩:=hU;exact(h3 pins s6 σ H6 y2 y3 w w2 Q I6 r4 r6 q6))))
theorem uh(h1:eS X (compareOp o) r)(h2:eS X (compareOp o') r')(h3:eS X (compareOp HD) Hk)(ha:PE X a ta)(hb:PE X b tb)(hc:PE X c tc)(he:PE X e te)(hm:lastMarks [o,o',HD] [b,c,e]=false:=by with_unfolding_all rfl):PT X (.Compare a [o,o',HD] [b,c,e] pos) (wg (mE r r' Hk ta tb tc te)):=by
 intro pins s σ H Q I h;refine isTrue_chain (aG (ha pins s σ H _ I h) fun v s1 z1=>?_) hm;obtain⟨x,H1,I1,r1,q1⟩:=z1;refine test_link (aG (hb pins s1 σ H1 _ I1 q1) fun u s2 z2=>?_);obtain⟨y,H2,I2,r2,q2⟩:=z2;refine aG (h1 pins s2 σ H2 x y v u _ I2 r1 r2 q2) fun d s3 z3=>?_;obtain⟨z,H3,I3,r3,k,ek,q3⟩:=z3;subst ek;cases r3;refine TJ ?_;cases k with
 | false=>
  obtain⟨k',e',q'⟩:=q3;cases e';exact ite_ff ⟨H3,I3,q'⟩
 | true=>
  refine ite_tt (test_link (aG (hc pins s3 σ H3 _ I3 q3) fun w s4 z4=>?_));obtain⟨y2,H4,I4,r4,q4⟩:=z4;refine aG (h2 pins s4 σ H4 y y2 u w _ I4 r2 r4 q4) fun d s5 dU=>?_;obtain⟨z2,H5,I5,r5,k2,MU,q5⟩:=dU;subst MU;cases r5;refine TJ ?_;cases k2 with
  | false=>
   obtain⟨k',e',q'⟩:=q5;cases e';exact ite_ff ⟨H5,I5,q'⟩
  | true=>
   refine ite_tt (test_last (aG (he pins s5 σ H5 _ I5 q5) fun w2 s6 ⟨y3,H6,I6,r6,q6⟩=>aG (h3 pins s6 σ H6 y2 y3 w w2 _ I6 r4 r6 q6) fun d' s7 qc=>?_));obtain⟨z3,H7,I7,r7,k3,e3,q7⟩:=qc;subst e3;cases r7;exact TJ ⟨H7,I7,q7⟩
end
end L2
namespace LD
open PySem PySem.Spec L2 LB PyProof.Rows bC
section
variable {X : Cx} {a b c e f : Expr} {ta tb tc te t : bj} {tA : eG} {pos p p2 : Pos}
def Fs(ta tb tc te:bj):bj:=fun δ Q=>ta δ fun d1 δ1=>tb δ1 fun d2 δ2=> ∃i j:Int,d1= .int i/\d2= .int j/\(if i < j then tc δ2 fun d3 δ3=> ∃k:Int,d3= .int k/\(if j < k then te δ3 fun d4 δ4=> ∃l:Int,d4= .int l/\Q (.bl (decide (k < l))) δ4 else Q (.bl false) δ3) else Q (.bl false) δ2)
theorem oU: ∀σ H Q,lE (Fs ta tb tc te) σ H Q->mE (wY fun i j=> .bl (decide (i < j))) (wY fun i j=> .bl (decide (i < j))) (wY fun i j=> .bl (decide (i < j))) (lE ta) (lE tb) (lE tc) (lE te) σ H Q:=fun σ H Q dW=>(by obtain⟨W,M,α,δ,Qd,E,q,k⟩:=dW;exact(
 ⟨W,M,α,δ,_,E,q,fun d1 δ1 H1 x q1 E1 c1 r1=>⟨W,M,α,δ1,_,E1,q1,fun d2 δ2 H2 y dU E2 c2 r2=>(by obtain⟨i,j,e1,e2,q2⟩:=dU;exact(by
  subst e1;subst e2;refine⟨i,j,r1.ofInt,r2.ofInt,decide (i < j),rfl,?_⟩;by_cases h:i < j
  . rw[if_pos h] at q2;rw[if_pos (TK h)];refine⟨W,M,α,δ2,_,E2,q2,fun d3 δ3 H3 z qa E3 c3 r3=>?_⟩;obtain⟨k1,e3,q3⟩:=qa;subst e3;refine⟨j,k1,r2.ofInt,r3.ofInt,decide (j < k1),rfl,?_⟩;by_cases h2:j < k1
    . rw[if_pos h2] at q3;rw[if_pos (TK h2)];refine⟨W,M,α,δ3,_,E3,q3,fun d4 δ4 H4 v mq E4 c4 r4=>?_⟩;obtain⟨l,e4,q4⟩:=mq;subst e4;exact⟨k1,l,r3.ofInt,r4.ofInt,k _ _ _ _ q4 E4 (((c1.tr c2).tr c3).tr c4) (.bl _)⟩
    . rw[if_neg h2] at q3;rw[if_neg (by rw[Uv];exact h2)];exact k _ _ _ _ q3 E3 ((c1.tr c2).tr c3) (.bl _)
  . rw[if_neg h] at q2;rw[if_neg (by rw[Uv];exact h)];exact k _ _ _ _ q2 E2 (c1.tr c2) (.bl _)))⟩⟩))
theorem IT(ha:Ev X a ta)(hb:Ev X b tb)(hc:Ev X c tc)(he:Ev X e te)(hm:lastMarks [.Lt, .Lt, .Lt] [b,c,e]=false:=by with_unfolding_all rfl):Ev X (.Compare a [.Lt, .Lt, .Lt] [b,c,e] pos) (Fs ta tb tc te):=PE.imp (um iJ iJ iJ ha hb hc he hm) oU
theorem GI(ha:Ev X a ta)(hb:Ev X b tb)(hc:Ev X c tc)(he:Ev X e te)(hm:lastMarks [.Lt, .Lt, .Lt] [b,c,e]=false:=by with_unfolding_all rfl):Tv X (.Compare a [.Lt, .Lt, .Lt] [b,c,e] pos) (dT (Fs ta tb tc te)):=PT.imp (uh iJ iJ iJ ha hb hc he hm) fun σ H Q h=>oU _ _ _ (bL _ _ _ h)
theorem rH(h:ax M H xs [d,d2]): ∃x y,xs= [x,y]/\Rep M H x d/\Rep M H y d2:=by
 obtain⟨x,ys,rfl,r1,r2⟩:=h.aK;obtain⟨y,rfl,r3⟩:=bI r2;exact⟨x,y,rfl,r1,r3⟩
inductive F0(ds:List Dt)(Q:Dt->Prop):Prop
 | mk (i j:Int) (h1:ds= [.int i, .int j]) (h2:Q (.int (max i j)))
inductive FZ(ds:List Dt)(Q:Dt->Prop):Prop
 | mk (i j:Int) (h1:ds= [.int i, .int j]) (h2:Q (.int (min i j)))
theorem yR(hc:X.calm=true)(hm:X.mg "max"=none)(ha:Av X [e,f] tA)(hg:Gl X "max":=by rfl)(he:starEach [e,f] X.env=(false,eval e X.env)::starEach [f] X.env:=by rfl)(cv:(backTo pos (starEach [f] X.env)).any (·.1)=false:=by rfl):
  Ev X (.Call (.Name "max" p) [e,f] [] pos) (zc F0 tA):=fO (vk hc) (fun M H xs ds Qd Q al r mn k=>(by obtain⟨i,j,e,q⟩:=mn;exact(by
 subst e;obtain⟨x,y,rfl,r1,r2⟩:=rH r;cases r1.ofInt;cases r2.ofInt;exact⟨i,j,rfl,by rw[show(if j > i then j else i)=max i j by by_cases c:j > i <;> simp only [c,VP,if_false] <;> lia];exact k H _ _ q (fun _ _ z=>z) (.int _)⟩))) hg hm vt ha (by decide) (by decide) he cv
theorem yQ(hc:X.calm=true)(hm:X.mg "min"=none)(ha:Av X [e,f] tA)(hg:Gl X "min":=by rfl)(he:starEach [e,f] X.env=(false,eval e X.env)::starEach [f] X.env:=by rfl)(cv:(backTo pos (starEach [f] X.env)).any (·.1)=false:=by rfl):
  Ev X (.Call (.Name "min" p) [e,f] [] pos) (zc FZ tA):=fO (vj hc) (fun M H xs ds Qd Q al r p9 k=>(by obtain⟨i,j,e,q⟩:=p9;exact(by
 subst e;obtain⟨x,y,rfl,r1,r2⟩:=rH r;cases r1.ofInt;cases r2.ofInt;exact⟨i,j,rfl,by rw[show(if j < i then j else i)=min i j by by_cases c:j < i <;> simp only [c,VP,if_false] <;> lia];exact k H _ _ q (fun _ _ z=>z) (.int _)⟩))) hg hm vq ha (by decide) (by decide) he cv
end
end LD
namespace CS
open PySem PySem.Spec L2 PyProof.Rows
theorem jC:typeLookup (.type "list") "keys"=pure none:=by rw[VS,Vc];kernel_rfl
theorem k9{A:Around}{s:Shared}(hx:s.heap.get? a=some {cls:= .type "list",dict:=none,data:= .seq xs k,slots:=sl})(hA:A.handled=none)(h: ∀h' tk,(∀b o,s.heap.get? b=some o->h'.get? b=some o)->Q none {s with heap:=h',toks:=tk}):
  wpAny (model prog w) A (getAttr? (.ref a) "keys") Q E s:=by
 obtain⟨hp,g,d,tk,os⟩:=s;have hT: ∀JS,(⟨hp,g,d,JS,os⟩:Shared).TypeIs (.ref a) "list":=fun _=>⟨_,hx,rfl⟩
 have f1:=sub_AttributeError;have f3:=F.slot_list_getattribute.lookup;have f4:=F.slot_list_getattribute.bind (.ref a);have f5:=am_list_getattr_none;unfold getAttr? getAttrBy? getAttrBy;repeat (any_goals (first | assumption | exact hT _ | ((with_reducible show wpAny _ _ (call (Value.builtin "list.__getattribute__") _ _) _ _ _);refine V4 F.slot_list_getattribute (hT _) am_entry_list_getattribute (F.args_list_getattribute_2 _ _) (meets_getattribute_miss_list a xs k sl "keys" _ jC (by decide+kernel) (by size_fits)) ⟨hx,hA,fun h' JS e qH=>?_⟩) | wp_step))
 obtain⟨t',u',he⟩:=qH.there;show wpAny _ _ (getattributeRaised _ _ _ _ _ _ _) _ _ _;unfold getattributeRaised;repeat (any_goals (first | assumption | wp_step))
 exact h _ _ qH.of.keeps
theorem fE:entryFor table "dict.update.loop"=some Builtin.«dict.update.loop» :=entryFor_of_fast (by kernel_rfl)
theorem br:plainId "dict.update.loop"=true:=by decide+kernel
theorem n4{A:Around}{refs:List V}{ps:List (Key × V)}(hn:refs.length=ps.length)(hA:A.handled=none):
  ∀(k i:Nat) (s:Shared) (H:Hp) (aA:List (Key × V)),ps.length - i=k->i<=ps.length->Inv X pins σ H s->H a=some (.dK aA)->H l=some (.lst refs)->(∀(j:Nat) p,ps[j]?=some p-> ∃q,refs[j]?=some (.ref q)/\H q=some (.tup [kV p.1,p.2]))->aA.length+(ps.length - i)<=sizeLine->
   s.heap.IsListIter it l i->cT X pins H it->(∀s',Inv X pins σ (upd H a (.dK (bt aA (ps.drop i)))) s'->R (.ok (.ret .none)) s')->codeAny (model X.prog X.w) A (.builtin "dict.update.loop" ⟨[.ref a, .ref it,rawInt (i:Int), .none],[]⟩) R s:=by
 intro k;induction k with
 | zero=>
  intro i s H aA hk hi I ha hl hp hsz st fo hR;have QJ:i=ps.length:=by omega
  subst QJ;obtain⟨af,rv,p,hz⟩:=I.list (cf.of hl);refine Uz fE ?_;rw[Us br _];show wpAny _ A.in1 (pyNext (.ref it) >>=_) _ _ s;obtain⟨f0,f1,f2,f3,f4,f5⟩:=id fo;have Kb:=rv.length;refine Sw (wpAny_pyNext_list_end hA st p.isList (by simp;omega) fun h' eb=>?_);have I1:Inv X pins σ H {s with heap:=h'}:=I.turned (t':=s.toks) (fun b o hb e=>eb b o hb e) f0 f1 f3 f4 f5;have e:upd H a (.dK (bt aA (ps.drop ps.length)))=H:=by
   rw[List.drop_length];funext b
   by_cases hb:b=a
   . subst hb;rw[ae,ha];rfl
   . rw[ag hb]
  rw[e] at hR;exact Sw (SA (SA (hR _ I1)))
 | succ k ih=>
  intro i s H aA hk hi I ha hl hp hsz st fo hR;have di:i < ps.length:=by omega
  obtain⟨q,hq,Qx⟩:=hp i ps[i] (Sy di);obtain⟨af,rv,p,hz⟩:=I.list (cf.of hl);obtain⟨u,hu,ru⟩:=rv.get hq;cases (show u=Value.ref q from ru);refine Uz fE ?_;rw[Us br _];show wpAny _ A.in1 (pyNext (.ref it) >>=_) _ _ s;obtain⟨f0,f1,f2,f3,f4,f5⟩:=id fo;refine Sw (wpAny_pyNext_list_item st p.isList (x:= .ref q) (by simpa using hu) fun h' ao sb=>?_);have I1:Inv X pins σ H {s with heap:=h'}:=I.turned (t':=s.toks) (fun b o hb e=>(sb.2 b hb).trans e) f0 f1 f3 f4 f5;obtain⟨_,bo,r2,o,ho,hc,RY,n,MB⟩:=(show aQ X.prog X.w H h' q (.tup [kV ps[i].1,ps[i].2]) from I1.aO q _ Qx)
  obtain⟨ku,vu,rfl,rk,PU⟩:=vals2 r2;have hT:({s with heap:=h'}:Shared).TypeIs (.ref q) "tuple":=⟨o,ho,hc⟩
  obtain⟨zz,OA,vs,rel,dd⟩:=sY I1.aO ha;have Qk:vs.length<=sizeLine:=by rw[<-rel.length];exact zz
  have N6:it≠a:=fun z=>by rw[z,ha] at f0;cases f0
  have P5:l≠a:=fun z=>by rw[z,ha] at hl;cases hl
  have lp:(putK aA ps[i].1 ps[i].2).length<=aA.length+1:=by have:=cY aA ps[i].1 ps[i].2;omega
  refine Sw (T8 (Sw (wpAny_tryCatch ?_)));unfold Builtin.Dict.pairItems;refine Sw (wpAny_typeOf hT ?_);have key:wpAny (model X.prog X.w) A.in1 (holding [ku,vu] (dictSet a ku vu)) (fun _ s2=>wpAny (model X.prog X.w) A.in1 (again (.builtin "dict.update.loop" ⟨[.ref a, .ref it,rawInt ((i:Int)+1), .none],[]⟩)) (fun fin s'=>match fin with
   | .done f=>R (.ok f) s'
   | .again c'=>c'.quiet=true/\codeAny (model X.prog X.w) A c' R s') (fun e s'=>R (.error e) s') s2) (fun e s'=>R (.error e) s') {s with heap:=h'}:=by
   refine T8 (wpAny_dictSet_pairs (hsz:=Qk) (jF rk) dd fun h2 zU hs=>?_);have he: ∃q,h2.get? a=some q:=let ⟨q,_,_,hq,_⟩:=zU;⟨q,hq⟩;have I2:=jb (t':=s.toks+1) I1 (by rw[ha];exact True.intro) hs he (qU (by omega) OA (rel.put ps[i].1 PU) zU);refine SA ⟨Vd br _,?_⟩;have nq: ∀q',H q'=some (.tup [kV ps[i].1,ps[i].2])->q'≠a:=fun q' e z=>by rw[z,ha] at e;cases e
   refine ih (i+1) _ _ (putK aA ps[i].1 ps[i].2) (by omega) (by omega) I2 ae (by rw[ag P5];exact hl) (fun j p hj=>?_) (by omega) (ao.at fun o e=>(hs.2 it N6).trans e) ⟨by rw[ag N6];exact f0,f1,f2,f3,f4,f5⟩ fun s' I'=>hR s' ?_
   . obtain⟨q2,e1,e2⟩:=hp j p hj;exact⟨q2,e1,by rw[ag (fun z=>by rw[z,ha] at e2;cases e2)];exact e2⟩
   . have e : upd (upd H a (.dK (putK aA ps[i].1 ps[i].2))) a (.dK (bt (putK aA ps[i].1 ps[i].2) (ps.drop (i + 1)))) = upd H a (.dK (bt aA (ps.drop i))) := by
       rw[Vl di];funext b
       by_cases hb:b=a
       . subst hb;rw[ae,ae];rfl
       . rw[ag hb,ag hb,ag hb]
     rw[e] at I';exact I'
  rw[if_pos (by decide)];show wpAny _ A.in1 (seqItems? (.ref q) >>=_) _ _ _;unfold seqItems?;refine Sw (Sw (wpAny_load ho ?_));rw[MB];exact SA (SA key)
def Ly:V->List V->Hp->VK->Prop:=fun x vs H Q=> ∃a l aA refs ps,x= .ref a/\vs= [.ref l]/\H a=some (.dK aA)/\H l=some (.lst refs)/\refs.length=ps.length/\(∀(j:Nat) (p:Key × V),ps[j]?=some p-> ∃q,refs[j]?=some (.ref q)/\H q=some (.tup [kV p.1,p.2]))/\aA.length+ps.length<=sizeLine/\Q .aI (upd H a (.dK (bt aA ps)))
theorem uy{X:Cx}(hA:X.A.handled=none):Kt X "dict.update" Ly:=by
 intro pins s σ H x xs v us Q I rx rs h;obtain⟨a,l,aA,refs,ps,rfl,rfl,ha,hl,hn,hp,hsz,q⟩:=h;cases (show v=Value.ref a from rx);obtain⟨u,rfl,ru⟩:=vals1 rs;cases (show u=Value.ref l from ru);obtain⟨zz,OA,vs,rel,dd⟩:=sY I.aO ha;obtain⟨af,rv,p,hz⟩:=I.list (cf.of hl);refine wpAny_call (VL F.slot_dict_update.plain F.entry_dict_update (F.slot_dict_update.check _ _ _ _ _ _ _ _ dd.typeIs (F.args_dict_update_2 _ _) ?_));have hT:=dd.typeIs;obtain⟨oD,fX,ME⟩:=id hT;obtain⟨cD,dD,Ss,RM⟩:=oD;have ME:cD= .type "dict":=ME;subst ME;have QE:s.TypeIs (.ref l) "list":=p.isList.typeIs;obtain⟨oL,nl,hL,e1,e2,e3⟩:=id p;obtain⟨cL,dL,Q8,PN⟩:=oL;simp only at e1 e2 e3;subst e1 e2 e3;unfold Builtin.«dict.update»;repeat (any_goals (first | assumption | (with_reducible refine k9 hL hA fun h1 C7 HP=>?_) | ((with_reducible show wpAny _ _ (pyIter _) _ _ _);refine Uk (p.keeps HP).isList ?_) | wp_step))
 have I1:Inv X pins σ H {s with heap:=h1,toks:=C7}:=I.kept HP;have I2:Inv X pins σ H {s with heap:=h1.push {cls:= .type "list_iterator",data:= .fields #[.ref l, .int 0 0]},toks:=C7}:=I1.kept (t':=C7) fun b o e=>Sz _ e;refine⟨Vd br _,n4 hn hA ps.length 0 _ H aA (by omega) (by omega) I2 ha hl hp (by omega) ⟨_,SI _ rfl,rfl,rfl⟩ (I1.nh (SD _) (I1.aO.fresh (SD _))) fun s' I'=>⟨.aI,_,I',rfl,q⟩⟩
theorem ju:mroOf (.type "dict")=pure [.type "dict", .type "object"]:=by rw[mroOf_type];kernel_rfl
theorem iS:typeLookup (.type "dict") "__new__"=pure (some (.builtin "dict.__new__")):=by rw[VS,Vc];kernel_rfl
theorem pI:TypeCalled "dict" "dict.__new__" "dict.__init__":=
 ⟨by decide+kernel,by decide+kernel,⟨_,_,ju⟩,madeBy_type ju iS (by decide+kernel),by decide+kernel,by rw[isSubtype_type];kernel_rfl,F.slot_dict_init⟩
theorem iQ(a:Value):checkTypeCall "dict" ⟨[a],[]⟩=pure ():=by kernel_rfl
theorem jt(a:Value):checkBuiltinCall "dict.__new__" ⟨[.type "dict",a],[]⟩=pure ():=by kernel_rfl
theorem jT:entryFor table "dict.__new__"=some Builtin.«dict.__new__» :=entryFor_of_tree (by kernel_rfl)
theorem fg:plainId "dict.__new__"=true:=by decide+kernel
theorem kh:isSubtype (.type "dict") (.type "dict")=pure true:=by rw[isSubtype_type];kernel_rfl
theorem kF{s:Shared}(a:Value)(h:Q₁ (.ref s.heap.objs.size) {s with heap:=s.heap.push {cls:= .type "dict",data:= .dict #[]}}):
  codeAny (model prog w) A (.call (.builtin "dict.__new__") ⟨[.type "dict",a],[]⟩) (wants Q₁ E) s:=by
 refine VT ?_;show wpAny _ A.in1 (do checkBuiltinCall "dict.__new__" ⟨[.type "dict",a],[]⟩;again (.builtin "dict.__new__" ⟨[.type "dict",a],[]⟩)) _ _ s;refine Sw (wpAny_of_eq (jt a) (SA ⟨Vd fg _,Uz jT ?_⟩));rw[Us fg _];have Bb:=kh;have Mi:=ju;obtain⟨hp,g,d,tk,os⟩:=s;unfold Builtin.«dict.__new__»;repeat (any_goals (first | assumption | wp_step))
def Du:List V->Hp->VK->Prop:=fun xs H Q=> ∃l refs ps,xs= [.ref l]/\H l=some (.lst refs)/\refs.length=ps.length/\(∀(j:Nat) (p:Key × V),ps[j]?=some p-> ∃q,refs[j]?=some (.ref q)/\H q=some (.tup [kV p.1,p.2]))/\ps.length<=sizeLine/\ ∀d,H d=none->Q (.ref d) (upd H d (.dK (bt [] ps)))
theorem rh{X:Cx}(hA:X.A.handled=none):cq X (.type "dict") Du:=by
 intro pins s σ H xs us Q I rs h;obtain⟨l,refs,ps,rfl,hl,hn,hp,hsz,q⟩:=h;obtain⟨u,rfl,ru⟩:=vals1 rs;cases (show u=Value.ref l from ru);have hD:H s.heap.objs.size=none:=I.aO.fresh (SD _);refine callType_codes (Q₁:=fun obj s₁=>obj= .ref s.heap.objs.size/\s₁={s with heap:=s.heap.push {cls:= .type "dict",data:= .dict #[]}}) pI (iQ _) F.entry_dict_init (kF _ ⟨rfl,rfl⟩) fun obj s₁ h₁=>?_;obtain⟨rfl,rfl⟩:=h₁;have I0:Inv X pins σ (upd H s.heap.objs.size (.dK [])) {s with heap:=s.heap.push {cls:= .type "dict",data:= .dict #[]}}:=I.laid (a:=s.heap.objs.size) (o:= .dK []) (t':=s.toks) (fun _ _ q=>Sz _ q) (SD _) (pB s.heap I.big);have nl:l≠s.heap.objs.size:=aq hl hD;have Ox:(upd H s.heap.objs.size (.dK [])) l=some (.lst refs):=by rw[ag nl];exact hl
 have Ie: ∀(j:Nat) (p:Key × V),ps[j]?=some p-> ∃q,refs[j]?=some (.ref q)/\(upd H s.heap.objs.size (.dK [])) q=some (.tup [kV p.1,p.2]):=fun j p hj=>by
  obtain⟨q2,e1,e2⟩:=hp j p hj;exact⟨q2,e1,by rw[ag (aq e2 hD)];exact e2⟩
 have Qo: ∀o:HO,upd (upd H s.heap.objs.size (.dK [])) s.heap.objs.size o=upd H s.heap.objs.size o:=fun o=>by
  funext b
  by_cases hb:b=s.heap.objs.size
  . subst hb;rw[ae,ae]
  . rw[ag hb,ag hb,ag hb]
 obtain⟨af,rv,p,hz⟩:=I0.list (cf.of Ox);obtain⟨oL,nL,hL,e1,e2,e3⟩:=id p;obtain⟨cL,dL,Q8,PN⟩:=oL;simp only at e1 e2 e3;subst e1 e2 e3;have hS:(s.heap.push {cls:= .type "dict",data:= .dict #[]}).get? s.heap.objs.size=some {cls:= .type "dict",data:= .dict #[]}:=SI _ rfl;have hT:({s with heap:=s.heap.push {cls:= .type "dict",data:= .dict #[]}}:Shared).TypeIs (.ref s.heap.objs.size) "dict":=⟨_,hS,rfl⟩
 have QE:({s with heap:=s.heap.push {cls:= .type "dict",data:= .dict #[]}}:Shared).TypeIs (.ref l) "list":=p.isList.typeIs;have qq:=q _ hD;generalize Gg:s.heap.objs.size=D at*;generalize Qs:({s with heap:=s.heap.push {cls:= .type "dict",data:= .dict #[]}}:Shared)=s0 at*;have R1:s0.heap.get? D=some {cls:= .type "dict",data:= .dict #[]}:=by rw[<-Qs];exact hS
 refine⟨hT,F.args_dict_init_2 _ _,?_⟩;unfold Builtin.«dict.__init__»;repeat (any_goals (first | assumption | (with_reducible refine k9 hL hA fun h1 C7 HP=>?_) | ((with_reducible show wpAny _ _ (pyIter _) _ _ _);refine Uk (p.keeps HP).isList ?_) | wp_step))
 have I1:Inv X pins σ (upd H D (.dK [])) {s0 with heap:=h1,toks:=C7}:=I0.kept HP;have I2:Inv X pins σ (upd H D (.dK [])) {s0 with heap:=h1.push {cls:= .type "list_iterator",data:= .fields #[.ref l, .int 0 0]},toks:=C7}:=I1.kept (t':=C7) fun b o e=>Sz _ e;refine⟨Vd br _,n4 (A:=X.A.in1) hn hA ps.length 0 _ _ [] (by omega) (by omega) I2 ae Ox Ie (by simpa using hsz) ⟨_,SI _ rfl,rfl,rfl⟩ (I1.nh (SD _) (I1.aO.fresh (SD _))) fun s' I'=>⟨rfl, .ref D,_,I',rfl,?_⟩⟩;rw[Qo];exact qq
end CS
namespace LD
open PySem PySem.Spec L2 LB CS PyProof.Rows
theorem av.Cr(E:av Ws M α H σ δ)(hi:δ[i]?=some (.dk ks ds))(ha:α[i]?=some [a]):av Ws (fun b=>M b/\b≠a) (α.set i []) H σ (δ.set i (.im (.kx ks ds))):=by
 have di:=(SM.mp hi).1;obtain⟨a',xs,h1,h2,h3,h4,r⟩:=E.dk hi;rw[ha] at h2;cases h2;have h2:=ha;have mono: ∀{v:V} {d:Dt},Rep M H v d->Rep (fun b=>M b/\b≠a) H v d:=fun r=>r.mono fun b u e n=>⟨e,fun z=>n z.1⟩
 have jv: ∀{v:List V} {d:List Dt},ax M H v d->ax (fun b=>M b/\b≠a) H v d:=fun r=>r.mono fun b u e n=>⟨e,fun z=>n z.1⟩
 refine⟨by rw[Te,E.ls],by rw[Te,Te,E.la],fun j s hj=>?_,bP E.nd VC (fun x hx=>absurd hx SH),fun b hb=>?_,fun b hb=>E.al b hb.1,fun W hW=>?_⟩
 . by_cases bb:i=j
   . subst bb;rw[SR di] at hj;cases hj;have rm:=jv r;exact⟨some (.ref a),[],h1,by rw[SR (by rw[E.la];exact di)],rfl,_,rfl, .kx h3 (fun z=>z.2 rfl) h4 rm.1 rm.2⟩
   . rw[SJ bb] at hj;obtain⟨o2,pM,g1,g2,g3⟩:=E.sl j s hj;refine⟨o2,pM,g1,by rw[SJ bb];exact g2,?_⟩;cases s with
     | no=>exact g3
     | im d=>exact⟨g3.1,let ⟨v,e,r⟩:=g3.2;⟨v,e,mono r⟩⟩
     | ow ds=>obtain⟨b,xs,e1,e2,e3,r⟩:=g3;exact⟨b,xs,e1,e2,e3,jv r⟩
     | bx t=>exact g3
     | dk ks ds=>obtain⟨b,vs,e1,e2,e3,e4,r⟩:=g3;exact⟨b,vs,e1,e2,e3,e4,jv r⟩
     | ob R=>obtain⟨v,e,r⟩:=g3;exact⟨v,e,R.st r (fun _ _ _ q=>q) fun b u q n=>⟨q,fun z=>n z.1⟩⟩
     | fn f=>exact g3
 . obtain⟨l,hl,hx⟩:=VH.mp hb;obtain⟨j,hj,e⟩:=Ua hl;have ej:(α.set i [])[j]?=some l:=by rw[Sy hj,e]
   by_cases bb:i=j
   . subst bb;rw[SR (by rw[E.la];exact di)] at ej;cases ej;exact absurd hx SH
   . rw[SJ bb] at ej;refine⟨E.mu b (bg ej hx),fun z=>?_⟩;subst z;exact eA E.nd ej h2 (Ne.symm bb) hx (by simp)
 . have k:=E.w W hW;refine⟨k.bs,k.ex,fun b hb=>(aY hb).elim (k.fr b) fun z=>absurd z SH,fun b z=>⟨k.m0 b z,fun y=>?_⟩,fun b z=>k.m1 b z.1,fun d c e=>?_,fun j s as g1 g2 nb=>?_⟩
   . subst y;exact k.fz i _ _ hi h2 rfl b (by simp) z
   . obtain⟨t,e1,e2⟩:=k.bx d c e;have:i≠0:=fun z=>by subst z;rw[hi] at e1;cases e1
     exact⟨t,by rw[SJ this];exact e1,by rw[SJ this];exact e2⟩
   . by_cases bb:i=j
     . subst bb;rw[SR (by rw[E.la];exact di)] at g2;cases g2;exact fun b hb=>absurd hb SH
     . rw[SJ bb] at g1 g2;exact k.fz j s as g1 g2 nb
noncomputable def F8(x:Int):Dt:= .tup [.int x, .bl true]
noncomputable def uC(L:List Int):List Key:=L.map .inl
noncomputable def zT(L:List Int):List Dt:=L.map fun _=> .bl true
theorem iw: ∀{ps vs:List (Key × V)},((vs++ps).map (·.1)).Nodup->bt vs ps=vs++ps
 | [],vs,_=>by rw[TX];rfl
 | p::ps,vs,h=>by
  have e:bt vs (p::ps)=bt (putK vs p.1 p.2) ps:=rfl;have n:(vs.any fun kv=>decide (kv.1=p.1))=false:=by
   rw[tJ,Vp];intro z;rw[TV,Ti] at h;exact(UK.mp h).2.2 _ z _ TM rfl
  have e2:putK vs p.1 p.2=vs++ [p]:=by unfold putK;rw[n];rfl
  rw[e,e2,iw (by rw[Tz];exact h),Tz];rfl
theorem xa: ∀{L:List Int} {xs:List V},ax M H xs (L.map F8)->xs.length=(L.map fun x=>((.inl x:Key),V.bl true)).length/\ ∀(j:Nat) (p:Key × V),(L.map fun x=>((.inl x:Key),V.bl true))[j]?=some p-> ∃q,xs[j]?=some (.ref q)/\H q=some (.tup [kV p.1,p.2]):=fun{L xs} r=>by
 refine⟨by rw[r.1,Sx,Sx],fun j p hj=>?_⟩;rw[SX] at hj;cases e:L[j]? with
 | none=>rw[e] at hj;cases hj
 | some x=>
  rw[e] at hj;cases hj;obtain⟨v,hv,rv⟩:=r.get (i:=j) (d:=F8 x) (by rw[SX,e];rfl);obtain⟨q,ys,rfl,hq,_,ry⟩:=rv.bM;obtain⟨y1,ys,rfl,q1,q2⟩:=ry.aK;obtain⟨y2,rfl,q3⟩:=bI q2;cases q1.ofInt;cases q3.mU;exact⟨q,hv,hq⟩
theorem sD{L:List Int}(h:L.Nodup):((L.map fun x=>((.inl x:Key),V.bl true)).map (·.1)).Nodup:=by
 rw[S5];exact List.Pairwise.map _ (fun a b (n:a≠b) (z:(Sum.inl a:Key)=Sum.inl b)=>n (Sum.inl.inj z)) h
theorem qT: ∀{L:List Int},ax M H ((L.map fun x=>((.inl x:Key),V.bl true)).map (·.2)) (zT L)
 | []=> .nil
 | x::L=> .cons (.bl true) qT
theorem xN{L:List Int}:(L.map fun x=>((.inl x:Key),V.bl true)).map (·.1)=uC L:=by rw[S5];rfl
section
variable {X : Cx} {a b e : Expr} {t : bj} {tA : eG} {pos p apos ba : Pos}
theorem rl:bootBuiltins "dict"=some (.type "dict"):=by decide+kernel
def FA(i:Nat)(t:eG):iY:=fun Δ δ=>t δ fun es δ'=> ∃L:List Int,es= [.lst (L.map F8)]/\L.Nodup/\L.length<=1000/\cX δ' i/\Δ.nx (δ'.set i (.dk (uC L) (zT L)))
theorem Am(i:Nat)(hN:X.N.Nodup)(hA:X.A.handled=none)(hm:X.mg "dict"=none)(ha:Av X [e] tA)(hi:X.N[i]?=some x:=by rfl)(hx:Loc X.env.scope x:=by first | exact Or.inl rfl | exact Or.inr rfl)(hg:Gl X "dict":=by rfl)(he:starEach [e] X.env=(false,eval e X.env)::starEach [] X.env:=by rfl)(cv:(backTo ba (starEach [] X.env)).any (·.1)=false:=by rfl)(hs:swapsWith (.Call (.Name "dict" p) [e] [] ba) (some (.Name x pos')) pos.line X.env=pure false:=by rfl)(hf:X.fn x=true\/X.env.scope.names.lookup x=some .local:=by first | exact .inl rfl | exact .inr rfl | assumption):
  Ex X (.Assign [.Name x pos'] (.Call (.Name "dict" p) [e] [] ba) pos) (FA i tA):=PS.imp (dZ hN hi hx (fK (rh hA) hg hm rl ha (by decide) (by decide) he cv) hs hf) fun D σ H fQ=>(by obtain⟨Ws,M,α,δ,Δ,E,L,q⟩:=fQ;exact(
 ⟨Ws,M,α,δ,_,E,q,fun es δ' H' vs gD E1 c1 r1=>(by obtain⟨l,e,nd,le,ok,q1⟩:=gD;exact(by
  subst e;obtain⟨y,rfl,ry⟩:=bI r1;obtain⟨b,ws,rfl,hb,nb,rb⟩:=ry.b6;obtain⟨g1,g2⟩:=xa rb;refine⟨b,ws,_,rfl,hb,g1,g2,by rw[Sx];exact T5 (aM le),fun d hd=>?_⟩;rw[iw (vs:= []) (by rw[List.nil_append];exact sD nd),List.nil_append];exact L.nx _ _ _ _ _ (E1.jg (s:= .dk (uC l) (zT l)) hd (fun xs z=>by cases z) ok rfl ⟨d,_,rfl,rfl,ae,xN,qT⟩) q1))⟩))
def Jf(i:Nat):bj:=fun δ Q=> ∃ks ds,δ[i]?=some (.dk ks ds)/\Q (.int ks.length) δ
theorem qW(i:Nat)(hm:X.mg "len"=none)(ho:PE X (.Name x xp) (iR i))(hg:Gl X "len":=by rfl)(he:starEach [.Name x xp] X.env=(false,eval (.Name x xp) X.env)::starEach [] X.env:=by rfl)(cv:(backTo pos (starEach [] X.env)).any (·.1)=false:=by rfl):
  Ev X (.Call (.Name "len" p) [.Name x xp] [] pos) (Jf i):=PE.imp (cK vm hg hm PySem.boot_len (az ho aN) (by decide) (by decide) he cv) fun σ H Q kd=>(by obtain⟨W,M,α,δ,Qd,E,⟨ks,ds,hd,q⟩,k⟩:=kd;exact(by
 obtain⟨a,vs,h1,h2,h3,h4,r⟩:=E.dk hd;refine⟨_,h1,a,vs,rfl,h3,?_⟩;have:vs.length=ks.length:=by rw[<-h4,Sx]
 rw[this];exact k _ _ _ _ q E (fun _ _ z _=>z) (.int _)))
def IX(i:Nat)(t:eG):bj:=fun δ Q=>(∃Oe Cv,δ[i]?=some (.dk Oe Cv))/\t δ fun es δ'=> ∃L M:List Int,es= [.lst (M.map F8)]/\δ'[i]?=some (.dk (uC L) (zT L))/\(L++M).Nodup/\(L++M).length<=1000/\Q .aI (δ'.set i (.dk (uC (L++M)) (zT (L++M))))
theorem Eg: ∀{M:Addr->Prop} {H:Hp} {vs:List (Key × V)},vs.map (·.1)=uC L->ax M H (vs.map (·.2)) (zT L)->vs=L.map fun x=>((.inl x:Key),V.bl true):=by
 induction L with
 | nil => intro M H vs e r
          have:vs.length=0:=by have:=UI List.length e;simpa [uC] using this
          rw[List.eq_nil_of_length_eq_zero this];rfl
 | cons x L ih=>
  intro M H vs e r;cases vs with
  | nil=>cases e
  | cons v vs=>
   rw[Ti] at e r;obtain⟨y,ys,e2,r1,r2⟩:=r.aK;cases e2;injection e with e3 e4
   rw[Ti,<-ih e4 r2];obtain⟨k,u⟩:=v;simp only at e3 r1;subst e3;cases r1.mU;rfl
theorem Fm(i:Nat)(hA:X.A.handled=none)(ho:PE X (.Name x xp) (iR i))(ha:Av X [e] tA)(dH:attributeBase (.Name x xp) "update" X.env (eval (.Name x xp) X.env)=eval (.Name x xp) X.env:=by rfl)(m7:((backTo ba (starEach [e] X.env)).all (fun x=>!x.1) && (backToKw ba (keywordEach [] X.env)).all (fun x=>x.1.isSome) && decide ([e].length+([]:List Keyword).length+(if ([]:List Keyword).isEmpty then 0 else 1) < 30))=true:=by rfl)(dG:(apos.endLine==ba.line)=true:=by rfl)(hs:starEach [e] X.env=(false,eval e X.env)::starEach [] X.env:=by rfl)(eu:(backTo ba (starEach [] X.env)).any (·.1)=false:=by rfl):
  Ev X (.Call (.Attribute (.Name x xp) "update" apos) [e] [] ba) (IX i tA):=
 PE.imp (si PySem.F.plainAttrs_dict PySem.F.slot_dict_update PySem.F.type_dict_update (uy hA) ho ha dH m7 dG hs eu) fun σ H Q mm=>(by obtain⟨W,M,α,δ,Qd,E,⟨⟨Oe,Cv,h0⟩,q⟩,k⟩:=mm;exact(by
  obtain⟨a,Pw,h1,h2,h3,h4,r⟩:=E.dk h0;refine⟨_,h1, .inr (.inr (.inl ⟨rfl, .inl ⟨_,h3⟩⟩)),W,M,α,δ,_,E,q,fun es δ' H' zs mj E1 c1 r1=>?_⟩;obtain⟨L,M2,e,hd,nd,le,q1⟩:=mj;subst e;obtain⟨y,rfl,ry⟩:=bI r1;obtain⟨b,ws,rfl,hb,nb,rb⟩:=ry.b6;obtain⟨g1,g2⟩:=xa rb;obtain⟨a',vs,sQ,vN,ET,QV,r'⟩:=E1.dk hd;rw[h1] at sQ;cases sQ;have ev:=Eg QV r';subst ev;refine⟨a,b,_,ws,_,rfl,rfl,ET,hb,g1,g2,by rw[Sx,Sx,<-SV];exact T5 (aM le),?_⟩;rw[iw (by rw[<-TV];exact sD nd),<-TV];obtain⟨E2,c2⟩:=Fi (vs':=(L++M2).map fun x=>((.inl x:Key),V.bl true)) E1 hd h1 vN xN qT;exact k _ _ _ _ q1 E2 (c1.tr c2) .aI))
end
theorem av.back(E:av W M α H σ δ)(hi:δ[i]?=some (.dk ks ds))(hs: ∀j s,j≠i->δ[j]?=some s->s= .no\/(∃d,s= .im d)\/ ∃t,s= .bx t)(ha:α[i]?=some [a])(E1:av W (fun b=>M b/\b≠a) (α.set i []) H' σ (δ.set i (.im (.kx ks ds))))(c1:b7 (α.set i []) H H'):av W M α H' σ δ/\b7 α H H'/\ ∃vs,H' a=some (.dK vs):=by
 obtain⟨a',vs,h1,h2,h3,h4,r⟩:=E.dk hi;rw[ha] at h2;cases h2;have E':=E.Cr hi ha;have sub: ∀b,b∈(α.set i []).flatten->b∈α.flatten/\b≠a:=fun b hb=>⟨(aY hb).elim id fun z=>absurd z SH,(E'.mu b hb).2⟩
 have na:a∉(α.set i []).flatten:=fun z=>(sub a z).2 rfl;have oZ:H' a=some (.dK vs):=c1 _ _ h3 na;have cg:b7 α H H':=fun b o e n=>c1 b o e fun z=>n (sub b z).1;have keep: ∀b o,H b=some o-> ¬M b->H' b=some o/\ ¬M b:=fun b o e n=>⟨cg b o e fun z=>n (E.mu b z),n⟩
 refine⟨⟨E.ls,E.la,fun j s hj=>?_,E.nd,E.mu,fun b hb=>?_,fun Wd hW=>?_⟩,cg,vs,oZ⟩
 . by_cases bb:j=i
   . subst bb;rw[hi] at hj;cases hj;exact⟨_,_,h1,ha,a,vs,rfl,rfl,oZ,h4,r.mono keep⟩
   . obtain⟨o,as,g1,g2,g3⟩:=E.sl j s hj;rcases hs j s bb hj with rfl | ⟨d,rfl⟩ | ⟨t,rfl⟩
     . exact⟨o,as,g1,g2,g3⟩
     . exact⟨o,as,g1,g2,g3.1,let ⟨u,e,ru⟩:=g3.2;⟨u,e,ru.mono keep⟩⟩
     . obtain⟨o2,pM,f1,f2,f3⟩:=E1.sl j (.bx t) (by rw[SJ (Ne.symm bb)];exact hj);rw[SJ (Ne.symm bb)] at f2;exact⟨o2,pM,f1,f2,f3⟩
 . by_cases z:b=a
   . subst z;exact⟨_,oZ,fun xs z=>by cases z⟩
   . exact E1.al b ⟨hb,z⟩
 . have k0:=E.w Wd hW;have k1:=E1.w Wd hW;exact⟨k1.bs,k1.ex,k0.fr,k0.m0,k0.m1,k0.bx,k0.fz⟩
def y4(i:Nat)(t:p6):p6:=fun δ Q=> ∃ks ds,δ[i]?=some (.dk ks ds)/\(∀j s,j≠i->δ[j]?=some s->s= .no\/(∃d,s= .im d)\/ ∃t,s= .bx t)/\t (δ.set i (.im (.kx ks ds))) fun es δ'=>δ'=δ.set i (.im (.kx ks ds))/\(∃ns:List Int,es=ns.map .int)/\Q es δ
theorem qE: ∀σ H Q,lO (y4 i t) σ H Q->lO t σ H Q:=fun σ H Q cu=>(by obtain⟨W,M,α,δ,Qd,E,⟨ks,ds,hi,hs,q⟩,k⟩:=cu;exact(by
 obtain⟨a,vs,h1,h2,h3,h4,r⟩:=E.dk hi;refine⟨W,_,α.set i [],_,_,E.Cr hi h2,q,fun es δ' H' xs p fQ E1 c1 r1 hp=>?_⟩;obtain⟨eδ,⟨ns,ed⟩,q1⟩:=fQ;subst eδ;subst ed;obtain⟨E2,c2,RH,OC⟩:=E.back hi hs h2 E1 c1;rw[ints_rep r1];exact k _ _ _ _ _ q1 E2 c2 jm hp))
theorem An(i l:Nat){pos' py:Pos}(hN:X.N.Nodup)(S:iZ X N nt js scope)(hc:X.calm=true)(hi:Iv X tg iter ti)(hg: ∀s H cl C ex,PG (dr X N scope s H cl C ex) tg gh)(fB:iX nt gh)(uK: ∀v σ H Q,lG g v σ H Q->gh v σ H Q)(hf: ∀s H cl C ex,PF (dr X N scope s H cl C ex) ifs (lT tc))(he: ∀s H cl C ex,Ev (dr X N scope s H cl C ex) elt te)(Be:X.N[i]?=some y:=by rfl)(hy:Loc X.env.scope y:=by first | exact Or.inl rfl | exact Or.inr rfl)(Ba:swapsWith (.ListComp elt [⟨tg,iter,ifs,0⟩] scope pos) (some (.Name y py)) pos'.line X.env=pure true:=by rfl)(hs: ∀x,foldedSetIterable iter X.env x=pure x:=by intro _;rfl)(uL:X.fn y=true\/X.env.scope.names.lookup y=some .local:=by first | exact .inl rfl | exact .inr rfl | assumption):
  Ex X (.Assign [.Name y py] (.ListComp elt [⟨tg,iter,ifs,0⟩] scope pos) pos') (yX i (y4 l (tw nt js ti g tc te))):=PS.imp (sd hN Be hy S hc hi hg fB hf he Ba hs uL) fun D σ H h=>by
 obtain⟨Ws,M,α,δ,Δ,E,L,q⟩:=h;refine iA uK _ _ _ (qE _ _ _ ⟨Ws,M,α,δ,_,E,q,fun ds δ' H1 xs a gD E1 c1 r1 h1=>?_⟩);obtain⟨ok,q1⟩:=gD;have E2:=E1.jg (s:= .ow ds) h1 (fun xs z=>by cases z) ok rfl ⟨a,xs,rfl,rfl,ae,r1.grow h1⟩;obtain⟨M',α',E3,_⟩:=E2.nV (SR ok.lt);rw[List.set_set] at E3;exact L.nx _ _ _ _ _ E3 q1
section
variable {X : Cx} {a b e f : Expr} {ta tb t : bj} {tA : eG} {pos p p2 : Pos}
noncomputable def Of(T:String):Dt->Option Bool
 | .aI=>some false
 | .bl _=>some (T=="bool" || T=="int")
 | .int _=>some (T=="int")
 | .str _=>some (T=="str")
 | .lst _=>some (T=="list")
 | .tup _=>some (T=="tuple")
 | _=>none
theorem A5{b:Bool}(r:Rep M H v d)(h:Of T d=some b):oY T H v=some b:=by
 cases r with
 | aI=>exact h
 | bl c=>exact h
 | int c=>exact h
 | str c=>exact h
 | lst e n l r=>simp only [oY,e];exact h
 | tup e n l r=>simp only [oY,e];exact h
 | kx e n k l r=>cases h
 | u3 e n k l r=>cases h
inductive Fw(T:String)(Q:Dt->List Sl->Prop)(d:Dt)(δ':List Sl):Prop
 | mk (b:_) (h1:Of T d=some b) (h2:Q (.bl b) δ')
def Nj(T:String)(t:bj):bj:=fun δ Q=>t δ fun d δ'=>Fw T Q d δ'
theorem vv:bootBuiltins "isinstance"=some (.builtin "isinstance"):=by decide+kernel
theorem fG(hT:T="int"\/T="bool"\/T="tuple"\/T="list"\/T="str")(hm:X.mg "isinstance"=none)(ha:PA X [e,f] (kS (lE t) (kS (tC (.ty T)) qi)))(hg:Gl X "isinstance":=by rfl)(he:starEach [e,f] X.env=(false,eval e X.env)::starEach [f] X.env:=by rfl)(cv:(backTo pos (starEach [f] X.env)).any (·.1)=false:=by rfl):
  Ev X (.Call (.Name "isinstance" p) [e,f] [] pos) (Nj T t):=PE.imp (cK (Ey hT) hg hm vv ha (by decide) (by decide) he cv) fun σ H Q mm=>(by obtain⟨W,M,α,δ,Qd,E,q,k⟩:=mm;exact(
 ⟨W,M,α,δ,_,E,q,fun d δ' H' v hU E1 c1 r1=>(by obtain⟨b,hb,q1⟩:=hU;exact(⟨v,b,rfl,A5 r1 hb,k _ _ _ _ q1 E1 c1 (.bl _)⟩))⟩))
end
end LD
namespace L2
open PySem PySem.Spec PyProof.Rows
section
variable {X : Cx}
noncomputable def iK(H:Hp):V->Option Bool
 | .aI=>some false
 | .bl _=>some false
 | .int _=>some false
 | .str _=>some false
 | .ref a=>match H a with
  | some (.lst _)=>some true
  | some (.tup _)=>some true
  | _=>none
 | _=>none
def GS(te:TE):TE:=fun σ H Q=>te σ H fun x H1=> ∃b,iK H1 x=some b/\Q (.bl b) H1
theorem AG{k}(he:PE X e te)(Mr:Gl X "isinstance")(Mk:X.mg "isinstance"=none)(Mq:Gl X "list")(Mj:X.mg "list"=none)(Mp:Gl X "tuple")(Mh:X.mg "tuple"=none)(hs:starEach [e, .Tuple [.Name "list" p1, .Name "tuple" p2] k pt] X.env=(false,eval e X.env)::starEach [.Tuple [.Name "list" p1, .Name "tuple" p2] k pt] X.env:=by rfl):
  PE X (.Call (.Name "isinstance" p) [e, .Tuple [.Name "list" p1, .Name "tuple" p2] k pt] [] pos) (GS te):=by
 intro pins s σ H Q I h;refine UT (cN I Mr Mk boot_isinstance ?_);refine PyProof.Rows.callWith_builtin1 ?_ hs rfl;rw[hs];show wpAny _ _ (spliced ((false,eval e X.env)::backTo pos (starEach [.Tuple [.Name "list" p1, .Name "tuple" p2] k pt] X.env))) _ _ s;refine Vv (aG (he pins s σ H _ I h) fun u s1 cu=>?_);obtain⟨x,H1,I1,r1,b0,ex,q1⟩:=cu;have h2:starEach [Expr.Tuple [.Name "list" p1, .Name "tuple" p2] k pt] X.env=(false,eval (.Tuple [.Name "list" p1, .Name "tuple" p2] k pt) X.env)::starEach [] X.env:=rfl;rw[h2];show wpAny _ _ (spliced ((false,eval (.Tuple [.Name "list" p1, .Name "tuple" p2] k pt) X.env)::backTo pos (starEach [] X.env))) _ _ s1;refine Vv (wpAny_Tuple_spliced ?_);have h3:starEach [Expr.Name "list" p1, .Name "tuple" p2] X.env=(false,eval (.Name "list" p1) X.env)::starEach [.Name "tuple" p2] X.env:=rfl;rw[h3];show wpAny _ _ (spliced ((false,eval (.Name "list" p1) X.env)::backTo pt (starEach [.Name "tuple" p2] X.env))) _ _ s1;refine Vv (cN I1 Mq Mj LB.eE ?_);have h4:starEach [Expr.Name "tuple" p2] X.env=(false,eval (.Name "tuple" p2) X.env)::starEach [] X.env:=rfl;rw[h4];show wpAny _ _ (spliced ((false,eval (.Name "tuple" p2) X.env)::backTo pt (starEach [] X.env))) _ _ s1;refine Vv (cN I1 Mp Mh LB.da ?_);refine Calls.spliced_nil ⟨by show 2<=sizeLine;decide,?_⟩;refine Calls.spliced_nil ?_;have fin: ∀(s':Shared),s'={s1 with heap:=s1.heap.push {cls:= .type "tuple",data:= .seq [Value.type "list",Value.type "tuple"].toArray}}-> ∀tk,EP X pins σ Q (.bool b0) {s' with toks:=tk}:=fun s' e tk=>by
  subst e;exact⟨.bl b0,H1,I1.kept fun b o e=>Sz _ e,rfl,q1⟩
 cases x with
 | aI=>
  cases ex;cases (show u=Value.none from r1);exact Vt (Tx:="NoneType") (cs:= [.type "list", .type "tuple"]) (vs:= [false,false]) ⟨Answers.of_false_none (by decide) (by rfl) (by rfl),Answers.of_false_none (by decide) (by rfl) (by rfl),True.intro⟩ rfl (SI _ rfl) (fin _ rfl)
 | bl i=>
  cases ex;cases (show u=Value.bool i from r1);exact Vt (Tx:="bool") (cs:= [.type "list", .type "tuple"]) (vs:= [false,false]) ⟨Answers.of_false_bool (by decide) (by rfl) (by rfl),Answers.of_false_bool (by decide) (by rfl) (by rfl),True.intro⟩ rfl (SI _ rfl) (fin _ rfl)
 | int i=>
  cases ex;obtain⟨t,rfl⟩:=(show∃t,u=Value.int i t from r1)
  exact Vt (Tx:="int") (cs:= [.type "list", .type "tuple"]) (vs:= [false,false]) ⟨Answers.of_false_int (by decide) (by rfl) (by rfl),Answers.of_false_int (by decide) (by rfl) (by rfl),True.intro⟩ rfl (SI _ rfl) (fin _ rfl)
 | str i=>
  cases ex;obtain⟨t,rfl⟩:=(show∃t,u=Value.str i t from r1)
  exact Vt (Tx:="str") (cs:= [.type "list", .type "tuple"]) (vs:= [false,false]) ⟨Answers.of_false_str (by decide) (by rfl) (by rfl),Answers.of_false_str (by decide) (by rfl) (by rfl),True.intro⟩ rfl (SI _ rfl) (fin _ rfl)
 | ref a=>
  cases (show u=Value.ref a from r1);cases ha:H1 a with
  | none=>simp only [iK,ha] at ex;cases ex
  | some o=>
   cases o with
   | lst xs=>
    simp only [iK,ha] at ex;cases ex;obtain⟨_,_,n,_,h1⟩:=(show aQ X.prog X.w H1 s1.heap a (.lst xs) from I1.aO a _ ha)
    exact Vt (Tx:="list") (cs:= [.type "list", .type "tuple"]) (vs:= [true,false]) ⟨Answers.of_true (by rfl) (by rfl),Answers.of_false_list (by decide) (by rfl) (by rfl),True.intro⟩ ⟨_,Sz _ h1,rfl⟩ (SI _ rfl) (fin _ rfl)
   | tup xs=>
    simp only [iK,ha] at ex;cases ex;obtain⟨_,_,_,o,ho,hc,_⟩:=(show aQ X.prog X.w H1 s1.heap a (.tup xs) from I1.aO a _ ha)
    exact Vt (Tx:="tuple") (cs:= [.type "list", .type "tuple"]) (vs:= [false,true]) ⟨Answers.of_false_tuple (by decide) (by rfl) (by rfl),Answers.of_true (by rfl) (by rfl),True.intro⟩ ⟨_,Sz _ ho,hc⟩ (SI _ rfl) (fin _ rfl)
   | _=>simp only [iK,ha] at ex;cases ex
 | _=>cases ex
end
end L2
namespace LD
open PySem PySem.Spec L2 LB CS PyProof.Rows LW
section
variable {X : Cx} {a b e f : Expr} {ta tb t t' : bj} {tA : eG} {pos p p2 : Pos}
noncomputable def HS:Dt->Option Bool
 | .kx _ _=>none
 | .u3 _ _=>none
 | .lst _=>some true
 | .tup _=>some true
 | _=>some false
theorem xR{b:Bool}(r:Rep M H v d)(h:HS d=some b):iK H v=some b:=by
 cases r with
 | aI=>exact h
 | bl c=>exact h
 | int c=>exact h
 | str c=>exact h
 | lst e n l r=>simp only [iK,e];exact h
 | tup e n l r=>simp only [iK,e];exact h
 | kx e n k l r=>cases h
 | u3 e n k l r=>cases h
inductive BB(Q:Dt->List Sl->Prop)(d:Dt)(δ':List Sl):Prop
 | mk (b:_) (h1:HS d=some b) (h2:Q (.bl b) δ')
def Jg(t:bj):bj:=fun δ Q=>t δ fun d δ'=>BB Q d δ'
theorem Fn{k}(he:Ev X e t)(Mk:X.mg "isinstance"=none)(Mj:X.mg "list"=none)(Mh:X.mg "tuple"=none)(Mr:Gl X "isinstance":=by rfl)(Mq:Gl X "list":=by rfl)(Mp:Gl X "tuple":=by rfl)(hs:starEach [e, .Tuple [.Name "list" p1, .Name "tuple" p2] k pt] X.env=(false,eval e X.env)::starEach [.Tuple [.Name "list" p1, .Name "tuple" p2] k pt] X.env:=by rfl):
  Ev X (.Call (.Name "isinstance" p) [e, .Tuple [.Name "list" p1, .Name "tuple" p2] k pt] [] pos) (Jg t):=PE.imp (AG he Mr Mk Mq Mj Mp Mh hs) fun σ H Q mi=>(by obtain⟨W,M,α,δ,Qd,E,q,k⟩:=mi;exact(
 ⟨W,M,α,δ,_,E,q,fun d δ' H' v dW E1 c1 r1=>(by obtain⟨b,hb,q1⟩:=dW;exact(⟨b,xR r1 hb,k _ _ _ _ q1 E1 c1 (.bl _)⟩))⟩))
theorem ax.rev(h:ax M H xs ds):ax M H xs.reverse ds.reverse:=by
 induction xs generalizing ds with
 | nil=>
  cases ds with
  | nil=>exact .nil
  | cons=>have:=h.1;simp at this
 | cons x xs ih=>
  cases ds with
  | nil=>have:=h.1;simp at this
  | cons d ds=>
   obtain⟨y,ys,e,r1,r2⟩:=h.aK;cases e;rw[Wc,Wc];exact(ih r2).append (.one r1)
end
end LD
namespace dQ
open PySem PyProof.Rows
noncomputable def cZ:Bool->Keyed->Array Keyed->Nat->Nat->Nat->StateT SortSt Sem (Option Nat):=sortPriv% PySem.Builtin.gallop
noncomputable def jx:Array Keyed->Array Keyed->StateT SortSt Sem (Array Keyed):=sortPriv% PySem.Builtin.mergeLo
noncomputable def jy:Array Keyed->Array Keyed->StateT SortSt Sem (Array Keyed):=sortPriv% PySem.Builtin.mergeHi
noncomputable abbrev setG (st:SortSt) (g:Nat):SortSt:=SortSt.mk' (kindOf st) (arrOf st) (pendingOf st) g (failedOf st)
section
variable {prog : Program} {w : World} {A : Around} {E : Value -> Shared -> Prop} {s : Shared}
theorem ah{M:Model}{α:Type}{c:Prop} [Decidable c]{a b:StateT SortSt Sem α}{Q:α->SortSt->Prop}{st:SortSt}(h:c)(q:wpS M A E s a Q st):wpS M A E s (if c then a else b) Q st:=by rw[if_pos h];exact q
theorem ai{M:Model}{α:Type}{c:Prop} [Decidable c]{a b:StateT SortSt Sem α}{Q:α->SortSt->Prop}{st:SortSt}(h: ¬c)(q:wpS M A E s b Q st):wpS M A E s (if c then a else b) Q st:=by rw[if_neg h];exact q
theorem au{st:SortSt}{xs:Array Keyed}{i:Nat}(hi:i < xs.size)(h:Q xs[i] st):wpS (model prog w) A E s (elem' xs i) Q st:=by
 rw[elem'_eq,S7 hi];exact SF h
theorem qO(left:Bool)(key:Keyed)(arr:Array Keyed)(base n hint:Nat):cZ left key arr base n hint=(do
 let beyond (i:Nat):StateT SortSt Sem (Option Bool):=do
  let x<-elem' arr (base+i)
  if left then lt' x key else return(<-lt' key x).map (!·)
 let mut i7:=0
 let mut vJ:=1
 let mut lo:=0
 let mut hi:=0
 let some right<-beyond hint | return none
 if right then
  let jB:=n - hint
  for _ in [0:n] do
   if vJ>=jB then break
   let some more<-beyond (hint+vJ) | return none
   if !more then break
   i7:=vJ
   vJ:=2*vJ+1
  lo:=hint+i7+1
  hi:=hint+min vJ jB
 else
  let jB:=hint+1
  for _ in [0:n] do
   if vJ>=jB then break
   let some found<-beyond (hint - vJ) | return none
   if found then break
   i7:=vJ
   vJ:=2*vJ+1
  lo:=hint+1 - min vJ jB
  hi:=hint - i7
 for _ in [0:n] do
  if lo>=hi then break
  let m:=lo+(hi - lo) / 2
  let some more<-beyond m | return none
  if more then lo:=m+1 else hi:=m
 return some hi):=rfl
noncomputable def bE:Nat->StateT SortSt Sem Unit:=sortPriv% PySem.Builtin.setMinGallop
theorem bA(g:Nat):bE g=modify fun s=>setG s g:=rfl
theorem oQ(a b:Array Keyed):jx a b=(do
 rule "list.sort.merge-lo"
 let total:=a.size+b.size
 let done (out:Array Keyed) (ia ib:Nat):=out++a.extract ia a.size++b.extract ib b.size
 let i8 (out:Array Keyed) (ia ib:Nat):=out++b.extract ib b.size++a.extract ia a.size
 let mut out:Array Keyed:= #[<-elem' b 0]
 let mut ia:=0
 let mut ib:=1
 if ib==b.size then return done out ia ib
 if ia+1==a.size then return i8 out ia ib
 let mut minGallop:=gallopOf (<-get)
 for _ in [0:total] do
  let mut cc:=0
  let mut cb:=0
  for _ in [0:total] do
   let some Jn<-lt' (<-elem' b ib) (<-elem' a ia) | return done out ia ib
   if Jn then
    out:=out.push (<-elem' b ib);ib:=ib+1;cb:=cb+1;cc:=0
    if ib==b.size then return done out ia ib
    if cb>=minGallop then break
   else
    out:=out.push (<-elem' a ia);ia:=ia+1;cc:=cc+1;cb:=0
    if ia+1==a.size then return i8 out ia ib
    if cc>=minGallop then break
  rule "list.sort.gallop"
  minGallop:=minGallop+1
  for _ in [0:total] do
   if minGallop > 1 then minGallop:=minGallop - 1
   bE minGallop
   let some k<-cZ false (<-elem' b ib) a ia (a.size - ia) 0 | return done out ia ib
   cc:=k
   if k > 0 then
    out:=out++a.extract ia (ia+k);ia:=ia+k
    if ia+1==a.size then return i8 out ia ib
    if ia==a.size then return done out ia ib
   out:=out.push (<-elem' b ib);ib:=ib+1
   if ib==b.size then return done out ia ib
   let some k<-cZ true (<-elem' a ia) b ib (b.size - ib) 0 | return done out ia ib
   cb:=k
   if k > 0 then
    out:=out++b.extract ib (ib+k);ib:=ib+k
    if ib==b.size then return done out ia ib
   out:=out.push (<-elem' a ia);ia:=ia+1
   if ia+1==a.size then return i8 out ia ib
   if cc < 7 && cb < 7 then break
  minGallop:=minGallop+1
  bE minGallop
 unsupported "internal:list.sort.merge-bound"):=rfl
theorem qB{a:Array Keyed}(h:i < a.size):a[i]∈a.toList:=by simp
end
theorem CK{β γ δ ε:Type}{A1 A2:Nat->Prop}{st:SortSt}{J:Nat->Option (Array Keyed) × β × γ × δ × ε->Prop}{G:Nat->Option (Array Keyed) × β × γ × δ × ε->SortSt->Prop}(h: ∀i a b c d g,A1 i->A2 i->J i (none,a,b,c,d)->G i (none,a,b,c,d) (setG st g)):
  ∀i c ao,A1 i->A2 i->((∃g,ao=setG st g)/\c.1=none/\J i c)->G i c ao:=by
 rintro i ⟨r,a,b,c,d⟩ ao h1 h2 ⟨⟨g,rfl⟩,hr,hJ⟩
 have hr:r=none:=hr;subst hr;exact h i a b c d g h1 h2 hJ
theorem CJ{β γ δ ε ζ:Type}{A1 A2:Nat->Prop}{J:Nat->Option (Array Keyed) × β × γ × δ × ε × ζ->Prop}{G:Nat->Option (Array Keyed) × β × γ × δ × ε × ζ->SortSt->Prop}(h: ∀i a b c d e,A1 i->A2 i->J i (none,a,b,c,d,e)->G i (none,a,b,c,d,e) ic):
  ∀i c ao,A1 i->A2 i->(ao=ic/\c.1=none/\J i c)->G i c ao:=by
 rintro i ⟨r,a,b,c,d,e⟩ ao h1 h2 ⟨rfl,hr,hJ⟩
 have hr:r=none:=hr;subst hr;exact h i a b c d e h1 h2 hJ
theorem CI{β γ δ ε ζ η:Type}{A1 A2:Nat->Prop}{st:SortSt}{J:Nat->Option (Array Keyed) × β × γ × δ × ε × ζ × η->Prop}{G:Nat->Option (Array Keyed) × β × γ × δ × ε × ζ × η->SortSt->Prop}(h: ∀i a b c d e f g,A1 i->A2 i->J i (none,a,b,c,d,e,f)->G i (none,a,b,c,d,e,f) (setG st g)):
  ∀i c ao,A1 i->A2 i->((∃g,ao=setG st g)/\c.1=none/\J i c)->G i c ao:=by
 rintro i ⟨r,a,b,c,d,e,f⟩ ao h1 h2 ⟨⟨g,rfl⟩,hr,hJ⟩
 have hr:r=none:=hr;subst hr;exact h i a b c d e f g h1 h2 hJ
theorem Hn{β γ δ ε ζ:Type}{ic:SortSt}{K:Array Keyed->Prop}{J:Option (Array Keyed) × β × γ × δ × ε × ζ->Prop}{G:Option (Array Keyed) × β × γ × δ × ε × ζ->SortSt->Prop}(h1: ∀r a b c d e,K r->G (some r,a,b,c,d,e) ic)(h2: ∀a b c d e,J (none,a,b,c,d,e)->G (none,a,b,c,d,e) ic):
  ∀c ao,(ao=ic/\((∃r,c.1=some r/\K r)\/(c.1=none/\J c)))->G c ao:=by
 rintro⟨r,a,b,c,d,e⟩ ao ⟨rfl,⟨r',hr,k⟩ | ⟨hr,hJ⟩⟩
 . have hr:r=some r':=hr;subst hr;exact h1 _ _ _ _ _ _ k
 . have hr:r=none:=hr;subst hr;exact h2 _ _ _ _ _ hJ
theorem Hm{β γ δ ε ζ η:Type}{st:SortSt}{K:Array Keyed->Prop}{J:Option (Array Keyed) × β × γ × δ × ε × ζ × η->Prop}{G:Option (Array Keyed) × β × γ × δ × ε × ζ × η->SortSt->Prop}(h1: ∀r a b c d e f g,K r->G (some r,a,b,c,d,e,f) (setG st g))(h2: ∀a b c d e f g,J (none,a,b,c,d,e,f)->G (none,a,b,c,d,e,f) (setG st g)):
  ∀c ao,((∃g,ao=setG st g)/\((∃r,c.1=some r/\K r)\/(c.1=none/\J c)))->G c ao:=by
 rintro⟨r,a,b,c,d,e,f⟩ ao ⟨⟨g,rfl⟩,⟨r',hr,k⟩ | ⟨hr,hJ⟩⟩
 . have hr:r=some r':=hr;subst hr;exact h1 _ _ _ _ _ _ _ _ k
 . have hr:r=none:=hr;subst hr;exact h2 _ _ _ _ _ _ _ hJ
theorem oR(a b:Array Keyed):jy a b=(do
 rule "list.sort.merge-hi"
 let total:=a.size+b.size
 let done (out:Array Keyed) (na nb:Nat):=a.extract 0 na++b.extract 0 nb++out.reverse
 let gW (out:Array Keyed) (na nb:Nat):=b.extract 0 nb++a.extract 0 na++out.reverse
 let mut na:=a.size - 1
 let mut nb:=b.size
 let mut out:Array Keyed:= #[<-elem' a na]
 if na==0 then return done out na nb
 if nb==1 then return gW out na nb
 let mut minGallop:=gallopOf (<-get)
 for _ in [0:total] do
  let mut cc:=0
  let mut cb:=0
  for _ in [0:total] do
   let some Jt<-lt' (<-elem' b (nb - 1)) (<-elem' a (na - 1)) | return done out na nb
   if Jt then
    na:=na - 1;out:=out.push (<-elem' a na);cc:=cc+1;cb:=0
    if na==0 then return done out na nb
    if cc>=minGallop then break
   else
    nb:=nb - 1;out:=out.push (<-elem' b nb);cb:=cb+1;cc:=0
    if nb==1 then return gW out na nb
    if cb>=minGallop then break
  rule "list.sort.gallop"
  minGallop:=minGallop+1
  for _ in [0:total] do
   if minGallop > 1 then minGallop:=minGallop - 1
   bE minGallop
   let some at_<-cZ false (<-elem' b (nb - 1)) a 0 na (na - 1) | return done out na nb
   let k:=na - at_
   cc:=k
   if k > 0 then
    out:=out++(a.extract at_ na).reverse;na:=at_
    if na==0 then return done out na nb
   nb:=nb - 1;out:=out.push (<-elem' b nb)
   if nb==1 then return gW out na nb
   let some at_<-cZ true (<-elem' a (na - 1)) b 0 nb (nb - 1) | return done out na nb
   let k:=nb - at_
   cb:=k
   if k > 0 then
    out:=out++(b.extract at_ nb).reverse;nb:=at_
    if nb==1 then return gW out na nb
    if nb==0 then return done out na nb
   na:=na - 1;out:=out.push (<-elem' a na)
   if na==0 then return done out na nb
   if cc < 7 && cb < 7 then break
  minGallop:=minGallop+1
  bE minGallop
 unsupported "internal:list.sort.merge-bound"):=rfl
section
variable {prog : Program} {w : World} {A : Around} {E : Value -> Shared -> Prop} {s : Shared} {a₀ : Array Keyed} {p : Array (Nat × Nat × Nat)}
def Ch:Nat->List (Nat × Nat × Nat)->Nat->Prop
 | s,[],e=>s=e
 | s,x::r,e=>x.1=s/\1<=x.2.1/\Ch (x.1+x.2.1) r e
theorem Ch.le: ∀{s e:Nat} {l:List (Nat × Nat × Nat)},Ch s l e->s<=e
 | s,e,[],h=>Nat.le_of_eq h
 | s,e,x::r,h=>by have:=Ch.le h.2.2;have:=h.1;lia
theorem Ch.two: ∀{s e i:Nat} {l:List (Nat × Nat × Nat)} {x y:Nat × Nat × Nat},Ch s l e->l[i]?=some x->l[i+1]?=some y->1<=x.2.1/\x.1+x.2.1=y.1/\1<=y.2.1/\y.1+y.2.1<=e
 | s,e,i,[],x,y,h,h1,_=>by simp at h1
 | s,e,0,[z],x,y,h,h1,h2=>by simp at h2
 | s,e,0,z::z2::r,x,y,h,h1,h2=>by
  cases (show z=x by simpa using h1);cases (show z2=y by simpa using h2);exact⟨h.2.1,h.2.2.1.symm,h.2.2.2.1,Ch.le h.2.2.2.2⟩
 | s,e,i+1,z::r,x,y,h,h1,h2=>Ch.two h.2.2 (by simpa using h1) (by simpa using h2)
theorem oS(i:Nat):mergeAt' i=(do
 let s<-get
 let (some (sa,na,power),some (sb,nb,_)):=((pendingOf s)[i]?,(pendingOf s)[i+1]?) | unsupported "internal:list.sort.pending"
 set (setPending s (((pendingOf s).setIfInBounds i (sa,na+nb,power)).eraseIdxIfInBounds (i+1)))
 let some k<-cZ false (<-elem' (arrOf s) sb) (arrOf s) sa na 0 | return false
 let (sa,na):=(sa+k,na - k)
 if na==0 then return true
 let some nb<-cZ true (<-elem' (arrOf s) (sa+na - 1)) (arrOf s) sb nb (nb - 1) | return false
 if nb==0 then return true
 let x:=(arrOf s).extract sa sb
 let y:=(arrOf s).extract sb (sb+nb)
 let merged<-if na<=nb then jx x y else jy x y
 modify fun s=>setArr s (merged.toList.zipIdx.foldl (fun a (p,j)=>a.setIfInBounds (sa+j) p) (arrOf s))
 return(failedOf (<-get)).isNone):=rfl
theorem zX{σ:Type}{M:Model}{Q:PUnit->σ->Prop}{st ao:σ}(h:Q ⟨⟩ ao):wpS M A E s (set ao:StateT σ Sem PUnit) Q st:=by
 unfold wpS;rw[StateT.run_set];exact SA ⟨rfl,h⟩
end
theorem jw: ∀{f n r:Nat},1<=n->1<=minRun' f n r
 | 0,n,r,h=>by show 1<=n+r;omega
 | f+1,n,r,h=>by
  rw[minRun'_succ];by_cases c:n < 64
  . rw[if_pos c];omega
  . rw[if_neg c];exact jw (by omega)
end dQ
namespace L2
open PySem PySem.Spec PyProof.Rows
theorem kK: ∀{cs:List Addr} {af:List Value},Vals (cs.map V.ref) af->af=cs.map Value.ref
 | [],_, .nil=>rfl
 | _::_,_, .cons r t=>by rw[kK t];cases r;rfl
end L2
namespace LD
open PySem PySem.Spec L2 LB CS PyProof.Rows
inductive nR:Dt->Prop where
 | aI:nR .aI
 | bl (b:Bool):nR (.bl b)
 | int (i:Int):nR (.int i)
 | str (x:Str):nR (.str x)
 | tup {ds:List Dt}:(∀d∈ds,nR d)->nR (.tup ds)
theorem Rep.uQ(r:Rep M H v d)(f:nR d)(al:hC M' H):Rep M' H v d:=by
 induction r with
 | aI=>exact .aI
 | bl b=>exact .bl b
 | int i=>exact .int i
 | str x=>exact .str x
 | lst h n l r ih=>cases f
 | tup h n l r ih=>
  cases f with
  | tup f=>exact .tup h (al.tup h) l fun i x d h1 h2=>ih i x d h1 h2 (f d (SW h2))
 | kx h n e l r ih=>cases f
 | u3 h n e l r ih=>cases f
theorem ax.uQ(r:ax M H v d)(f: ∀x∈d,nR x)(al:hC M' H):ax M' H v d:=⟨r.1,fun i x e h1 h2=>(r.2 i x e h1 h2).uQ (f e (SW h2)) al⟩
end LD
namespace L2
open PySem PySem.Spec PyProof.Rows
inductive rF(H:Hp):Nat->V->V->Bool->Prop
 | flat {k:Nat} {v w:V}:bX v=true->bX w=true->rF H k v w (kq v w)
 | tup {k:Nat} {p q:Addr} {xs ys:List V} {e:Nat->Bool}:H p=some (.tup xs)->H q=some (.tup ys)->(∀(j:Nat) x y,xs[j]?=some x->ys[j]?=some y->rF H k x y (e j))->rF H (k+1) (.ref p) (.ref q) ((List.range (min xs.length ys.length)).all e && xs.length==ys.length)
 | lst {k:Nat} {p q:Addr} {xs ys:List V} {e:Nat->Bool}:H p=some (.lst xs)->H q=some (.lst ys)->(∀(j:Nat) x y,xs[j]?=some x->ys[j]?=some y->rF H k x y (e j))->rF H (k+1) (.ref p) (.ref q) ((List.range (min xs.length ys.length)).all e && xs.length==ys.length)
theorem yy(h:bX v=true):kq v v=true:=by cases v <;> first | rfl | (show(_==_)=true;exact UR _) | cases h
theorem pN(h: ∀j,j < n->e j=true):((List.range (min n n)).all e && n==n)=true:=by
 rw[VX,UR,Bool.and_true,TH];exact fun j hj=>h j (Td.mp hj)
theorem rF.self: ∀{k:Nat} {v w:V} {b:Bool},rF H k v w b->v=w->b=true:=by
 intro k v w b h;induction h with
 | flat f1 f2=>intro e;subst e;exact yy f1
 | tup h1 h2 _ ih=>
  intro e;cases e;rw[h1] at h2;cases h2;exact pN fun j hj=>ih j _ _ (Sy hj) (Sy hj) rfl
 | lst h1 h2 _ ih=>
  intro e;cases e;rw[h1] at h2;cases h2;exact pN fun j hj=>ih j _ _ (Sy hj) (Sy hj) rfl
theorem item_at(r:Vals xs af)(h:j < af.toArray.size): ∃x,xs[j]?=some x/\RelV x af.toArray[j]:=by
 have hl:=r.length;have hj:j < af.length:=by simpa using h
 obtain⟨u,e,ru⟩:=r.get (i:=j) (x:=xs[j]'(by lia)) (Sy _);refine⟨_,Sy (by lia),?_⟩;have:af.toArray[j]=u:=by have:=(SM.mp e).2;simpa using this
 rw[this];exact ru
theorem rF.at(I:Inv X pins σ H s): ∀{k:Nat} {v w:V} {b:Bool},rF H k v w b-> ∀{A:Around} {u u':Value},A.units+k < cLine->RelV v u->RelV w u'->SeqAt.EqAt A s u u' b:=by
 intro k v w b h;induction h with
 | flat f1 f2=>intro A u u' _ r1 r2;exact qR r1 r2 f1 f2
 | @tup k p q xs ys e h1 h2 hc ih=>
  intro A u u' hu r1 r2;cases r1;cases r2;by_cases c:p=q
  . subst c;rw[(rF.tup h1 h2 hc).self rfl];exact SeqAt.EqAt.same _
  . obtain⟨af,rv,pl,_⟩:=I.tuple (cS.of h1);obtain⟨bo,kU,vI,_⟩:=I.tuple (cS.of h2);have g:=SeqAt.RcAt.tuples (A:=A) (s:=s) (e:=e) (show s.heap.IsTuple p _ from pl) (show s.heap.IsTuple q _ from vI) (by lia) fun j j1 j2=>by
     obtain⟨x,hx,rx⟩:=item_at rv j1;obtain⟨y,hy,ry⟩:=item_at kU j2;exact ih j x y hx hy (by show A.units+1+k < cLine;lia) rx ry
    rw[SK,SK,<-rv.length,<-kU.length] at g;exact SeqAt.EqAt.of_refs c g
 | @lst k p q xs ys e h1 h2 hc ih=>
  intro A u u' hu r1 r2;cases r1;cases r2;by_cases c:p=q
  . subst c;rw[(rF.lst h1 h2 hc).self rfl];exact SeqAt.EqAt.same _
  . obtain⟨af,rv,pl,_⟩:=I.list (cf.of h1);obtain⟨bo,kU,vI,_⟩:=I.list (cf.of h2);refine SeqAt.EqAt.of_refs c ?_;by_cases l:xs.length=ys.length
    . have g := SeqAt.RcAt.lists (A := A) (s := s) (e := e) pl.isList vI.isList (by rw[SK, SK, <- rv.length, <- kU.length]; exact l) (by lia) fun j j1 j2 => by
        obtain⟨x,hx,rx⟩:=item_at rv j1;obtain⟨y,hy,ry⟩:=item_at kU j2;exact ih j x y hx hy (by show A.units+1+k < cLine;lia) rx ry
      rw[SK,<-rv.length] at g;rw[<-l,VX,UR,Bool.and_true];exact g
    . have n:(xs.length==ys.length)=false:=by simpa using l
      rw[n,Bool.and_false];exact SeqAt.RcAt.lists_lengths pl.isList vI.isList (by rw[SK,SK,<-rv.length,<-kU.length];simpa using l) (by lia)
end L2
namespace LD
open PySem PySem.Spec L2 LB PyProof.Rows
noncomputable def sU:Nat->Dt->Dt->Bool
 | k+1, .lst ds, .lst es=>(List.range (min ds.length es.length)).all (fun j=>sU k (ds.getD j .aI) (es.getD j .aI)) && ds.length==es.length
 | k+1, .tup ds, .tup es=>(List.range (min ds.length es.length)).all (fun j=>sU k (ds.getD j .aI) (es.getD j .aI)) && ds.length==es.length
 | _,d,e=>yB d e
inductive BK:Nat->Dt->Dt->Prop
 | flat {k:Nat} {d e:Dt}:bQ d=true->bQ e=true->BK k d e
 | tup {k:Nat} {ds es:List Dt}:(∀(j:Nat) d e,ds[j]?=some d->es[j]?=some e->BK k d e)->BK (k+1) (.tup ds) (.tup es)
 | lst {k:Nat} {ds es:List Dt}:(∀(j:Nat) d e,ds[j]?=some d->es[j]?=some e->BK k d e)->BK (k+1) (.lst ds) (.lst es)
theorem jR(h:bQ d=true)(h2:bQ e=true):sU k d e=yB d e:=by
 cases k with
 | zero=>unfold sU;rfl
 | succ k=>cases d <;> cases e <;> first | (unfold sU;rfl) | cases h | cases h2
theorem FI(z:BK k d e): ∀{v w:V},Rep M H v d->Rep M H w e->rF H k v w (sU k d e):=by
 induction z with
 | flat f1 f2=>
  intro v w r1 r2;rw[jR f1 f2,<-nk r1 r2 f1 f2];exact .flat (fD r1 f1) (fD r2 f2)
 | @tup k ds es _ ih=>
  intro v w r1 r2;obtain⟨p,xs,rfl,h1,_,rr⟩:=r1.bM;obtain⟨q,ys,rfl,h2,_,pV⟩:=r2.bM;show rF H (k+1) _ _ ((List.range (min ds.length es.length)).all (fun j=>sU k (ds.getD j .aI) (es.getD j .aI)) && ds.length==es.length);rw[<-rr.1,<-pV.1];refine .tup h1 h2 fun j x y hx hy=>?_;have l1:j < ds.length:=by rw[<-rr.1];exact(SM.mp hx).1
  have l2:j < es.length:=by rw[<-pV.1];exact(SM.mp hy).1
  rw[show ds.getD j .aI=ds[j] by simp [List.getD,l1],show es.getD j .aI=es[j] by simp [List.getD,l2]];exact ih j _ _ (Sy l1) (Sy l2) (rr.2 j _ _ hx (Sy l1)) (pV.2 j _ _ hy (Sy l2))
 | @lst k ds es _ ih=>
  intro v w r1 r2;obtain⟨p,xs,rfl,h1,_,rr⟩:=r1.b6;obtain⟨q,ys,rfl,h2,_,pV⟩:=r2.b6;show rF H (k+1) _ _ ((List.range (min ds.length es.length)).all (fun j=>sU k (ds.getD j .aI) (es.getD j .aI)) && ds.length==es.length);rw[<-rr.1,<-pV.1];refine .lst h1 h2 fun j x y hx hy=>?_;have l1:j < ds.length:=by rw[<-rr.1];exact(SM.mp hx).1
  have l2:j < es.length:=by rw[<-pV.1];exact(SM.mp hy).1
  rw[show ds.getD j .aI=ds[j] by simp [List.getD,l1],show es.getD j .aI=es[j] by simp [List.getD,l2]];exact ih j _ _ (Sy l1) (Sy l2) (rr.2 j _ _ hx (Sy l1)) (pV.2 j _ _ hy (Sy l2))
end LD
namespace L2
open PySem PySem.Spec LB PyProof.Rows
section
variable {X : Cx}
def Hf(k:Nat)(neg:Bool):R2:=fun x y H Q=> ∃p q b,x= .ref p/\y= .ref q/\rF H (k+1) (.ref p) (.ref q) b/\Q (.bl (if neg then !b else b)) H
theorem D3(hu:X.A.units+(k+1) < cLine):eS X (compareOp .NotEq) (Hf k true):=by
 intro pins s σ H x y v u Q I rx ry h;obtain⟨p,q,b,rfl,rfl,hc,hq⟩:=h;cases rx;cases ry;cases hc with
 | flat f1 _=>cases f1
 | @tup _ _ _ xs ys e h1 h2 hc=>
  obtain⟨af,rv,pl,_⟩:=I.tuple (cS.of h1);obtain⟨bo,kU,vI,_⟩:=I.tuple (cS.of h2);have g:=SeqAt.RcNeAt.tuples (A:=X.A) (s:=s) (e:=e) (show s.heap.IsTuple p _ from pl) (show s.heap.IsTuple q _ from vI) (by lia) fun j j1 j2=>by
   obtain⟨x,hx,rx⟩:=item_at rv j1;obtain⟨y,hy,ry⟩:=item_at kU j2;exact(hc j x y hx hy).at I (by show X.A.units+1+k < cLine;lia) rx ry
  rw[SK,SK,<-rv.length,<-kU.length] at g;exact g _ _ _ _ ⟨.bl _,H,I,rfl,hq⟩
 | @lst _ _ _ xs ys e h1 h2 hc=>
  obtain⟨af,rv,pl,_⟩:=I.list (cf.of h1);obtain⟨bo,kU,vI,_⟩:=I.list (cf.of h2);by_cases l:xs.length=ys.length
  . have g := SeqAt.RcNeAt.lists (A := X.A) (s := s) (e := e) pl.isList vI.isList (by rw[SK, SK, <- rv.length, <- kU.length]; exact l) (by lia) fun j j1 j2 => by
      obtain⟨x,hx,rx⟩:=item_at rv j1;obtain⟨y,hy,ry⟩:=item_at kU j2;exact(hc j x y hx hy).at I (by show X.A.units+1+k < cLine;lia) rx ry
    rw[SK,<-rv.length] at g;rw[<-l,VX,UR,Bool.and_true] at hq;exact g _ _ _ _ ⟨.bl _,H,I,rfl,hq⟩
  . have n:(xs.length==ys.length)=false:=by simpa using l
    rw[n,Bool.and_false] at hq;exact(SeqAt.RcNeAt.lists_lengths pl.isList vI.isList (by rw[SK,SK,<-rv.length,<-kU.length];simpa using l) (by lia)) _ _ _ _ ⟨.bl _,H,I,rfl,hq⟩
end
end L2
namespace LD
open PySem PySem.Spec L2 LB PyProof.Rows
section
variable {X : Cx} {a b e : Expr} {ta tb t : bj} {tA : eG} {pos p apos ba : Pos}
inductive CU(k:Nat)(neg:Bool)(d1 d2:Dt)(Q:Dt->Prop):Prop
 | mk (h1:bQ d1=false) (h2:BK (k+1) d1 d2) (h3:Q (.bl (if neg then !sU (k+1) d1 d2 else sU (k+1) d1 d2)))
theorem Fh:p8 (Hf k neg) (CU k neg):=fun M H x y d1 d2 Qd Q al r1 r2 zz k'=>(by
 obtain⟨h1,h2,q⟩:=zz;have c:=FI h2 r1 r2;have rf: ∃p q,x= .ref p/\y= .ref q:=by
  cases h2 with
  | flat f1 _=>rw[f1] at h1;cases h1
  | tup _=>obtain⟨p,_,e,_⟩:=r1.bM;obtain⟨q,_,e2,_⟩:=r2.bM;exact⟨p,q,e,e2⟩
  | lst _=>obtain⟨p,_,e,_⟩:=r1.b6;obtain⟨q,_,e2,_⟩:=r2.b6;exact⟨p,q,e,e2⟩
 obtain⟨p,q',rfl,rfl⟩:=rf;exact⟨p,q',_,rfl,rfl,c,k' H _ _ q (fun _ _ z=>z) (.bl _)⟩)
theorem GH(k:Nat)(hu:X.A.units+(k+1) < cLine)(ha:Ev X a ta)(hb:Ev X b tb):Tv X (.Compare a [.NotEq] [b] pos) (dT (pF (CU k true) ta tb)):=qV (D3 hu) Fh ha hb (df _)
end
end LD
namespace L2
open PySem PySem.Spec LB PyProof.Rows eF
section
variable {X : Cx} {K : Type} [DecidableEq K]
theorem Inv.Bp(I:Inv X pins σ H s)(d:Drawn):Inv X pins σ H {s with drawn:=d}:=⟨I.ok,I.os,I.bare,I.base,I.loc,I.cell,I.free,I.eL,I.pin,I.aO,I.len⟩
end
end L2
namespace LD
open PySem PySem.Spec L2 LB PyProof.Rows eF
theorem vp:bootBuiltins "set"=some (.type "set"):=by decide+kernel
end LD
namespace dP
open PySem PyProof.Rows dQ
noncomputable def rk(R:Keyed->Int)(a:Array Keyed)(i:Nat):Int:=(a[i]?.map R).getD 0
def cF(R:Keyed->Int)(a:Array Keyed):Prop:=a.toList.Pairwise fun x y=>R x<=R y
def Out(R:Keyed->Int)(a b m:Array Keyed):Prop:=m.toList.Perm (a.toList++b.toList)/\cF R m
section
variable {R : Keyed -> Int}
theorem bq{a:Array Keyed}(h:i < a.size):rk R a i=R a[i]:=by
 unfold rk;rw[S7 h];rfl
theorem cF.rk{a:Array Keyed}(h:cF R a){i j:Nat}(bb:i<=j)(hj:j < a.size):rk R a i<=rk R a j:=by
 rw[bq (show i < a.size by lia),bq hj];by_cases c:i=j
 . subst c;exact U6 _
 . exact Vk.mp h i j (by simpa using (show i < a.size by lia)) (by simpa using hj) (by lia)
theorem eC{a:Array Keyed}:(a.extract i j).toList=(a.toList.drop i).take (j - i):=by
 rw[Array.toList_extract,List.extract_eq_drop_take]
theorem bY{a:Array Keyed}(h:x∈(a.extract i j).toList): ∃k,i<=k/\k < j/\k < a.size/\R x=dP.rk R a k:=by
 obtain⟨k,hk,e⟩:=Ua h;have Il:k < (a.extract i j).size:=by rw[<-SN];exact hk
 have hs:(a.extract i j).size=min j a.size - i:=UW;refine⟨i+k,by lia,by lia,by lia,?_⟩;rw[bq (show i+k < a.size by lia),<-e];congr 1
 rw[Array.getElem_toList,Array.getElem_extract]
theorem cF.ex(h:cF R a)(i j:Nat):cF R (a.extract i j):=by
 unfold cF;rw[eC];exact(List.Pairwise.sublist (List.drop_sublist _ _) h).sublist (Wa _ _)
theorem r8{a out:Array Keyed}(h:i < a.size):out.push a[i]=out++a.extract i (i+1):=by
 apply VJ.mp;rw[Uw,TB,eC,show i+1 - i=1 by lia];congr 1
 have h':i < a.toList.length:=by simpa using h
 rw[Vl h',List.take_succ_cons,List.take_zero,Array.getElem_toList]
structure Lo(R:Keyed->Int)(a b out:Array Keyed)(ia ib:Nat):Prop where
 pm:(out.toList++(a.toList.drop ia++b.toList.drop ib)).Perm (a.toList++b.toList)
 so:cF R out
 la: ∀x∈out.toList,∀j,ia<=j->j < a.size->R x<=rk R a j
 lb: ∀x∈out.toList,∀j,ib<=j->j < b.size->R x<=rk R b j
theorem cF.app(h1:cF R m)(h2:cF R n)(h: ∀x∈m.toList,∀y∈n.toList,R x<=R y):cF R (m++n):=by
 unfold cF;rw[TB];exact List.pairwise_append.mpr ⟨h1,h2,h⟩
theorem sW{a:Array Keyed}(h:i<=j):a.toList.drop i=(a.extract i j).toList++a.toList.drop j:=by
 rw[eC];conv=>lhs;rw[<-UB (j - i) (a.toList.drop i)]
 rw[List.drop_drop,show i+(j - i)=j by lia]
theorem Lo.gK{a b out:Array Keyed}{ia ib:Nat}(h:Lo R a b out ia ib)(sa:cF R a)(sb:cF R b){ia':Nat}(h1:ia<=ia')(hc:ia < ia'->ia'<=a.size->ib < b.size->rk R a (ia' - 1)<=rk R b ib)(h2:ia'<=a.size:=by lia):Lo R a b (out++a.extract ia ia') ia' ib:=by
 refine⟨?_,h.so.app (sa.ex _ _) fun x hx y hy=>?_,fun x hx j j1 j2=>?_,fun x hx j j1 j2=>?_⟩
 . rw[TB];refine List.Perm.trans ?_ h.pm;rw[sW (a:=a) h1,Tz,Tz]
 . obtain⟨k,k1,k2,k3,e⟩:=bY (R:=R) hy;rw[e];exact h.la x hx k k1 k3
 . rw[TB] at hx;rcases Ts.mp hx with z | z
   . exact h.la x z j (by lia) j2
   . obtain⟨k,k1,k2,k3,e⟩:=bY (R:=R) z;rw[e];exact sa.rk (by lia) j2
 . rw[TB] at hx;rcases Ts.mp hx with z | z
   . exact h.lb x z j j1 j2
   . obtain⟨k,k1,k2,k3,e⟩:=bY (R:=R) z;rw[e];have q1:=sa.rk (show k<=ia' - 1 by lia) (by lia);have q2:=hc (by lia) h2 (by lia);have q3:=sb.rk j1 j2;lia
theorem Lo.eY{a b out:Array Keyed}{ia ib:Nat}(h:Lo R a b out ia ib)(sa:cF R a)(sb:cF R b){ib':Nat}(h1:ib<=ib')(hc:ib < ib'->ib'<=b.size->ia < a.size->rk R b (ib' - 1)<=rk R a ia)(h2:ib'<=b.size:=by lia):Lo R a b (out++b.extract ib ib') ia ib':=by
 refine⟨?_,h.so.app (sb.ex _ _) fun x hx y hy=>?_,fun x hx j j1 j2=>?_,fun x hx j j1 j2=>?_⟩
 . rw[TB];refine List.Perm.trans ?_ h.pm;rw[sW (a:=b) h1,Tz];refine List.Perm.append_left _ ?_;rw[<-Tz,<-Tz];exact List.Perm.append_right _ List.perm_append_comm
 . obtain⟨k,k1,k2,k3,e⟩:=bY (R:=R) hy;rw[e];exact h.lb x hx k k1 k3
 . rw[TB] at hx;rcases Ts.mp hx with z | z
   . exact h.la x z j j1 j2
   . obtain⟨k,k1,k2,k3,e⟩:=bY (R:=R) z;rw[e];have q1:=sb.rk (show k<=ib' - 1 by lia) (by lia);have q2:=hc (by lia) h2 (by lia);have q3:=sa.rk j1 j2;lia
 . rw[TB] at hx;rcases Ts.mp hx with z | z
   . exact h.lb x z j (by lia) j2
   . obtain⟨k,k1,k2,k3,e⟩:=bY (R:=R) z;rw[e];exact sb.rk (by lia) j2
theorem Lo.out{a b out:Array Keyed}{ia ib:Nat}(h:Lo R a b out ia ib)(h1:ia=a.size)(h2:ib=b.size):Out R a b out:=by
 refine⟨?_,h.so⟩;have:=h.pm;rw[h1,h2,List.drop_eq_nil_of_le (by simp),List.drop_eq_nil_of_le (by simp),TX,TX] at this;exact this
theorem Lo.done{a b out:Array Keyed}{ia ib:Nat}(h:Lo R a b out ia ib)(sa:cF R a)(sb:cF R b)(ha:ia<=a.size)(hb:ib<=b.size)(hh:ib=b.size\/ia=a.size):Out R a b (out++a.extract ia a.size++b.extract ib b.size):=
 ((h.gK sa sb ha (fun z1 _ z=>by lia) (SD _)).eY sa sb hb (fun z1 _ z=>by lia) (SD _)).out rfl rfl
theorem Lo.last{a b out:Array Keyed}{ia ib:Nat}(h:Lo R a b out ia ib)(sa:cF R a)(sb:cF R b)(ha:ia<=a.size)(hb:ib<=b.size)(hl:ib < b.size->rk R b (b.size - 1)<=rk R a ia):Out R a b (out++b.extract ib b.size++a.extract ia a.size):=
 ((h.eY sa sb hb (fun z1 _ z=>hl z1) (SD _)).gK sa sb ha (fun z1 _ z=>by lia) (SD _)).out rfl rfl
end
section
variable {prog : Program} {w : World} {A : Around} {E : Value -> Shared -> Prop} {s : Shared} {κ : SortKind} {R : Keyed -> Int} {D : Keyed -> Prop}
def kJ(prog:Program)(w:World)(A:Around)(E:Value->Shared->Prop)(s:Shared)(κ:SortKind)(R:Keyed->Int)(D:Keyed->Prop):Prop:= ∀(st:SortSt) (x y:Keyed) (Q:Option Bool->SortSt->Prop),kindOf st=κ->D x->D y->Q (some (decide (R x < R y))) st->wpS (model prog w) A E s (lt' x y) Q st
def Dk(D:Keyed->Prop)(a:Array Keyed):Prop:= ∀i (h:i < a.size),D a[i]
noncomputable def dS(R:Keyed->Int)(left:Bool)(r:Int)(a:Array Keyed)(i:Nat):Bool:=if left then decide (rk R a i < r) else !decide (r < rk R a i)
theorem pK(h:rk R a i<=rk R a j)(hb:dS R left r a j=true):dS R left r a i=true:=by
 unfold dS at hb ⊢;cases left
 . simp at hb ⊢;lia
 . simp at hb ⊢;lia
theorem zo(h:rk R a i<=rk R a j)(hb:dS R left r a i=false):dS R left r a j=false:=by
 cases e:dS R left r a j with
 | false=>rfl
 | true=>rw[pK h e] at hb;cases hb
theorem j5(h:dS R true r a i=true):rk R a i < r:=by unfold dS at h;simpa using h
theorem j6(h:dS R true r a i=false):r<=rk R a i:=by unfold dS at h;simpa using h
theorem rp(h:dS R false r a i=true):rk R a i<=r:=by unfold dS at h;simpa using h
theorem rq(h:dS R false r a i=false):r < rk R a i:=by unfold dS at h;simpa using h
theorem i0(L:kJ prog w A E s κ R D){st:SortSt}{left:Bool}{base i:Nat}(hk:kindOf st=κ)(hx:Dk D arr)(m4:D key)(hi:base+i < arr.size)(h:Q (some (dS R left (R key) arr (base+i))) st):
  wpS (model prog w) A E s (do
   let x<-elem' arr (base+i)
   if left then lt' x key else return(<-lt' key x).map (!·)) Q st:=by
 refine SE (au hi ?_);unfold dS at h;rw[bq hi] at h;cases left with
 | true=>rw[if_pos rfl] at h ⊢;exact L _ _ _ _ hk (hx _ hi) m4 h
 | false=>
  rw[if_neg SG] at h ⊢;exact SE (L _ _ _ _ hk m4 (hx _ hi) (SF h))
theorem cU(L:kJ prog w A E s κ R D){st:SortSt}{left:Bool}{base n hint:Nat}(hk:kindOf st=κ)(hx:Dk D arr)(m4:D key)(hb:base+n<=arr.size)(hh:hint < n)(hm: ∀i j,i<=j->j < n->rk R arr (base+i)<=rk R arr (base+j))(h: ∀k,k<=n->(∀i,i < k->dS R left (R key) arr (base+i)=true)->(∀i,k<=i->i < n->dS R left (R key) arr (base+i)=false)->Q (some k) st):wpS (model prog w) A E s (cZ left key arr base n hint) Q st:=by
 have up: ∀j,j < n->dS R left (R key) arr (base+j)=true-> ∀i,i<=j->dS R left (R key) arr (base+i)=true:=fun j hj hb i hi=>pK (hm i j hi hj) hb;have dn: ∀i,dS R left (R key) arr (base+i)=false-> ∀j,i<=j->j < n->dS R left (R key) arr (base+j)=false:=fun i hb j hi hj=>zo (hm i j hi hj) hb;rw[qO];dsimp only;have tail: ∀lo hi:Nat,lo<=hi->hi<=n->(∀i,i < lo->dS R left (R key) arr (base+i)=true)->(∀i,hi<=i->i < n->dS R left (R key) arr (base+i)=false)->wpS (model prog w) A E s (do
   let mut lo:=lo
   let mut hi:=hi
   for _ in [0:n] do
    if lo>=hi then break
    let m:=lo+(hi - lo) / 2
    let some more<-(do
      let x<-elem' arr (base+m)
      if left then lt' x key else return(<-lt' key x).map (!·):StateT SortSt Sem (Option Bool)) | return none
    if more then lo:=m+1 else hi:=m
   return some hi) Q st:=by
  intro lo hi Gi Kd hP hN;dsimp only;refine SE (Ud (TF (I:=fun x c ao=>ao=st/\c.1=none/\c.2.1<=c.2.2/\c.2.2<=n/\c.2.2 - c.2.1<=n - x/\(∀i,i < c.2.1->dS R left (R key) arr (base+i)=true)/\ ∀i,c.2.2<=i->i < n->dS R left (R key) arr (base+i)=false)
   (Q:=fun c ao=>ao=st/\c.1=none/\c.2.1=c.2.2/\c.2.2<=n/\(∀i,i < c.2.1->dS R left (R key) arr (base+i)=true)/\ ∀i,c.2.2<=i->i < n->dS R left (R key) arr (base+i)=false) ?step ?fin ⟨rfl,rfl,Gi,Kd,by dsimp only;lia,hP,hN⟩) ?post)
  case post=>
   rintro⟨r,l,u⟩ ao ⟨rfl,h1,h2,h3,h4,h5⟩
   dsimp only at h1 h2 h3 h4 h5 ⊢;subst h1;subst h2;exact SF (h _ h3 h4 h5)
  case fin=>
   rintro⟨r,l,u⟩ ao ⟨h0,h1,h2,h3,h4,h5,h6⟩
   dsimp only at h2 h4;exact⟨h0,h1,by dsimp only;lia,h3,h5,h6⟩
  case step=>
   rintro x ⟨r,l,u⟩ ao _ RS ⟨rfl,h1,h2,h3,h4,h5,h6⟩
   dsimp only at h1 h2 h3 h4 h5 h6 ⊢;subst h1;by_cases c:l>=u
   . rw[if_pos c];exact SF ⟨rfl,rfl,by dsimp only;lia,h3,h5,h6⟩
   . rw[if_neg c];refine SE (i0 L hk hx m4 (by lia) ?_);cases e:dS R left (R key) arr (base+(l+(u - l) / 2))
     . exact SF ⟨rfl,rfl,by dsimp only;lia,by dsimp only;lia,by dsimp only;lia,h5,dn _ e⟩
     . exact SF ⟨rfl,rfl,by dsimp only;lia,h3,by dsimp only;lia,fun i hi=>up _ (by lia) e i (by dsimp only at hi;lia),h6⟩
 refine SE (i0 L hk hx m4 (by lia) ?_);cases right:dS R left (R key) arr (base+hint) with
 | true=>
  dsimp only;rw[if_pos rfl];refine SE (Ud (TF (I:=fun x c ao=>ao=st/\c.1=none/\hint+c.2.1 < n/\dS R left (R key) arr (base+(hint+c.2.1))=true/\c.2.1 < c.2.2/\x+1<=c.2.2)
   (Q:=fun c ao=>ao=st/\c.1=none/\hint+c.2.1 < n/\dS R left (R key) arr (base+(hint+c.2.1))=true/\c.2.1 < c.2.2/\(n - hint<=c.2.2\/hint+c.2.2 < n/\dS R left (R key) arr (base+(hint+c.2.2))=false)) ?step ?fin ⟨rfl,rfl,hh,by dsimp only;rw[VZ];exact right,by decide,by decide⟩) ?post)
  case post=>
   rintro⟨r,l,u⟩ ao ⟨rfl,h1,h2,h3,h4,h5⟩
   dsimp only at h1 h2 h3 h4 h5 ⊢;subst h1;have q: ∀i,hint+min u (n - hint)<=i->i < n->dS R left (R key) arr (base+i)=false:=fun i hi hn=>by
    rcases h5 with z | z
    . lia
    . exact dn _ z.2 i (by lia) hn
   exact tail _ _ (by lia) (by lia) (fun i hi=>up _ h2 h3 i (by lia)) q
  case fin=>
   rintro⟨r,l,u⟩ ao ⟨h0,h1,h2,h3,h4,h5⟩
   dsimp only at h5;exact⟨h0,h1,h2,h3,h4, .inl (by dsimp only;lia)⟩
  case step=>
   rintro x ⟨r,l,u⟩ ao _ _ ⟨rfl,h1,h2,h3,h4,h5⟩
   dsimp only at h1 h2 h3 h4 h5 ⊢;subst h1;by_cases c:u>=n - hint
   . rw[if_pos c];exact SF ⟨rfl,rfl,h2,h3,h4, .inl c⟩
   . rw[if_neg c];refine SE (i0 L hk hx m4 (by lia) ?_);cases e:dS R left (R key) arr (base+(hint+u))
     . exact SF ⟨rfl,rfl,h2,h3,h4, .inr ⟨by dsimp only;lia,e⟩⟩
     . exact SF ⟨rfl,rfl,by dsimp only;lia,e,by dsimp only;lia,by dsimp only;lia⟩
 | false=>
  dsimp only;rw[if_neg SG];refine SE (Ud (TF (I:=fun x c ao=>ao=st/\c.1=none/\c.2.1<=hint/\dS R left (R key) arr (base+(hint - c.2.1))=false/\c.2.1 < c.2.2/\x+1<=c.2.2)
   (Q:=fun c ao=>ao=st/\c.1=none/\c.2.1<=hint/\dS R left (R key) arr (base+(hint - c.2.1))=false/\c.2.1 < c.2.2/\(hint+1<=c.2.2\/c.2.2<=hint/\dS R left (R key) arr (base+(hint - c.2.2))=true)) ?step ?fin ⟨rfl,rfl,Tw _,by dsimp only;rw[Nat.sub_zero];exact right,by decide,by decide⟩) ?post)
  case post=>
   rintro⟨r,l,u⟩ ao ⟨rfl,h1,h2,h3,h4,h5⟩
   dsimp only at h1 h2 h3 h4 h5 ⊢;subst h1;have q: ∀i,i < hint+1 - min u (hint+1)->dS R left (R key) arr (base+i)=true:=fun i hi=>by
    rcases h5 with z | z
    . lia
    . exact up _ (by lia) z.2 i (by lia)
   exact tail _ _ (by lia) (by lia) q fun i hi hn=>dn _ h3 i hi hn
  case fin=>
   rintro⟨r,l,u⟩ ao ⟨h0,h1,h2,h3,h4,h5⟩
   dsimp only at h5;exact⟨h0,h1,h2,h3,h4, .inl (by dsimp only;lia)⟩
  case step=>
   rintro x ⟨r,l,u⟩ ao _ _ ⟨rfl,h1,h2,h3,h4,h5⟩
   dsimp only at h1 h2 h3 h4 h5 ⊢;subst h1;by_cases c:u>=hint+1
   . rw[if_pos c];exact SF ⟨rfl,rfl,h2,h3,h4, .inl c⟩
   . rw[if_neg c];refine SE (i0 L hk hx m4 (by lia) ?_);cases e:dS R left (R key) arr (base+(hint - u))
     . exact SF ⟨rfl,rfl,by dsimp only;lia,e,by dsimp only;lia,by dsimp only;lia⟩
     . exact SF ⟨rfl,rfl,h2,h3,h4, .inr ⟨by dsimp only;lia,e⟩⟩
end
theorem Lo.iI{a b out:Array Keyed}{ia ib:Nat}(h:Lo R a b out ia ib)(sa:cF R a)(sb:cF R b)(hi:ib < b.size)(hc:ia < a.size->rk R b ib<=rk R a ia):Lo R a b (out.push b[ib]) ia (ib+1):=by
 rw[r8 hi];exact h.eY sa sb (by lia) (fun _ _ z=>by rw[Ug];exact hc z) (by lia)
theorem Lo.eK{a b out:Array Keyed}{ia ib:Nat}(h:Lo R a b out ia ib)(sa:cF R a)(sb:cF R b)(hi:ia < a.size)(hc:ib < b.size->rk R a ia<=rk R b ib):Lo R a b (out.push a[ia]) (ia+1) ib:=by
 rw[r8 hi];exact h.gK sa sb (by lia) (fun _ _ z=>by rw[Ug];exact hc z) (by lia)
theorem Lo.start(sa:cF R a)(sb:cF R b)(b1:0 < b.size)(hc:0 < a.size->rk R b 0<=rk R a 0):Lo R a b #[b[0]] 0 1:=
 Lo.iI (out:= #[]) ⟨by simp,List.Pairwise.nil,fun x hx=>by simp at hx,fun x hx=>by simp at hx⟩ sa sb b1 hc
theorem nX{st:SortSt}(L:kJ prog w A E s κ R D)(hk:kindOf st=κ)(ha:Dk D a)(hb:Dk D b)(sa:cF R a)(sb:cF R b)(a1:1<=a.size)(b1:1<=b.size)(c0:rk R b 0<=rk R a 0)(cl:rk R b (b.size - 1)<=rk R a (a.size - 1))(h: ∀m g,Out R a b m->Q m (setG st g)):wpS (model prog w) A E s (jx a b) Q st:=by
 rw[oQ];dsimp only;refine SE (wpS_lift (UG ⟨rfl,?_⟩));refine SE (au (by lia) ?_);have ho:Lo R a b #[b[0]] 0 1:=Lo.start sa sb b1 fun _=>c0;by_cases c1:(1==b.size)=true
 . refine ah c1 ?_;exact SF (h _ (gallopOf st) (ho.done sa sb (by lia) (by lia) (.inl (SO.mp c1))))
 refine ai c1 ?_;by_cases c2:(0+1==a.size)=true
 . refine ah c2 ?_;have CN:=SO.mp c2;exact SF (h _ (gallopOf st) (ho.last sa sb (by lia) (by lia) fun _=>by rw[show a.size - 1=0 by lia] at cl;exact cl))
 refine ai c2 ?_;have c1:1≠b.size:=fun z=>c1 (SO.mpr z);have c2:0+1≠a.size:=fun z=>c2 (SO.mpr z);refine SE (VA ?_);refine SE (Ud (TF (I:=fun i c ao=>(∃g,ao=setG st g)/\c.1=none/\Lo R a b c.2.1 c.2.2.1 c.2.2.2.1/\c.2.2.1+1 < a.size/\c.2.2.2.1 < b.size/\1+i<=c.2.2.1+c.2.2.2.1)
  (Q:=fun c ao=>(∃g,ao=setG st g)/\ ∃r,c.1=some r/\Out R a b r) ?step ?fin ⟨⟨gallopOf st,rfl⟩,rfl,(by dsimp only;exact ho),by dsimp only;lia,by dsimp only;lia,by dsimp only;lia⟩) ?post)
 case post=>
  rintro⟨r,out,ia,ib,mg⟩ ao ⟨⟨g,rfl⟩,r',h1,h2⟩
  dsimp only at h1 ⊢;subst h1;exact SF (h _ _ h2)
 case fin=>
  rintro⟨r,out,ia,ib,mg⟩ ao ⟨_,_,_,h1,h2,h3⟩
  dsimp only at h1 h2 h3;lia
 case step=>
  refine CK ?_;intro i out ia ib mg g _ hi hJ;have ho:Lo R a b out ia ib:=hJ.1;have h1:ia+1 < a.size:=hJ.2.1;have h2:ib < b.size:=hJ.2.2.1;have h3:1+i<=ia+ib:=hJ.2.2.2;clear hJ;dsimp only;refine SE (Ud (TF (I:=fun j c ao=>ao=setG st g/\c.1=none/\Lo R a b c.2.1 c.2.2.1 c.2.2.2.1/\c.2.2.1+1 < a.size/\c.2.2.2.1 < b.size/\1+i+min j 1<=c.2.2.1+c.2.2.2.1)
   (Q:=fun c ao=>ao=setG st g/\((∃r,c.1=some r/\Out R a b r)\/(c.1=none/\Lo R a b c.2.1 c.2.2.1 c.2.2.2.1/\c.2.2.1+1 < a.size/\c.2.2.2.1 < b.size/\1+(i+1)<=c.2.2.1+c.2.2.2.1))) ?istep ?ifin ⟨rfl,rfl,(by dsimp only;exact ho),(by dsimp only;exact h1),(by dsimp only;exact h2),by dsimp only;lia⟩) ?ipost)
  case ifin=>
   rintro⟨r,out,ia,ib,ac,bc⟩ ao ⟨e,hr,ho,h1,h2,h3⟩
   dsimp only at hr ho h1 h2 h3;exact⟨e, .inr ⟨hr,ho,h1,h2,by dsimp only;lia⟩⟩
  case istep=>
   clear ho h1 h2 h3;refine CJ ?_;intro j out ia ib ac bc _ hj hJ;have ho:Lo R a b out ia ib:=hJ.1;have h1:ia+1 < a.size:=hJ.2.1;have h2:ib < b.size:=hJ.2.2.1;have h3:1+i+min j 1<=ia+ib:=hJ.2.2.2;clear hJ;have oZ:ia < a.size:=by lia
   dsimp only;refine SE (au h2 (SE (au oZ (SE (L _ _ _ _ hk (hb _ h2) (ha _ oZ) ?_)))));rw[<-bq (R:=R) h2,<-bq (R:=R) oZ];cases bw:decide (rk R b ib < rk R a ia) with
   | true=>
    have bw:=T6 bw;have jH:=ho.iI sa sb h2 fun _=>UO bw;dsimp only;refine ah rfl ?_;refine SE (au h2 ?_);by_cases c3:(ib+1==b.size)=true
    . refine ah c3 ?_;exact SF ⟨rfl, .inl ⟨_,rfl,jH.done sa sb (by lia) (by lia) (.inl (SO.mp c3))⟩⟩
    refine ai c3 ?_;have c3:ib+1≠b.size:=fun z=>c3 (SO.mpr z);by_cases c4:bc+1>=mg
    . refine ah c4 ?_;exact SF ⟨rfl, .inr ⟨rfl,by dsimp only;exact jH,by dsimp only;lia,by dsimp only;lia,by dsimp only;lia⟩⟩
    . refine ai c4 ?_;exact SF ⟨rfl,rfl,by dsimp only;exact jH,by dsimp only;lia,by dsimp only;lia,by dsimp only;lia⟩
   | false=>
    have bw:=TL bw;have pX:=ho.eK sa sb oZ fun _=>V6.mp bw;dsimp only;refine ai SG ?_;refine SE (au oZ ?_);by_cases c3:(ia+1+1==a.size)=true
    . refine ah c3 ?_;have OZ:=SO.mp c3;exact SF ⟨rfl, .inl ⟨_,rfl,pX.last sa sb (by lia) (by lia) fun _=>by rw[show a.size - 1=ia+1 by lia] at cl;exact cl⟩⟩
    refine ai c3 ?_;have c3:ia+1+1≠a.size:=fun z=>c3 (SO.mpr z);by_cases c4:ac+1>=mg
    . refine ah c4 ?_;exact SF ⟨rfl, .inr ⟨rfl,by dsimp only;exact pX,by dsimp only;lia,by dsimp only;lia,by dsimp only;lia⟩⟩
    . refine ai c4 ?_;exact SF ⟨rfl,rfl,by dsimp only;exact pX,by dsimp only;lia,by dsimp only;lia,by dsimp only;lia⟩
  case ipost=>
   clear ho h1 h2 h3;refine Hn (fun r' out ia ib ac bc ho=>?_) (fun out ia ib ac bc hJ=>?_)
   . exact SF ⟨⟨g,rfl⟩,_,rfl,ho⟩
   have ho:Lo R a b out ia ib:=hJ.1;have h1:ia+1 < a.size:=hJ.2.1;have h2:ib < b.size:=hJ.2.2.1;have h3:1+(i+1)<=ia+ib:=hJ.2.2.2;clear hJ;dsimp only;refine SE (wpS_lift (UG ⟨rfl,?_⟩));refine SE (Ud (TF (I:=fun j c ao=>(∃g,ao=setG st g)/\c.1=none/\Lo R a b c.2.1 c.2.2.1 c.2.2.2.1/\c.2.2.1+1 < a.size/\c.2.2.2.1 < b.size/\1+(i+1)<=c.2.2.1+c.2.2.2.1)
    (Q:=fun c ao=>(∃g,ao=setG st g)/\((∃r,c.1=some r/\Out R a b r)\/(c.1=none/\Lo R a b c.2.1 c.2.2.1 c.2.2.2.1/\c.2.2.1+1 < a.size/\c.2.2.2.1 < b.size/\1+(i+1)<=c.2.2.1+c.2.2.2.1))) ?gstep ?gfin ⟨⟨g,rfl⟩,rfl,(by dsimp only;exact ho),(by dsimp only;exact h1),(by dsimp only;exact h2),(by dsimp only;exact h3)⟩) ?gpost)
   case gfin=>
    rintro⟨r,out,ia,ib,mg,ac,bc⟩ ao ⟨e,hr,ho,h1,h2,h3⟩
    exact⟨e, .inr ⟨hr,ho,h1,h2,h3⟩⟩
   case gpost=>
    refine Hm (fun r' out ia ib mg ac bc g ho=>?_) (fun out ia ib mg ac bc g hJ=>?_)
    . exact SF ⟨⟨g,rfl⟩,_,rfl,ho⟩
    . dsimp only;rw[bA];exact SE (UP (SF ⟨⟨_,rfl⟩,rfl,hJ⟩))
   case gstep=>
    clear ho h1 h2 h3 hi;refine CI ?_;intro j out ia ib mg ac bc g _ hj hJ;have ho:Lo R a b out ia ib:=hJ.1;have h1:ia+1 < a.size:=hJ.2.1;have h2:ib < b.size:=hJ.2.2.1;have h3:1+(i+1)<=ia+ib:=hJ.2.2.2;clear hJ;dsimp only;refine have key:?P:=?pk;?main
    case main=>
     by_cases c0:mg > 1
     . refine ah c0 ?_;clear c0;generalize mg - 1=m;revert m
       exact key
     . refine ai c0 ?_;clear c0;generalize mg=m;revert m
       exact key
    case pk=>
     intro m;rw[bA];refine SE (UP ?_);refine SE (au h2 ?_);refine SE (cU L hk ha (hb _ h2) (by lia) (by lia) (fun p q pq q2=>sa.rk (by lia) (by lia)) fun k QI kt kf=>?_);rw[<-bq (R:=R) h2] at kt kf;dsimp only;have Cf:0 < k->rk R a (ia+k - 1)<=rk R b ib:=fun z=>by have:=rp (kt (k - 1) (by lia));rw[show ia+(k - 1)=ia+k - 1 by lia] at this;exact this
     have El:ia+k < a.size->rk R b ib<=rk R a (ia+k):=fun z=>UO (rq (kf k (SD _) (by lia)));clear kt kf;by_cases c3:k > 0
     . refine ah c3 ?_;have pX:=ho.gK sa sb (ia':=ia+k) (by lia) (fun _ _ _=>Cf c3) (by lia);generalize out++a.extract ia (ia+k)=LH at pX;by_cases c4:(ia+k+1==a.size)=true
       . refine ah c4 ?_;have OY:=SO.mp c4;exact SF ⟨⟨_,rfl⟩, .inl ⟨_,rfl,pX.last sa sb (by lia) (by lia) fun _=>by rw[show a.size - 1=ia+k by lia] at cl;exact cl⟩⟩
       refine ai c4 ?_;have OY:ia+k+1≠a.size:=fun z=>c4 (SO.mpr z);clear c4;by_cases c9:(ia+k==a.size)=true
       . refine ah c9 ?_;exact SF ⟨⟨_,rfl⟩, .inl ⟨_,rfl,pX.done sa sb (by lia) (by lia) (.inr (SO.mp c9))⟩⟩
       refine ai c9 ?_;have Su:ia+k≠a.size:=fun z=>c9 (SO.mpr z);clear c9;refine SE (au h2 ?_);have jH:=pX.iI sa sb h2 El;by_cases c5:(ib+1==b.size)=true
       . refine ah c5 ?_;exact SF ⟨⟨_,rfl⟩, .inl ⟨_,rfl,jH.done sa sb (by lia) (by lia) (.inl (SO.mp c5))⟩⟩
       refine ai c5 ?_;have c5:ib+1≠b.size:=fun z=>c5 (SO.mpr z);have hK:ia+k < a.size:=by lia
       refine SE (au hK ?_);refine SE (cU L hk hb (ha _ hK) (by lia) (by lia) (fun p q pq q2=>sb.rk (by lia) (by lia)) fun k2 Kc kt kf=>?_);rw[<-bq (R:=R) hK] at kt kf;dsimp only;have lt':0 < k2->rk R b (ib+1+k2 - 1)<=rk R a (ia+k):=fun z=>by have:=UO (j5 (kt (k2 - 1) (by lia)));rw[show ib+1+(k2 - 1)=ib+1+k2 - 1 by lia] at this;exact this
       have vK:ib+1+k2 < b.size->rk R a (ia+k)<=rk R b (ib+1+k2):=fun z=>j6 (kf k2 (SD _) (by lia));clear kt kf;by_cases c6:k2 > 0
       . refine ah c6 ?_;have uG:=jH.eY sa sb (ib':=ib+1+k2) (by lia) (fun _ _ _=>lt' c6) (by lia);by_cases c7:(ib+1+k2==b.size)=true
         . refine ah c7 ?_;exact SF ⟨⟨_,rfl⟩, .inl ⟨_,rfl,uG.done sa sb (by lia) (by lia) (.inl (SO.mp c7))⟩⟩
         refine ai c7 ?_;have zm:ib+1+k2≠b.size:=fun z=>c7 (SO.mpr z);clear c7;refine SE (au hK ?_);have fX:=uG.eK sa sb hK vK;by_cases c7:(ia+k+1+1==a.size)=true
         . refine ah c7 ?_;have zm:=SO.mp c7;exact SF ⟨⟨_,rfl⟩, .inl ⟨_,rfl,fX.last sa sb (by lia) (by lia) fun _=>by rw[show a.size - 1=ia+k+1 by lia] at cl;exact cl⟩⟩
         refine ai c7 ?_;have c7:ia+k+1+1≠a.size:=fun z=>c7 (SO.mpr z);by_cases c8:(decide (k < 7) && decide (k2 < 7))=true
         . refine ah c8 ?_;exact SF ⟨⟨_,rfl⟩, .inr ⟨rfl,by dsimp only;exact fX,by dsimp only;lia,by dsimp only;lia,by dsimp only;lia⟩⟩
         . refine ai c8 ?_;exact SF ⟨⟨_,rfl⟩,rfl,by dsimp only;exact fX,by dsimp only;lia,by dsimp only;lia,by dsimp only;lia⟩
       . refine ai c6 ?_;have Er:k2=0:=by lia
         subst Er;refine SE (au hK ?_);have fX:=jH.eK sa sb hK vK;by_cases c7:(ia+k+1+1==a.size)=true
         . refine ah c7 ?_;have zm:=SO.mp c7;exact SF ⟨⟨_,rfl⟩, .inl ⟨_,rfl,fX.last sa sb (by lia) (by lia) fun _=>by rw[show a.size - 1=ia+k+1 by lia] at cl;exact cl⟩⟩
         refine ai c7 ?_;have c7:ia+k+1+1≠a.size:=fun z=>c7 (SO.mpr z);by_cases c8:(decide (k < 7) && decide (0 < 7))=true
         . refine ah c8 ?_;exact SF ⟨⟨_,rfl⟩, .inr ⟨rfl,by dsimp only;exact fX,by dsimp only;lia,by dsimp only;lia,by dsimp only;lia⟩⟩
         . refine ai c8 ?_;exact SF ⟨⟨_,rfl⟩,rfl,by dsimp only;exact fX,by dsimp only;lia,by dsimp only;lia,by dsimp only;lia⟩
     . refine ai c3 ?_;have k0:k=0:=by lia
       subst k0;rw[VZ] at El;refine SE (au h2 ?_);have jH:=ho.iI sa sb h2 El;by_cases c5:(ib+1==b.size)=true
       . refine ah c5 ?_;exact SF ⟨⟨_,rfl⟩, .inl ⟨_,rfl,jH.done sa sb (by lia) (by lia) (.inl (SO.mp c5))⟩⟩
       refine ai c5 ?_;have c5:ib+1≠b.size:=fun z=>c5 (SO.mpr z);have hK:ia < a.size:=by lia
       refine SE (au hK ?_);refine SE (cU L hk hb (ha _ hK) (by lia) (by lia) (fun p q pq q2=>sb.rk (by lia) (by lia)) fun k2 Kc kt kf=>?_);rw[<-bq (R:=R) hK] at kt kf;dsimp only;have lt':0 < k2->rk R b (ib+1+k2 - 1)<=rk R a (ia):=fun z=>by have:=UO (j5 (kt (k2 - 1) (by lia)));rw[show ib+1+(k2 - 1)=ib+1+k2 - 1 by lia] at this;exact this
       have vK:ib+1+k2 < b.size->rk R a (ia)<=rk R b (ib+1+k2):=fun z=>j6 (kf k2 (SD _) (by lia));clear kt kf;by_cases c6:k2 > 0
       . refine ah c6 ?_;have uG:=jH.eY sa sb (ib':=ib+1+k2) (by lia) (fun _ _ _=>lt' c6) (by lia);by_cases c7:(ib+1+k2==b.size)=true
         . refine ah c7 ?_;exact SF ⟨⟨_,rfl⟩, .inl ⟨_,rfl,uG.done sa sb (by lia) (by lia) (.inl (SO.mp c7))⟩⟩
         refine ai c7 ?_;have zm:ib+1+k2≠b.size:=fun z=>c7 (SO.mpr z);clear c7;refine SE (au hK ?_);have fX:=uG.eK sa sb hK vK;by_cases c7:(ia+1+1==a.size)=true
         . refine ah c7 ?_;have zm:=SO.mp c7;exact SF ⟨⟨_,rfl⟩, .inl ⟨_,rfl,fX.last sa sb (by lia) (by lia) fun _=>by rw[show a.size - 1=ia+1 by lia] at cl;exact cl⟩⟩
         refine ai c7 ?_;have c7:ia+1+1≠a.size:=fun z=>c7 (SO.mpr z);by_cases c8:(decide (0 < 7) && decide (k2 < 7))=true
         . refine ah c8 ?_;exact SF ⟨⟨_,rfl⟩, .inr ⟨rfl,by dsimp only;exact fX,by dsimp only;lia,by dsimp only;lia,by dsimp only;lia⟩⟩
         . refine ai c8 ?_;exact SF ⟨⟨_,rfl⟩,rfl,by dsimp only;exact fX,by dsimp only;lia,by dsimp only;lia,by dsimp only;lia⟩
       . refine ai c6 ?_;have Er:k2=0:=by lia
         subst Er;refine SE (au hK ?_);have fX:=jH.eK sa sb hK vK;by_cases c7:(ia+1+1==a.size)=true
         . refine ah c7 ?_;have zm:=SO.mp c7;exact SF ⟨⟨_,rfl⟩, .inl ⟨_,rfl,fX.last sa sb (by lia) (by lia) fun _=>by rw[show a.size - 1=ia+1 by lia] at cl;exact cl⟩⟩
         refine ai c7 ?_;have c7:ia+1+1≠a.size:=fun z=>c7 (SO.mpr z);by_cases c8:(decide (0 < 7) && decide (0 < 7))=true
         . refine ah c8 ?_;exact SF ⟨⟨_,rfl⟩, .inr ⟨rfl,by dsimp only;exact fX,by dsimp only;lia,by dsimp only;lia,by dsimp only;lia⟩⟩
         . refine ai c8 ?_;exact SF ⟨⟨_,rfl⟩,rfl,by dsimp only;exact fX,by dsimp only;lia,by dsimp only;lia,by dsimp only;lia⟩
section
variable {R : Keyed -> Int}
structure Hi(R:Keyed->Int)(a b out:Array Keyed)(na nb:Nat):Prop where
 pm:((a.toList.take na++b.toList.take nb)++out.reverse.toList).Perm (a.toList++b.toList)
 so:cF R out.reverse
 la: ∀x∈out.reverse.toList,∀j,j < na->j < a.size->rk R a j<=R x
 lb: ∀x∈out.reverse.toList,∀j,j < nb->j < b.size->rk R b j<=R x
theorem bH{out x:Array Keyed}:(out++x.reverse).reverse=x++out.reverse:=by
 apply VJ.mp;simp
theorem rN{a:Array Keyed}(h:i<=j):a.toList.take j=a.toList.take i++(a.extract i j).toList:=by
 rw[eC];conv=>lhs;rw[show j=i+(j - i) by lia]
 rw[List.take_add]
theorem Hi.gK{a b out:Array Keyed}{na nb:Nat}(h:Hi R a b out na nb)(sa:cF R a)(sb:cF R b){na':Nat}(h1:na'<=na)(h2:na<=a.size)(h3:nb<=b.size)(hc:na' < na->0 < nb->rk R b (nb - 1)<=rk R a na'):Hi R a b (out++(a.extract na' na).reverse) na' nb:=by
 refine⟨?_,?_,fun x hx j j1 j2=>?_,fun x hx j j1 j2=>?_⟩
 . rw[bH,TB];refine List.Perm.trans ?_ h.pm;rw[rN h1];refine List.Perm.trans (List.Perm.of_eq (Tz _ _ _).symm) (List.Perm.append_right _ ?_);rw[Tz,Tz];exact List.Perm.append_left _ List.perm_append_comm
 . rw[bH];exact(sa.ex _ _).app h.so fun x hx y hy=>by
    obtain⟨k,k1,k2,k3,e⟩:=bY (R:=R) hx;rw[e];exact h.la y hy k k2 k3
 . rw[bH,TB] at hx;rcases Ts.mp hx with z | z
   . obtain⟨k,k1,k2,k3,e⟩:=bY (R:=R) z;rw[e];exact sa.rk (by lia) k3
   . exact h.la x z j (by lia) j2
 . rw[bH,TB] at hx;rcases Ts.mp hx with z | z
   . obtain⟨k,k1,k2,k3,e⟩:=bY (R:=R) z;rw[e];have q1:=sa.rk k1 k3;have q2:=hc (by lia) (by lia);have q3:=sb.rk (show j<=nb - 1 by lia) (by lia);lia
   . exact h.lb x z j j1 j2
theorem Hi.eY{a b out:Array Keyed}{na nb:Nat}(h:Hi R a b out na nb)(sa:cF R a)(sb:cF R b){nb':Nat}(h1:nb'<=nb)(h2:nb<=b.size)(h3:na<=a.size)(hc:nb' < nb->0 < na->rk R a (na - 1)<=rk R b nb'):Hi R a b (out++(b.extract nb' nb).reverse) na nb':=by
 refine⟨?_,?_,fun x hx j j1 j2=>?_,fun x hx j j1 j2=>?_⟩
 . rw[bH,TB];refine List.Perm.trans ?_ h.pm;rw[rN (a:=b) h1];simp only [Tz];exact List.Perm.refl _
 . rw[bH];exact(sb.ex _ _).app h.so fun x hx y hy=>by
    obtain⟨k,k1,k2,k3,e⟩:=bY (R:=R) hx;rw[e];exact h.lb y hy k k2 k3
 . rw[bH,TB] at hx;rcases Ts.mp hx with z | z
   . obtain⟨k,k1,k2,k3,e⟩:=bY (R:=R) z;rw[e];have q1:=sb.rk k1 k3;have q2:=hc (by lia) (by lia);have q3:=sa.rk (show j<=na - 1 by lia) (by lia);lia
   . exact h.la x z j j1 j2
 . rw[bH,TB] at hx;rcases Ts.mp hx with z | z
   . obtain⟨k,k1,k2,k3,e⟩:=bY (R:=R) z;rw[e];exact sb.rk (by lia) k3
   . exact h.lb x z j (by lia) j2
theorem Hi.out{a b out:Array Keyed}(h:Hi R a b out 0 0):Out R a b out.reverse:=by
 refine⟨?_,h.so⟩;have:=h.pm;rw[List.take_zero,List.take_zero,TX,List.nil_append] at this;exact this
theorem Hi.done{a b out:Array Keyed}{na nb:Nat}(h:Hi R a b out na nb)(sa:cF R a)(sb:cF R b)(ha:na<=a.size)(hb:nb<=b.size)(hh:na=0\/nb=0):Out R a b (a.extract 0 na++b.extract 0 nb++out.reverse):=by
 have:=((h.eY sa sb (nb':=0) (Tw _) hb ha fun z1 z2=>by lia).gK sa sb (na':=0) (Tw _) ha (Tw _) fun z1 z2=>by lia).out;rw[bH,bH,<-Array.append_assoc] at this;exact this
theorem Hi.first{a b out:Array Keyed}{na nb:Nat}(h:Hi R a b out na nb)(sa:cF R a)(sb:cF R b)(ha:na<=a.size)(hb:nb<=b.size)(hh:nb=1)(hc:rk R b 0<=rk R a 0):Out R a b (b.extract 0 nb++a.extract 0 na++out.reverse):=by
 have:=((h.gK sa sb (na':=0) (Tw _) ha hb fun z1 z2=>by rw[hh];exact hc).eY sa sb (nb':=0) (Tw _) hb (Tw _) fun z1 z2=>by lia).out;rw[bH,bH,<-Array.append_assoc] at this;exact this
theorem rZ{a out:Array Keyed}(h:i < a.size):out.push a[i]=out++(a.extract i (i+1)).reverse:=by
 apply VJ.mp;rw[Uw,TB,Array.toList_reverse,eC,show i+1 - i=1 by lia];congr 1
 have h':i < a.toList.length:=by simpa using h
 rw[Vl h',List.take_succ_cons,List.take_zero,Array.getElem_toList];rfl
theorem Hi.eK{a b out:Array Keyed}{na nb:Nat}(h:Hi R a b out na nb)(sa:cF R a)(sb:cF R b)(h1:1<=na)(h2:na<=a.size)(h3:nb<=b.size)(hc:0 < nb->rk R b (nb - 1)<=rk R a (na - 1)):Hi R a b (out.push (a[na - 1]'(by lia))) (na - 1) nb:=by
 rw[rZ (show na - 1 < a.size by lia),show na - 1+1=na by lia];exact h.gK sa sb (by lia) h2 h3 fun _ z=>hc z
theorem Hi.iI{a b out:Array Keyed}{na nb:Nat}(h:Hi R a b out na nb)(sa:cF R a)(sb:cF R b)(h1:1<=nb)(h2:nb<=b.size)(h3:na<=a.size)(hc:0 < na->rk R a (na - 1)<=rk R b (nb - 1)):Hi R a b (out.push (b[nb - 1]'(by lia))) na (nb - 1):=by
 rw[rZ (show nb - 1 < b.size by lia),show nb - 1+1=nb by lia];exact h.eY sa sb (by lia) h2 h3 fun _ z=>hc z
theorem Hi.start(sa:cF R a)(sb:cF R b)(a1:1<=a.size)(hc:0 < b.size->rk R b (b.size - 1)<=rk R a (a.size - 1)):Hi R a b #[a[a.size - 1]'(by lia)] (a.size - 1) b.size:=
 Hi.eK (out:= #[]) (na:=a.size) ⟨by rw[<-SN,<-SN,Uh,Uh];simp,List.Pairwise.nil,fun x hx=>by simp at hx,fun x hx=>by simp at hx⟩ sa sb a1 (SD _) (SD _) hc
end
theorem nY{st:SortSt}(L:kJ prog w A E s κ R D)(hk:kindOf st=κ)(ha:Dk D a)(hb:Dk D b)(sa:cF R a)(sb:cF R b)(a1:1<=a.size)(b1:1<=b.size)(c0:rk R b 0<=rk R a 0)(cl:rk R b (b.size - 1)<=rk R a (a.size - 1))(h: ∀m g,Out R a b m->Q m (setG st g)):wpS (model prog w) A E s (jy a b) Q st:=by
 rw[oR];dsimp only;refine SE (wpS_lift (UG ⟨rfl,?_⟩));refine SE (au (by lia) ?_);have ho:=Hi.start sa sb a1 fun _=>cl;by_cases c1:(a.size - 1==0)=true
 . refine ah c1 ?_;exact SF (h _ (gallopOf st) (ho.done sa sb (by lia) (by lia) (.inl (SO.mp c1))))
 refine ai c1 ?_;by_cases c2:(b.size==1)=true
 . refine ah c2 ?_;exact SF (h _ (gallopOf st) (ho.first sa sb (by lia) (by lia) (SO.mp c2) c0))
 refine ai c2 ?_;have Ny:a.size - 1≠0:=fun z=>c1 (SO.mpr z);have CN:b.size≠1:=fun z=>c2 (SO.mpr z);clear c1 c2;refine SE (VA ?_);refine SE (Ud (TF (I:=fun i c ao=>(∃g,ao=setG st g)/\c.1=none/\Hi R a b c.2.2.2.1 c.2.1 c.2.2.1/\1<=c.2.1/\c.2.1<=a.size/\2<=c.2.2.1/\c.2.2.1<=b.size/\1+i<=(a.size - c.2.1)+(b.size - c.2.2.1))
  (Q:=fun c ao=>(∃g,ao=setG st g)/\ ∃r,c.1=some r/\Out R a b r) ?step ?fin ⟨⟨gallopOf st,rfl⟩,rfl,(by dsimp only;exact ho),by dsimp only;lia,by dsimp only;lia,by dsimp only;lia,by dsimp only;lia,by dsimp only;lia⟩) ?post)
 case post=>
  rintro⟨r,na,nb,out,mg⟩ ao ⟨⟨g,rfl⟩,r',h1,h2⟩
  dsimp only at h1 ⊢;subst h1;exact SF (h _ _ h2)
 case fin=>
  rintro⟨r,na,nb,out,mg⟩ ao ⟨_,_,ho,h1,h2,h3,h4,h5⟩
  dsimp only at h1 h2 h3 h4 h5;lia
 case step=>
  refine CK ?_;intro i na nb out mg g _ hi hJ;have ho:Hi R a b out na nb:=hJ.1;have h1:1<=na:=hJ.2.1;have h2:na<=a.size:=hJ.2.2.1;have h3:2<=nb:=hJ.2.2.2.1;have h4:nb<=b.size:=hJ.2.2.2.2.1;have h5:1+i<=(a.size - na)+(b.size - nb):=hJ.2.2.2.2.2;clear hJ;dsimp only;refine SE (Ud (TF (I:=fun j c ao=>ao=setG st g/\c.1=none/\Hi R a b c.2.2.2.1 c.2.1 c.2.2.1/\1<=c.2.1/\c.2.1<=a.size/\2<=c.2.2.1/\c.2.2.1<=b.size/\1+i+min j 1<=(a.size - c.2.1)+(b.size - c.2.2.1))
   (Q:=fun c ao=>ao=setG st g/\((∃r,c.1=some r/\Out R a b r)\/(c.1=none/\Hi R a b c.2.2.2.1 c.2.1 c.2.2.1/\1<=c.2.1/\c.2.1<=a.size/\2<=c.2.2.1/\c.2.2.1<=b.size/\1+(i+1)<=(a.size - c.2.1)+(b.size - c.2.2.1)))) ?istep ?ifin ⟨rfl,rfl,(by dsimp only;exact ho),(by dsimp only;exact h1),(by dsimp only;exact h2),(by dsimp only;exact h3),(by dsimp only;exact h4),by dsimp only;lia⟩) ?ipost)
  case ifin=>
   rintro⟨r,na,nb,out,ac,bc⟩ ao ⟨e,hr,ho,h1,h2,h3,h4,h5⟩
   dsimp only at hr ho h1 h2 h3 h4 h5;exact⟨e, .inr ⟨hr,ho,h1,h2,h3,h4,by dsimp only;lia⟩⟩
  case istep=>
   clear ho h1 h2 h3 h4 h5;refine CJ ?_;intro j na nb out ac bc _ hj hJ;have ho:Hi R a b out na nb:=hJ.1;have h1:1<=na:=hJ.2.1;have h2:na<=a.size:=hJ.2.2.1;have h3:2<=nb:=hJ.2.2.2.1;have h4:nb<=b.size:=hJ.2.2.2.2.1;have h5:1+i+min j 1<=(a.size - na)+(b.size - nb):=hJ.2.2.2.2.2;clear hJ;have oZ:na - 1 < a.size:=by lia
   have qJ:nb - 1 < b.size:=by lia
   dsimp only;refine SE (au qJ (SE (au oZ (SE (L _ _ _ _ hk (hb _ qJ) (ha _ oZ) ?_)))));rw[<-bq (R:=R) qJ,<-bq (R:=R) oZ];cases aw:decide (rk R b (nb - 1) < rk R a (na - 1)) with
   | true=>
    have aw:=T6 aw;have pX:=ho.eK sa sb h1 h2 h4 fun _=>UO aw;dsimp only;refine ah rfl ?_;refine SE (au oZ ?_);by_cases c3:(na - 1==0)=true
    . refine ah c3 ?_;exact SF ⟨rfl, .inl ⟨_,rfl,pX.done sa sb (by lia) (by lia) (.inl (SO.mp c3))⟩⟩
    refine ai c3 ?_;have OZ:na - 1≠0:=fun z=>c3 (SO.mpr z);clear c3;by_cases c4:ac+1>=mg
    . refine ah c4 ?_;exact SF ⟨rfl, .inr ⟨rfl,by dsimp only;exact pX,by dsimp only;lia,by dsimp only;lia,by dsimp only;lia,by dsimp only;lia,by dsimp only;lia⟩⟩
    . refine ai c4 ?_;exact SF ⟨rfl,rfl,by dsimp only;exact pX,by dsimp only;lia,by dsimp only;lia,by dsimp only;lia,by dsimp only;lia,by dsimp only;lia⟩
   | false=>
    have aw:=TL aw;have jH:=ho.iI sa sb (by lia) h4 h2 fun _=>V6.mp aw;dsimp only;refine ai SG ?_;refine SE (au qJ ?_);by_cases c3:(nb - 1==1)=true
    . refine ah c3 ?_;exact SF ⟨rfl, .inl ⟨_,rfl,jH.first sa sb (by lia) (by lia) (SO.mp c3) c0⟩⟩
    refine ai c3 ?_;have OZ:nb - 1≠1:=fun z=>c3 (SO.mpr z);clear c3;by_cases c4:bc+1>=mg
    . refine ah c4 ?_;exact SF ⟨rfl, .inr ⟨rfl,by dsimp only;exact jH,by dsimp only;lia,by dsimp only;lia,by dsimp only;lia,by dsimp only;lia,by dsimp only;lia⟩⟩
    . refine ai c4 ?_;exact SF ⟨rfl,rfl,by dsimp only;exact jH,by dsimp only;lia,by dsimp only;lia,by dsimp only;lia,by dsimp only;lia,by dsimp only;lia⟩
  case ipost=>
   clear ho h1 h2 h3 h4 h5;refine Hn (fun r' na nb out ac bc ho=>?_) (fun na nb out ac bc hJ=>?_)
   . exact SF ⟨⟨g,rfl⟩,_,rfl,ho⟩
   have ho:Hi R a b out na nb:=hJ.1;have h1:1<=na:=hJ.2.1;have h2:na<=a.size:=hJ.2.2.1;have h3:2<=nb:=hJ.2.2.2.1;have h4:nb<=b.size:=hJ.2.2.2.2.1;have h5:1+(i+1)<=(a.size - na)+(b.size - nb):=hJ.2.2.2.2.2;clear hJ;dsimp only;refine SE (wpS_lift (UG ⟨rfl,?_⟩));refine SE (Ud (TF (I:=fun j c ao=>(∃g,ao=setG st g)/\c.1=none/\Hi R a b c.2.2.2.1 c.2.1 c.2.2.1/\1<=c.2.1/\c.2.1<=a.size/\2<=c.2.2.1/\c.2.2.1<=b.size/\1+(i+1)<=(a.size - c.2.1)+(b.size - c.2.2.1))
    (Q:=fun c ao=>(∃g,ao=setG st g)/\((∃r,c.1=some r/\Out R a b r)\/(c.1=none/\Hi R a b c.2.2.2.1 c.2.1 c.2.2.1/\1<=c.2.1/\c.2.1<=a.size/\2<=c.2.2.1/\c.2.2.1<=b.size/\1+(i+1)<=(a.size - c.2.1)+(b.size - c.2.2.1)))) ?gstep ?gfin ⟨⟨g,rfl⟩,rfl,(by dsimp only;exact ho),(by dsimp only;exact h1),(by dsimp only;exact h2),(by dsimp only;exact h3),(by dsimp only;exact h4),(by dsimp only;exact h5)⟩) ?gpost)
   case gfin=>
    rintro⟨r,na,nb,out,mg,ac,bc⟩ ao ⟨e,hr,ho,h1,h2,h3,h4,h5⟩
    exact⟨e, .inr ⟨hr,ho,h1,h2,h3,h4,h5⟩⟩
   case gpost=>
    refine Hm (fun r' na nb out mg ac bc g ho=>?_) (fun na nb out mg ac bc g hJ=>?_)
    . exact SF ⟨⟨g,rfl⟩,_,rfl,ho⟩
    . dsimp only;rw[bA];exact SE (UP (SF ⟨⟨_,rfl⟩,rfl,hJ⟩))
   case gstep=>
    clear ho h1 h2 h3 h4 h5 hi;refine CI ?_;intro j na nb out mg ac bc g _ hj hJ;have ho:Hi R a b out na nb:=hJ.1;have h1:1<=na:=hJ.2.1;have h2:na<=a.size:=hJ.2.2.1;have h3:2<=nb:=hJ.2.2.2.1;have h4:nb<=b.size:=hJ.2.2.2.2.1;have h5:1+(i+1)<=(a.size - na)+(b.size - nb):=hJ.2.2.2.2.2;clear hJ;dsimp only;refine have key:?P:=?pk;?main
    case main=>
     by_cases c0:mg > 1
     . refine ah c0 ?_;clear c0;generalize mg - 1=m;revert m
       exact key
     . refine ai c0 ?_;clear c0;generalize mg=m;revert m
       exact key
    case pk=>
     intro m;have qJ:nb - 1 < b.size:=by lia
     rw[bA];refine SE (UP ?_);refine SE (au qJ ?_);refine SE (cU L hk ha (hb _ qJ) (by lia) (by lia) (fun p q pq q2=>sa.rk (by lia) (by lia)) fun k QI kt kf=>?_);rw[<-bq (R:=R) qJ] at kt kf;simp only [Vn] at kt kf;dsimp only;have Cf:0 < k->rk R a (k - 1)<=rk R b (nb - 1):=fun z=>rp (kt (k - 1) (by lia));have El:k < na->rk R b (nb - 1)<=rk R a k:=fun z=>UO (rq (kf k (SD _) (by lia)));clear kt kf;by_cases c3:na - k > 0
     . refine ah c3 ?_;have pX:=ho.gK sa sb (na':=k) (by lia) h2 h4 (fun z _=>El z);generalize out++(a.extract k na).reverse=LH at pX;by_cases c4:(k==0)=true
       . refine ah c4 ?_;exact SF ⟨⟨_,rfl⟩, .inl ⟨_,rfl,pX.done sa sb (by lia) (by lia) (.inl (SO.mp c4))⟩⟩
       refine ai c4 ?_;have OY:k≠0:=fun z=>c4 (SO.mpr z);clear c4;refine SE (au qJ ?_);have jH:=pX.iI sa sb (by lia) h4 (by lia) Cf;by_cases c5:(nb - 1==1)=true
       . refine ah c5 ?_;exact SF ⟨⟨_,rfl⟩, .inl ⟨_,rfl,jH.first sa sb (by lia) (by lia) (SO.mp c5) c0⟩⟩
       refine ai c5 ?_;have Rg:nb - 1≠1:=fun z=>c5 (SO.mpr z);clear c5;have hK:k - 1 < a.size:=by lia
       refine SE (au hK ?_);refine SE (cU L hk hb (ha _ hK) (by lia) (by lia) (fun p q pq q2=>sb.rk (by lia) (by lia)) fun k2 Kc lt lf=>?_);rw[<-bq (R:=R) hK] at lt lf;simp only [Vn] at lt lf;dsimp only;have lt':0 < k2->rk R b (k2 - 1)<=rk R a (k - 1):=fun z=>UO (j5 (lt (k2 - 1) (by lia)));have vK:k2 < nb - 1->rk R a (k - 1)<=rk R b k2:=fun z=>j6 (lf k2 (SD _) (by lia));clear lt lf;by_cases c6:nb - 1 - k2 > 0
       . refine ah c6 ?_;have uG:=jH.eY sa sb (nb':=k2) (by lia) (by lia) (by lia) (fun z _=>vK z);by_cases c7:(k2==1)=true
         . refine ah c7 ?_;exact SF ⟨⟨_,rfl⟩, .inl ⟨_,rfl,uG.first sa sb (by lia) (by lia) (SO.mp c7) c0⟩⟩
         refine ai c7 ?_;have zm:k2≠1:=fun z=>c7 (SO.mpr z);clear c7;by_cases c8:(k2==0)=true
         . refine ah c8 ?_;exact SF ⟨⟨_,rfl⟩, .inl ⟨_,rfl,uG.done sa sb (by lia) (by lia) (.inr (SO.mp c8))⟩⟩
         refine ai c8 ?_;have Rf:k2≠0:=fun z=>c8 (SO.mpr z);clear c8;refine SE (au hK ?_);have fX:=uG.eK sa sb (by lia) (by lia) (by lia) lt';by_cases c7:(k - 1==0)=true
         . refine ah c7 ?_;exact SF ⟨⟨_,rfl⟩, .inl ⟨_,rfl,fX.done sa sb (by lia) (by lia) (.inl (SO.mp c7))⟩⟩
         refine ai c7 ?_;have zm:k - 1≠0:=fun z=>c7 (SO.mpr z);clear c7;by_cases c8:(decide (na - k < 7) && decide (nb - 1 - k2 < 7))=true
         . refine ah c8 ?_;exact SF ⟨⟨_,rfl⟩, .inr ⟨rfl,by dsimp only;exact fX,by dsimp only;lia,by dsimp only;lia,by dsimp only;lia,by dsimp only;lia,by dsimp only;lia⟩⟩
         . refine ai c8 ?_;exact SF ⟨⟨_,rfl⟩,rfl,by dsimp only;exact fX,by dsimp only;lia,by dsimp only;lia,by dsimp only;lia,by dsimp only;lia,by dsimp only;lia⟩
       . refine ai c6 ?_;have Er:k2=nb - 1:=by lia
         refine SE (au hK ?_);have fX:=jH.eK sa sb (by lia) (by lia) (by lia) (fun z=>by rw[<-Er] at z ⊢;exact lt' z);by_cases c7:(k - 1==0)=true
         . refine ah c7 ?_;exact SF ⟨⟨_,rfl⟩, .inl ⟨_,rfl,fX.done sa sb (by lia) (by lia) (.inl (SO.mp c7))⟩⟩
         refine ai c7 ?_;have zm:k - 1≠0:=fun z=>c7 (SO.mpr z);clear c7;by_cases c8:(decide (na - k < 7) && decide (nb - 1 - k2 < 7))=true
         . refine ah c8 ?_;exact SF ⟨⟨_,rfl⟩, .inr ⟨rfl,by dsimp only;exact fX,by dsimp only;lia,by dsimp only;lia,by dsimp only;lia,by dsimp only;lia,by dsimp only;lia⟩⟩
         . refine ai c8 ?_;exact SF ⟨⟨_,rfl⟩,rfl,by dsimp only;exact fX,by dsimp only;lia,by dsimp only;lia,by dsimp only;lia,by dsimp only;lia,by dsimp only;lia⟩
     . refine ai c3 ?_;have k0:k=na:=by lia
       rw[k0] at Cf;refine SE (au qJ ?_);have jH:=ho.iI sa sb (by lia) h4 (by lia) Cf;by_cases c5:(nb - 1==1)=true
       . refine ah c5 ?_;exact SF ⟨⟨_,rfl⟩, .inl ⟨_,rfl,jH.first sa sb (by lia) (by lia) (SO.mp c5) c0⟩⟩
       refine ai c5 ?_;have Rg:nb - 1≠1:=fun z=>c5 (SO.mpr z);clear c5;have hK:na - 1 < a.size:=by lia
       refine SE (au hK ?_);refine SE (cU L hk hb (ha _ hK) (by lia) (by lia) (fun p q pq q2=>sb.rk (by lia) (by lia)) fun k2 Kc lt lf=>?_);rw[<-bq (R:=R) hK] at lt lf;simp only [Vn] at lt lf;dsimp only;have lt':0 < k2->rk R b (k2 - 1)<=rk R a (na - 1):=fun z=>UO (j5 (lt (k2 - 1) (by lia)));have vK:k2 < nb - 1->rk R a (na - 1)<=rk R b k2:=fun z=>j6 (lf k2 (SD _) (by lia));clear lt lf;by_cases c6:nb - 1 - k2 > 0
       . refine ah c6 ?_;have uG:=jH.eY sa sb (nb':=k2) (by lia) (by lia) (by lia) (fun z _=>vK z);by_cases c7:(k2==1)=true
         . refine ah c7 ?_;exact SF ⟨⟨_,rfl⟩, .inl ⟨_,rfl,uG.first sa sb (by lia) (by lia) (SO.mp c7) c0⟩⟩
         refine ai c7 ?_;have zm:k2≠1:=fun z=>c7 (SO.mpr z);clear c7;by_cases c8:(k2==0)=true
         . refine ah c8 ?_;exact SF ⟨⟨_,rfl⟩, .inl ⟨_,rfl,uG.done sa sb (by lia) (by lia) (.inr (SO.mp c8))⟩⟩
         refine ai c8 ?_;have Rf:k2≠0:=fun z=>c8 (SO.mpr z);clear c8;refine SE (au hK ?_);have fX:=uG.eK sa sb (by lia) (by lia) (by lia) lt';by_cases c7:(na - 1==0)=true
         . refine ah c7 ?_;exact SF ⟨⟨_,rfl⟩, .inl ⟨_,rfl,fX.done sa sb (by lia) (by lia) (.inl (SO.mp c7))⟩⟩
         refine ai c7 ?_;have zm:na - 1≠0:=fun z=>c7 (SO.mpr z);clear c7;by_cases c8:(decide (na - k < 7) && decide (nb - 1 - k2 < 7))=true
         . refine ah c8 ?_;exact SF ⟨⟨_,rfl⟩, .inr ⟨rfl,by dsimp only;exact fX,by dsimp only;lia,by dsimp only;lia,by dsimp only;lia,by dsimp only;lia,by dsimp only;lia⟩⟩
         . refine ai c8 ?_;exact SF ⟨⟨_,rfl⟩,rfl,by dsimp only;exact fX,by dsimp only;lia,by dsimp only;lia,by dsimp only;lia,by dsimp only;lia,by dsimp only;lia⟩
       . refine ai c6 ?_;have Er:k2=nb - 1:=by lia
         refine SE (au hK ?_);have fX:=jH.eK sa sb (by lia) (by lia) (by lia) (fun z=>by rw[<-Er] at z ⊢;exact lt' z);by_cases c7:(na - 1==0)=true
         . refine ah c7 ?_;exact SF ⟨⟨_,rfl⟩, .inl ⟨_,rfl,fX.done sa sb (by lia) (by lia) (.inl (SO.mp c7))⟩⟩
         refine ai c7 ?_;have zm:na - 1≠0:=fun z=>c7 (SO.mpr z);clear c7;by_cases c8:(decide (na - k < 7) && decide (nb - 1 - k2 < 7))=true
         . refine ah c8 ?_;exact SF ⟨⟨_,rfl⟩, .inr ⟨rfl,by dsimp only;exact fX,by dsimp only;lia,by dsimp only;lia,by dsimp only;lia,by dsimp only;lia,by dsimp only;lia⟩⟩
         . refine ai c8 ?_;exact SF ⟨⟨_,rfl⟩,rfl,by dsimp only;exact fX,by dsimp only;lia,by dsimp only;lia,by dsimp only;lia,by dsimp only;lia,by dsimp only;lia⟩
section
variable {R : Keyed -> Int}
theorem iH(h:a[i]?=b[j]?):rk R a i=rk R b j:=by unfold rk;rw[h]
theorem jk{a:Array Keyed}(hj:j<=a.size)(k:Nat):rk R (mirror a i j ((j - i) / 2)) k=if i<=k/\k < j then rk R a (i+j - 1 - k) else rk R a k:=by
 have e:=getElem?_mirror_all (i:=i) (j:=j) (xs:=a) hj k;by_cases c:i<=k/\k < j
 . rw[if_pos c] at e ⊢;exact iH e
 . rw[if_neg c] at e ⊢;exact iH e
theorem Dq{a:Array Keyed}(ha:i < a.size)(hd:d<=i)(k:Nat):rk R (bubble a i d) k=if k=i - d then rk R a i else if i - d < k/\k<=i then rk R a (k - 1) else rk R a k:=by
 have e:=getElem?_bubble (xs:=a) (src:=i) ha d hd k;by_cases c:k=i - d
 . rw[if_pos c] at e ⊢;exact iH e
 . rw[if_neg c] at e ⊢;by_cases c2:i - d < k/\k<=i
   . rw[if_pos c2] at e ⊢;exact iH e
   . rw[if_neg c2] at e ⊢;exact iH e
def aT(R:Keyed->Int)(a:Array Keyed)(i j:Nat):Prop:= ∀x y,i<=x->x<=y->y < j->rk R a x<=rk R a y
theorem aT.more{lo n:Nat}(h:aT R a lo (lo+n))(n1:1<=n)(hl:rk R a (lo+n - 1)<=rk R a (lo+n)):aT R a lo (lo+(n+1)):=fun x y h1 h2 h3=>by
 by_cases c:y < lo+n
 . exact h x y h1 h2 c
 . have:y=lo+n:=by lia
   subst this;by_cases d:x=lo+n
   . rw[d];exact U6 _
   . exact Int.le_trans (h x (lo+n - 1) h1 (by lia) (by lia)) hl
theorem aT.one{lo:Nat}:aT R a lo (lo+1):=fun x y h1 h2 h3=>by rw[show x=y by lia];exact U6 _
structure Dx(R:Keyed->Int)(a:Array Keyed)(lo n q:Nat):Prop where
 ds: ∀i j,lo<=i->i<=j->j < lo+n->rk R a j<=rk R a i
 q1:q+1<=n
 eq: ∀i,lo+n - (q+1)<=i->i < lo+n->rk R a i=rk R a (lo+n - 1)
theorem Dx.turn{lo n q:Nat}(h:Dx R a lo n q)(hn:lo+n<=a.size):rk R (mirror a (lo+n - (q+1)) (lo+n) ((lo+n - (lo+n - (q+1))) / 2)) i=rk R a i:=by
 rw[jk hn];have:=h.q1;split
 . rename_i c;rw[h.eq _ (by lia) (by lia),h.eq i c.1 c.2]
 . rfl
theorem Dx.turned{lo n q:Nat}(h:Dx R a lo n q)(hn:lo+n<=a.size):Dx R (mirror a (lo+n - (q+1)) (lo+n) ((lo+n - (lo+n - (q+1))) / 2)) lo n q:=
 ⟨fun i j x y z=>by rw[h.turn hn,h.turn hn];exact h.ds i j x y z,h.q1,fun i x y=>by rw[h.turn hn,h.turn hn];exact h.eq i x y⟩
theorem Dx.more{lo n q:Nat}(h:Dx R a lo n q)(hl:rk R a (lo+n) < rk R a (lo+n - 1)):Dx R a lo (n+1) 0:=by
 have:=h.q1;refine⟨fun i j x y z=>?_,by lia,fun i x y=>by rw[show i=lo+(n+1) - 1 by lia]⟩;by_cases hj:j < lo+n
 . exact h.ds i j x y hj
 . have:j=lo+n:=by lia
   subst this;by_cases hi:i=lo+n
   . subst hi;exact U6 _
   . exact Int.le_trans (UO hl) (h.ds i (lo+n - 1) x (by lia) (by lia))
theorem Dx.alike{lo n q:Nat}(h:Dx R a lo n q)(hl:rk R a (lo+n)=rk R a (lo+n - 1)):Dx R a lo (n+1) (q+1):=by
 have q1:=h.q1;refine⟨fun i j x y z=>?_,by lia,fun i x y=>?_⟩
 . by_cases hj:j < lo+n
   . exact h.ds i j x y hj
   . have:j=lo+n:=by lia
     subst this;by_cases hi:i=lo+n
     . subst hi;exact U6 _
     . rw[hl];exact h.ds i (lo+n - 1) x (by lia) (by lia)
 . rw[show lo+(n+1) - 1=lo+n by lia];by_cases hi:i=lo+n
   . rw[hi]
   . rw[hl];exact h.eq i (by lia) (by lia)
theorem Dx.up{lo n q:Nat}(h:Dx R a lo n q)(hn:lo+n<=a.size):aT R (mirror a lo (lo+n) ((lo+n - lo) / 2)) lo (lo+n):=fun x y h1 h2 h3=>by
 rw[jk hn,jk hn,if_pos ⟨by lia,by lia⟩,if_pos ⟨by lia,by lia⟩];exact h.ds _ _ (by lia) (by lia) (by lia)
end
structure Wx(κ:SortKind)(a₀ ar:Array Keyed)(lo:Nat)(p:Array (Nat × Nat × Nat))(st:SortSt):Prop where
 pm:(arrOf st).Perm a₀
 kind:kindOf st=κ
 failed:failedOf st=none
 pend:pendingOf st=p
 keep: ∀i,i < lo->(arrOf st)[i]?=ar[i]?
section
variable {prog : Program} {w : World} {A : Around} {E : Value -> Shared -> Prop} {s : Shared} {κ : SortKind} {R : Keyed -> Int} {D : Keyed -> Prop} {a₀ ar : Array Keyed} {p : Array (Nat × Nat × Nat)} {lo : Nat}
theorem Wx.size{st:SortSt}(h:Wx κ a₀ ar lo p st):(arrOf st).size=a₀.size:=h.pm.size_eq
theorem Wx.dk{st:SortSt}(h:Wx κ a₀ ar lo p st)(hD: ∀x∈a₀.toList,D x):Dk D (arrOf st):=fun i hi=>hD _ ((Ue.mp h.pm).mem_iff.mp (qB hi))
theorem Wx.lt{st:SortSt}(h:Wx κ a₀ ar lo p st)(L:kJ prog w A E s κ R D)(hD: ∀x∈a₀.toList,D x){i j:Nat}(hi:i < a₀.size)(hj:j < a₀.size)(q:Q (some (decide (rk R (arrOf st) i < rk R (arrOf st) j))) st):wpS (model prog w) A E s (ltAt' i j) Q st:=by
 have iy:i < (arrOf st).size:=by rw[h.size];exact hi
 have Bd:j < (arrOf st).size:=by rw[h.size];exact hj
 rw[ltAt'_eq];refine SE (VA ?_);rw[bq iy,bq Bd] at q;exact SE (au iy (SE (au Bd (L _ _ _ _ h.kind (h.dk hD _ iy) (h.dk hD _ Bd) q))))
theorem Wx.rev{st:SortSt}(h:Wx κ a₀ ar lo p st){i j:Nat}(hi:lo<=i)(hj:j<=a₀.size)(q: ∀ao,Wx κ a₀ ar lo p ao->arrOf ao=mirror (arrOf st) i j ((j - i) / 2)->Q () ao):wpS (model prog w) A E s (reverseSlice' i j) Q st:=by
 rw[reverseSlice'_eq];refine UP (q _ ⟨(mirror_perm _ _ _ _).trans h.pm,h.kind,h.failed,h.pend,fun k hk=>?_⟩ rfl);show(mirror (arrOf st) i j ((j - i) / 2))[k]?=_;rw[getElem?_mirror_all (by rw[h.size];exact hj),if_neg (by lia)];exact h.keep k hk
theorem Wx.Qa{st:SortSt}(h:Wx κ a₀ ar lo p st){i j:Nat}(hj:lo<=j)(bb:j<=i)(hi:i < a₀.size)(q: ∀ao,Wx κ a₀ ar lo p ao->arrOf ao=bubble (arrOf st) i (i - j)->Q () ao):wpS (model prog w) A E s (moveDown' i j) Q st:=by
 rw[moveDown'_eq];refine UP (q _ ⟨(bubble_perm _ _ _).trans h.pm,h.kind,h.failed,h.pend,fun k hk=>?_⟩ rfl);show(bubble (arrOf st) i (i - j))[k]?=_;rw[getElem?_bubble (by rw[h.size];exact hi) _ (by lia),if_neg (by lia),if_neg (by lia)];exact h.keep k hk
theorem vX(L:kJ prog w A E s κ R D)(hD: ∀x∈a₀.toList,D x){st:SortSt}{cM:Nat}(hn:lo+cM<=a₀.size)(h1:1<=cM)(hW:Wx κ a₀ ar lo p st)(h: ∀m ao,Wx κ a₀ ar lo p ao->1<=m->m<=cM->aT R (arrOf ao) lo (lo+m)->Q (some m) ao):wpS (model prog w) A E s (countRun' lo cM) Q st:=by
 rw[countRun'_eq];dsimp only;refine SE (Ud (TF (I:=fun i c ao=>ao=st/\c.1=none/\c.2=i/\aT R (arrOf st) lo (lo+i)) (Q:=fun c ao=>ao=st/\c.1=none/\1<=c.2/\c.2<=cM/\aT R (arrOf st) lo (lo+c.2)/\(c.2 < cM->rk R (arrOf st) (lo+c.2) < rk R (arrOf st) (lo+c.2 - 1))) ?_ ?_ ⟨rfl,rfl,rfl,aT.one⟩) ?_)
 . rintro x ⟨r,n⟩ ao Gf Ge ⟨rfl,e1,e2,e3⟩
   dsimp only at e1 e2 e3 ⊢;subst e1;subst e2;refine SE (hW.lt L hD (by lia) (by lia) ?_);cases bw:decide (rk R (arrOf ao) (lo+n) < rk R (arrOf ao) (lo+n - 1)) with
   | true=>exact SF ⟨rfl,rfl,by dsimp only;lia,by dsimp only;lia,by dsimp only;exact e3,fun _=>by dsimp only;exact T6 bw⟩
   | false=>exact SF ⟨rfl,rfl,rfl,e3.more (by lia) (V6.mp (TL bw))⟩
 . rintro⟨r,n⟩ ao ⟨f0,f1,f2,f3⟩
   dsimp only at f1 f2 f3;rw[<-f2] at f3;have f2:n=cM:=by lia
   subst f2;exact⟨f0,f1,by dsimp only;lia,SD _,f3,fun z=>absurd z (Tu _)⟩
 . rintro⟨r,n⟩ ao ⟨rfl,e1,e2,e3,sg,HL⟩
   dsimp only at e1 e2 e3 sg HL ⊢;subst e1;dsimp only;by_cases c1:(n==cM)=true
   . rw[if_pos c1];exact SF (h _ _ hW e2 e3 sg)
   rw[if_neg c1];have Ny:n≠cM:=fun z=>c1 (SO.mpr z);clear c1;have HL:=HL (by lia);have sz:=hW.size;by_cases c2:n > 1
   . rw[if_pos c2];refine SE (hW.lt L hD (by lia) (by lia) ?_);cases bw:decide (rk R (arrOf ao) lo < rk R (arrOf ao) (lo+n - 1)) with
     | true=>exact SF (h _ _ hW e2 e3 sg)
     | false=>
      have bw:=TL bw;dsimp only;rw[if_neg SG];refine SE (hW.rev (by lia) (by lia) fun oj w1 ea=>?_);refine SE (wpS_lift (UG ⟨rfl,?_⟩));have al: ∀i,lo<=i->i < lo+n->rk R (arrOf ao) i=rk R (arrOf ao) (lo+n - 1):=fun i i1 i2=>by
       have:=sg lo i (by lia) i1 i2;have:=sg i (lo+n - 1) i1 (by lia) (by lia);lia
      have Jq: ∀i,lo<=i->i < lo+n->rk R (arrOf oj) i=rk R (arrOf ao) (lo+n - 1):=fun i i1 i2=>by
       rw[ea,jk (by lia),if_pos ⟨i1,i2⟩];exact al _ (by lia) (by lia)
      have Rm:rk R (arrOf oj) (lo+n)=rk R (arrOf ao) (lo+n):=by rw[ea,jk (by lia),if_neg (by lia)]
      have MW:Dx R (arrOf oj) lo (n+1) 0:=Dx.more (q:=n - 1) ⟨fun i j x y z=>by rw[Jq i x (by lia),Jq j (by lia) z];exact U6 _,by lia,fun i x y=>by rw[Jq i (by lia) y,Jq (lo+n - 1) (by lia) (by lia)]⟩ (by rw[Rm,Jq (lo+n - 1) (by lia) (by lia)];exact HL);refine SE (Ud (TF (I:=fun i c ao=>Wx κ a₀ ar lo p ao/\c.1=none/\c.2.1=i/\Dx R (arrOf ao) lo c.2.1 c.2.2) (Q:=fun c ao=>Wx κ a₀ ar lo p ao/\c.1=none/\c.2.1<=cM/\Dx R (arrOf ao) lo c.2.1 c.2.2) ?_ ?_ ⟨w1,rfl,rfl,(by dsimp only;exact MW)⟩) ?_)
      . rintro x ⟨r,m,q⟩ ao Gf Ge ⟨w',e1,e2,dx⟩
        dsimp only at e1 e2 dx ⊢;subst e1;subst e2;have q1:=dx.q1;have sz:=w'.size;refine SE (w'.lt L hD (by lia) (by lia) ?_);cases bw:decide (rk R (arrOf ao) (lo+m) < rk R (arrOf ao) (lo+m - 1)) with
        | true=>
         have bw:=T6 bw;dsimp only;rw[if_pos rfl];by_cases c:q > 0
         . rw[if_pos c];exact SE (w'.rev (by lia) (by lia) fun eR w2 ea=>SF ⟨w2,rfl,rfl,by dsimp only;rw[ea];exact(dx.turned (by lia)).more (by rw[dx.turn (by lia),dx.turn (by lia)];exact bw)⟩)
         . rw[if_neg c];exact SF ⟨w',rfl,rfl,by dsimp only;exact dx.more bw⟩
        | false=>
         have bw:=TL bw;dsimp only;rw[if_neg SG];refine SE (w'.lt L hD (by lia) (by lia) ?_);cases Nz:decide (rk R (arrOf ao) (lo+m - 1) < rk R (arrOf ao) (lo+m)) with
         | true=>exact SF ⟨w',rfl,by dsimp only;lia,by dsimp only;exact dx⟩
         | false=>exact SF ⟨w',rfl,rfl,by dsimp only;exact dx.alike (by have:=TL Nz;lia)⟩
      . rintro⟨r,m,q⟩ ao ⟨w',e1,e2,dx⟩
        dsimp only at e2;exact⟨w',e1,by dsimp only;lia,dx⟩
      . rintro⟨r,m,q⟩ ao ⟨w2,e1,e3,dx⟩
        dsimp only at e1 e3 dx ⊢;subst e1;have q1:=dx.q1;have sz:=w2.size;by_cases c:q > 0
        . rw[if_pos c];refine SE (w2.rev (by lia) (by lia) fun eR w3 ea=>?_);have IL:=dx.turned (by lia);rw[<-ea] at IL;have JU:=w3.size;refine SE (w3.rev (by lia) (by lia) fun dR w4 Fg=>?_);have sg:=IL.up (by lia);rw[<-Fg] at sg;refine SE (Ud (TF (I:=fun i c ao=>ao=dR/\c.1=none/\c.2=i/\aT R (arrOf dR) lo (lo+i)) (Q:=fun c ao=>ao=dR/\c.1=none/\1<=c.2/\c.2<=cM/\aT R (arrOf dR) lo (lo+c.2)/\(c.2 < cM->rk R (arrOf dR) (lo+c.2) < rk R (arrOf dR) (lo+c.2 - 1))) ?_ ?_ ⟨rfl,rfl,rfl,sg⟩) ?_)
          . rintro x ⟨r,n⟩ ao Gf Ge ⟨rfl,e1,e2,e3⟩
            dsimp only at e1 e2 e3 ⊢;subst e1;subst e2;refine SE (w4.lt L hD (by lia) (by lia) ?_);cases bw:decide (rk R (arrOf ao) (lo+n) < rk R (arrOf ao) (lo+n - 1)) with
            | true=>exact SF ⟨rfl,rfl,by dsimp only;lia,by dsimp only;lia,by dsimp only;exact e3,fun _=>by dsimp only;exact T6 bw⟩
            | false=>exact SF ⟨rfl,rfl,rfl,e3.more (by lia) (V6.mp (TL bw))⟩
          . rintro⟨r,n⟩ ao ⟨f0,f1,f2,f3⟩
            dsimp only at f1 f2 f3;rw[<-f2] at f3;have f2:n=cM:=by lia
            subst f2;exact⟨f0,f1,by dsimp only;lia,SD _,f3,fun z=>absurd z (Tu _)⟩
          . rintro⟨r,n⟩ ao ⟨rfl,e1,e2,e3,e4,e5⟩
            dsimp only at e1 e2 e3 e4 ⊢;subst e1;exact SF (h _ _ w4 e2 e3 e4)
        . rw[if_neg c];refine SE (w2.rev (by lia) (by lia) fun dR w4 Fg=>?_);have sg:=dx.up (by lia);rw[<-Fg] at sg;refine SE (Ud (TF (I:=fun i c ao=>ao=dR/\c.1=none/\c.2=i/\aT R (arrOf dR) lo (lo+i)) (Q:=fun c ao=>ao=dR/\c.1=none/\1<=c.2/\c.2<=cM/\aT R (arrOf dR) lo (lo+c.2)/\(c.2 < cM->rk R (arrOf dR) (lo+c.2) < rk R (arrOf dR) (lo+c.2 - 1))) ?_ ?_ ⟨rfl,rfl,rfl,sg⟩) ?_)
          . rintro x ⟨r,n⟩ ao Gf Ge ⟨rfl,e1,e2,e3⟩
            dsimp only at e1 e2 e3 ⊢;subst e1;subst e2;refine SE (w4.lt L hD (by lia) (by lia) ?_);cases bw:decide (rk R (arrOf ao) (lo+n) < rk R (arrOf ao) (lo+n - 1)) with
            | true=>exact SF ⟨rfl,rfl,by dsimp only;lia,by dsimp only;lia,by dsimp only;exact e3,fun _=>by dsimp only;exact T6 bw⟩
            | false=>exact SF ⟨rfl,rfl,rfl,e3.more (by lia) (V6.mp (TL bw))⟩
          . rintro⟨r,n⟩ ao ⟨f0,f1,f2,f3⟩
            dsimp only at f1 f2 f3;rw[<-f2] at f3;have f2:n=cM:=by lia
            subst f2;exact⟨f0,f1,by dsimp only;lia,SD _,f3,fun z=>absurd z (Tu _)⟩
          . rintro⟨r,n⟩ ao ⟨rfl,e1,e2,e3,e4,e5⟩
            dsimp only at e1 e2 e3 e4 ⊢;subst e1;exact SF (h _ _ w4 e2 e3 e4)
   . rw[if_neg c2];refine SE (wpS_lift (UG ⟨rfl,?_⟩));have n1:n=1:=by lia
     subst n1;have MW:Dx R (arrOf ao) lo (1+1) 0:=Dx.more (q:=0) ⟨fun i j x y z=>by rw[show i=j by lia];exact U6 _,by lia,fun i x y=>by rw[show i=lo+1 - 1 by lia]⟩ HL;refine SE (Ud (TF (I:=fun i c ao=>Wx κ a₀ ar lo p ao/\c.1=none/\c.2.1=i/\Dx R (arrOf ao) lo c.2.1 c.2.2) (Q:=fun c ao=>Wx κ a₀ ar lo p ao/\c.1=none/\c.2.1<=cM/\Dx R (arrOf ao) lo c.2.1 c.2.2) ?_ ?_ ⟨hW,rfl,rfl,(by dsimp only;exact MW)⟩) ?_)
     . rintro x ⟨r,m,q⟩ ao Gf Ge ⟨w',e1,e2,dx⟩
       dsimp only at e1 e2 dx ⊢;subst e1;subst e2;have q1:=dx.q1;have sz:=w'.size;refine SE (w'.lt L hD (by lia) (by lia) ?_);cases bw:decide (rk R (arrOf ao) (lo+m) < rk R (arrOf ao) (lo+m - 1)) with
       | true=>
        have bw:=T6 bw;dsimp only;rw[if_pos rfl];by_cases c:q > 0
        . rw[if_pos c];exact SE (w'.rev (by lia) (by lia) fun eR w2 ea=>SF ⟨w2,rfl,rfl,by dsimp only;rw[ea];exact(dx.turned (by lia)).more (by rw[dx.turn (by lia),dx.turn (by lia)];exact bw)⟩)
        . rw[if_neg c];exact SF ⟨w',rfl,rfl,by dsimp only;exact dx.more bw⟩
       | false=>
        have bw:=TL bw;dsimp only;rw[if_neg SG];refine SE (w'.lt L hD (by lia) (by lia) ?_);cases Nz:decide (rk R (arrOf ao) (lo+m - 1) < rk R (arrOf ao) (lo+m)) with
        | true=>exact SF ⟨w',rfl,by dsimp only;lia,by dsimp only;exact dx⟩
        | false=>exact SF ⟨w',rfl,rfl,by dsimp only;exact dx.alike (by have:=TL Nz;lia)⟩
     . rintro⟨r,m,q⟩ ao ⟨w',e1,e2,dx⟩
       dsimp only at e2;exact⟨w',e1,by dsimp only;lia,dx⟩
     . rintro⟨r,m,q⟩ ao ⟨w2,e1,e3,dx⟩
       dsimp only at e1 e3 dx ⊢;subst e1;have q1:=dx.q1;have sz:=w2.size;by_cases c:q > 0
       . rw[if_pos c];refine SE (w2.rev (by lia) (by lia) fun eR w3 ea=>?_);have IL:=dx.turned (by lia);rw[<-ea] at IL;have JU:=w3.size;refine SE (w3.rev (by lia) (by lia) fun dR w4 Fg=>?_);have sg:=IL.up (by lia);rw[<-Fg] at sg;refine SE (Ud (TF (I:=fun i c ao=>ao=dR/\c.1=none/\c.2=i/\aT R (arrOf dR) lo (lo+i)) (Q:=fun c ao=>ao=dR/\c.1=none/\1<=c.2/\c.2<=cM/\aT R (arrOf dR) lo (lo+c.2)/\(c.2 < cM->rk R (arrOf dR) (lo+c.2) < rk R (arrOf dR) (lo+c.2 - 1))) ?_ ?_ ⟨rfl,rfl,rfl,sg⟩) ?_)
         . rintro x ⟨r,n⟩ ao Gf Ge ⟨rfl,e1,e2,e3⟩
           dsimp only at e1 e2 e3 ⊢;subst e1;subst e2;refine SE (w4.lt L hD (by lia) (by lia) ?_);cases bw:decide (rk R (arrOf ao) (lo+n) < rk R (arrOf ao) (lo+n - 1)) with
           | true=>exact SF ⟨rfl,rfl,by dsimp only;lia,by dsimp only;lia,by dsimp only;exact e3,fun _=>by dsimp only;exact T6 bw⟩
           | false=>exact SF ⟨rfl,rfl,rfl,e3.more (by lia) (V6.mp (TL bw))⟩
         . rintro⟨r,n⟩ ao ⟨f0,f1,f2,f3⟩
           dsimp only at f1 f2 f3;rw[<-f2] at f3;have f2:n=cM:=by lia
           subst f2;exact⟨f0,f1,by dsimp only;lia,SD _,f3,fun z=>absurd z (Tu _)⟩
         . rintro⟨r,n⟩ ao ⟨rfl,e1,e2,e3,e4,e5⟩
           dsimp only at e1 e2 e3 e4 ⊢;subst e1;exact SF (h _ _ w4 e2 e3 e4)
       . rw[if_neg c];refine SE (w2.rev (by lia) (by lia) fun dR w4 Fg=>?_);have sg:=dx.up (by lia);rw[<-Fg] at sg;refine SE (Ud (TF (I:=fun i c ao=>ao=dR/\c.1=none/\c.2=i/\aT R (arrOf dR) lo (lo+i)) (Q:=fun c ao=>ao=dR/\c.1=none/\1<=c.2/\c.2<=cM/\aT R (arrOf dR) lo (lo+c.2)/\(c.2 < cM->rk R (arrOf dR) (lo+c.2) < rk R (arrOf dR) (lo+c.2 - 1))) ?_ ?_ ⟨rfl,rfl,rfl,sg⟩) ?_)
         . rintro x ⟨r,n⟩ ao Gf Ge ⟨rfl,e1,e2,e3⟩
           dsimp only at e1 e2 e3 ⊢;subst e1;subst e2;refine SE (w4.lt L hD (by lia) (by lia) ?_);cases bw:decide (rk R (arrOf ao) (lo+n) < rk R (arrOf ao) (lo+n - 1)) with
           | true=>exact SF ⟨rfl,rfl,by dsimp only;lia,by dsimp only;lia,by dsimp only;exact e3,fun _=>by dsimp only;exact T6 bw⟩
           | false=>exact SF ⟨rfl,rfl,rfl,e3.more (by lia) (V6.mp (TL bw))⟩
         . rintro⟨r,n⟩ ao ⟨f0,f1,f2,f3⟩
           dsimp only at f1 f2 f3;rw[<-f2] at f3;have f2:n=cM:=by lia
           subst f2;exact⟨f0,f1,by dsimp only;lia,SD _,f3,fun z=>absurd z (Tu _)⟩
         . rintro⟨r,n⟩ ao ⟨rfl,e1,e2,e3,e4,e5⟩
           dsimp only at e1 e2 e3 e4 ⊢;subst e1;exact SF (h _ _ w4 e2 e3 e4)
theorem vY(L:kJ prog w A E s κ R D)(hD: ∀x∈a₀.toList,D x){st:SortSt}{n ok:Nat}{Q:Bool->SortSt->Prop}(hn:lo+n<=a₀.size)(o1:1<=ok)(o2:ok<=n)(hW:Wx κ a₀ ar lo p st)(sg:aT R (arrOf st) lo (lo+ok))
  (h: ∀ao,Wx κ a₀ ar lo p ao->aT R (arrOf ao) lo (lo+n)->Q true ao):wpS (model prog w) A E s (binarySort' lo n ok) Q st:=by
 rw[binarySort'_eq];refine SE (Ud (TF (I:=fun k c ao=>c=(none,())/\Wx κ a₀ ar lo p ao/\aT R (arrOf ao) lo (lo+k)) (Q:=fun c ao=>c=(none,())/\Wx κ a₀ ar lo p ao/\aT R (arrOf ao) lo (lo+n)) ?step ?fin ⟨rfl,hW,by rw[Nat.max_eq_left o1];exact sg⟩) ?post)
 case fin=>
  rintro c ao ⟨e,w',s'⟩
  exact⟨e,w',by rw[show max (max ok 1) n=n by lia] at s';exact s'⟩
 case post=>
  rintro c ao ⟨rfl,w',s'⟩
  exact SF (h ao w' s')
 case step=>
  rintro k c ao R0 RW ⟨rfl,w',s'⟩
  have sz:=w'.size;have k1:1<=k:=by lia
  refine SE (Ud (TF (I:=fun x c mF=>mF=ao/\c.1=none/\c.2.1<=c.2.2/\c.2.2<=k/\(c.2.2 - c.2.1)+x<=k/\(∀i,i < c.2.1->rk R (arrOf ao) (lo+i)<=rk R (arrOf ao) (lo+k))/\(∀i,c.2.2<=i->i < k->rk R (arrOf ao) (lo+k)<=rk R (arrOf ao) (lo+i)))
   (Q:=fun c mF=>mF=ao/\c.1=none/\c.2.1<=k/\(∀i,i < c.2.1->rk R (arrOf ao) (lo+i)<=rk R (arrOf ao) (lo+k))/\(∀i,c.2.1<=i->i < k->rk R (arrOf ao) (lo+k)<=rk R (arrOf ao) (lo+i))) ?istep ?ifin ⟨rfl,rfl,by dsimp only;lia,by dsimp only;lia,by dsimp only;lia,fun i hi=>by dsimp only at hi;lia,fun i h1 h2=>by dsimp only at h1;lia⟩) ?ipost)
  case ifin=>
   rintro⟨r,l,u⟩ mF ⟨e,e1,e2,e3,e4,e5,e6⟩
   dsimp only at e1 e2 e3 e4 e5 e6;have:l=u:=by lia
   subst this;exact⟨e,e1,e3,e5,e6⟩
  case istep=>
   rintro x ⟨r,l,u⟩ mF _ RT ⟨rfl,h1,h2,h3,h4,h5,h6⟩
   dsimp only at h1 h2 h3 h4 h5 h6 ⊢;subst h1;by_cases Oy:l>=u
   . rw[if_pos Oy];have:l=u:=by lia
     subst this;exact SF ⟨rfl,rfl,h3,h5,h6⟩
   . rw[if_neg Oy];refine SE (w'.lt L hD (by lia) (by lia) ?_);cases bw:decide (rk R (arrOf mF) (lo+k) < rk R (arrOf mF) (lo+(l+u) / 2)) with
     | true=>
      have bw:=T6 bw;exact SF ⟨rfl,rfl,by dsimp only;lia,by dsimp only;lia,by dsimp only;lia,h5,fun i i1 i2=>by
       dsimp only at i1;have:=s' (lo+(l+u) / 2) (lo+i) (by lia) (by lia) (by lia);lia⟩
     | false=>
      have bw:=TL bw;exact SF ⟨rfl,rfl,by dsimp only;lia,by dsimp only;lia,by dsimp only;lia,fun i i1=>by
       dsimp only at i1;have:=s' (lo+i) (lo+(l+u) / 2) (by lia) (by lia) (by lia);lia,h6⟩
  case ipost=>
   rintro⟨r,l,u⟩ mF ⟨rfl,h1,h2,h5,h6⟩
   dsimp only at h1 h2 h5 h6 ⊢;subst h1;refine SE (w'.Qa (i:=lo+k) (j:=lo+l) (by lia) (by lia) (by lia) fun eR w2 ea=>SF ⟨rfl,w2,?_⟩);intro x y x1 x2 x3;have bu:=fun z=>Dq (R:=R) (a:=arrOf mF) (i:=lo+k) (d:=lo+k - (lo+l)) (by lia) (by lia) z;rw[ea,bu x,bu y];have e0:lo+k - (lo+k - (lo+l))=lo+l:=by lia
   rw[e0];by_cases a1:x=lo+l
   . rw[if_pos a1];by_cases b1:y=lo+l
     . rw[if_pos b1];exact U6 _
     . rw[if_neg b1,if_pos ⟨by lia,by lia⟩];have:=h6 (y - 1 - lo) (by lia) (by lia);rw[show lo+(y - 1 - lo)=y - 1 by lia] at this;exact this
   . rw[if_neg a1];by_cases a2:lo+l < x/\x<=lo+k
     . rw[if_pos a2,if_neg (by lia),if_pos ⟨by lia,by lia⟩];exact s' _ _ (by lia) (by lia) (by lia)
     . rw[if_neg a2];by_cases b1:y=lo+l
       . rw[if_pos b1];have:=h5 (x - lo) (by lia);rw[show lo+(x - lo)=x by lia] at this;exact this
       . rw[if_neg b1];by_cases b2:lo+l < y/\y<=lo+k
         . rw[if_pos b2];exact s' _ _ (by lia) (by lia) (by lia)
         . rw[if_neg b2];exact s' _ _ (by lia) (by lia) (by lia)
end
section
variable {R : Keyed -> Int}
theorem wZ: ∀{L:List Keyed} {n:Nat} {xs:Array Keyed} (k:Nat),sa+n+L.length<=xs.size->((L.zipIdx n).foldl (fun a (p,j)=>a.setIfInBounds (sa+j) p) xs)[k]?=if sa+n<=k/\k < sa+n+L.length then L[k - sa - n]? else xs[k]?
 | [],n,xs,k,_=>by
  rw[if_neg (by rw[List.length_nil];lia)];rfl
 | x::L,n,xs,k,h=>by
  rw[Tq] at h ⊢;rw[List.zipIdx_cons,List.foldl_cons];rw[wZ (sa:=sa) (L:=L) (n:=n+1) k (by simp;lia)];by_cases c:sa+n<=k/\k < sa+n+(L.length+1)
  . rw[if_pos c];by_cases d:k=sa+n
    . rw[if_neg (by lia),Array.getElem?_setIfInBounds,if_pos d.symm,if_pos (by lia),show k - sa - n=0 by lia];rfl
    . rw[if_pos (by lia),show k - sa - n=(k - sa - (n+1))+1 by lia,List.getElem?_cons_succ]
  . rw[if_neg c,if_neg (by lia),Array.getElem?_setIfInBounds,if_neg (by lia)]
theorem oH: ∀{l:List (Keyed × Nat)} {xs:Array Keyed},(l.foldl (fun a (p,j)=>a.setIfInBounds (sa+j) p) xs).size=xs.size
 | [],xs=>rfl
 | (x,j)::l,xs=>by
  rw[List.foldl_cons,oH];simp
structure Ko(a m a':Array Keyed)(sa e:Nat):Prop where
 at_: ∀k,a'[k]?=if sa<=k/\k < e then m[k - sa]? else a[k]?
 sz:a'.size=a.size
theorem Dy{a m:Array Keyed}(h:sa+m.size<=a.size):Ko a m (m.toList.zipIdx.foldl (fun a (p,j)=>a.setIfInBounds (sa+j) p) a) sa (sa+m.size):=by
 refine⟨fun k=>?_,oH⟩;have:=wZ (sa:=sa) (L:=m.toList) (n:=0) (xs:=a) k (by rw[SN];exact h);rw[SN,VZ,Nat.sub_zero,Ta] at this;exact this
theorem Ko.list(h:Ko a m a' sa e)(he:e=sa+m.size)(hs:e<=a.size):a'.toList=a.toList.take sa++(m.toList++a.toList.drop e):=by
 apply Wg;intro k;rw[Ta,h.at_ k];have l1:(a.toList.take sa).length=sa:=by rw[US,SN];lia
 by_cases c:k < sa
 . rw[if_neg (by lia),SY (by lia),UZ c,Ta]
 . rw[Tc (by lia),l1];by_cases d:k < e
   . rw[if_pos (by lia),SY (by rw[SN];lia),Ta]
   . rw[if_neg (by lia),Tc (by rw[SN];lia),SN,V1,Ta];congr 1
     lia
def eP(R:Keyed->Int)(a:Array Keyed):Nat->List (Nat × Nat × Nat)->Nat->Prop
 | s,[],e=>s=e
 | s,x::r,e=>x.1=s/\1<=x.2.1/\aT R a x.1 (x.1+x.2.1)/\eP R a (x.1+x.2.1) r e
theorem eP.ch: ∀{s e:Nat} {l:List (Nat × Nat × Nat)},eP R a s l e->Ch s l e
 | s,e,[],h=>h
 | s,e,x::r,h=>⟨h.1,h.2.1,eP.ch h.2.2.2⟩
theorem eP.same: ∀{s e:Nat} {l:List (Nat × Nat × Nat)},eP R a s l e->(∀j,s<=j->j < e->rk R a' j=rk R a j)->eP R a' s l e
 | s,e,[],h,_=>h
 | s,e,x::r,h,hr=>by
  have le:=h.2.2.2.ch.le;have hs:=h.1;refine⟨h.1,h.2.1,fun y z y1 y2 y3=>?_,eP.same h.2.2.2 fun j j1 j2=>hr j (by lia) j2⟩;rw[hr y (by lia) (by lia),hr z (by lia) (by lia)];exact h.2.2.1 y z y1 y2 y3
theorem eP.lb: ∀{s e i:Nat} {l:List (Nat × Nat × Nat)} {x:Nat × Nat × Nat},eP R a s l e->l[i]?=some x->s<=x.1/\aT R a x.1 (x.1+x.2.1)
 | s,e,i,[],x,_,h=>by simp at h
 | s,e,0,z::r,x,h,h1=>by
  cases (show z=x by simpa using h1);exact⟨Nat.le_of_eq h.1.symm,h.2.2.1⟩
 | s,e,i+1,z::r,x,h,h1=>by
  have:=eP.lb h.2.2.2 (show r[i]?=some x by simpa using h1);exact⟨by have:=this.1;have:=h.1;lia,this.2⟩
theorem eP.merge: ∀{s e i:Nat} {l:List (Nat × Nat × Nat)} {x y:Nat × Nat × Nat},eP R a s l e->l[i]?=some x->l[i+1]?=some y->aT R a' x.1 (x.1+(x.2.1+y.2.1))->(∀j,(j < x.1\/x.1+(x.2.1+y.2.1)<=j)->rk R a' j=rk R a j)->eP R a' s ((l.set i (x.1,x.2.1+y.2.1,v)).eraseIdx (i+1)) e
 | s,e,i,[],x,y,h,h1,_,_,_=>by simp at h1
 | s,e,0,[z],x,y,h,h1,h2,_,_=>by simp at h2
 | s,e,0,z::z2::r,x,y,h,h1,h2,sg,hr=>by
  cases (show z=x by simpa using h1);cases (show z2=y by simpa using h2);show z.1=s/\1<=z.2.1+z2.2.1/\aT R a' z.1 (z.1+(z.2.1+z2.2.1))/\eP R a' (z.1+(z.2.1+z2.2.1)) r e;refine⟨h.1,by have:=h.2.1;lia,sg,?_⟩;have:=h.2.2.2.2.2.2;rw[h.2.2.2.1] at this;rw[<-Nat.add_assoc];exact this.same fun j j1 _=>hr j (.inr (by lia))
 | s,e,i+1,z::r,x,y,h,h1,h2,sg,hr=>by
  have lb:=eP.lb h.2.2.2 (show r[i]?=some x by simpa using h1);refine⟨h.1,h.2.1,fun p q p1 p2 p3=>?_,eP.merge h.2.2.2 (by simpa using h1) (by simpa using h2) sg hr⟩;rw[hr p (.inl (by lia)),hr q (.inl (by lia))];exact h.2.2.1 p q p1 p2 p3
theorem eP.push(hn:1<=n): ∀{s e:Nat} {l:List (Nat × Nat × Nat)},eP R a s l e->aT R a e (e+n)->eP R a s (l++ [(e,n,q)]) (e+n)
 | s,e,[],h,sg=>⟨h.symm,hn,sg,rfl⟩
 | s,e,x::r,h,sg=>⟨h.1,h.2.1,h.2.2.1,eP.push hn h.2.2.2 sg⟩
theorem eP.mod(hf: ∀x,(f x).1=x.1/\(f x).2.1=x.2.1): ∀{s e k:Nat} {l:List (Nat × Nat × Nat)},eP R a s l e->eP R a s (l.modify k f) e
 | s,e,k,[],h=>by simpa using h
 | s,e,0,x::r,h=>by
  show(f x).1=s/\1<=(f x).2.1/\aT R a (f x).1 ((f x).1+(f x).2.1)/\eP R a ((f x).1+(f x).2.1) r e;rw[(hf x).1,(hf x).2];exact h
 | s,e,k+1,x::r,h=>⟨h.1,h.2.1,h.2.2.1,eP.mod hf h.2.2.2⟩
theorem eP.len: ∀{s e:Nat} {l:List (Nat × Nat × Nat)},eP R a s l e->s+l.length<=e
 | s,e,[],h=>by rw[List.length_nil];exact Nat.le_of_eq h
 | s,e,x::r,h=>by
  have:=eP.len h.2.2.2;have:=h.1;have:=h.2.1;rw[Tq];lia
theorem aT.BY(h:aT R a i j)(hj:j<=a.size):cF R (a.extract i j):=by
 unfold cF;rw[Vk];intro x y hx hy RQ;have sz:(a.extract i j).size=j - i:=by rw[UW];lia
 have qH:x < j - i:=by rw[<-sz,<-SN];exact hx
 have ED:y < j - i:=by rw[<-sz,<-SN];exact hy
 have:=h (i+x) (i+y) (by lia) (by lia) (by lia);rw[bq (by lia),bq (by lia)] at this;simpa using this
theorem rV{a:Array Keyed}(hj:j<=a.size)(hx:x < j - i):rk R (a.extract i j) x=rk R a (i+x):=by
 have sz:(a.extract i j).size=j - i:=by rw[UW];lia
 rw[bq (by lia),bq (by lia),Array.getElem_extract]
theorem qA{a m a':Array Keyed}(h1:sa<=g9)(h2:g9 < sb)(h3:sb < e')(h4:e'<=e)(h5:e<=a.size)(s1:aT R a sa sb)(s2:aT R a sb e)(o:Out R (a.extract g9 sb) (a.extract sb e') m)(P:Ko a m a' g9 e')(k1:sa < g9->rk R a (g9 - 1)<=rk R a sb)(k2:e' < e->rk R a (sb - 1)<=rk R a e'):aT R a' sa e/\a'.toList.Perm a.toList/\ ∀j,(j < g9\/e'<=j)->rk R a' j=rk R a j:=by
 have ms:m.size=e' - g9:=by
  have:=o.1.length_eq;rw[SV,SN,SN,SN,UW,UW] at this;lia
 have out: ∀j,(j < g9\/e'<=j)->rk R a' j=rk R a j:=fun j hj=>iH (by rw[P.at_ j,if_neg (by lia)]);have ins: ∀j,g9<=j->j < e'->rk R a' j=rk R m (j - g9):=fun j j1 j2=>iH (by rw[P.at_ j,if_pos ⟨j1,j2⟩]);have mem: ∀j,g9<=j->j < e'-> ∃k,g9<=k/\k < e'/\rk R a' j=rk R a k:=fun j j1 j2=>by
  rw[ins j j1 j2,bq (by lia)];have hm:=o.1.mem_iff.mp (qB (a:=m) (i:=j - g9) (by lia));rcases Ts.mp hm with z | z
  . obtain⟨k,p1,p2,p3,e⟩:=bY (R:=R) z;exact⟨k,p1,by lia,e⟩
  . obtain⟨k,p1,p2,p3,e⟩:=bY (R:=R) z;exact⟨k,by lia,p2,e⟩
 have lo: ∀x k,sa<=x->x < g9->g9<=k->k < e'->rk R a x<=rk R a k:=fun x k x1 x2 p1 p2=>by
  have a1:=s1 x (g9 - 1) x1 (by lia) (by lia);by_cases c:k < sb
  . exact s1 x k x1 (by lia) c
  . have:=k1 (by lia);have:=s2 sb k (SD _) (by lia) (by lia);lia
 have hi: ∀y k,e'<=y->y < e->g9<=k->k < e'->rk R a k<=rk R a y:=fun y k y1 y2 p1 p2=>by
  by_cases c:k < sb
  . have b1:=s1 k (sb - 1) (by lia) (by lia) (by lia);have b2:=k2 (by lia);have b3:=s2 e' y (by lia) y1 y2;lia
  . exact s2 k y (by lia) (by lia) y2
 refine⟨fun x y x1 x2 x3=>?_,?_,out⟩
 . by_cases cx:x < g9
   . rw[out x (.inl cx)];by_cases cy:y < g9
     . rw[out y (.inl cy)];exact s1 x y x1 x2 (by lia)
     . by_cases Nx:y < e'
       . obtain⟨k,p1,p2,e⟩:=mem y (by lia) Nx;rw[e];exact lo x k x1 cx p1 p2
       . rw[out y (.inr (by lia))];have q1:=lo x (sb - 1) x1 cx (by lia) (by lia);have q2:=hi y (sb - 1) (by lia) x3 (by lia) (by lia);lia
   . by_cases OW:x < e'
     . by_cases Nx:y < e'
       . rw[ins x (by lia) OW,ins y (by lia) Nx];exact o.2.rk (by lia) (by lia)
       . obtain⟨k,p1,p2,e⟩:=mem x (by lia) OW;rw[e,out y (.inr (by lia))];exact hi y k (by lia) x3 p1 p2
     . rw[out x (.inr (by lia)),out y (.inr (by lia))];exact s2 x y (by lia) x2 x3
 . rw[P.list (by lia) (by lia)];have e1:a.toList.take g9++((a.extract g9 sb).toList++(a.extract sb e').toList++a.toList.drop e')=a.toList:=by
    rw[eC,eC];have d1:a.toList.drop sb=(a.toList.drop sb).take (e' - sb)++a.toList.drop e':=by
     conv=>lhs;rw[<-UB (e' - sb) (a.toList.drop sb)]
     rw[List.drop_drop,show sb+(e' - sb)=e' by lia]
    have d2:a.toList.drop g9=(a.toList.drop g9).take (sb - g9)++a.toList.drop sb:=by
     conv=>lhs;rw[<-UB (sb - g9) (a.toList.drop g9)]
     rw[List.drop_drop,show g9+(sb - g9)=sb by lia]
    rw[Tz,<-d1,<-d2,UB]
   conv=>rhs;rw[<-e1]
   exact List.Perm.append_left _ (List.Perm.append_right _ o.1)
theorem aT.join(s1:aT R a sa sb)(s2:aT R a sb e)(h1:sa < sb)(hl:rk R a (sb - 1)<=rk R a sb):aT R a sa e:=fun x y x1 x2 x3=>by
 by_cases cx:x < sb
 . by_cases cy:y < sb
   . exact s1 x y x1 x2 cy
   . have q1:=s1 x (sb - 1) x1 (by lia) (by lia);have q2:=s2 sb y (SD _) (by lia) x3;lia
 . exact s2 x y (by lia) x2 x3
end
structure Px(κ:SortKind)(R:Keyed->Int)(a₀:Array Keyed)(lo:Nat)(p:Array (Nat × Nat × Nat))(st:SortSt):Prop where
 pm:(arrOf st).Perm a₀
 kind:kindOf st=κ
 failed:failedOf st=none
 pend:pendingOf st=p
 ch:eP R (arrOf st) 0 p.toList lo
section
variable {prog : Program} {w : World} {A : Around} {E : Value -> Shared -> Prop} {s : Shared} {κ : SortKind} {R : Keyed -> Int} {D : Keyed -> Prop} {a₀ : Array Keyed} {p : Array (Nat × Nat × Nat)} {lo : Nat}
theorem gb(L:kJ prog w A E s κ R D)(hD: ∀x∈a₀.toList,D x){st:SortSt}{i:Nat}{Q:Bool->SortSt->Prop}(hW:Px κ R a₀ lo p st)(Gi:lo<=a₀.size)(hi:i+1 < p.size)
  (h: ∀p' ao,Px κ R a₀ lo p' ao->p'.size+1=p.size->(∀j,lo<=j->rk R (arrOf ao) j=rk R (arrOf st) j)->Q true ao):wpS (model prog w) A E s (mergeAt' i) Q st:=by
 rw[oS];refine SE (VA ?_);obtain⟨⟨sa,na,pw⟩,hx⟩: ∃x,p[i]?=some x:=⟨p[i],S7 (by lia)⟩
 obtain⟨⟨sb,nb,PX⟩,hy⟩: ∃x,p[i+1]?=some x:=⟨p[i+1],S7 (by lia)⟩
 have qH:p.toList[i]?=some (sa,na,pw):=by rw[Ta];exact hx
 have ED:p.toList[i+1]?=some (sb,nb,PX):=by rw[Ta];exact hy
 have t2:=hW.ch.ch.two qH ED;have Dg:=(hW.ch.lb qH).2;have G4:=(hW.ch.lb ED).2;have hM:=fun(a':Array Keyed)=>hW.ch.merge (a':=a') (v:=pw) qH ED;dsimp only at t2 Dg G4 hM;obtain⟨n1,e1,n2,e2⟩:=t2;rw[hW.pend,hx,hy];dsimp only;have Gh:((p.setIfInBounds i (sa,na+nb,pw)).eraseIdxIfInBounds (i+1)).toList=(p.toList.set i (sa,na+nb,pw)).eraseIdx (i+1):=by
  rw[Array.toList_eraseIdxIfInBounds,Array.toList_setIfInBounds]
 have Mb:((p.setIfInBounds i (sa,na+nb,pw)).eraseIdxIfInBounds (i+1)).size+1=p.size:=by
  rw[<-SN,Gh,VO (by rw[Te,SN];exact hi),Te,SN];lia
 rw[<-Gh] at hM;generalize (p.setIfInBounds i (sa,na+nb,pw)).eraseIdxIfInBounds (i+1)=p1 at hM Mb ⊢;clear Gh;have sz:(arrOf st).size=a₀.size:=hW.pm.size_eq;have dk:Dk D (arrOf st):=fun i hi=>hD _ ((Ue.mp hW.pm).mem_iff.mp (qB hi));have L9:sb < (arrOf st).size:=by lia
 refine SE (zX ?_);refine SE (au L9 ?_);refine SE (cU L hW.kind dk (dk _ L9) (by lia) (by lia) (fun x y x1 x2=>Dg _ _ (by lia) (by lia) (by lia)) fun k hk kt kf=>?_);rw[<-bq (R:=R) L9] at kt kf;dsimp only;have Cf:0 < k->rk R (arrOf st) (sa+k - 1)<=rk R (arrOf st) sb:=fun z=>by have:=rp (kt (k - 1) (by lia));rw[show sa+(k - 1)=sa+k - 1 by lia] at this;exact this
 have El:k < na->rk R (arrOf st) sb<=rk R (arrOf st) (sa+k):=fun z=>UO (rq (kf k (SD _) z));clear kt kf;have whole:rk R (arrOf st) (sb - 1)<=rk R (arrOf st) sb->Q true (setPending st p1):=fun z=>by
  refine h p1 _ ⟨hW.pm,hW.kind,hW.failed,rfl,?_⟩ Mb fun _ _=>rfl;refine hM (arrOf st) ?_ fun j _=>rfl;rw[show sa+(na+nb)=sb+nb by lia];rw[e1] at Dg;exact Dg.join G4 (by lia) z
 by_cases c1:(na - k==0)=true
 . rw[if_pos c1];have Ny:=SO.mp c1;refine SF (whole ?_);have:=Cf (by lia);rw[show sa+k - 1=sb - 1 by lia] at this;exact this
 rw[if_neg c1];have Ny:na - k≠0:=fun z=>c1 (SO.mpr z);clear c1;have L8:sa+k+(na - k) - 1 < (arrOf st).size:=by lia
 refine SE (au L8 ?_);refine SE (cU L hW.kind dk (dk _ L8) (by lia) (by lia) (fun x y x1 x2=>G4 _ _ (by lia) (by lia) (by lia)) fun k2 Kc lt lf=>?_);rw[<-bq (R:=R) L8,show sa+k+(na - k) - 1=sb - 1 by lia] at lt lf;dsimp only;have lt':0 < k2->rk R (arrOf st) (sb+k2 - 1)<=rk R (arrOf st) (sb - 1):=fun z=>by have:=UO (j5 (lt (k2 - 1) (by lia)));rw[show sb+(k2 - 1)=sb+k2 - 1 by lia] at this;exact this
 have vK:k2 < nb->rk R (arrOf st) (sb - 1)<=rk R (arrOf st) (sb+k2):=fun z=>j6 (lf k2 (SD _) z);clear lt lf;by_cases c2:(k2==0)=true
 . rw[if_pos c2];have CN:=SO.mp c2;refine SF (whole ?_);have:=vK (by lia);rw[CN,VZ] at this;exact this
 rw[if_neg c2];have CN:k2≠0:=fun z=>c2 (SO.mpr z);clear c2;have sx:((arrOf st).extract (sa+k) sb).size=na - k:=by rw[UW];lia
 have sy:((arrOf st).extract sb (sb+k2)).size=k2:=by rw[UW];lia
 have NU:aT R (arrOf st) (sa+k) sb:=fun x y x1 x2 x3=>Dg x y (by lia) x2 (by lia);have NT:aT R (arrOf st) sb (sb+k2):=fun x y x1 x2 x3=>G4 x y x1 x2 (by lia);have Kl: ∀i j,Dk D ((arrOf st).extract i j):=fun i j l hl=>by
  rw[Array.getElem_extract];exact dk _ _
 have fin: ∀(m:Array Keyed) (g:Nat),Out R ((arrOf st).extract (sa+k) sb) ((arrOf st).extract sb (sb+k2)) m->wpS (model prog w) A E s (do
   modify fun s=>setArr s (m.toList.zipIdx.foldl (fun a (p,j)=>a.setIfInBounds (sa+k+j) p) (arrOf s))
   return(failedOf (<-get)).isNone) Q (setG (setPending st p1) g):=fun m g o=>by
  have ms:m.size=na - k+k2:=by
   have:=o.1.length_eq;rw[SV,SN,SN,SN,sx,sy] at this;exact this
  have pt:=Dy (a:=arrOf st) (m:=m) (sa:=sa+k) (by lia);rw[show sa+k+m.size=sb+k2 by lia] at pt;rw[e1] at Dg;obtain⟨q1,q2,q3⟩:=qA (sa:=sa) (e:=sb+nb) (by lia) (by lia) (by lia) (by lia) (by lia) Dg G4 o pt (fun z=>Cf (by lia)) (fun z=>vK (by lia));refine SE (UP (SE (VA ?_)));have hf:(failedOf st).isNone=true:=by rw[hW.failed];rfl
  show wpS _ _ _ _ (pure (failedOf st).isNone) Q _;rw[hf];refine SF (h p1 _ ⟨(Ue.mpr q2).trans hW.pm,hW.kind,hW.failed,rfl,?_⟩ Mb fun j hj=>q3 j (by lia));refine hM _ ?_ fun j hj=>q3 j (by lia);rw[show sa+(na+nb)=sb+nb by lia];exact q1
 have c0:rk R ((arrOf st).extract sb (sb+k2)) 0<=rk R ((arrOf st).extract (sa+k) sb) 0:=by
  rw[rV (by lia) (by lia),rV (by lia) (by lia),VZ,VZ];exact El (by lia)
 have cl:rk R ((arrOf st).extract sb (sb+k2)) (((arrOf st).extract sb (sb+k2)).size - 1)<=rk R ((arrOf st).extract (sa+k) sb) (((arrOf st).extract (sa+k) sb).size - 1):=by
  rw[sx,sy,rV (by lia) (by lia),rV (by lia) (by lia),show sb+(k2 - 1)=sb+k2 - 1 by lia,show sa+k+(na - k - 1)=sb - 1 by lia];exact lt' (by lia)
 by_cases c3:na - k<=k2
 . rw[if_pos c3];exact SE (nX L hW.kind (Kl _ _) (Kl _ _) (NU.BY (by lia)) (NT.BY (by lia)) (by lia) (by lia) c0 cl fun m g o=>fin m g o)
 . rw[if_neg c3];exact SE (nY L hW.kind (Kl _ _) (Kl _ _) (NU.BY (by lia)) (NT.BY (by lia)) (by lia) (by lia) c0 cl fun m g o=>fin m g o)
end
theorem Px.wx{p:Array (Nat × Nat × Nat)}{lo:Nat}{st:SortSt}(h:Px κ R a₀ lo p st):Wx κ a₀ (arrOf st) lo p st:=⟨h.pm,h.kind,h.failed,h.pend,fun _ _=>rfl⟩
theorem Px.back{p:Array (Nat × Nat × Nat)}{lo:Nat}{st ao:SortSt}(h:Px κ R a₀ lo p st)(w':Wx κ a₀ (arrOf st) lo p ao):Px κ R a₀ lo p ao:=⟨w'.pm,w'.kind,w'.failed,w'.pend,h.ch.same fun j _ j2=>iH (w'.keep j j2)⟩
theorem tT(L:kJ prog w A E s κ R D)(hD: ∀x∈a₀.toList,D x){st:SortSt}(hW:Px κ R a₀ 0 #[] st)(h1:1<=a₀.size)(h: ∀ao,(arrOf ao).Perm a₀->failedOf ao=none->aT R (arrOf ao) 0 a₀.size->Q () ao):wpS (model prog w) A E s sortRuns' Q st:=by
 rw[sortRuns'_eq];refine SE (VA ?_);dsimp only;rw[hW.pm.size_eq];have mr:1<=minRun' a₀.size a₀.size 0:=jw h1;generalize minRun' a₀.size a₀.size 0=J6 at mr ⊢;refine SE (Ud (TF (I:=fun x (c:Option Unit × Nat) ao=>c.1=none/\c.2<=a₀.size/\min x a₀.size<=c.2/\ ∃p,Px κ R a₀ c.2 p ao)
  (Q:=fun(c:Option Unit × Nat) ao=>c.1=none/\c.2=a₀.size/\ ∃p,Px κ R a₀ c.2 p ao) ?step ?fin0 ⟨rfl,Tw _,by dsimp only;lia,#[],hW⟩) ?post)
 case fin0=>
  rintro⟨r,lo⟩ ao ⟨e1,e2,e3,p,hp⟩
  dsimp only at e1 e2 e3 hp;exact⟨e1,by dsimp only;lia,p,hp⟩
 case post=>
  rintro⟨r,lo⟩ ao ⟨e1,e2,p,uO⟩
  dsimp only at e1 e2 uO ⊢;subst e1;subst e2;dsimp only;have pl:=uO.ch.len;rw[SN] at pl;refine SE (Ud (TF (I:=fun x c ao=>c.1=none/\ ∃p,Px κ R a₀ a₀.size p ao/\p.size+x<=a₀.size)
   (Q:=fun c ao=>c.1=none/\ ∃p,Px κ R a₀ a₀.size p ao/\p.size<=1) ?fstep ?ffin ⟨rfl,p,uO,by lia⟩) ?fpost)
  case ffin=>
   rintro⟨r,u⟩ ao ⟨e1,p,hp,hs⟩
   exact⟨e1,p,hp,by rw[show max 0 a₀.size=a₀.size by lia] at hs;lia⟩
  case fpost=>
   rintro⟨r,u⟩ ao ⟨e1,p,hp,hs⟩
   dsimp only at e1 ⊢;subst e1;refine SF (h _ hp.pm hp.failed ?_);have ch:=hp.ch;have hl:p.toList.length<=1:=by rw[SN];exact hs
   match hq:p.toList,hl,ch with
   | [],_,ch=>have:0=a₀.size:=ch;lia
   | [x],_,ch=>
    obtain⟨a1,a2,a3,a4⟩:=ch;have a4:x.1+x.2.1=a₀.size:=a4;rw[a4,a1] at a3;exact a3
   | _::_::_,hl,_=>simp at hl
  case fstep=>
   clear uO pl;rintro x ⟨r,u⟩ ao _ hx ⟨e1,p,uO,hs⟩
   dsimp only at e1 ⊢;subst e1;refine SE (VA ?_);rw[uO.pend];by_cases c:p.size<=1
   . rw[if_pos c];exact SF ⟨rfl,p,uO,c⟩
   rw[if_neg c];have mg: ∀i,i+1 < p.size->wpS (model prog w) A E s (mergeAt' i) (fun b ao=>b=true/\ ∃p',Px κ R a₀ a₀.size p' ao/\p'.size+1=p.size) ao:=fun i hi=>gb L hD uO (SD _) hi fun p' eR a b _=>⟨rfl,p',a,b⟩
   have hi: ∀(b:Bool),(if b=true then p.size - 2 - 1 else p.size - 2)+1 < p.size:=fun b=>by cases b <;> simp <;> omega
   refine SE (Ud (mg _ (hi _)) ?_);rintro b eR ⟨rfl,p2,w2,k2⟩
   exact SF ⟨rfl,p2,w2,by lia⟩
 case step=>
  rintro x ⟨r,lo⟩ ao _ hx ⟨e1,e2,e3,p,uO⟩
  dsimp only at e1 e2 e3 uO ⊢;subst e1;by_cases c:lo>=a₀.size
  . rw[if_pos c];exact SF ⟨rfl,by dsimp only;lia,p,uO⟩
  rw[if_neg c];refine SE (vX L hD (by lia) (by lia) uO.wx fun m oj w1 m1 m2 sg=>?_);have MG:=uO.back w1;clear w1;dsimp only;by_cases c2:m < J6
  . rw[if_pos c2];refine SE (wpS_lift (UG ⟨rfl,?_⟩));refine SE (vY L hD (by lia) m1 (by lia) MG.wx sg fun eR w2 F7=>?_);have qK:=MG.back w2;have n1:1<=min (a₀.size - lo) J6:=by lia
    have n2:lo+min (a₀.size - lo) J6<=a₀.size:=by lia
    simp only [Bool.not_true,Bool.false_eq_true,if_false];generalize min (a₀.size - lo) J6=n at n1 n2 F7 ⊢;refine SE (VA ?_);rw[qK.pend];cases hb:p.back? with
    | none=>
     dsimp only;refine SE (UP (SF ⟨rfl,by dsimp only;lia,by dsimp only;lia,_,qK.pm,qK.kind,qK.failed,rfl,?_⟩));show eP R (arrOf eR) 0 ((pendingOf _).push _).toList _;rw[qK.pend,Uw];exact qK.ch.push n1 F7
    | some t=>
     obtain⟨s1,P4,q1⟩:=t;dsimp only;refine SE (Ud (TF (I:=fun x c ao=>c.1=none/\ ∃p,Px κ R a₀ lo p ao/\aT R (arrOf ao) lo (lo+n)) (Q:=fun c ao=>c.1=none/\ ∃p,Px κ R a₀ lo p ao/\aT R (arrOf ao) lo (lo+n)) ?_ (fun _ _ h=>h) ⟨rfl,p,qK,F7⟩) ?_)
     . rintro x ⟨r,u⟩ dR _ _ ⟨e1,p2,w2,s2⟩
       dsimp only at e1 ⊢;subst e1;refine SE (VA ?_);rw[w2.pend];by_cases c:p2.size > 1
       . rw[if_pos c,S7 (show p2.size - 2 < p2.size by lia)];generalize p2[p2.size - 2]=t;obtain⟨t1,t2,Hz⟩:=t;dsimp only;split
         . exact SF ⟨rfl,p2,w2,s2⟩
         . refine SE (gb L hD w2 e2 (by lia) fun p3 PL w3 k3 kr=>?_);exact SF ⟨rfl,p3,w3,fun a b a1 a2 a3=>by rw[kr a a1,kr b (by lia)];exact s2 a b a1 a2 a3⟩
       . rw[if_neg c];exact SF ⟨rfl,p2,w2,s2⟩
     . rintro⟨r,u⟩ dR ⟨e1,p2,w2,s2⟩
       dsimp only at e1 ⊢;subst e1;refine SE (UP (SE (UP (SF ⟨rfl,by dsimp only;lia,by dsimp only;lia,_,w2.pm,w2.kind,w2.failed,rfl,?_⟩))));show eP R (arrOf dR) 0 (((pendingOf dR).modify ((pendingOf dR).size - 1) _).push _).toList _;rw[w2.pend,Uw,Array.toList_modify];refine eP.push (e:=lo) n1 (eP.mod ?_ w2.ch) s2;exact fun _=>⟨rfl,rfl⟩
  . rw[if_neg c2];have qK:=MG;have F7:=sg;have n1:=m1;refine SE (VA ?_);rw[qK.pend];cases hb:p.back? with
    | none=>
     dsimp only;refine SE (UP (SF ⟨rfl,by dsimp only;lia,by dsimp only;lia,_,qK.pm,qK.kind,qK.failed,rfl,?_⟩));show eP R (arrOf oj) 0 ((pendingOf _).push _).toList _;rw[qK.pend,Uw];exact qK.ch.push n1 F7
    | some t=>
     obtain⟨s1,P4,q1⟩:=t;dsimp only;refine SE (Ud (TF (I:=fun x c ao=>c.1=none/\ ∃p,Px κ R a₀ lo p ao/\aT R (arrOf ao) lo (lo+m)) (Q:=fun c ao=>c.1=none/\ ∃p,Px κ R a₀ lo p ao/\aT R (arrOf ao) lo (lo+m)) ?_ (fun _ _ h=>h) ⟨rfl,p,qK,F7⟩) ?_)
     . rintro x ⟨r,u⟩ dR _ _ ⟨e1,p2,w2,s2⟩
       dsimp only at e1 ⊢;subst e1;refine SE (VA ?_);rw[w2.pend];by_cases c:p2.size > 1
       . rw[if_pos c,S7 (show p2.size - 2 < p2.size by lia)];generalize p2[p2.size - 2]=t;obtain⟨t1,t2,Hz⟩:=t;dsimp only;split
         . exact SF ⟨rfl,p2,w2,s2⟩
         . refine SE (gb L hD w2 e2 (by lia) fun p3 PL w3 k3 kr=>?_);exact SF ⟨rfl,p3,w3,fun a b a1 a2 a3=>by rw[kr a a1,kr b (by lia)];exact s2 a b a1 a2 a3⟩
       . rw[if_neg c];exact SF ⟨rfl,p2,w2,s2⟩
     . rintro⟨r,u⟩ dR ⟨e1,p2,w2,s2⟩
       dsimp only at e1 ⊢;subst e1;refine SE (UP (SE (UP (SF ⟨rfl,by dsimp only;lia,by dsimp only;lia,_,w2.pm,w2.kind,w2.failed,rfl,?_⟩))));show eP R (arrOf dR) 0 (((pendingOf dR).modify ((pendingOf dR).size - 1) _).push _).toList _;rw[w2.pend,Uw,Array.toList_modify];refine eP.push (e:=lo) n1 (eP.mod ?_ w2.ch) s2;exact fun _=>⟨rfl,rfl⟩
end dP
namespace bC
open PySem PySem.W PyProof.Rows dP
theorem jo{α β:Type}{f:α->β}{l k:List β}(h:l.Perm k): ∀{m:List α},k=m.map f-> ∃m':List α,m'.Perm m/\l=m'.map f:=by
 induction h with
 | nil=>
  intro m e;cases m with
  | nil=>exact⟨[],List.Perm.refl _,rfl⟩
  | cons a b=>cases e
 | cons x _ ih=>
  intro m e;cases m with
  | nil=>cases e
  | cons a m=>
   obtain⟨e1,e2⟩:=List.cons.inj e;obtain⟨m',p,e3⟩:=ih e2;exact⟨a::m',p.cons a,by rw[Ti,<-e3,e1]⟩
 | swap x y l=>
  intro m e;match m,e with
  | a::b::m,e=>
   obtain⟨e1,e2⟩:=List.cons.inj e;obtain⟨e3,e4⟩:=List.cons.inj e2;exact⟨b::a::m,List.Perm.swap _ _ _,by rw[Ti,Ti,e1,e3,e4]⟩
 | trans _ _ Qj Qi=>
  intro m e;obtain⟨m',p,e1⟩:=Qi e;obtain⟨m2,p2,e2⟩:=Qj e1;exact⟨m2,p2.trans p,e2⟩
open Classical in
noncomputable def zQ(a:Array Keyed)(x:Keyed):Nat:=if h: ∃i:Nat,a[i]?=some x then choose h else 0
theorem qF(h: ∃i:Nat,a[i]?=some x):a[zQ a x]?=some x:=by
 unfold zQ;rw[dif_pos h];exact Classical.choose_spec h
section
variable {prog : Program} {w : World} {A : Around} {E : Value -> Shared -> Prop} {z : Shared} {K : Nat -> Int} {vs : List Value}
theorem LR{a₀:Array Keyed}(hc:Pb vs.length K (kas_ask prog w A κ vs) z)(hs:a₀.size=vs.length)(ha: ∀(i:Nat) x,a₀[i]?=some x->x.1=vs.getD i Value.none):kJ prog w A E z κ (fun x=>K (zQ a₀ x)) (fun x=> ∃i:Nat,a₀[i]?=some x):=by
 intro st x y Q hk hx hy q;have ex:=qF hx;have ey:=qF hy;have e1:=ha _ _ ex;have e2:=ha _ _ ey;have l1:zQ a₀ x < vs.length:=by rw[<-hs];exact(UQ.mp ex).1
 have l2:zQ a₀ y < vs.length:=by rw[<-hs];exact(UQ.mp ey).1
 obtain⟨x1,x2⟩:=x;obtain⟨y1,y2⟩:=y;rw[lt'_eq];refine SE (VA ?_);rw[hk];dsimp only at e1 e2;have:=hc _ _ l1 l2 (fun b z'=>b=decide (K (zQ a₀ (x1,x2)) < K (zQ a₀ (y1,y2)))/\z'=z) ⟨rfl,rfl⟩;unfold kas_ask at this;rw[<-e1,<-e2] at this;refine SE (wpS_lift (wpAny_attempt (To this (fun b z' hb=>?_) (fun _ _ f=>f.elim))));obtain⟨rfl,rfl⟩:=hb;exact⟨rfl,SF q⟩
theorem je(ho:z.heap.get? a=some (seqObj "list" vs.toArray m))(hl:vs.length<=100000)(hK: ∀i j,i < vs.length->j < vs.length->vs.getD i Value.none=vs.getD j Value.none->K i=K j)(hk:2<=vs.length-> ∀h':Heap,(∀b o,b≠a->z.heap.get? b=some o->h'.get? b=some o)-> ∃κ,Ask prog w A vs K {z with heap:=h'} κ)(h: ∀p,Pm vs.length p->NQ K p vs.length->P (.done (.ret .none)) {z with heap:=sortedHeap z.heap a vs (outs vs p)}):wpAny (model prog w) A (Builtin.«list.sort» ⟨[.ref a],[]⟩) P E z:=by
 have la:a < z.heap.objs.size:=SQ ho;let h1:Heap:=z.heap.update a (Obj.mapSeq fun _=> #[])
 let h3:Heap:=(h1.push (seqObj "tuple" vs.toArray 0)).push (seqObj "list" #[] 0)
 obtain⟨m1,o1⟩: ∃m1,h1.get? a=some (seqObj "list" #[] m1):=⟨_,get?_update_seq ho (fun _=> #[])⟩
 have s1:h1.objs.size=z.heap.objs.size:=Heap.size_update _ _ _;have o3:h3.get? a=some (seqObj "list" #[] m1):=by
  show((h1.push _).push _).get? a=_;rw[Vg _ _ _ (by rw[size_push',s1];exact Tt (U0 la)),Vg _ _ _ (by rw[s1];exact Tt la)];exact o1
 have k3: ∀b o,b≠a->z.heap.get? b=some o->h3.get? b=some o:=fun b o hb q=>by
  have lb:=SQ q;show((h1.push _).push _).get? b=_;rw[Vg _ _ _ (by rw[size_push',s1];exact Tt (U0 lb)),Vg _ _ _ (by rw[s1];exact Tt lb)];show(z.heap.update a _).get? b=_;rw[Heap.get?_update_ne _ _ _ _ hb];exact q
 have fit: ∀p,Pm vs.length p->(outs vs p).size<=sizeLine+1:=fun p hp=>by rw[xl hp,TZ];lia
 rw[list_sort_plain];refine Sw (listItems_at ho rfl (Sw (Wh ho rfl (Sw (seqEpoch_at o1 rfl ?_)) (by rw[SK,TZ];lia) (Tw _))));refine Sw (wpAny_newTuple (Sw (wpAny_newList (T8 ?_) (Tw _))) (by show vs.length<=_;rw[TZ];lia));show wpAny _ _ _ _ _ {z with heap:=h3};dsimp only;by_cases c2:vs.toArray.size < 2
 . rw[if_pos c2,if_pos c2];refine Sw (SA ?_);rw[StateT.run_pure];refine Sw (SA ?_);dsimp only;have pm:Pm vs.length (List.range vs.length).toArray:=⟨Array.Perm.refl _⟩
   have xV:=AL (vs:=vs);refine Sw (seqEpoch_at o3 rfl (Sw (Wh o3 rfl ?_ (Tw _) (by show(Array.map _ (vs.toArray.zip vs.toArray)).size<=_;rw[xV];exact fit _ pm))));simp only [bne_self_eq_false,Bool.false_eq_true,if_false];refine SA ?_;have:=h _ pm fun i j x y=>by
    have:i=j:=by rw[SK] at c2;lia
    subst this;exact U6 _
   rw[<-xV] at this;exact this
 . rw[if_neg c2,if_neg c2];have l2:2<=vs.length:=by rw[SK] at c2;lia
   obtain⟨κ,ak⟩:=hk l2 h3 k3;refine Sw (To (ak.kind (fun κ' z'=>κ'=κ/\z'={z with heap:=h3}) ⟨rfl,rfl⟩) (fun κ' z' q=>?_) fun _ _ x=>x.elim);obtain⟨e1,e2⟩:=q;subst e1;subst e2;have zs:(vs.toArray.zip vs.toArray).size=vs.length:=by simp
   have zg: ∀(i:Nat) x,(vs.toArray.zip vs.toArray)[i]?=some x->i < vs.length/\x=(vs.getD i Value.none,vs.getD i Value.none):=fun i x e=>by
    obtain⟨hi,e⟩:=UQ.mp e;have iy:i < vs.length:=by rw[zs] at hi;exact hi
    refine⟨iy,?_⟩;rw[<-e,Array.getElem_zip];simp [List.getD,iy]
   refine Sw (To (tT (st:=SortSt.mk' κ' (vs.toArray.zip vs.toArray) #[] 7 none) (a₀:=vs.toArray.zip vs.toArray)
    (Q:=fun _ st=>failedOf st=none/\(arrOf st).Perm (vs.toArray.zip vs.toArray)/\aT (fun x=>K (zQ (vs.toArray.zip vs.toArray) x)) (arrOf st) 0 (vs.toArray.zip vs.toArray).size)
    (LR ak.ask zs fun i x e=>by rw[(zg i x e).2]) (fun x hx=>?_) ⟨Array.Perm.refl _,rfl,rfl,rfl,rfl⟩ (by rw[zs];lia) fun st x y u=>⟨y,x,u⟩) ?_ fun _ _ x=>x)
   . obtain⟨i,hi,e⟩:=Ua hx;exact⟨i,by rw[<-Ta,Sy hi,e]⟩
   rintro⟨⟨⟩,st⟩ z' ⟨e,hf,hp,hg⟩
   subst e;have cv:(arrOf st).toList.Perm ((List.range vs.length).map fun i=>((vs.getD i Value.none,vs.getD i Value.none):Keyed)):=by
    have:=Ue.mp hp;refine this.trans ?_;have:(vs.toArray.zip vs.toArray).toList=(List.range vs.length).map fun i=>((vs.getD i Value.none,vs.getD i Value.none):Keyed):=by
     apply VI
     . simp
     . intro i g1 g2;have hi:i < vs.length:=by simpa using g1
       simp [hi]
    rw[this]
   obtain⟨m',LG,em⟩:=jo cv rfl;have pp:Pm vs.length m'.toArray:=⟨Ue.mpr (by simpa using LG)⟩
   have lm:m'.length=vs.length:=by have:=LG.length_eq;rw[Tf] at this;exact this
   have xV:(arrOf st).map (·.2)=outs vs m'.toArray:=by
    apply VJ.mp;unfold outs;rw[Array.toList_map,em,S5];rfl
   have asc:NQ K m'.toArray vs.length:=fun i j ij jl=>by
    have at': ∀i,i < vs.length->kp K m'.toArray i=rk (fun x=>K (zQ (vs.toArray.zip vs.toArray) x)) (arrOf st) i:=fun i hi=>by
     have im:i < m'.length:=by rw[lm];exact hi
     have e1:(arrOf st)[i]?=some ((vs.getD m'[i] Value.none,vs.getD m'[i] Value.none):Keyed):=by
      rw[<-Ta,em,SX,Sy im];rfl
     have ml:m'[i] < vs.length:=by have:=LG.mem_iff.mp (Ur im);simpa using this
     unfold kp rk;rw[e1];show K (m'.toArray.getD i 0)=K (zQ _ _);have e2:m'.toArray.getD i 0=m'[i]:=by simp [Array.getD,im]
     rw[e2];have e3:=qF (a:=vs.toArray.zip vs.toArray) (x:=(vs.getD m'[i] Value.none,vs.getD m'[i] Value.none)) ⟨m'[i],by
      rw[S7 (by rw[zs];exact ml),Array.getElem_zip];simp [List.getD,ml]⟩
     obtain⟨g1,g2⟩:=zg _ _ e3;exact hK _ _ ml g1 (UI Prod.fst g2)
    rw[at' i (by lia),at' j jl];exact hg i j (Tw _) ij (by rw[zs];exact jl)
   dsimp only;refine Sw (seqEpoch_at o3 rfl (Sw (Wh o3 rfl ?_ (Tw _) (by rw[xV];exact fit _ pp))));rw[hf,xV];simp only [bne_self_eq_false,Bool.false_eq_true,if_false];exact SA (h _ pp asc)
end
end bC
namespace LD
open PySem PySem.Spec L2 LB PyProof.Rows LW
def nJ(M:Addr->Prop)(H:Hp)(vs:List V)(ss:List Sl):Prop:=vs.length=ss.length/\ ∀(i:Nat) v s,vs[i]?=some v->ss[i]?=some s->nK M H (some v) s []/\s.cO=false
theorem nJ.nil:nJ M H [] []:=⟨rfl,fun i v s h=>by simp at h⟩
theorem nJ.cons{M:Addr->Prop}{H:Hp}{v:V}{s:Sl}{vs:List V}{ss:List Sl}(h:nK M H (some v) s [])(nb:s.cO=false)(r:nJ M H vs ss):nJ M H (v::vs) (s::ss):=
 ⟨by rw[Tq,Tq,r.1],fun i y t h1 h2=>by
  cases i with
  | zero=>cases h1;cases h2;exact⟨h,nb⟩
  | succ j=>exact r.2 j y t (by simpa using h1) (by simpa using h2)⟩
abbrev DS:=List Sl->(Dt->Prop)->Prop
def spS(S:DS):Sp:=fun vs H Q _=> ∃M ss Qd,hC M H/\nJ M H vs ss/\S ss Qd/\ ∀r H' v',Qd r->ay H H'->Rep M H' v' r->Q v' H'
theorem qS(al:hC M H)(r:nJ M H vs ss)(w: ∀W∈Ws,Km W M (List.replicate (ss.length+n) []) H (ss++List.replicate n .no)):
  av Ws M (List.replicate (ss.length+n) []) H (vs.map some++List.replicate n none) (ss++List.replicate n .no):=by
 have bW:(List.replicate (ss.length+n) ([]:List Addr)).flatten= []:=by simp
 refine⟨by simp [r.1],by simp,fun i s h=>?_,by rw[bW];exact VC,fun a ha=>by rw[bW] at ha;exact absurd ha SH,al,w⟩;have hi:=(SM.mp h).1;rw[SV,UC] at hi;have ha:(List.replicate (ss.length+n) ([]:List Addr))[i]?=some []:=by rw[S6,if_pos hi]
 by_cases hl:i < ss.length
 . rw[SY hl] at h;have hv:vs[i]?=some (vs[i]'(by rw[r.1];exact hl)):=Sy _;exact⟨_,[],by rw[SY (by rw[Sx,r.1];exact hl),SX,hv];rfl,ha,(r.2 i _ s hv h).1⟩
 . rw[Tc (by omega),S6] at h;split at h
   . rename_i hn;cases h;exact⟨none,[],by rw[Tc (by rw[Sx,r.1];omega),S6,if_pos (by rw[Sx,r.1];exact hn)],ha,rfl⟩
   . cases h
theorem tU:Km ⟨H,fun _=>False,M,M,none⟩ M (List.replicate k []) H δ:=by
 have bW:(List.replicate k ([]:List Addr)).flatten= []:=by simp
 refine⟨fun b o e _=>e,fun b n=>n,fun a ha=>by rw[bW] at ha;exact absurd ha SH,fun a h=>h,fun a h=> .inl h,fun d c e=>(by cases e),fun j s as h1 h2 _ a ha=>?_⟩;rw[S6] at h2;split at h2
 . cases h2;exact absurd ha SH
 . cases h2
section
variable {P : Program} {w : World} {K : PySem.W.Frag} {mg : Str -> Option Value} {base : Heap}
theorem wt{N ps:List Str}(r:nJ M H vs ss)(l:ss.length=ps.length):L2.start N vs=vs.map some++List.replicate (N.length - ps.length) none:=by unfold L2.start;rw[r.1,l]
theorem OH {x qual : Str} {st : Stmt} {k : Nat} (F : g8 K x qual st f fd) (sc : aE N ps (ab st)) (len : ∀ ss Qd, S ss Qd -> ss.length = ps.length) (gR : ∀ (b5 : Value) (A : Around) (outer : List Env) (s : Shared) (H : Hp) (E : XK), bB k (A.deeper (envOfC qual (ab st) s.heap.objs.size f b5)) ->
   ∃T,zF (kz eI P w K mg base N qual (ab st) f b5 A outer s H E).xA (cj st) T/\ ∀ss Qd,S ss Qd->T {nx:=fun _=>Qd .aI,rt:=fun d _=>Qd d} (ss++List.replicate (N.length - ps.length) .no)):
  aV P w K mg base eI (k+1) f fd ps (spS S):=by
 refine F.ok sc (fun vs H Q E h=>?_) (fun b5 A outer s H vs Q E hr h=>?_)
 . obtain⟨M,ss,Qd,al,r,q,_⟩:=h;rw[r.1];exact len ss Qd q
 . obtain⟨M,ss,Qd,al,r,q,kk⟩:=h;obtain⟨T,hT,hq⟩:=gR b5 A outer s H E hr;refine⟨lS T,hT,[⟨H,fun _=>False,M,M,none⟩],M,List.replicate (ss.length+(N.length - ps.length)) [],ss++List.replicate (N.length - ps.length) .no,_,?_,?_,hq ss Qd q⟩
   . rw[wt r (len ss Qd q)];exact qS al r fun W hW=>by rw[SS.mp hW];exact tU
   . have same : ∀ {M' α' H' σ' δ'}, av [⟨H, fun _ => False, M, M, none⟩] M' α' H' σ' δ' -> ay H H' /\ ∀ a, M a -> M' a := fun E' => by
       have k:=E'.w _ (SS.mpr rfl);exact⟨fun b o e=>k.bs b o e (fun z=>z),k.m0⟩
     refine⟨fun M' α' H' σ' δ' E' q=>kk _ _ _ q (same E').1 .aI,fun M' α' H' σ' δ' v d E' r' q=>kk _ _ _ q (same E').1 (r'.mono fun a o e n=>⟨e,fun z=>n ((same E').2 a z)⟩),fun _ _ _ _ _ _ z=>z.elim,fun _ _ _ _ _ _ z=>z.elim⟩
end
end LD
namespace L2
open PySem PySem.Spec PyProof.Rows
def vD(P:Program)(w:World)(K:PySem.W.Frag)(mg:Str->Option Value)(base:Heap)(f:Addr)(k:Nat)(ps:List Str)(sp:Sp):Prop:=
 ∃fd,PySem.W.keepIn K (.ref f)=true/\Binds K fd ps []/\aV P w K mg base eI k f fd ps sp
section
variable {X : Cx} {f : Addr} {k i : Nat} {ps : List Str} {sp : Sp} {x : Str} {p pos : Pos} {e : Expr} {es : List Expr} {t : TA}
def De(f:Addr)(sp:Sp)(i:Nat)(t:TA):TE:=fun σ H Q=>σ[i]?=some (some (.ref f))/\t σ H fun vs H1=>sp vs H1 Q E0
theorem xh(h:vD X.prog X.w X.K X.mg X.base f k ps sp)(hr:bB k X.A)(hn:PE X (.Name x p) (iR i))(ha:PA X (e::es) t)
  (he:starEach (e::es) X.env=(false,eval e X.env)::starEach es X.env:=by rfl) (cv:(backTo pos (starEach es X.env)).any (·.1)=false:=by rfl):
  PE X (.Call (.Name x p) (e::es) [] pos) (De f sp i t):=by
 obtain⟨fd,hk,hb,F⟩:=h;intro pins s σ H Q I hh;obtain⟨hσ,q⟩:=hh;refine UT (aG (hn pins s σ H (fun v H1=>v= .ref f/\t σ H1 fun vs H2=>sp vs H2 Q E0) I ⟨_,hσ,rfl,q⟩) fun u s1 zz=>?_);obtain⟨v,H1,I1,rv,ev,q1⟩:=zz;subst ev;obtain rfl:u=Value.ref f:=rv;refine PySem.W.callWith_K (h₀:=X.base) I.ok.mod.J7 hk (aG (ha pos pins s1 σ H1 _ I1 q1) fun us s2 fQ=>?_) he cv;obtain⟨vs,H2,I2,r,q2⟩:=fQ;refine⟨I2.mX,?_⟩;exact qp (dvs:= []) (ds:= []) F hr hb .nil xk I2 r (by rw[TX];exact q2)
end
end L2
namespace LD
open PySem PySem.Spec L2 LB PyProof.Rows LW
abbrev BQ:=List Sl->(List Sl->List Sl->Prop)->Prop
inductive lW(t:BQ)(σ:L2.St)(H:Hp)(Q:List V->Hp->Prop):Prop
 | mk (W:List Wd) (M:Addr->Prop) (α:List (List Addr)) (δ:List Sl) (Qd:List Sl->List Sl->Prop) (h1:av W M α H σ δ) (h2:t δ Qd) (h3: ∀ss δ' H' vs,Qd ss δ'->av W M α H' σ δ'->b7 α H H'->nJ M H' vs ss->Q vs H')
abbrev Wv(X:Cx)(es:List Expr)(t:BQ):Prop:=PA X es (lW t)
section
variable {X : Cx} {e : Expr} {es : List Expr} {te : bj} {t : BQ} {tA : eG} {y x : Str} {yp p pos : Pos} {f : Addr} {k : Nat} {ps : List Str} {S : DS} {S1 : DN}
def Lb:BQ:=fun δ Q=>Q [] δ
def Pt(te:bj)(t:BQ):BQ:=fun δ Q=>te δ fun d δ1=>t δ1 fun ss δ2=>Q (.im d::ss) δ2
def Pu(f:Addr)(t:BQ):BQ:=fun δ Q=>t δ fun ss δ2=>Q (.fn f::ss) δ2
theorem BU:Wv X [] Lb:=PA.imp aN fun σ H Q zz=>(by obtain⟨W,M,α,δ,Qd,E,q,k⟩:=zz;exact k _ _ _ _ q E b7.rf .nil)
theorem GD(he:Ev X e te)(hr:Wv X es t)(hs:starEach (e::es) X.env=(false,eval e X.env)::starEach es X.env:=by rfl):Wv X (e::es) (Pt te t):=PA.imp (az he hr hs) fun σ H Q zz=>(by
 obtain⟨W,M,α,δ,Qd,E,q,k⟩:=zz;exact⟨W,M,α,δ,_,E,q,fun d δ1 H1 v q1 E1 c1 r1=>⟨W,M,α,δ1,_,E1,q1,fun ss δ2 H2 vs q2 E2 c2 r2=>k _ _ _ _ q2 E2 (c1.tr c2) (.cons (s:= .im d) ⟨rfl,v,rfl,r1.chg E1 c2⟩ rfl r2)⟩⟩)
theorem GF(hg:Gl X x)(hm:X.mg x=some (.ref f))(hr:Wv X es t)(jI:(x==("__debug__":Str))=false:=by decide)(hs:starEach (.Name x p::es) X.env=(false,eval (.Name x p) X.env)::starEach es X.env:=by rfl):Wv X (.Name x p::es) (Pu f t):=PA.imp (az (AH (v:= .ref f) hg hm rfl jI) hr hs) fun σ H Q zz=>(by
 obtain⟨W,M,α,δ,Qd,E,q,k⟩:=zz;exact⟨W,M,α,δ,_,E,q,fun ss δ2 H2 vs q2 E2 c2 r2=>k _ _ _ _ q2 E2 c2 (.cons (s:= .fn f) ⟨rfl,rfl⟩ rfl r2)⟩)
def Ra(S:DS)(t:BQ):bj:=fun δ Q=>t δ fun ss δ'=>S ss fun r=>Q r δ'
theorem CC(h:gB X.prog X.w X.K X.mg X.base x k ps (spS S))(hr:bB k X.A)(ha:Wv X (e::es) t)(hg:Gl X x:=by rfl)
  (jI:(x==("__debug__":Str))=false:=by decide) (he:starEach (e::es) X.env=(false,eval e X.env)::starEach es X.env:=by rfl) (cv:(backTo pos (starEach es X.env)).any (·.1)=false:=by rfl):
  Ev X (.Call (.Name x p) (e::es) [] pos) (Ra S t):=PE.imp (jq h hr hg ha jI he cv) fun σ H Q zz=>(by
 obtain⟨W,M,α,δ,Qd,E,q,k⟩:=zz;refine⟨W,M,α,δ,_,E,q,fun ss δ' H' vs q1 E1 c1 r1=>?_⟩;show spS S (vs++ []) H' Q E0;rw[TX];exact⟨M,ss,_,E1.al,r1,q1,fun r H2 v2 q2 s r2=>k _ _ _ _ q2 (E1.same s) (c1.tr (b7.of s)) r2⟩)
def Nm(f:Addr)(S1:DN)(i:Nat)(tA:eG):bj:=fun δ Q=>δ[i]?=some (.fn f)/\tA δ fun ds δ'=>S1 ds fun r=>Q r δ'
theorem CD(i:Nat)(h:vD X.prog X.w X.K X.mg X.base f k ps (cC S1))(hr:bB k X.A)(ho:PE X (.Name y yp) (iR i))(ha:Av X (e::es) tA)
  (he:starEach (e::es) X.env=(false,eval e X.env)::starEach es X.env:=by rfl) (cv:(backTo pos (starEach es X.env)).any (·.1)=false:=by rfl):
  Ev X (.Call (.Name y yp) (e::es) [] pos) (Nm f S1 i tA):=PE.imp (xh h hr ho ha he cv) fun σ H Q zz=>(by
 obtain⟨W,M,α,δ,Qd,E,⟨hf,q⟩,k⟩:=zz;obtain⟨o,as,s1,s2,ea,eo⟩:=E.sl i _ hf;subst eo;refine⟨s1,W,M,α,δ,_,E,q,fun ds δ' H' vs q1 E1 c1 r1=>?_⟩;exact⟨M,ds,_,E1.al,r1,q1,fun r H2 v2 q2 s r2=>k _ _ _ _ q2 (E1.same s) (c1.tr (b7.of s)) r2⟩)
end
end LD
namespace pR
open PySem PyProof.Rows PySem.W bC
noncomputable def xK(fin:Bool):List Int->List Int->Bool
 | x::xs,y::ys=>if x==y then xK fin xs ys else decide (x < y)
 | _,_=>fin
inductive Nu:List Value->List Int->Prop
 | nil:Nu [] []
 | cons {us:List Value} {xs:List Int} (x:Int) (t:Tok):Nu us xs->Nu (.int x t::us) (x::xs)
theorem Nu.len(h:Nu us xs):us.length=xs.length:=by
 induction h with
 | nil=>rfl
 | cons _ _ _ ih=>rw[Tq,Tq,ih]
structure zu(h:Heap)(v:Value)(xs:List Int):Prop where
 ex: ∃(t:Addr) (o:Obj) (us:List Value) (n:Nat),v= .ref t/\h.get? t=some o/\o.cls= .type "tuple"/\o.data= .seq us.toArray n/\Nu us xs/\xs≠ []
theorem oW: ∀{us vs:List Value} {xs ys:List Int} {i:Nat},Nu us xs->Nu vs ys->Q (xK fin xs ys) s->KatLex prog w A true fin Q (us.zip vs) i s
 | _,_,_,_,_, .nil,_,q=>kat_nil q
 | _,_,_,_,_, .cons _ _ _, .nil,q=>kat_nil q
 | _,_,_,_,i, .cons (us:=us) (xs:=xs) x t h, .cons (us:=vs) (xs:=ys) y u h',q=>by
  rw[List.zip_cons_cons];refine kat_cons (wpAny_eqBool_int ?_);unfold xK at q;by_cases c:(x==y)=true
  . rw[c];rw[if_pos c] at q;exact kat_yes (oW h h' q)
  . rw[if_neg c] at q;rw[Vi.mpr c];refine kat_no ?_;cases i with
    | zero=>exact oneLt_int q
    | succ j=>exact kat_one _ _ (lt_int q)
theorem sT: ∀{vs:List Value} {ts:List (List Int)},vs.length=ts.length->(∀(i:Nat) v xs,vs[i]?=some v->ts[i]?=some xs->zu h v xs)-> ∃fs,KatTups h vs fs/\fs.length=vs.length/\ ∀v∈fs,∃x t,v=Value.int x t
 | [],[],_,_=>⟨[], .nil,rfl,fun v hv=>absurd hv SH⟩
 | [],_::_,l,_=>by simp at l
 | _::_,[],l,_=>by simp at l
 | v::vs,q::ps,l,hp=>by
  obtain⟨fs,t,lf,hi⟩:=sT (vs:=vs) (ts:=ps) (by simpa using l) fun i v q h1 h2=>hp (i+1) v q (by simpa using h1) (by simpa using h2);obtain⟨t0,o,us,n,rfl,g,c,d,nu,ne⟩:=(hp 0 v q rfl rfl).ex;cases nu with
  | nil=>exact absurd rfl ne
  | @cons us xs x tk _=>
   refine⟨.int x tk::fs, .cons g c d rfl t,by rw[Tq,Tq,lf],fun v hv=>?_⟩;rcases Tg.mp hv with e | hv
   . exact⟨_,_,e⟩
   . exact hi v hv
end pR
namespace bC
open PySem PySem.Spec L2 LB PyProof.Rows PySem.W pR
noncomputable def bS(B:Int):List Int->Int
 | []=>0
 | x::xs=>x*B^xs.length+bS B xs
def zV(B:Int)(xs:List Int):Prop:= ∀x∈xs,0<=x/\x < B
theorem nv(b0:0 < B): ∀{xs:List Int},zV B xs->0<=bS B xs/\bS B xs < B^xs.length
 | [],_=>by show(0:Int)<=0/\(0:Int) < B^0;rw[Int.pow_zero];decide
 | x::xs,h=>by
  obtain⟨i1,i2⟩:=nv b0 (xs:=xs) fun y hy=>h y (Tn _ hy);obtain⟨h1,h2⟩:=h x TM;have p0:(0:Int)<=B^xs.length:=by lia
  have m1:0<=x*B^xs.length:=Int.mul_nonneg h1 p0;have m2:(x+1)*B^xs.length<=B*B^xs.length:=Vw (by lia) p0;rw[Int.add_mul,Int.one_mul] at m2;show 0<=x*B^xs.length+bS B xs/\x*B^xs.length+bS B xs < B^(xs.length+1);rw[Int.pow_succ,Int.mul_comm (B^xs.length) B];lia
theorem sV(b0:0 < B): ∀{xs ys:List Int},xs.length=ys.length->zV B xs->zV B ys->decide (bS B xs < bS B ys)=xK false xs ys
 | [],[],_,_,_=>rfl
 | [],_::_,l,_,_=>by cases l
 | _::_,[],l,_,_=>by cases l
 | x::xs,y::ys,l,hx,hy=>by
  have l':xs.length=ys.length:=by simpa using l
  have qH:zV B xs:=fun z hz=>hx z (Tn _ hz);have ED:zV B ys:=fun z hz=>hy z (Tn _ hz);have e:=yG (B:=B^xs.length) (p:=(x,bS B xs)) (q:=(y,bS B ys)) (nv b0 qH) (by rw[l'];exact nv b0 ED);show decide (x*B^xs.length+bS B xs < y*B^ys.length+bS B ys)=if x==y then xK false xs ys else decide (x < y)
  rw[<-l'];unfold enc at e;rw[e];by_cases c:(x==y)=true
  . rw[if_pos c,if_pos c,<-sV b0 l' qH ED];by_cases d:(bS B xs==bS B ys)=true
    . rw[if_pos d,S9 (by have:=eq_of_beq d;lia)]
    . rw[if_neg d]
  . rw[if_neg c,if_neg c]
theorem Ed(a:Nu us xs):Nu us ys->xs=ys:=by
 intro b;induction a generalizing ys with
 | nil=>cases b;rfl
 | cons x t h ih=>cases b with
  | cons y u h'=>rw[ih h']
theorem C5(a:zu h v xs)(b:zu h v ys):xs=ys:=by
 obtain⟨t,o,us,n,e,g,c,d,nu,_⟩:=a.ex;obtain⟨t',o',RK,n',e',g',c',d',P2,_⟩:=b.ex;subst e;cases e';rw[g] at g';cases g';rw[d] at d';simp only [Data.seq.injEq,List.toArray_inj,Array.mk.injEq] at d';have d1:=d'.1;subst d1;exact Ed nu P2
section
variable {prog : Program} {w : World} {A : Around} {z : Shared} {vs : List Value} {ts : List (List Int)} {B : Int} {n : Nat}
theorem zp(b0:0 < B)(hl:vs.length=ts.length)(h2:2<=vs.length)(hp: ∀(i:Nat) v q,vs[i]?=some v->ts[i]?=some q->zu z.heap v q)(hb: ∀t∈ts,t.length=n/\zV B t): ∃κ,Ask prog w A vs (fun i=>bS B (ts.getD i [])) z κ:=by
 obtain⟨fs,t,lf,hi⟩:=sT hl hp;refine⟨tuples' true,fun Q q=>kat_kind (T:= .type "int") t (by lia) (fun v hv=>?_) (by rfl) q,fun i j iy Bd C q=>?_⟩
 . obtain⟨x,tk,rfl⟩:=hi v hv;exact Looks.of_pure rfl
 . have li:i < ts.length:=by lia
   have lj:j < ts.length:=by lia
   have ei:ts.getD i []=ts[i]:=by simp [List.getD,li]
   have ej:ts.getD j []=ts[j]:=by simp [List.getD,lj]
   have fi:vs.getD i Value.none=vs[i]:=by simp [List.getD,iy]
   have fj:vs.getD j Value.none=vs[j]:=by simp [List.getD,Bd]
   obtain⟨a1,a2⟩:=hb _ (Ur li);obtain⟨b1,b2⟩:=hb _ (Ur lj);rw[ei,ej,sV b0 (a1.trans b1.symm) a2 b2] at q;obtain⟨t1,o1,RJ,n1,e1,g1,c1,d1,N4,_⟩:=(hp i _ _ (Sy iy) (Sy li)).ex;obtain⟨t2,o2,RI,n2,e2,g2,c2,d2,N3,_⟩:=(hp j _ _ (Sy Bd) (Sy lj)).ex;unfold kas_ask;rw[fi,fj,e1,e2];refine kat_lt g1 d1 g2 d2 ?_;rw[SK,SK,N4.len,N3.len,a1,b1,S9 (Tu n)];exact oW N4 N3 q
end
theorem sv: ∀{xs:List Int} {us:List Value},Vals (xs.map V.int) us->Nu us xs
 | [],_, .nil=> .nil
 | x::xs,_, .cons r t=>by
  obtain⟨tk,rfl⟩:=r;exact .cons x tk (sv t)
end bC
namespace LD
open PySem PySem.Spec L2 LB PyProof.Rows bC
noncomputable def Gb(t:List Int):Dt:= .tup (t.map .int)
end LD
namespace bZ
open PySem PySem.W PyProof.Rows eF bC L2
noncomputable def gL(ks:List Int):Int:=reduceHash (Builtin.Tuple.tupleHashOf (ks.map hashInt))
def nQ(w:World)(a:Addr)(ts:List Addr)(h:Heap):Prop:= ∃es,iV (!w.params.followText "set-order") h a es/\(es.toList.map (·.2)).Perm (ts.map Value.ref)
theorem oq (hA : A.handled = none) (S : nQ w a ts s.heap) (hl : ts.length <= 50000) (h : ∀ us : List Addr, us.Perm ts -> ∃ K : Nat -> Int, (∀ i j, i < us.length -> j < us.length -> (us.map Value.ref).getD i Value.none = (us.map Value.ref).getD j Value.none -> K i = K j) /\
   (2<=us.length-> ∀h' d tk,(∀b o,s.heap.get? b=some o->h'.get? b=some o)-> ∃κ,Ask prog w A.in1.in1 (us.map Value.ref) K {s with heap:=h',drawn:=d,toks:=tk} κ)/\
   (∀h' d tk p n q,(∀b o,s.heap.get? b=some o->h'.get? b=some o)->s.heap.objs.size<=p->Pm us.length q->NQ K q us.length->h'.get? p=some (seqObj "list" (outs (us.map Value.ref) q) n)->Q (.ref p) {s with heap:=h',drawn:=d,toks:=tk})):
  wpAny (model prog w) A (call (.builtin "sorted") [.ref a]) Q E s:=by
 obtain⟨es,⟨o,ep,t,ho,hx,hd,BJ⟩,N1⟩:=S;have zl:es.size=ts.length:=by have:=N1.length_eq;rw[Sx,Sx,SN] at this;exact this
 refine Calls.call_function_entry kind_sorted plain_sorted entry_sorted (args_sorted1 _) ?_;unfold Builtin.«sorted»;refine Sw (m:=checkCount "sorted" 1 1 _) (SA (Sw (pH (by simpa using hA) ⟨hd,BJ.fits,BJ.T⟩ ho hx.1 rfl (by rw[TZ];lia) fun h' d tk acc ls kp pm=>?_)));obtain⟨us,pu,rfl⟩:=jo (pm.trans N1) rfl;obtain⟨K,hK,hk,hq⟩:=h us pu;have lu:us.length=ts.length:=pu.length_eq;have vl:(us.map Value.ref).length=us.length:=Sx _;refine Sw (wpAny_newList ?_ (by rw[TZ,vl];lia));have g1:(h'.push (seqObj "list" (us.map Value.ref).toArray 0)).get? h'.objs.size=some (seqObj "list" (us.map Value.ref).toArray 0):=SI _ rfl;have k1: ∀b o,s.heap.get? b=some o->(h'.push (seqObj "list" (us.map Value.ref).toArray 0)).get? b=some o:=fun b o e=>Sz _ (kp b o e);refine Sw (T8 (UE slot_list_sort ⟨_,g1,rfl⟩ entry_list_sort (je (z:={s with heap:=h'.push (seqObj "list" (us.map Value.ref).toArray 0),drawn:=d,toks:=tk}) (K:=K) g1 (by rw[vl];lia) (fun i j x y=>hK i j (by rw[vl] at x;exact x) (by rw[vl] at y;exact y)) (fun c h2 kk=>hk (by rw[vl] at c;exact c) h2 d tk fun b o e=>kk b o (Tt (SQ (kp b o e))) (k1 b o e)) fun q pm ac=>⟨_,rfl,SA ⟨_,rfl,?_⟩⟩) (args_list_sort _)));obtain⟨n,hn⟩:=sortedHeap_at (vs:=us.map Value.ref) (out:=outs (us.map Value.ref) q) g1;rw[vl] at pm ac;refine hq _ d tk _ n q (fun c oo e=>?_) (T5 ls) pm ac hn;have e1:=kp c oo e;have lc:=SQ e1;rw[sortedHeap_old (Tt lc) (Nat.lt_of_lt_of_eq (U0 lc) (TC _ _).symm)];exact Sz _ e1
theorem items_int{zs:List Int}(h:Vals (zs.map V.int) js):ItemsAre (intKind prog w) zs js:=by
 induction zs generalizing js with
 | nil=>cases h;exact .nil
 | cons z zs ih=>
  cases h with
  | cons h1 h2=>
   obtain⟨t,rfl⟩:=h1;exact .cons (intKind_is prog w z t) (ih h2)
end bZ
namespace L2
open PySem PySem.Spec PyProof.Rows eF bZ bC pR
abbrev FR:=Addr × List Int
theorem vg{X:Cx}(hA:X.A.handled=none)(hu:X.A.in1.in1.in1.units < cLine):cq X (.type "set") (fun xs H Q=> ∃(l:Addr) (ws:List FR),xs= [.ref l]/\H l=some (.lst (ws.map fun w=>V.ref w.1))/\ws.length<=50000/\(ws.map fun w=>gL w.2).Nodup/\
  (∀w∈ws,H w.1=some (.tup (w.2.map V.int)))/\ ∀a,H a=none->Q (.ref a) (upd H a (.ext (nQ X.w a (ws.map (·.1)))))):=by
 intro pins s σ H xs us Q I r h;obtain⟨l,ws,rfl,hl,hn,nd,ht,q⟩:=h;obtain⟨u,rfl,ru⟩:=vals1 r;cases (show u=Value.ref l from ru);obtain⟨af,rv,pl,_⟩:=I.list (cf.of hl);rw[show(ws.map fun w=>V.ref w.1)=(ws.map (·.1)).map V.ref by rw[S5];rfl] at rv;have ei:=kK rv;subst ei;have em:(ws.map (·.1)).map Value.ref=(ws.map fun w=>((gL w.2,Value.ref w.1):Int × Value)).map (·.2):=by rw[S5,S5];rfl
 rw[em] at pl;refine vh (pr:=ws.map fun w=>(gL w.2,Value.ref w.1)) hA hu pl.isList (by rw[Sx];exact hn) (by rw[S5];exact nd) (fun p hp=>?_) fun h' tk es S pm kp=>?_
 . obtain⟨w,hw,rfl⟩:=SU.mp hp;obtain⟨js,rj,pj,_⟩:=I.tuple (cS.of (ht w hw));obtain⟨o,ho,hc,n,hd⟩:=(show s.heap.IsTuple w.1 js.toArray from pj)
   exact⟨w.1,w.2,rfl,rfl,o,js.toArray,n,ho,hc,hd,items_int rj⟩
 have hf:H s.heap.objs.size=none:=I.aO.fresh (SD _);refine⟨.ref s.heap.objs.size,_,I.laid (t':=tk) (o:= .ext (nQ X.w s.heap.objs.size (ws.map (·.1)))) (fun b o e=>kp b o e) (SD _) ?_,rfl,q _ hf⟩;obtain⟨o,ep,t,ho,_⟩:=id S;exact⟨⟨es,S,by rw[em];exact pm.map _⟩,⟨o,ho⟩,fun h1 h2 p k=>let ⟨es,S,Y⟩:=p;⟨es,S.keep k,Y⟩⟩
theorem vf{X:Cx}(hA:X.A.handled=none):cq X (.builtin "sorted") (fun xs H Q=> ∃(a:Addr) (ws:List FR) (B:Int) (n:Nat),xs= [.ref a]/\H a=some (.ext (nQ X.w a (ws.map (·.1))))/\ws.length<=50000/\0 < B/\1<=n/\(∀w∈ws,H w.1=some (.tup (w.2.map V.int))/\w.2.length=n/\zV B w.2)/\
  ∀(p:Addr) (ms:List FR),H p=none->ms.Perm ws->ms.Pairwise (fun q r=>bS B q.2<=bS B r.2)->Q (.ref p) (upd H p (.lst (ms.map fun w=>V.ref w.1)))):=by
 intro pins s σ H xs us Q I r h;obtain⟨a,ws,B,n,rfl,ha,hn,b0,n1,ht,q⟩:=h;obtain⟨u,rfl,ru⟩:=vals1 r;cases (show u=Value.ref a from ru);obtain⟨S,_,_⟩:=(show aQ X.prog X.w H s.heap a (.ext (nQ X.w a (ws.map (·.1)))) from I.aO a _ ha)
 refine oq hA S (by rw[Sx];exact hn) fun us pu=>?_;obtain⟨vs,pv,rfl⟩:=jo pu rfl;have hv: ∀w∈vs,H w.1=some (.tup (w.2.map V.int))/\w.2.length=n/\zV B w.2:=fun w hw=>ht w (pv.mem_iff.mp hw);have er:(vs.map (·.1)).map Value.ref=vs.map fun w=>Value.ref w.1:=by rw[S5];rfl
 rw[er,Sx];have EE: ∀(h':Heap),(∀b o,s.heap.get? b=some o->h'.get? b=some o)-> ∀(i:Nat) v p,(vs.map fun w=>Value.ref w.1)[i]?=some v->(vs.map (·.2))[i]?=some p->zu h' v p:=fun h' kk i v p h1 h2=>by
  rw[SX] at h1 h2;obtain⟨w,hw,rfl⟩:=T1.mp h1;rw[hw] at h2;cases h2;obtain⟨t1,t2,_⟩:=hv w (SW hw);obtain⟨js,rj,pj,_⟩:=I.tuple (cS.of t1);obtain⟨o,ho,hc,m,hd⟩:=(show s.heap.IsTuple w.1 js.toArray from pj)
  exact⟨w.1,o,js,m,rfl,kk _ _ ho,hc,hd,sv rj,fun z=>by have z:w.2= []:=z;rw[z] at t2;simp at t2;lia⟩
 refine⟨fun i=>bS B ((vs.map (·.2)).getD i []),fun i j x y e=>?_,fun h2 h' d tk kk=>zp (n:=n) b0 (by rw[Sx,Sx]) (by rw[Sx];exact h2) (EE h' kk) fun t ht=>?_,fun h' d tk p m pq kk lp pm ac hg=>?_⟩
 . have gi : (vs.map fun w => Value.ref w.1)[i]? = some ((vs.map fun w => Value.ref w.1).getD i Value.none) := by
     rw[List.getD,Sy (by rw[Sx];exact x)];rfl
   have gj:(vs.map fun w=>Value.ref w.1)[j]?=some ((vs.map fun w=>Value.ref w.1).getD j Value.none):=by
    rw[List.getD,Sy (by rw[Sx];exact y)];rfl
   have pi:=EE s.heap (fun _ _ e=>e) i _ _ gi (Sy (by rw[Sx];exact x));have pj:=EE s.heap (fun _ _ e=>e) j _ _ gj (Sy (by rw[Sx];exact y));rw[e] at pi;have:=C5 pi pj;show bS B ((vs.map (·.2)).getD i [])=bS B ((vs.map (·.2)).getD j []);rw[show(vs.map (·.2)).getD i []=(vs.map (·.2))[i]'(by rw[Sx];exact x) by simp [List.getD,x],show(vs.map (·.2)).getD j []=(vs.map (·.2))[j]'(by rw[Sx];exact y) by simp [List.getD,y],this]
 . obtain⟨w,hw,rfl⟩:=SU.mp ht;exact(hv w hw).2
 . have hf:H p=none:=I.aO.fresh lp;have cv:pq.toList.Perm (List.range vs.length):=by have:=Ue.mp pm.pm;simpa using this
   have lt: ∀i∈pq.toList,i < vs.length:=fun i hi=>by have:=cv.mem_iff.mp hi;simpa using this
   let f:Nat->FR:=fun i=>vs.getD i (0,[])
   have J0:(pq.toList.map f).Perm vs:=by
    have:=cv.map fun i=>vs.getD i (0,[]);rw[bC.map_getD] at this;exact this
   have so:(pq.toList.map f).Pairwise (fun q r=>bS B q.2<=bS B r.2):=by
    rw[Vk];intro i j hi hj bb;rw[Sx,SN,pm.sz] at hi hj;have:=ac i j (by lia) (by lia);have gi:pq.getD i 0=pq[i]'(by rw[pm.sz];lia):=by simp [Array.getD,pm.sz,hi]
    have gj:pq.getD j 0=pq[j]'(by rw[pm.sz];lia):=by simp [Array.getD,pm.sz,hj]
    unfold kp at this;rw[gi,gj] at this;have li:pq[i]'(by rw[pm.sz];lia) < vs.length:=lt _ (by simp);have lj:pq[j]'(by rw[pm.sz];lia) < vs.length:=lt _ (by simp);simpa [f,List.getD,li,lj] using this
   refine⟨.ref p,_,(Inv.Bp I d).laid (t':=tk) (o:= .lst ((pq.toList.map f).map fun w=>V.ref w.1)) (fun b o e=>kk b o e) lp ?_,rfl,q p _ hf (J0.trans pv) so⟩;refine⟨?_,pq.toList.map (fun i=>(vs.map fun w:FR=>Value.ref w.1).getD i Value.none),m,?_,hg⟩
   . rw[Sx,Sx,cv.length_eq,Tf,TZ];have:=pv.length_eq;lia
   . rw[S5];refine jd fun i hi=>?_;have il:=lt i hi;show RelV (V.ref (vs.getD i (0,[])).1) ((vs.map fun w=>Value.ref w.1).getD i Value.none);rw[List.getD,List.getD,SX,Sy il];rfl
end L2
namespace LD
open PySem PySem.Spec L2 LB PyProof.Rows eF bZ bC
theorem rJ: ∀{xs:List V} {gs:List (List Int)},ax M H xs (gs.map Gb)-> ∃ws:List FR,(ws.map fun w=>V.ref w.1)=xs/\ws.map (·.2)=gs/\ ∀w∈ws,H w.1=some (.tup (w.2.map V.int))/\ ¬M w.1
 | [],[],_=>⟨[],rfl,rfl,fun w hw=>absurd hw SH⟩
 | [],_::_,h=>by have:=h.1;simp at this
 | _::_,[],h=>by have:=h.1;simp at this
 | x::xs,q::qs,h=>by
  rw[Ti] at h;obtain⟨y,ys,e,r1,r2⟩:=h.aK;cases e;obtain⟨ws,e1,e2,hw⟩:=rJ r2;obtain⟨t,zs,rfl,h1,h2,h3⟩:=r1.bM;refine⟨(t,q)::ws,by rw[Ti,e1],by rw[Ti,e2],fun w hm=>?_⟩;rcases Tg.mp hm with z | z
  . rw[z];have:=ints_rep h3;rw[this] at h1;exact⟨h1,h2⟩
  . exact hw w z
theorem rW: ∀{ws:List FR},(∀w∈ws,Rep M H (V.ref w.1) (Gb w.2))->ax M H (ws.map fun w=>V.ref w.1) ((ws.map (·.2)).map Gb)
 | [],_=> .nil
 | w::ws,h=> .cons (h w TM) (rW fun x hx=>h x (Tn _ hx))
section
variable {X : Cx} {e : Expr} {tA : eG} {pos AA p p2 : Pos}
inductive BO(ds:List Dt)(Q:Dt->Prop):Prop
 | mk (gs:List (List Int)) (B:Int) (n:Nat) (h1:ds= [.lst (gs.map Gb)]) (h2:gs.length<=50000) (h3:(gs.map gL).Nodup) (b0:0 < B) (n1:1<=n) (h4: ∀g∈gs,g.length=n/\zV B g) (h5: ∀ms:List (List Int),ms.Perm gs->ms.Pairwise (fun q r=>bS B q<=bS B r)->Q (.lst (ms.map Gb)))
theorem Br(hA:X.A.handled=none)(hu:X.A.in1.in1.in1.units < cLine)(hm:X.mg "sorted"=none)(QB:X.mg "set"=none)(ha:Av X [e] tA)(hg:Gl X "sorted":=by rfl)(Bf:Gl X "set":=by rfl)
  (he:starEach [.Call (.Name "set" p2) [e] [] AA] X.env=(false,eval (.Call (.Name "set" p2) [e] [] AA) X.env)::starEach [] X.env:=by rfl) (cv:(backTo pos (starEach [] X.env)).any (·.1)=false:=by rfl) (MA:starEach [e] X.env=(false,eval e X.env)::starEach [] X.env:=by rfl) (Mc:(backTo AA (starEach [] X.env)).any (·.1)=false:=by rfl):
  Ev X (.Call (.Name "sorted" p) [.Call (.Name "set" p2) [e] [] AA] [] pos) (zc BO tA):=
 PE.imp (cK (vf hA) hg hm g0 (az (fK (vg hA hu) Bf QB vp ha (by decide) (by decide) MA Mc) aN he) (by decide) (by decide) he cv) fun σ H Q zz=>(by
  obtain⟨W,M,α,δ,Qd,E,q,k⟩:=zz;refine⟨W,M,α,δ,_,E,q,fun ds δ' H' vs zz E1 c1 r=>?_⟩;obtain⟨gs,B,n,rfl,l,nd,b0,n1,hb,q⟩:=zz;obtain⟨x,rfl,r1⟩:=bI r;obtain⟨a,zs,rfl,ha,nn,rr⟩:=r1.b6;obtain⟨ws,e1,e2,hw⟩:=rJ rr;subst e1;subst e2;rw[Sx] at l;rw[S5] at nd;refine⟨a,ws,rfl,ha,l,nd,fun w hm=>(hw w hm).1,fun b qJ=>⟨b,ws,B,n,rfl,ae,l,b0,n1,fun w hm=>?_,fun p ms hp pm pw=>?_⟩⟩
  . have s1:ay H' (upd H' b (.ext (nQ X.w b (ws.map (·.1))))):=ay.new qJ;exact⟨s1 _ _ (hw w hm).1,hb _ (VQ hm)⟩
  . have s1:ay H' (upd H' b (.ext (nQ X.w b (ws.map (·.1))))):=ay.new qJ;have s2:ay (upd H' b (.ext (nQ X.w b (ws.map (·.1))))) (upd (upd H' b (.ext (nQ X.w b (ws.map (·.1))))) p (.lst (ms.map fun w=>V.ref w.1))):=ay.new hp;refine k _ _ _ _ (q (ms.map (·.2)) (pm.map _) (We.mpr pw)) ((E1.same s1).same s2) ((c1.tr (b7.of s1)).tr (b7.of s2)) (Rep.rL ae ((E1.same s1).fresh hp) (rW fun m hm=>?_));obtain⟨h1,h2⟩:=hw m (pm.mem_iff.mp hm);exact Rep.kO (s2 _ _ (s1 _ _ h1)) h2 jm)
end
end LD
namespace zD
open PySem PySem.W PyProof.Rows bC
section
variable {prog : Program} {w : World} {A : Around} {E : Value -> Shared -> Prop} {z : Shared} {K : Nat -> Int} {vs : List Value}
theorem Ay(a:pQ h v p)(b:pQ h v q):p=q:=by
 obtain⟨p1,p2⟩:=p;obtain⟨q1,q2⟩:=q;obtain⟨t,o,a1,b1,n1,rfl,h1,_,d1⟩:=a;obtain⟨t2,o2,a2,b2,n2,e2,h2,_,d2⟩:=b;cases e2;rw[h1] at h2;cases h2;rw[d1] at d2;cases d2;rfl
theorem t8(hl:z.heap.IsList l vs.toArray)(QU:vs.length<=100000)(hK: ∀i j,i < vs.length->j < vs.length->vs.getD i Value.none=vs.getD j Value.none->K i=K j)(hk:2<=vs.length-> ∀h':Heap,(∀b o,z.heap.get? b=some o->h'.get? b=some o)-> ∃κ,Ask prog w A.in1.in1 vs K {z with heap:=h'} κ)(h: ∀p,Pm vs.length p->Q (.ref (z.heap.objs.size+1)) {z with heap:=sortedAll z.heap vs (outs vs p)}):wpAny (model prog w) A (call (.builtin "sorted") [.ref l]) Q E z:=by
 refine Calls.call_function_entry kind_sorted plain_sorted entry_sorted (args_sorted1 _) ?_;unfold Builtin.«sorted»;let g1:Heap:=(z.heap.push (seqObj "list" #[] 0)).update z.heap.objs.size (Obj.mapSeq (· ++vs.toArray))
 let g2:Heap:=g1.push (seqObj "list" vs.toArray 0)
 have s1:g1.objs.size=z.heap.objs.size+1:=by show(Heap.update _ _ _).objs.size=_;rw[Heap.size_update,size_push']
 have o2:g2.get? (z.heap.objs.size+1)=some (seqObj "list" vs.toArray 0):=by rw[<-s1];exact SI _ rfl
 have k2: ∀b o,z.heap.get? b=some o->g2.get? b=some o:=fun b o q=>by
  have lb:=SQ q;show(g1.push _).get? b=_;rw[Vg _ _ _ (by rw[s1];exact Tt (U0 lb))];show(Heap.update _ _ _).get? b=_;rw[Heap.get?_update_ne _ _ _ _ (Tt lb),Vg _ _ _ (Tt lb)];exact q
 refine Sw (m:=checkCount "sorted" 1 1 _) (SA (Sw (collect_list hl (Sw (wpAny_newList ?_ (by rw[TZ];lia))) (by rw[TZ];lia))));show wpAny _ _ _ _ _ {z with heap:=g2};rw[s1];refine Sw (T8 (UE slot_list_sort ⟨_,o2,rfl⟩ entry_list_sort (je (z:={z with heap:=g2}) (K:=K) o2 QU hK (fun c h' kk=>hk c h' fun b o q=>kk b o (Tt (U0 (SQ q))) (k2 b o q)) fun p x _=>⟨_,rfl,SA ⟨_,rfl,h p x⟩⟩) (args_list_sort _)))
end
end zD
namespace L2
open PySem PySem.Spec PyProof.Rows bC zD
theorem nB:cq X (.builtin "sorted") (fun xs H Q=> ∃(a:Addr) (ws:List (V × Int × Int)) (B:Int),xs= [.ref a]/\H a=some (.lst (ws.map (·.1)))/\ws.length < 64/\(∀q∈ws,(∃t,q.1= .ref t/\H t=some (.tup [.int q.2.1, .int q.2.2]))/\0<=q.2.2/\q.2.2 < B)/\
  ∀(p:Addr) (ms:List (V × Int × Int)),H p=none->ms.Perm ws->Q (.ref p) (upd H p (.lst (ms.map (·.1))))):=by
 intro pins s σ H xs us Q I r h;obtain⟨a,ws,B,rfl,hq,hl,hw,q⟩:=h;obtain⟨u,rfl,ru⟩:=vals1 r;cases ru;obtain⟨af,rv,pl,_⟩:=I.list (cf.of hq);have hlen:af.length=ws.length:=by have:=rv.length;rw[Sx] at this;exact this.symm
 have EE: ∀(i:Nat) v p,af[i]?=some v->(ws.map (·.2))[i]?=some p->pQ s.heap v p:=fun i v p h1 h2=>by
  rw[SX] at h2;cases h3:ws[i]? with
  | none=>rw[h3] at h2;cases h2
  | some w0=>
   rw[h3] at h2;cases h2;obtain⟨⟨t,e,ht⟩,_⟩:=hw w0 (SW h3);obtain⟨u,hu,ru⟩:=rv.get (i:=i) (x:=w0.1) (by rw[SX,h3];rfl);rw[h1] at hu;cases hu;rw[e] at ru;cases ru;obtain⟨js,rj,pj,_⟩:=I.tuple (cS.of ht);obtain⟨o,ho,hc,n,hd⟩:=(show s.heap.IsTuple t js.toArray from pj)
   cases rj with
   | cons r1 r2=>cases r2 with
    | cons r2 r3=>
     cases r3;obtain⟨a1,rfl⟩:=r1;obtain⟨b1,rfl⟩:=r2;exact⟨t,o,a1,b1,n,rfl,ho,hc,hd⟩
 refine zD.t8 (K:=fun i=>enc B ((ws.map (·.2)).getD i (0,0))) pl.isList (by lia) (fun i j hi hj e=>by
  rw[hlen] at hi hj;have gi:af[i]?=some (af.getD i Value.none):=by rw[List.getD,Sy (by rw[hlen];exact hi)];rfl
  have gj:af[j]?=some (af.getD j Value.none):=by rw[List.getD,Sy (by rw[hlen];exact hj)];rfl
  have wi:(ws.map (·.2))[i]?=some ((ws.map (·.2)).getD i (0,0)):=by rw[List.getD,Sy (by rw[Sx];exact hi)];rfl
  have wj:(ws.map (·.2))[j]?=some ((ws.map (·.2)).getD j (0,0)):=by rw[List.getD,Sy (by rw[Sx];exact hj)];rfl
  exact UI (enc B) (Ay (EE i _ _ gi wi) (e▸EE j _ _ gj wj))) (fun h2 h' kk=>vz (by rw[Sx];exact hlen) h2 (fun i v p x y=>(EE i v p x y).keep kk) fun p hp=>?_) fun p hp=>?_
 . obtain⟨w0,Qm,rfl⟩:=SU.mp hp;exact(hw w0 Qm).2
 . obtain⟨e,he⟩:=sortedAll_at s.heap af (outs af p);have hf:H (s.heap.objs.size+1)=none:=I.aO.fresh (Nat.le_succ _);have cv:p.toList.Perm (List.range ws.length):=by have:=Ue.mp hp.pm;rw[<-hlen];simpa using this
   let d:V × Int × Int:=(.aI,0,0)
   have pm:(p.toList.map fun i=>ws.getD i d).Perm ws:=by
    have:=cv.map fun i=>ws.getD i d;rw[bC.map_getD] at this;exact this
   have lt: ∀i∈p.toList,i < ws.length:=fun i hi=>by have:=cv.mem_iff.mp hi;simpa using this
   refine⟨.ref (s.heap.objs.size+1),_,I.laid (t':=s.toks) (o:= .lst ((p.toList.map fun i=>ws.getD i d).map (·.1))) (fun b o e=>sortedAll_old e) (Nat.le_succ _) ?_,rfl,q _ _ hf pm⟩;refine⟨by rw[Sx,pm.length_eq];exact T5 (VY hl (by decide)),p.toList.map (fun i=>af.getD i Value.none),e,?_,he⟩;rw[S5];refine jd fun i hi=>?_;have li:=lt i hi;have e1:ws.getD i d=ws[i]:=by simp [List.getD,li]
   have e2:af.getD i Value.none=af[i]'(by lia):=by simp [List.getD,hlen,li]
   show RelV (ws.getD i d).1 _;rw[e1,e2];obtain⟨u,J8,ru⟩:=rv.get (i:=i) (x:=ws[i].1) (by rw[SX,Sy li];rfl);rw[Sy (by lia)] at J8;cases J8;exact ru
end L2
namespace LD
open PySem PySem.Spec L2 LB PyProof.Rows bC
section
variable {X : Cx} {e : Expr} {tA : eG} {pos p : Pos}
def vE:DN:=fun ds Q=> ∃(qs:List (Int × Int)) (B:Int),ds= [.lst (qs.map DH)]/\qs.length < 64/\(∀q∈qs,0<=q.2/\q.2 < B)/\ ∀ms:List (Int × Int),ms.Perm qs->Q (.lst (ms.map DH))
theorem lL(hm:X.mg "sorted"=none)(ha:Av X [e] tA)(hg:Gl X "sorted":=by rfl)(he:starEach [e] X.env=(false,eval e X.env)::starEach [] X.env:=by rfl)(cv:(backTo pos (starEach [] X.env)).any (·.1)=false:=by rfl):
  Ev X (.Call (.Name "sorted" p) [e] [] pos) (zc vE tA):=fO nB (fun M H xs ds Qd Q al r cu k=>(by obtain⟨qs,B,e,l,hb,q⟩:=cu;exact(by
 subst e;obtain⟨x,rfl,r1⟩:=bI r;obtain⟨a,zs,rfl,ha,n,rr⟩:=r1.b6;obtain⟨ws,e1,e2,hw⟩:=se rr;subst e1;subst e2;refine⟨a,ws,B,rfl,ha,by rw[Sx] at l;exact l,fun w hm=>⟨?_,hb _ (VQ hm)⟩,fun p ms hp Oi=>?_⟩
 . obtain⟨t,ts,e,ht,nt,rt⟩:=(hw w hm).bM;obtain⟨y1,ys,rfl,q1,q2⟩:=rt.aK;obtain⟨y2,ys,rfl,q3,q4⟩:=q2.aK;cases q4.fS;cases q1.ofInt;cases q3.ofInt;exact⟨t,e,ht⟩
 . have s:ay H (upd H p (.lst (ms.map (·.1)))):=ay.new hp;exact k _ _ _ (q (ms.map (·.2)) (Oi.map _)) s (Rep.rL ae (al.fresh hp) (rX fun w hm=>(hw w (Oi.mem_iff.mp hm)).same s))))) hg hm g0 ha (by decide) (by decide) he cv
end
end LD
namespace LD
open PySem PySem.Spec L2 LB PyProof.Rows bC pR
theorem GJ(ha:Ev X a ta)(hb:Ev X b tb)(hc:Ev X c tc)(hm:lastMarks [.Lt, .Lt] [b,c]=false:=by with_unfolding_all rfl):Tv X (.Compare a [.Lt, .Lt] [b,c] pos) (dT (qY JJ JJ ta tb tc)):=Aa iJ iJ (yK fun _ _ _ _=> .bl _) (yK fun _ _ _ _=> .bl _) ha hb hc hm
end LD
namespace L2
open PySem PySem.Spec PyProof.Rows
theorem wV(bs:List Bool):((List.range bs.length).any fun i=>(bs[i]?).getD false)=bs.any id:=by
 rw[T4,List.any_eq_true,List.any_eq_true];constructor
 . rintro⟨i,hi,e⟩
   have iy:=Td.mp hi;simp only [Sy iy,Vo] at e;exact⟨_,Ur iy,e⟩
 . rintro⟨b,hb,e⟩
   obtain⟨i,hi,eb⟩:=Ua hb;exact⟨i,Td.mpr hi,by simp only [Sy hi,Vo,eb];exact e⟩
theorem vw:bootBuiltins "any"=some (.builtin "any"):=by decide+kernel
theorem zj{X:Cx}(hc:X.calm=true):cq X (.builtin "any") (fun xs H Q=> ∃a bs,xs= [.ref a]/\cf X.K H a (List.map V.bl bs)/\Q (.bl (bs.any id)) H):=by
 intro pins s σ H xs us Q I r h;obtain⟨a,bs,rfl,hq,q⟩:=h;obtain⟨u,rfl,ru⟩:=vals1 r;cases ru;obtain⟨af,rv,pl,_⟩:=I.list hq;have hl:=pl.isList;have hb:=du.of rv;have hlen:af.length=bs.length:=by rw[<-rv.length,Sx]
 have di:a < s.heap.objs.size:=by obtain⟨_,e,_⟩:=hl;exact SQ e
 refine call_any_walk (Uk hl ?_);refine⟨s.heap.objs.size,[s.heap.objs.size,a],[s.heap.objs.size],af.toArray.size,_,_,fun i=>(bs[i]?).getD false,rfl,Walks.list (A:=X.A.in1) (I.ok.hd hc) _ a (Tt di) af.toArray,
  ⟨⟨_,SI _ rfl,rfl,rfl⟩,hl.push _⟩,fun i v s' Q' E' hP hQ=>?_,fun h' tk hk=>?_⟩
 . obtain⟨b,e,rfl⟩:=hb.get i v (by simpa using hP);simp only [e,Vo] at hQ;exact TJ hQ
 . have e : ((List.range af.toArray.size).any fun i => (bs[i]?).getD false) = bs.any id := by
     rw[SK,hlen];exact wV bs
   rw[e];exact⟨.bl (bs.any id),H,I.kept fun b x e=>hk b x (fun hm=>by rw[SS.mp hm] at e;exact Tu _ (SQ e)) (Sz _ e),rfl,q⟩
end L2
namespace LD
open PySem PySem.Spec L2 LB PyProof.Rows bC pR
section
variable {X : Cx} {e : Expr} {tA : eG} {pos p : Pos}
inductive JN(ds:List Dt)(Q:Dt->Prop):Prop
 | mk (bs:List Bool) (h1:ds= [.lst (bs.map .bl)]) (h2:Q (.bl (bs.any id)))
theorem IV(hc:X.calm=true)(hm:X.mg "any"=none)(ha:Av X [e] tA)(hg:Gl X "any":=by rfl)(he:starEach [e] X.env=(false,eval e X.env)::starEach [] X.env:=by rfl)(cv:(backTo pos (starEach [] X.env)).any (·.1)=false:=by rfl):
  Ev X (.Call (.Name "any" p) [e] [] pos) (zc JN tA):=fO (zj hc) (fun M H xs ds Qd Q al r hU k=>(by
 obtain⟨bs,e,q⟩:=hU;subst e;obtain⟨x,rfl,r1⟩:=bI r;obtain⟨a,zs,rfl,ha,n,rr⟩:=r1.b6;rw[iB rr] at ha;exact⟨a,bs,rfl,cf.of ha,k H _ _ q (fun _ _ z=>z) (.bl _)⟩)) hg hm vw ha (by decide) (by decide) he cv
end
end LD
namespace LD
open PySem PySem.Spec L2 LB PyProof.Rows LW
section
variable {X : Cx}
inductive Jb(i:Nat)(δ:List Sl)(Q:Dt->List Sl->Prop):Prop
 | mk (ds:List Dt) (h1:δ[i]?=some (.ow ds)) (h2:Q .aI (δ.set i (.ow ds.reverse)))
theorem u5(i:Nat){xp apos ba:Pos}(ho:PE X (.Name x xp) (iR i))(dH:attributeBase (.Name x xp) "reverse" X.env (eval (.Name x xp) X.env)=eval (.Name x xp) X.env:=by rfl)(dG:(apos.endLine==ba.line)=true:=by rfl):
  Ev X (.Call (.Attribute (.Name x xp) "reverse" apos) [] [] ba) (Jb i):=
 PE.imp (DV V7 PySem.F.slot_list_reverse PySem.F.type_list_reverse qz ho dH dG) fun σ H Q zz=>(by
  obtain⟨W,M,α,δ,Qd,E,⟨ds,hd,q⟩,k⟩:=zz;obtain⟨a,xs,h1,h2,h3,r3⟩:=E.ow hd;refine⟨_,h1, .inl ⟨rfl,_,cf.of h3⟩,a,xs,rfl,rfl,h3,?_⟩;obtain⟨E2,c2⟩:=mQ E hd h1 h2 r3.rev;exact k _ _ _ _ q E2 c2 .aI)
end
end LD
namespace LD
open PySem PySem.Spec L2 LB PyProof.Rows
theorem tV{Δ:eO}(I:Nat->List Sl->Prop)(h0: ∃m,I m δ)(h: ∀m δ,I m δ-> ∀Δ':eO,(∀m' δ',m' < m->I m' δ'->Δ'.nx δ')->(∀d δ',Δ.rt d δ'->Δ'.rt d δ')->u δ fun b δ1=>if b=true then tb Δ' δ1 else Δ.nx δ1):yV u tb Δ δ:=
 ⟨I,h0,fun m δ hI=>h m δ hI _ (fun m' δ' hm hi=>⟨m',hm,hi⟩) fun _ _ z=>z⟩
theorem ez{af:List Dt}{g:zH}{tb:iY}{Δ:eO}(I:Nat->List Sl->Prop)(h0:I 0 δ1)(h: ∀i d δ2,af[i]?=some d->I i δ2-> ∀Δ':eO,(∀δ',I (i+1) δ'->Δ'.nx δ')->(∀d δ',Δ.rt d δ'->Δ'.rt d δ')->g d δ2 fun δ3=>tb Δ' δ3)(fin: ∀δ2,I af.length δ2->Δ.nx δ2):
  ∃P:Nat->List Sl->Prop,P 0 δ1/\(∀i d δ2,af[i]?=some d->P i δ2->g d δ2 fun δ3=>tb {Δ with nx:=P (i+1),ct:=P (i+1),bk:=Δ.nx} δ3)/\ ∀δ2,P af.length δ2->Δ.nx δ2:=
 ⟨I,h0,fun i d δ2 e hI=>h i d δ2 e hI _ (fun _ z=>z) fun _ _ z=>z,fin⟩
end LD
namespace MH
noncomputable def up(hs:List Nat)(w:Nat):Nat:=hs.getD (w - 1) 0
structure Hg(hs:List Nat):Prop where
 pos:0 < hs.length
 le: ∀x∈hs,x<=hs.length
 rk: ∃rk:Nat->Nat,∀w,1<=w->w<=hs.length->up hs w≠0->rk (up hs w) < rk w
 one: ∃t:Nat,hs[t]?=some 0/\ ∀j:Nat,hs[j]?=some 0->j=t
theorem bh{hs:List Nat}(h1:1<=w)(h2:w<=hs.length):hs[w - 1]?=some (up hs w):=by
 unfold up;rw[List.getD,Sy (by lia)];rfl
theorem Hg.BV(h:Hg hs)(h1:1<=w)(h2:w<=hs.length):up hs w<=hs.length:=h.le _ (SW (bh h1 h2))
inductive Up(hs:List Nat):Nat->List Nat->Prop where
 | top {w:Nat}:up hs w=0->Up hs w [w]
 | step {w:Nat} {L:List Nat}:up hs w≠0->Up hs (up hs w) L->Up hs w (w::L)
theorem Hg.has(h:Hg hs): ∀(w:Nat),1<=w->w<=hs.length-> ∃L,Up hs w L:=by
 obtain⟨rk,kc⟩:=h.rk;have: ∀(m w:Nat),rk w<=m->1<=w->w<=hs.length-> ∃L,Up hs w L:=fun m=>by
  induction m with
  | zero => intro w hm h1 h2
            by_cases e:up hs w=0
            . exact⟨_, .top e⟩
            . have:=kc w h1 h2 e;lia
  | succ m ih => intro w hm h1 h2
                 by_cases e:up hs w=0
                 . exact⟨_, .top e⟩
                 . have:=kc w h1 h2 e;obtain⟨L,hL⟩:=ih (up hs w) (by lia) (by lia) (h.BV h1 h2);exact⟨_, .step e hL⟩
 intro w;exact this (rk w) w (SD _)
theorem mV: ∀{l m:List Nat},l.Nodup->l ⊆ m->l.length<=m.length
 | [],_,_,_=>Tw _
 | x::l,m,h,s=>by
  have hx:x∈m:=s TM;obtain⟨h1,h2⟩:=UY.mp h;have:=mV (l:=l) (m:=m.erase x) h2 fun y hy=>(List.mem_erase_of_ne (show y≠x from fun e=>h1 (by rw[<-e];exact hy))).mpr (s (Tn _ hy));rw[List.length_erase_of_mem hx] at this;have:=List.length_pos_of_mem hx;rw[Tq];lia
structure vA(hs:List Nat)(t k:Nat)(L:List Nat)(rk:Nat->Nat):Prop where
 nd:L.Nodup
 mem: ∀w∈L,1<=w/\w<=hs.length
 top:t∈L
 par: ∀w∈L,w≠t->up hs w∈L/\rk (up hs w) < rk w
 bd: ∀w∈L,rk w < k
 len:k<=L.length
noncomputable def eQ(hs:List Nat):List Nat:=(List.range' 1 hs.length).filter fun x=>decide (up hs x=0)
noncomputable def bN(hs L:List Nat):List Nat:=(List.range' 1 hs.length).filter fun x=>decide (up hs x∈L) && !decide (x∈L)
theorem dB:x∈eQ hs↔1<=x/\x<=hs.length/\up hs x=0:=by
 unfold eQ;rw[TN,TY,Uv];lia
theorem gN:x∈bN hs L↔1<=x/\x<=hs.length/\up hs x∈L/\x∉L:=by
 unfold bN;rw[TN,TY];simp only [T9,Uv,Vh,Vp];constructor
 . rintro⟨a,b,c⟩;exact⟨by lia,by lia,b,c⟩
 . rintro⟨a,b,c,d⟩;exact⟨by lia,c,d⟩
theorem AV:(bN hs L).Nodup:=VN _ (List.nodup_range' ..)
theorem rK:(eQ hs).Nodup:=VN _ (List.nodup_range' ..)
theorem vA.start(h:eQ hs= [t]):vA hs t 1 [t] (fun _=>0):=by
 have ht:=(dB (hs:=hs) (x:=t)).mp (by rw[h];simp);exact⟨by simp,fun w hw=>by rw[SS.mp hw];exact⟨ht.1,ht.2.1⟩,by simp,fun w hw n=>absurd (SS.mp hw) n,fun w hw=>by lia,by simp⟩
theorem vA.zq(g:vA hs t k L rk):(L++bN hs L).Nodup:=
 UK.mpr ⟨g.nd,AV,fun x hx y hy e=>(gN.mp hy).2.2.2 (e▸hx)⟩
theorem vA.step{hs:List Nat}{t k:Nat}{L:List Nat}{rk:Nat->Nat}(g:vA hs t k L rk)(i9:bN hs L≠ []):vA hs t (k+1) (L++bN hs L) (fun x=>if x∈L then rk x else k):=by
 refine⟨g.zq,fun w hw=>?_,by simp [g.top],fun w hw n=>?_,fun w hw=>?_,?_⟩
 . rcases Ts.mp hw with y | y
   . exact g.mem w y
   . have:=gN.mp y;exact⟨this.1,this.2.1⟩
 . rcases Ts.mp hw with y | y
   . obtain⟨a,b⟩:=g.par w y n;refine⟨by simp [a],?_⟩;simp only [if_pos a,if_pos y];exact b
   . obtain⟨_,_,a,b⟩:=gN.mp y;refine⟨by simp [a],?_⟩;simp only [if_pos a,if_neg b];exact g.bd _ a
 . by_cases c:w∈L
   . simp only [if_pos c];have:=g.bd w c;lia
   . simp only [if_neg c];lia
 . have:=List.length_pos_iff.mpr i9;have:=g.len;rw[SV];lia
theorem vA.le(g:vA hs t k L rk):L.length<=hs.length:=by
 have:=mV g.nd (m:=List.range' 1 hs.length) fun x hx=>by
  have:=g.mem x hx;rw[TY];lia
 rwa [T3] at this
theorem wa(g:Hg hs): ∃t,eQ hs= [t]:=by
 obtain⟨t,ht,tu⟩:=g.one;have tl:=(SM.mp ht).1;have u0:up hs (t+1)=0:=by have:=bh (hs:=hs) (w:=t+1) (by lia) (by lia);rw[show t+1 - 1=t by lia,ht] at this;exact(Option.some.inj this).symm
 have all: ∀x∈eQ hs,x=t+1:=fun x hx=>by
  obtain⟨x1,x2,x3⟩:=dB.mp hx;have:=bh (hs:=hs) x1 x2;rw[x3] at this;have:=tu _ this;lia
 have m:t+1∈eQ hs:=dB.mpr ⟨by lia,by lia,u0⟩;refine⟨t+1,?_⟩;have nd:=rK (hs:=hs);match h:eQ hs with
 | []=>rw[h] at m;exact absurd m SH
 | [x]=>rw[all x (by rw[h];simp)]
 | x::y::r=>
  rw[h] at nd;have e1:=all x (by rw[h];simp);have e2:=all y (by rw[h];simp);rw[e1,e2] at nd;simp at nd
theorem vA.iff(g:vA hs t k L rk)(ht:eQ hs= [t])(hle: ∀x∈hs,x<=hs.length)(he:bN hs L= []):L.length=hs.length↔Hg hs:=by
 have tt:=(dB (hs:=hs) (x:=t)).mp (by rw[ht];simp);constructor
 . intro hl;have all: ∀w,1<=w->w<=hs.length->w∈L:=fun w w1 w2=>by
    refine UX fun n=>?_;have:=mV (l:=w::L) (m:=List.range' 1 hs.length) (UY.mpr ⟨n,g.nd⟩) fun x hx=>by
     rw[TY];rcases Tg.mp hx with e | hx
     . lia
     . have:=g.mem x hx;lia
    rw[Tq,T3] at this;lia
   have zero: ∀w,1<=w->w<=hs.length->up hs w=0->w=t:=fun w w1 w2 h=>by
    have:=dB.mpr ⟨w1,w2,h⟩;rw[ht] at this;exact SS.mp this
   refine⟨by lia,hle,⟨rk,fun w w1 w2 n=>(g.par w (all w w1 w2) fun e=>n (by rw[e];exact tt.2.2)).2⟩,⟨t - 1,by have:=bh (hs:=hs) tt.1 tt.2.1;rw[tt.2.2] at this;exact this,fun j hj=>?_⟩⟩;have jl:=(SM.mp hj).1;have:=bh (hs:=hs) (w:=j+1) (by lia) (by lia);rw[show j+1 - 1=j by lia,hj] at this;have:=zero (j+1) (by lia) (by lia) (Option.some.inj this).symm;lia
 . intro hg;have all: ∀w L',Up hs w L'->1<=w->w<=hs.length->w∈L:=fun w L' h=>by
    induction h with
    | @top w e=>intro w1 w2;have:=dB.mpr ⟨w1,w2,e⟩;rw[ht] at this;rw[SS.mp this];exact g.top
    | @step w L' n h ih=>
     intro w1 w2;refine UX fun nw=>?_;have:w∈bN hs L:=gN.mpr ⟨w1,w2,ih (by lia) (hg.BV w1 w2),nw⟩;rw[he] at this;exact SH this
   have:=mV (l:=List.range' 1 hs.length) (m:=L) (List.nodup_range' ..) fun x hx=>by
    rw[TY] at hx;obtain⟨L',h⟩:=hg.has x (by lia) (by lia);exact all x L' h (by lia) (by lia)
   rw[T3] at this;have:=g.le;lia
noncomputable def b9(hs:List Nat)(x:Nat):Nat × Nat:=(min x (up hs x),max x (up hs x))
noncomputable def dN(p q:Nat × Nat):Bool:=decide (p.1 < q.1) && (decide (q.1 < p.2) && decide (p.2 < q.2))
theorem jc:dN p q=true↔p.1 < q.1/\q.1 < p.2/\p.2 < q.2:=by unfold dN;simp
def BR(hs:List Nat)(x y:Nat):Prop:=1<=x/\x<=hs.length/\1<=y/\y<=hs.length/\dN (b9 hs x) (b9 hs y)=true
def CP(hs:List Nat):Prop:= ∀x y,¬BR hs x y
theorem gf{s:List Nat}(h1:1<=x)(h2:x<=s.length):up (s++ [o]) x=up s x:=by
 unfold up;rw[List.getD,List.getD,SY (by lia)]
theorem gg:up (s++ [o]) (s.length+1)=o:=by
 unfold up;rw[List.getD,Ug,Tc (SD _),Nat.sub_self];rfl
inductive Rc(s:List Nat):Nat->Nat->Prop
 | refl {a:Nat}:Rc s a a
 | step {a b:Nat}:1<=a->a<=s.length->Rc s (up s a) b->Rc s a b
theorem Rc.cm{s:List Nat}(h1:1<=a)(h2:a<=s.length)(hb:s.length < b):Rc s a b↔Rc s (up s a) b:=by
 constructor
 . intro h;cases h with
   | refl=>lia
   | step _ _ h=>exact h
 . exact Rc.step h1 h2
theorem Rc.stop(h:Rc s a b)(ha:a=0\/s.length < a):a=b:=by
 cases h with
 | refl=>rfl
 | step h1 h2 _=>lia
def Fits(s:List Nat)(on:Nat):Prop:=if on=0 then 0∉s else¬Rc s on (s.length+1)
noncomputable def eW(x y:Nat):Nat × Nat:=(min x y,max x y)
theorem gJ:b9 s x=eW x (up s x):=rfl
def NH(s:List Nat)(on:Nat):Prop:= ∀x,1<=x->x<=s.length->dN (eW (s.length+1) on) (b9 s x)=false/\dN (b9 s x) (eW (s.length+1) on)=false
def Gs(s:List Nat)(on:Nat):Prop:=Fits s on/\NH s on
inductive nN:List Nat->Prop
 | nil:nN []
 | snoc {s:List Nat} {o:Nat}:nN s->Gs s o->nN (s++ [o])
theorem ou{o p:Nat}(e:s++ [o]=t++ [p]):s=t/\o=p:=by
 have:=List.append_inj' e rfl;exact⟨this.1,by simpa using this.2⟩
theorem nN.last(h:nN (s++ [o])):nN s/\Gs s o:=by
 generalize e:s++ [o]=t at h;cases h with
 | nil=>simp at e
 | snoc h m=>obtain⟨rfl,rfl⟩:=ou e;exact⟨h,m⟩
def Ac(s:List Nat):Prop:= ∃rk:Nat->Nat,∀w,1<=w->w<=s.length->1<=up s w->up s w<=s.length->rk (up s w) < rk w
theorem Dr(s:List Nat)(rk:Nat->Nat): ∀n:Nat,∃M,∀w,w<=n->rk w<=M
 | 0=>⟨rk 0,fun w h=>by rw[Nat.le_zero.mp h];exact SD _⟩
 | n+1=>by
  obtain⟨M,hM⟩:=Dr s rk n;refine⟨max M (rk (n+1)),fun w h=>?_⟩;by_cases e:w=n+1
  . rw[e];exact Nat.le_max_right ..
  . exact S4 (hM w (by lia)) (Nat.le_max_left ..)
theorem nN.ac(h:nN s):Ac s:=by
 induction h with
 | nil=>exact⟨fun _=>0,fun w h1 h2=>by simp at h2;lia⟩
 | @snoc s o _ m ih=>
  classical
  obtain⟨rk,kc⟩:=ih;obtain⟨M,hM⟩:=Dr s rk s.length;refine⟨fun x=>if x=s.length+1 then M+1 else if Rc s x (s.length+1) then M+2+rk x else rk x,fun w h1 h2 h3 h4=>?_⟩;simp only [SV,VE] at h2 h4;by_cases e:w=s.length+1
  . subst e;rw[gg] at h3 h4 ⊢;have hf:=m.1;unfold Fits at hf;rw[if_neg (by lia)] at hf;have ne:o≠s.length+1:=fun z=>hf (z▸Rc.refl);dsimp only;rw[if_neg ne,if_neg hf,if_pos rfl];have:=hM o (by lia);lia
  . have w2:w<=s.length:=by lia
    rw[gf h1 w2] at h3 h4 ⊢;dsimp only;rw[if_neg e];by_cases e2:up s w=s.length+1
    . rw[if_pos e2,if_pos ((Rc.cm h1 w2 (by lia)).mpr (e2▸Rc.refl))];lia
    . have:=kc w h1 w2 h3 (by lia);rw[if_neg e2];by_cases r:Rc s w (s.length+1)
      . rw[if_pos r,if_pos ((Rc.cm h1 w2 (by lia)).mp r)];lia
      . rw[if_neg r,if_neg fun z=>r ((Rc.cm h1 w2 (by lia)).mpr z)];exact this
theorem nN.zero(h:nN s): ∀i j:Nat,s[i]?=some 0->s[j]?=some 0->i=j:=by
 induction h with
 | nil=>intro i j h;simp at h
 | @snoc s o _ m ih=>
  intro i j hi hj;have hf:=m.1;unfold Fits at hf;have key: ∀i:Nat,(s++ [o])[i]?=some 0->(i < s.length/\s[i]?=some 0)\/(i=s.length/\o=0):=fun i hi=>by
   by_cases c:i < s.length
   . rw[SY c] at hi;exact .inl ⟨c,hi⟩
   . rw[Tc (by lia)] at hi;cases k:i - s.length with
     | zero=>rw[k] at hi;simp at hi;exact .inr ⟨by lia,hi⟩
     | succ k'=>rw[k] at hi;simp at hi
  rcases key i hi with ⟨a,b⟩ | ⟨a,b⟩ <;> rcases key j hj with ⟨c,d⟩ | ⟨c,d⟩
  . exact ih i j b d
  . rw[if_pos d] at hf;exact absurd (SW b) hf
  . rw[if_pos b] at hf;exact absurd (SW d) hf
  . lia
theorem zd(p:Nat × Nat):dN p p=false:=by unfold dN;simp
theorem nN.xA(h:nN s):CP s:=by
 induction h with
 | nil=>intro x y h;obtain⟨h1,h2,_⟩:=h;simp at h2;lia
 | @snoc s o _ m ih=>
  intro x y hc;obtain⟨x1,x2,y1,y2,c⟩:=hc;simp only [SV,VE] at x2 y2;have tl: ∀z,1<=z->z<=s.length->b9 (s++ [o]) z=b9 s z:=fun z a b=>by rw[gJ,gJ,gf a b]
  have te:b9 (s++ [o]) (s.length+1)=eW (s.length+1) o:=by rw[gJ,gg]
  by_cases ex:x=s.length+1 <;> by_cases ey:y=s.length+1
  . subst ex;subst ey;rw[zd] at c;exact Bool.noConfusion c
  . subst ex;rw[te,tl y y1 (by lia),(m.2 y y1 (by lia)).1] at c;exact Bool.noConfusion c
  . subst ey;rw[te,tl x x1 (by lia),(m.2 x x1 (by lia)).2] at c;exact Bool.noConfusion c
  . rw[tl x x1 (by lia),tl y y1 (by lia)] at c;exact ih x y ⟨x1,by lia,y1,by lia,c⟩
theorem nN.hg(h:nN s)(h0:0 < s.length)(hle: ∀x∈s,x<=s.length):Hg s:=by
 obtain⟨rk,kc⟩:=h.ac;have ul: ∀w,1<=w->w<=s.length->up s w<=s.length:=fun w h1 h2=>hle _ (SW (bh h1 h2));refine⟨h0,hle,⟨rk,fun w h1 h2 h3=>kc w h1 h2 (by lia) (ul w h1 h2)⟩,?_⟩;have: ∀(m w:Nat),rk w<=m->1<=w->w<=s.length-> ∃t:Nat,s[t]?=some 0:=fun m=>by
  induction m with
  | zero=>
   intro w hm h1 h2;by_cases e:up s w=0
   . exact⟨w - 1,by rw[bh h1 h2,e]⟩
   . have:=kc w h1 h2 (by lia) (ul w h1 h2);lia
  | succ m ih=>
   intro w hm h1 h2;by_cases e:up s w=0
   . exact⟨w - 1,by rw[bh h1 h2,e]⟩
   . have:=kc w h1 h2 (by lia) (ul w h1 h2);exact ih (up s w) (by lia) (by lia) (ul w h1 h2)
 obtain⟨t,ht⟩:=this (rk 1) 1 (SD _) (SD _) h0;exact⟨t,ht,fun j hj=>h.zero j t hj ht⟩
theorem mC{h:List Nat}(h1:1<=x)(h2:x<=k):up (h.take k) x=up h x:=by
 unfold up;rw[List.getD,List.getD,UZ (by lia)]
theorem xq(g:Hg h)(nx:CP h): ∀k,k<=h.length->nN (h.take k)
 | 0,_=>by simp;exact .nil
 | k+1,hk=>by
  have ih:=xq g nx k (by lia);have hl:(h.take k).length=k:=List.length_take_of_le (by lia);have e:h.take (k+1)=h.take k++ [up h (k+1)]:=by
   rw[List.take_succ_eq_append_getElem (by lia)];congr 2
   have:=bh (hs:=h) (w:=k+1) (by lia) hk;rw[Ug,Sy (by lia)] at this;exact Option.some.inj this
  rw[e];refine .snoc ih ⟨?_,fun x x1 x2=>?_⟩
  . unfold Fits;by_cases z:up h (k+1)=0
    . rw[if_pos z];intro hm;obtain⟨i,hi⟩:=VD.mp hm;obtain⟨t,_,hu⟩:=g.one;have Mn:i < k:=by
       by_cases c:i < k
       . exact c
       . rw[Ub (by lia)] at hi;cases hi
      rw[UZ Mn] at hi;have a:=hu i hi;have b:=hu k (by have:=bh (hs:=h) (w:=k+1) (by lia) hk;rw[Ug,z] at this;exact this);lia
    . rw[if_neg z,hl];obtain⟨rk,kc⟩:=g.rk;have key: ∀{a b:Nat},Rc (h.take k) a b->b=k+1->rk b<=rk a:=fun{a b} r=>by
       induction r with
       | refl=>intro _;exact SD _
       | @step a b h1 h2 r ih=>
        intro eb;have i:=ih eb;rw[hl] at h2;rw[mC h1 h2] at i r;have nz:up h a≠0:=fun e0=>by
         have:=r.stop (.inl e0);lia
        have:=kc a h1 (by lia) nz;lia
      intro r;have:=key r rfl;have:=kc (k+1) (by lia) hk z;lia
  . rw[hl] at x2 ⊢;have tx:b9 (h.take k) x=b9 h x:=by rw[gJ,gJ,mC x1 x2]
    rw[tx];have n1:=nx (k+1) x;have n2:=nx x (k+1);rw[show eW (k+1) (up h (k+1))=b9 h (k+1) from rfl];constructor
    . cases c:dN (b9 h (k+1)) (b9 h x) with
      | false=>rfl
      | true=>exact absurd ⟨by lia,hk,x1,by lia,c⟩ n1
    . cases c:dN (b9 h x) (b9 h (k+1)) with
      | false=>rfl
      | true=>exact absurd ⟨x1,by lia,by lia,hk,c⟩ n2
theorem Hg.ok(g:Hg h)(nx:CP h):nN h:=by
 have:=xq g nx h.length (SD _);rwa [Uh] at this
structure Pl(n:Nat)(g:List Nat):Prop where
 ok:nN g
 len:g.length=n
 le: ∀x∈g,x<=n
theorem Pl.hg(h:Pl n g)(h0:0 < n):Hg g:=h.ok.hg (by rw[h.len];exact h0) (fun x hx=>by rw[h.len];exact h.le x hx)
theorem Pl.of(h:Hg g)(nx:CP g):Pl g.length g:=⟨h.ok nx,rfl,h.le⟩
def Ga:List Nat->List Nat->Prop
 | a::as,b::bs=>a < b\/(a=b/\Ga as bs)
 | _,_=>False
noncomputable def va(B:Nat):Nat->List Nat->Nat
 | p,[]=>p
 | p,x::xs=>va B (p*B+x) xs
theorem cA: ∀{p:Nat} {l:List Nat},va B p (l++ [x])=va B p l*B+x
 | _,[]=>rfl
 | p,y::l=>cA (p:=p*B+y) (l:=l)
theorem gq{B p q x y:Nat}(hx:x < B)(hy:y < B):p*B+x < q*B+y↔p < q\/(p=q/\x < y):=by
 rcases Nat.lt_trichotomy p q with h | h | h
 . have:=Vj B (Nat.succ_le_of_lt h);rw[Nat.succ_mul] at this;constructor
   . intro _;exact .inl h
   . intro _;lia
 . subst h;lia
 . have:=Vj B (Nat.succ_le_of_lt h);rw[Nat.succ_mul] at this;constructor
   . intro _;lia
   . rintro(z | ⟨z,_⟩) <;> lia
theorem v5: ∀{a b:List Nat} {p q:Nat},a.length=b.length->(∀x∈a,x < B)->(∀x∈b,x < B)->(va B p a < va B q b↔p < q\/(p=q/\Ga a b))
 | [],[],p,q,_,_,_=>by simp [va,Ga]
 | [],_::_,_,_,h,_,_=>by simp at h
 | _::_,[],_,_,h,_,_=>by simp at h
 | x::as,y::bs,p,q,h,ha,hb=>by
  have hx:=ha x (by simp);have hy:=hb y (by simp);have e: ∀{p q:Nat},p*B+x=q*B+y↔p=q/\x=y:=fun{p q}=>by
   have a:=gq (p:=p) (q:=q) hx hy;have b:=gq (p:=q) (q:=p) hy hx;constructor
   . intro z;lia
   . rintro⟨rfl,rfl⟩;rfl
  show va B (p*B+x) as < va B (q*B+y) bs↔p < q\/p=q/\(x < y\/x=y/\Ga as bs)
  rw[v5 (by simpa using h) (fun z hz=>ha z (by simp [hz])) (fun z hz=>hb z (by simp [hz])),gq hx hy,e];constructor
  . rintro((z | ⟨z,u⟩) | ⟨⟨z,u⟩,v⟩)
    . exact .inl z
    . exact .inr ⟨z, .inl u⟩
    . exact .inr ⟨z, .inr ⟨u,v⟩⟩
  . rintro(z | ⟨z,u | ⟨u,v⟩⟩)
    . exact .inl (.inl z)
    . exact .inl (.inr ⟨z,u⟩)
    . exact .inr ⟨⟨z,u⟩,v⟩
theorem sE: ∀{a b:List Nat},a.length=b.length->Ga a b\/a=b\/Ga b a
 | [],[],_=> .inr (.inl rfl)
 | [],_::_,h=>by simp at h
 | _::_,[],h=>by simp at h
 | x::as,y::bs,h=>by
  rcases Nat.lt_trichotomy x y with z | z | z
  . exact .inl (.inl z)
  . subst z;rcases sE (a:=as) (b:=bs) (by simpa using h) with u | u | u
    . exact .inl (.inr ⟨rfl,u⟩)
    . exact .inr (.inl (by rw[u]))
    . exact .inr (.inr (.inr ⟨rfl,u⟩))
  . exact .inr (.inr (.inl z))
theorem C4{a b:List Nat}(h:a.length=b.length)(ha: ∀x∈a,x < B)(hb: ∀x∈b,x < B)(e:va B 0 a=va B 0 b):a=b:=by
 rcases sE h with z | z | z
 . have:=(v5 (p:=0) (q:=0) h ha hb).mpr (.inr ⟨rfl,z⟩);lia
 . exact z
 . have:=(v5 (p:=0) (q:=0) h.symm hb ha).mpr (.inr ⟨rfl,z⟩);lia
theorem small{n:Nat}{g:List Nat}(hn:n<=12)(h: ∀x∈g,x<=n): ∀x∈g,x < 100:=fun x hx=>by have:=h x hx;lia
open Classical in
noncomputable def jA(s:List Nat)(o:Nat):Bool:=decide (Gs s o)
theorem gP:jA s o=true↔Gs s o:= @decide_eq_true_iff _ (_)
noncomputable def grow(n:Nat):Nat->List (List Nat)
 | 0=> [[]]
 | k+1=>(grow n k).flatMap fun s=>((List.range (n+1)).filter (jA s)).map fun o=>s++ [o]
theorem gO: ∀{k:Nat} {s:List Nat},s∈grow n k↔nN s/\s.length=k/\ ∀x∈s,x<=n
 | 0,s=>by
  unfold grow;rw[SS];constructor
  . rintro rfl;exact⟨.nil,rfl,fun x hx=>by simp at hx⟩
  . rintro⟨_,h,_⟩;exact Uq.mp h
 | k+1,s=>by
  show s∈(grow n k).flatMap _↔_;rw[U5];constructor
  . rintro⟨t,ht,h⟩
    obtain⟨o,ho,rfl⟩:=SU.mp h;obtain⟨o1,o2⟩:=TN.mp ho;obtain⟨a,b,c⟩:=gO.mp ht;refine⟨.snoc a (gP.mp o2),by simp [b],fun x hx=>?_⟩;rcases Ts.mp hx with y | y
    . exact c x y
    . rw[SS.mp y];have:=Td.mp o1;lia
  . rintro⟨a,b,c⟩
    rcases List.eq_nil_or_concat s with e | ⟨t,o,e⟩
    . rw[e] at b;simp at b
    . rw[List.concat_eq_append] at e;subst e;have l:=a.last;refine⟨t,gO.mpr ⟨l.1,by simpa using b,fun x hx=>c x (by simp [hx])⟩,SU.mpr ⟨o,TN.mpr ⟨Td.mpr (by have:=c o (by simp);lia),gP.mpr l.2⟩,rfl⟩⟩
theorem iq{α β:Type}{R:β->β->Prop}{S:α->α->Prop}{f:α->List β}: ∀{l:List α},l.Pairwise S->(∀a∈l,(f a).Pairwise R)->(∀a∈l,∀b∈l,S a b-> ∀x∈f a,∀y∈f b,R x y)->(l.flatMap f).Pairwise R
 | [],_,_,_=>List.Pairwise.nil
 | a::l,h,h1,h2=>by
  rw[Wf,List.pairwise_append];obtain⟨ha,hl⟩:=List.pairwise_cons.mp h;refine⟨h1 a (by simp),iq hl (fun b hb=>h1 b (by simp [hb])) (fun b hb c hc=>h2 b (by simp [hb]) c (by simp [hc])),fun x hx y hy=>?_⟩;obtain⟨b,hb,hy⟩:=U5.mp hy;exact h2 a (by simp) b (by simp [hb]) (ha b hb) x hx y hy
theorem gS(hn:n<=12): ∀(k:Nat),(grow n k).Pairwise fun a b=>va 100 0 a < va 100 0 b
 | 0=>List.pairwise_singleton ..
 | k+1=>by
  refine iq (gS hn k) (fun s hs=>?_) (fun s hs t ht c x hx y hy=>?_)
  . rw[We];refine VN _ (List.Pairwise.imp ?_ List.pairwise_lt_range);intro a b h;rw[cA,cA];lia
  . obtain⟨o,ho,rfl⟩:=SU.mp hx;obtain⟨p,hp,rfl⟩:=SU.mp hy;have:=Td.mp (TN.mp ho).1;rw[cA,cA];lia
theorem eh:s∈grow n n↔Pl n s:=gO.trans ⟨fun⟨a,b,c⟩=>⟨a,b,c⟩,fun h=>⟨h.ok,h.len,h.le⟩⟩
end MH
namespace cG
open PySem L2 LB LD PyProof.Rows
noncomputable def top(i:Nat):Stmt:=PySem.Challenge.pw_hungwords_k06_all_of_few_words.main.body.getD i (.Pass ⟨0,0,0,0⟩)
noncomputable abbrev Dl:Stmt:=top 1
noncomputable abbrev qo:Stmt:=top 2
noncomputable abbrev oA:Stmt:=top 3
noncomputable abbrev dY:Stmt:=top 5
noncomputable abbrev ik:Stmt:=top 6
noncomputable abbrev fe:Stmt:=top 7
noncomputable abbrev rU:Stmt:=top 8
noncomputable abbrev cJ:Stmt:=top 9
noncomputable abbrev de:Stmt:=top 10
noncomputable abbrev gk:Stmt:=top 11
noncomputable abbrev mL:Stmt:=top 13
noncomputable abbrev mK:Stmt:=top 14
noncomputable abbrev bU:Stmt:=top 15
noncomputable abbrev dA:Stmt:=top 16
noncomputable abbrev jj:Stmt:=top 17
noncomputable abbrev oC:Stmt:=top 18
noncomputable abbrev fc:Stmt:=top 19
noncomputable abbrev oB:Stmt:=top 20
noncomputable abbrev wO:Stmt:=top 21
structure Txt(mg:Str->Option Value):Prop where
 vL:mg "isinstance"=none
 len:mg "len"=none
 Kk:mg "enumerate"=none
 tup:mg "tuple"=none
 int:mg "int"=none
 bool:mg "bool"=none
 uf:mg "range"=none
 lst:mg "list"=none
 Q4:mg "divmod"=none
 all:mg "all"=none
 str:mg "str"=none
 zip:mg "zip"=none
 BY:mg "sorted"=none
 max:mg "max"=none
 min:mg "min"=none
 MZ:mg "dict"=none
 set:mg "set"=none
 any:mg "any"=none
theorem G6:aE ["word","on"] ["word","on"] (ab Dl):=⟨rfl,rfl,rfl,by decide+kernel,rfl,by decide+kernel,by decide+kernel⟩
theorem Ak:aE ["first","second"] ["first","second"] (ab qo):=⟨rfl,rfl,rfl,by decide+kernel,rfl,by decide+kernel,by decide+kernel⟩
theorem Dh:aE ["h"] ["h"] (ab oA):=⟨rfl,rfl,rfl,by decide+kernel,rfl,by decide+kernel,by decide+kernel⟩
theorem kj:aE ["n"] ["n"] (ab dY):=⟨rfl,rfl,rfl,by decide+kernel,rfl,by decide+kernel,by decide+kernel⟩
theorem qm:aE ["n"] ["n"] (ab ik):=⟨rfl,rfl,rfl,by decide+kernel,rfl,by decide+kernel,by decide+kernel⟩
theorem cW:aE ["n","may_follow","starts","word"] ["n","may_follow"] (ab fe):=⟨rfl,rfl,rfl,by decide+kernel,rfl,by decide+kernel,by decide+kernel⟩
theorem mJ:aE ["start","on","word","at"] ["start","on"] (ab rU):=⟨rfl,rfl,rfl,by decide+kernel,rfl,by decide+kernel,by decide+kernel⟩
theorem iG:aE ["start","on","new"] ["start","on"] (ab cJ):=⟨rfl,rfl,rfl,by decide+kernel,rfl,by decide+kernel,by decide+kernel⟩
theorem bT:aE ["n","many","word"] ["n"] (ab de):=⟨rfl,rfl,rfl,by decide+kernel,rfl,by decide+kernel,by decide+kernel⟩
theorem cV:aE ["n","many","taken"] ["n"] (ab gk):=⟨rfl,rfl,rfl,by decide+kernel,rfl,by decide+kernel,by decide+kernel⟩
theorem wJ:aE ["_law_script"] ["_law_script"] (ab mL):=⟨rfl,rfl,rfl,by decide+kernel,rfl,by decide+kernel,by decide+kernel⟩
theorem dX:aE ["_law_box","_law_many","_law_turn","_law_place","_law_cell","_law_digit","_law_mixed"] ["_law_box","_law_many"] (ab mK):=⟨rfl,rfl,rfl,by decide+kernel,rfl,by decide+kernel,by decide+kernel⟩
theorem fI:aE ["_law_h","_law_placed","_law_turn","_law_more"] ["_law_h"] (ab bU):=⟨rfl,rfl,rfl,by decide+kernel,rfl,by decide+kernel,by decide+kernel⟩
theorem cH:aE ["_law_h","_law_pairs","_law_found","_law_one","_law_other"] ["_law_h"] (ab dA):=⟨rfl,rfl,rfl,by decide+kernel,rfl,by decide+kernel,by decide+kernel⟩
theorem Aj:aE ["_law_found","_law_due"] ["_law_found","_law_due"] (ab jj):=⟨rfl,rfl,rfl,by decide+kernel,rfl,by decide+kernel,by decide+kernel⟩
theorem mI:aE ["_law_n","_law_found","_law_place"] ["_law_n"] (ab oC):=⟨rfl,rfl,rfl,by decide+kernel,rfl,by decide+kernel,by decide+kernel⟩
theorem ie:aE ["_law_found","_law_n","_law_longer_here","_law_one"] ["_law_found","_law_n"] (ab fc):=⟨rfl,rfl,rfl,by decide+kernel,rfl,by decide+kernel,by decide+kernel⟩
theorem wI:aE ["_law_found"] [] (ab oB):=⟨rfl,rfl,rfl,by decide+kernel,rfl,by decide+kernel,by decide+kernel⟩
theorem jh:aE ["_law_script","_law_box","_law_n","_law_due","_law_plain","_law_turn","_law_found","_law_few"] ["_law_script"] (ab wO):=⟨rfl,rfl,rfl,by decide+kernel,rfl,by decide+kernel,by decide+kernel⟩
section
variable {P : Program} {w : World} {K : PySem.W.Frag} {mg : Str -> Option Value} {base : Heap}
theorem AO(F:g8 K "_law_take" "_law_take" mK f fd)(T:Txt mg):aV P w K mg base eI 1 f fd ["_law_box","_law_many"] wA:=by
 refine F.ok dX (fun vs H Q E h=>?_) (fun b5 A outer s H vs Q E hr h=>?_)
 . obtain⟨d,c,t,m,rfl,_⟩:=h;rfl
 . obtain⟨d,c,t,m,rfl,B,ht,Ka,QC,q⟩:=h;have hu:=sP hr;have N8:=B.ne;have t0:=B.t0;obtain⟨ns,hc,vM,Om⟩:=B.cs;refine⟨_,bF (dZ (i:=2) dX.nd rfl (Or.inl rfl) (aZ gp (i4 hu (pv 0) gn (fun _ _=>rfl)) aX))
    (bF (Ax hu (pv 0) gn (pv 2) rfl)
    (bF (dZ (i:=3) dX.nd rfl (Or.inl rfl) (aZ fk (pv 2) (cK eD (by rfl) T.len PySem.boot_len (az (i4 hu (pv 0) gn (fun _ _=>rfl)) aN))))
    (bF (dZ (i:=4) dX.nd rfl (Or.inl rfl) (B8 sL (i4 hu (pv 0) gn (fun _ _=>rfl)) (pv 3) (fun _ _=>rfl)))
    (bF (B7 (mM Hw (pv 4) (aZ D1 aX aX) (df _))
     (bF (DG (cK nE (by rfl) T.Q4 nF (az (pv 4) (az (pv 1) aN))) (ip rfl (bf (DM (i4 hu (pv 0) gn (fun _ _=>rfl)) (pv 3) set_list) (bf (aJ (i:=5) dX.nd rfl (Or.inl rfl)) fJ))))
      (i3 (mN (pv 5)))) r9)
    (bF (dZ (i:=6) dX.nd rfl (Or.inl rfl) (aZ fk (aZ fh (aZ gp (aZ gp (aZ gp (aZ fk (pv 4) aX) (aZ fh (aZ fh aX (pv 2)) (pv 2))) (aZ fh aX (pv 2))) aX) aX) aX))
    (bF (dZ (i:=6) dX.nd rfl (Or.inl rfl) (aZ fk (aZ fh (pv 6) (aZ gp (aZ fk (pv 6) aX) (aZ fh aX (pv 2)))) aX))
    (i3 (mN (aZ fk (aZ sj (aZ fk (aZ fh (pv 6) (aZ gp (aZ fk (pv 6) aX) (pv 2))) aX) aX) (pv 1)))))))))),?_⟩
   refine⟨_,rfl,d,_,rfl,by rw[<-BG c t];exact gC.k (k:=Sum.inr "turn") B.dc,_,_,rfl,rfl,?_⟩;refine⟨_,rfl,_,rfl,d,_,rfl,zJ.k (k:=Sum.inr "turn") B.dc (by show 2 < sizeLine;decide),?_⟩;rw[FJ];have Ke:(upd H d (.dK (bx c (t+1)))) d=some (.dK (bx c (t+1))):=ae;have EL:(upd H d (.dK (bx c (t+1)))) c=some (.lst (ns.map V.int)):=by rw[ag N8.symm];exact hc
   have gc:gC (upd H d (.dK (bx c (t+1)))) d (.str "cells") (some (.ref c)):=by rw[<-pJ c (t+1)];exact gC.k (k:=Sum.inr "cells") Ke
   have hl:(0:Int) < ((ns.map V.int).length:Int):=by rw[Sx];omega
   refine⟨_,rfl,_,rfl,d,_,rfl,gc,c,_,rfl, .inl (cf.of EL),_,_,rfl,rfl,hl,?_⟩;have Ie:0<=(t+1) % ((ns.map V.int).length:Int):=Vu _ (by omega);have Gh:(t+1) % ((ns.map V.int).length:Int) < ((ns.map V.int).length:Int):=Va _ hl;obtain⟨cell,iM⟩: ∃cell,(ns.map V.int)[((t+1) % ((ns.map V.int).length:Int)).toNat]?=some (V.int cell):=by
    have RV:((t+1) % ((ns.map V.int).length:Int)).toNat < ns.length:=by rw[Sx] at Ie Gh ⊢;omega
    exact⟨ns[((t+1) % ((ns.map V.int).length:Int)).toNat],by simp⟩
   refine⟨_,rfl,d,_,rfl,gc,_,rfl,c,_,_,_,rfl,rfl,cf.of EL,tI Ie iM,?_⟩;refine⟨_,rfl,_,_,rfl,rfl,(show F3 10 18 from by unfold F3;decide),_,_,rfl,rfl,_,rfl,?_⟩;refine L0 (fun _=>?_) (fun _=>?_)
   . refine⟨_,rfl,_,rfl,_,_,rfl,⟨Ka,QC⟩,fun p hp=>?_⟩;have hd2:(upd (upd H d (.dK (bx c (t+1)))) p (.tup [.int (cell / m), .int (cell % m)])) d=some (.dK (bx c (t+1))):=by rw[ag (aq Ke hp)];exact Ke
     have Kg:(upd (upd H d (.dK (bx c (t+1)))) p (.tup [.int (cell / m), .int (cell % m)])) c=some (.lst (ns.map V.int)):=by rw[ag (aq EL hp)];exact EL
     refine⟨p,_,rfl,cS.of ae,rfl,_,_,rfl,?_⟩;refine⟨_,rfl,d,_,rfl,by rw[<-pJ c (t+1)];exact gC.k (k:=Sum.inr "cells") hd2,_,rfl,c,_,_,_,rfl,rfl,Kg,A4 Ie Gh,?_⟩;refine⟨_,_,rfl,rfl,?_⟩;refine⟨_,rfl,?_⟩;refine q _ _ (Vu _ (by omega)) (Va _ Ka) ⟨by rw[ag N8];exact hd2,⟨ns.set ((t+1) % ((ns.map V.int).length:Int)).toNat (cell / m),?_,by rw[Te];exact vM,by rw[Te];exact Om⟩,by omega,by omega⟩ fun b o e h1 h2=>?_
     . rw[ae,List.map_set]
     . have e1:(upd H d (.dK (bx c (t+1)))) b=some o:=by rw[ag h1];exact e
       rw[ag h2,ag (aq e1 hp)];exact e1
   . refine⟨_,rfl,_,_,rfl,rfl,(by show(0:Int) < 2147483629;decide),_,rfl,_,_,rfl,rfl, .inl ⟨by decide,by decide⟩,_,rfl,_,_,rfl,rfl, .inr ⟨by omega,by omega⟩,_,_,rfl,rfl,_,rfl,_,_,rfl,rfl, .inl ⟨by decide,by decide⟩,_,_,rfl,rfl,_,_,rfl,rfl,_,_,rfl,rfl, .inr ⟨by decide,by decide⟩,_,_,rfl,rfl,(by show(0:Int) < 2147483647;decide),?_⟩;generalize Oq:((cell % 2147483629+3*(t+1)*(t+1)+17*(t+1)+5)*48271 % 2147483647:Int)=mx;have m0:0<=mx:=by rw[<-Oq];exact Vu _ (by decide)
     have m1:mx < 2147483647:=by rw[<-Oq];exact Va _ (by decide)
     refine⟨_,rfl,_,rfl,_,_,rfl,rfl,(by show(0:Int) < 998244353;decide),_,rfl,_,_,rfl,rfl, .inl ⟨by decide,by decide⟩,_,_,rfl,rfl,_,_,rfl,rfl, .inl ⟨by omega,by omega⟩,_,_,rfl,rfl,(by show(0:Int) < 2147483587;decide),?_⟩;generalize Oo:(mx*(mx % 998244353+7919*(t+1)) % 2147483587:Int)=my;have y0:0<=my:=by rw[<-Oo];exact Vu _ (by decide)
     have y1:my < 2147483587:=by rw[<-Oo];exact Va _ (by decide)
     refine⟨_,rfl,_,rfl,_,_,rfl,rfl,(by show(0:Int) < 1000003;decide),_,rfl,_,_,rfl,rfl,_,_,rfl,rfl, .inl ⟨by omega,by omega⟩,_,_,rfl,rfl,(by show(0:Int) < 2147483563;decide),_,_,rfl,rfl,⟨by decide,by decide⟩,_,rfl,_,_,rfl,rfl,Ka,?_⟩;refine q _ _ (Vu _ (by omega)) (Va _ Ka) ⟨Ke,⟨ns,EL,vM,Om⟩,by omega,by omega⟩ fun b o e h1 h2=>?_;rw[ag h1];exact e
theorem xv(F:g8 K "_law_begin" "_law_begin" mL f fd)(T:Txt mg):aV P w K mg base eI 1 f fd ["_law_script"] (mG K):=by
 refine F.ok wJ (fun vs H Q E h=>?_) (fun b5 A outer s H vs Q E hr h=>?_)
 . obtain⟨a,ns,rfl,_⟩:=h;rfl
 . obtain⟨a,ns,rfl,hS,hn,q⟩:=h;have hu:=sP hr;refine⟨_,i3 (mN (AI (oI gn (aZ D4 (fK nC (by rfl) T.lst eE (az (xg Ae (pv 0) AD (AB aX)) aN))
    (aZ D0 (mO (az aX aN)) (fK vn (by rfl) T.int lY (az (mP xm (cK eD (by rfl) T.len PySem.boot_len (az (pv 0) aN)) aX (df _)) aN)))) (oI gn aX Az)) rfl rfl (by simp) (by decide))),?_⟩
   intro d hd;have s0:ay H (upd H d (.dK [])):=ay.new hd;have d0:(upd H d (.dK [])) d=some (.dK []):=ae;generalize upd H d (.dK [])=H0 at s0 d0;refine⟨_,rfl,_,rfl,a,_,rfl,s0.seq hS,fun p hp=>?_⟩;have MV:u9 (ns.map V.int) none (some 63)=ns.map V.int:=by
    unfold u9;rw[HT.wQ,show((63:Int))=((63:Nat):Int) from rfl,HT.Ao,List.drop_zero,Nat.sub_zero,Sx];exact List.take_of_length_le (by rw[Sx];omega)
   rw[MV];have s1:ay H0 (upd H0 p (.lst (ns.map V.int))):=ay.new hp;have e1:(upd H0 p (.lst (ns.map V.int))) p=some (.lst (ns.map V.int)):=ae;generalize upd H0 p (.lst (ns.map V.int))=H1 at s1 e1;refine⟨p,_,rfl, .inl (cf.of e1),fun l hl=>?_⟩;have s2:ay H1 (upd H1 l (.lst (ns.map V.int))):=ay.new hl;have e2:(upd H1 l (.lst (ns.map V.int))) l=some (.lst (ns.map V.int)):=ae;generalize upd H1 l (.lst (ns.map V.int))=H2 at s2 e2;refine⟨by show 1<=sizeLine;decide,fun g hg=>?_⟩;have s3:ay H2 (upd H2 g (.lst [V.int 5])):=ay.new hg;have e3:(upd H2 g (.lst [V.int 5])) g=some (.lst [V.int 5]):=ae;generalize upd H2 g (.lst [V.int 5])=H3 at s3 e3;have NW:ay H H3:=ay.tr (ay.tr (ay.tr s0 s1) s2) s3;refine⟨_,rfl,a,_,rfl, .inl (NW.seq hS),rfl, .inr ⟨_,rfl,?_⟩⟩;have fin: ∀(k:Int) (ms:List Int),0<=k->k<=1->(ns.map V.int)++(List.replicate k.toNat [V.int 5]).flatten=ms.map V.int->0 < ms.length->ms.length<=63->Hb (.ref g) (.int k) H3 fun y H4=>Hh (.ref l) y H4 fun y H5=>mD [(tC (.str "turn"),tC (.int 0))] [some (.ref a)] H5 fun ps H2=>(fun ps H2=>H2 d=some (.dK [])/\ ∃aA:List (Key × V),ps=aA.map (fun kv=>(kV kv.1,kv.2))/\aA.length<=15/\Q (.ref d) (upd H2 d (.dK (bt [] aA)))) ((.str "cells",y)::ps) H2:=fun k ms k0 k1 em l0 Od=>by
    refine⟨g,k,_,rfl,rfl,e3,by omega,by omega,by show 1*_<=sizeLine;exact S4 (by omega:1*k.toNat<=1) (by decide),fun r Qw=>?_⟩;have s4:ay H3 (upd H3 r (.lst (List.replicate k.toNat [V.int 5]).flatten)):=ay.new Qw;have e4:(upd H3 r (.lst (List.replicate k.toNat [V.int 5]).flatten)) r=some (.lst (List.replicate k.toNat [V.int 5]).flatten):=ae;generalize upd H3 r (.lst (List.replicate k.toNat [V.int 5]).flatten)=H4 at s4 e4;have hlen:(ns.map V.int).length+(List.replicate k.toNat [V.int 5]).flatten.length=ms.length:=by rw[<-SV,em,Sx]
    refine⟨l,r,_,_,rfl,rfl,s4 _ _ (s3 _ _ e2),e4,by rw[hlen];exact S4 Od (by decide),fun c hc=>?_⟩;rw[em];have e5:(upd H4 c (.lst (ms.map V.int))) c=some (.lst (ms.map V.int)):=ae;have s5:ay H4 (upd H4 c (.lst (ms.map V.int))):=ay.new hc;generalize upd H4 c (.lst (ms.map V.int))=H5 at e5 s5;have d5:H5 d=some (.dK []):=s5 _ _ (s4 _ _ (s3 _ _ (s2 _ _ (s1 _ _ d0))));have nd:c≠d:=xG e5 d5 (by intro z;cases z);refine⟨d5,[(Sum.inr "cells", .ref c),(Sum.inr "turn", .int 0)],rfl,by show 2<=15;decide,?_⟩;have Q2:bt [] [((Sum.inr "cells":Key),V.ref c),(Sum.inr "turn",V.int 0)]=bx c 0:=by
     simp [bt,putK,bx,LZ]
    rw[Q2];refine q d c _ ⟨ae,⟨ms,by rw[ag nd];exact e5,l0,Od⟩,U6 _,by decide⟩ fun b o e=>?_;rw[ag (aq e hd)];exact s5 _ _ (s4 _ _ (NW _ _ e))
   cases EH:ns with
   | nil=>
    subst EH;exact fin 1 [5] (by decide) (by decide) rfl (by decide) (by decide)
   | cons n0 nr=>
    rw[<-EH];have i9: ¬V.int (((ns.map V.int).length:Nat):Int)=V.int 0:=fun z=>by
     injection z with z
     rw[EH,Sx] at z;simp at z;omega
    rw[S9 i9];exact fin 0 ns (by decide) (by decide) (by simp) (by rw[EH];simp) hn
theorem xn(F:g8 K "_law_take" "_law_take" mK f fd)(T:Txt mg):aV P w K mg base eI 1 f fd ["_law_box","_law_many"] (G2 wc):=(AO F T).imp fun _ _ _ _ h=>z0 h
end
end cG
namespace cG
open PySem L2 LB LD MH PyProof.Rows
noncomputable def nD(x:Nat):Dt:= .int (x:Int)
noncomputable def aB(hs:List Nat):Dt:= .tup (hs.map nD)
theorem Cs(hs:List Nat):(hs.map nD).all bQ=true:=TH.mpr fun d hd=>by
 obtain⟨x,_,rfl⟩:=SU.mp hd;rfl
theorem MN{hs:List Nat}{i:Nat}{x:Nat}(h:hs[i]?=some x):(hs.map nD)[i]?=some (nD x):=by rw[SX,h];rfl
theorem Rk{hs:List Nat}(h1:1<=w)(h2:w<=hs.length):vy (hs.map nD) ((w:Int) - 1)=some (nD (up hs w)):=
 tI (by omega) (by rw[show((w:Int) - 1).toNat=w - 1 by omega];exact MN (bh h1 h2))
theorem Kj:yB (nD x) (nD y)=decide (x=y):=by
 show((x:Int)==(y:Int))=_;by_cases h:x=y
 . subst h;simp
 . rw[S9 h];simpa using (fun z=>h (by exact_mod_cast z))
theorem pd:eq2 (nD x) (nD y)=some (decide (x=y)):=by
 show some (decide ((x:Int)=(y:Int)))=_;congr 1
 by_cases h:x=y
 . subst h;simp
 . rw[S9 h,S9 fun z=>h (by omega)]
theorem yH(hs:List Nat):dM 1 (hs.map nD)=(List.range' 1 hs.length).map fun x=> .tup [nD x,nD (up hs x)]:=by
 refine Wg fun i=>?_;unfold dM;rw[List.getElem?_mapIdx,SX,SX];by_cases hi:i < hs.length
 . have:=bh (hs:=hs) (w:=i+1) (by omega) (by omega);rw[Ug] at this;rw[this,List.getElem?_range' (by omega)];show some _=some _;rw[show 1+1*i=i+1 by omega];rfl
 . rw[Ub (by omega),Ub (by rw[T3];omega)];rfl
noncomputable def D7(f:Nat->Dt):Dt->Dt | .int i=>f i.toNat | d=>d
theorem ir:D7 f (nD x)=f x:=by
 show f ((x:Int)).toNat=f x;rw[Tp]
noncomputable def Ci(f:Nat->Bool):Dt->Bool | .int i=>f i.toNat | _=>false
theorem mY:Ci f (nD x)=f x:=by
 show f ((x:Int)).toNat=f x;rw[Tp]
theorem Qg{L:List Nat}:inD (nD x) (L.map nD)=decide (x∈L):=by
 unfold inD;rw[List.any_map,T4,List.any_eq_true,Uv];constructor
 . rintro⟨y,hy,e⟩
   have e:yB (nD y) (nD x)=true:=e;rw[Kj,Uv] at e;exact e▸hy
 . intro h;refine⟨x,h,?_⟩;show yB (nD x) (nD x)=true;rw[Kj];simp
theorem ux(hr:bB k A)(hj:j<=3:=by decide):A.units+j < cLine:=by have:=hr.un;lia
end cG
namespace cG
open PySem PySem.Spec L2 LB LD MH bC PyProof.Rows
noncomputable def ee(p:Nat × Nat):Dt:= .tup [nD p.1,nD p.2]
noncomputable def F9(p:(Nat × Nat) × (Nat × Nat)):Dt:= .tup [ee p.1,ee p.2]
noncomputable def cp(p:Nat × Nat):Int × Int:=((p.1:Nat),(p.2:Nat))
noncomputable def fT(hs:List Nat):List (Nat × Nat):=(List.range' 1 hs.length).map (b9 hs)
theorem kQ:(fT hs).length=hs.length:=by unfold fT;rw[Sx,T3]
theorem wb{hs:List Nat}(Cq:hs.length<=12)(hle: ∀x∈hs,x<=12)(h:p∈(List.range' 1 hs.length).map (b9 hs)):p.1<=12/\p.2<=12:=by
 obtain⟨x,hx,rfl⟩:=SU.mp h;rw[TY] at hx;have:=hle _ (SW (bh (hs:=hs) (w:=x) (by lia) (by lia)));unfold b9;simp only;lia
noncomputable def uc(q:Int × Int):Nat × Nat:=(q.1.toNat,q.2.toNat)
theorem BW:uc (cp p)=p:=by
 show(((p.1:Nat):Int).toNat,((p.2:Nat):Int).toNat)=p;rw[Tp,Tp]
theorem kP{L:List (Nat × Nat)}{ms:List (Int × Int)}(hp:ms.Perm (L.map cp)): ∃T:List (Nat × Nat),T.Perm L/\ms=T.map cp:=by
 refine⟨ms.map uc,?_,?_⟩
 . have:=hp.map uc;have e:L.map (uc ∘ cp)=L:=(Ui (f:=uc ∘ cp) (g:=id) fun p _=>BW).trans (List.map_id L);rw[S5,e] at this;exact this
 . rw[S5];refine(List.map_id ms).symm.trans (Ui fun m hm=>?_);obtain⟨p,_,rfl⟩:=SU.mp (hp.mem_iff.mp hm);show cp p=cp (uc (cp p));rw[BW]
noncomputable def gv(L:List (Nat × Nat)):List ((Nat × Nat) × (Nat × Nat)):=L.flatMap fun p=>(L.filter (dN p)).map fun q=>(p,q)
def C8:DN:=fun ds Q=> ∃x y:Nat,ds= [nD x,nD y]/\Q (ee (min x y,max x y))
def ze:DN:=fun ds Q=> ∃p q:Nat × Nat,ds= [ee p,ee q]/\Q (.bl (dN p q))
def BX:DN:=fun ds Q=> ∃hs:List Nat,ds= [aB hs]/\hs.length<=12/\(∀x∈hs,x<=12)/\ ∀L:List (Nat × Nat),L.Perm (fT hs)->Q (.lst (L.map ee))
def q0:DN:=fun ds Q=> ∃hs:List Nat,ds= [aB hs]/\hs.length<=12/\(∀x∈hs,x<=12)/\ ∀L:List (Nat × Nat),L.Perm (fT hs)->Q (.lst ((gv L).map F9))
def jW:DN:=q0
section
variable {P : Program} {w : World} {K : PySem.W.Frag} {mg : Str -> Option Value} {base : Heap}
theorem D8(F:g8 K "tie" "tie" Dl f fd)(T:Txt mg):aV P w K mg base eI 1 f fd ["word","on"] (cC C8):=by
 refine qP F G6 (fun ds Qd h=>?_) (fun b5 A outer s H E hr=>⟨_,(aF (aS (eM (aa (yQ rfl T.min (aa (dv 0) (aa (dv 1) aj))) (aa (yR rfl T.max (aa (dv 0) (aa (dv 1) aj))) aj))))),fun ds Qd h=>?_⟩)
 . obtain⟨x,y,rfl,_⟩:=h;rfl
 . obtain⟨x,y,rfl,q⟩:=h;refine⟨_,rfl,_,rfl,_,_,rfl,_,rfl,_,rfl,_,_,rfl,by show 2<=sizeLine;decide,?_⟩;have e1:min (x:Int) (y:Int)=((min x y:Nat):Int):=by omega
   have e2:max (x:Int) (y:Int)=((max x y:Nat):Int):=by omega
   rw[e1,e2];exact q
theorem xu(F:g8 K "cross" "cross" qo f fd)(T:Txt mg):aV P w K mg base eI 1 f fd ["first","second"] (cC ze):=by
 refine qP F Ak (fun ds Qd h=>?_) (fun b5 A outer s H E hr=>⟨_,(aF (aS (IT (ky (dv 0) aD) (ky (dv 1) aD) (ky (dv 0) aD) (ky (dv 1) aD)))),fun ds Qd h=>?_⟩)
 . obtain⟨p,q,rfl,_⟩:=h;rfl
 . obtain⟨p,q,rfl,k⟩:=h;refine⟨_,rfl,_,_,_, .inr rfl,rfl,rfl,_,rfl,_,_,_, .inr rfl,rfl,rfl,_,_,rfl,rfl,?_⟩;by_cases h1:p.1 < q.1
   . rw[if_pos (by omega)];refine⟨_,rfl,_,_,_, .inr rfl,rfl,rfl,_,rfl,?_⟩;by_cases h2:q.1 < p.2
     . rw[if_pos (by omega)];refine⟨_,rfl,_,_,_, .inr rfl,rfl,rfl,_,rfl,?_⟩;have e:dN p q=decide ((p.2:Int) < (q.2:Int)):=by unfold dN;rw[TK h1,TK h2];exact decide_eq_decide.mpr (by omega)
       rw[e] at k;exact k
     . rw[if_neg (by omega)];have e:dN p q=false:=by unfold dN;rw[S9 h2];simp
       rw[e] at k;exact k
   . rw[if_neg (by omega)];have e:dN p q=false:=by unfold dN;rw[S9 h1];rfl
     rw[e] at k;exact k
noncomputable def b8:Dt->Nat × Nat
 | .tup [.int a, .int b]=>(a.toNat,b.toNat)
 | _=>(0,0)
theorem gH:b8 (ee p)=p:=by
 show(((p.1:Nat):Int).toNat,((p.2:Nat):Int).toNat)=p;rw[Tp,Tp]
theorem dJ{α β:Type}{F:α->List β}{k:Nat}: ∀{L:List α},(∀x∈L,(F x).length<=k)->(L.flatMap F).length<=L.length*k
 | [],_=>by simp
 | x::L,h=>by
  rw[Wf,SV,Tq,Nat.add_mul];have:=h x (by simp);have:=dJ (L:=L) fun y hy=>h y (by simp [hy]);lia
theorem rM{hs:List Nat}:((List.range' 1 hs.length).map fun x=>Dt.tup [nD x,nD (up hs x)]).map (fun d=>ee (min (b8 d).1 (b8 d).2,max (b8 d).1 (b8 d).2))=(((List.range' 1 hs.length).map (b9 hs)).map cp).map DH:=by
 rw[S5,S5,S5];refine Ui fun x _=>?_;show ee (min (b8 (ee (x,up hs x))).1 (b8 (ee (x,up hs x))).2,max (b8 (ee (x,up hs x))).1 (b8 (ee (x,up hs x))).2)=_;rw[gH];rfl
theorem AN(F:g8 K "ties" "ties" oA f fd)(T:Txt mg)(vC:gB P w K mg base "tie" 1 ["word","on"] (cC C8)):aV P w K mg base eI 2 f fd ["h"] (cC BX):=by
 refine qP F Dh (fun ds Qd h=>?_) (fun b5 A outer s H E hr=>⟨_,(aF (aS (lL T.BY (aa (Ov.ev (ef (N:= ["word","on"]) (nt:=2) (js:= []) ⟨rfl,by decide+kernel,by decide,rfl,by decide+kernel,(by show∀x∈(_:List (Str × NameKind)),x.2=NameKind.free->(ab oA).names.lookup x.1=some .cell\/(ab oA).names.lookup x.1=some .free;decide+kernel)⟩ rfl (A8 T.Kk (aa (dv 0) aj) aD) (fun _ _ _ _ _=>ip rfl (bf (aJ (i:=0) (show(["word","on"]:List Str).Nodup by decide+kernel) rfl (by first | exact Or.inl rfl | exact Or.inr rfl)) (bf (aJ (i:=1) (show(["word","on"]:List Str).Nodup by decide+kernel) rfl (by first | exact Or.inl rfl | exact Or.inr rfl)) fJ))) dI cP (fun _ _ _ _ _=>gX) (fun _ _ _ _ _=>(bR vC (hr.mono (by decide)) (aa (dv 0) (aa (dv 1) aj)))))) aj)))),fun ds Qd h=>?_⟩)
 . obtain⟨hs,rfl,_⟩:=h;rfl
 . obtain⟨hs,rfl,Cq,hle,q⟩:=h;have hl:(dM 1 (hs.map nD)).length=hs.length:=by rw[yH,Sx,T3]
   refine⟨_,rfl,_,rfl,rfl,by rw[hl];exact T5 (aM (by lia)),fun _=>true,fun d=>ee (min (b8 d).1 (b8 d).2,max (b8 d).1 (b8 d).2),fun d hd=>?_,?_⟩
   . rw[yH] at hd;obtain⟨x,_,rfl⟩:=SU.mp hd;refine⟨_,_,rfl,⟨_,rfl,rfl⟩,⟨_,rfl,rfl⟩,rfl,fun _=>⟨_,rfl,_,rfl,x,up hs x,rfl,?_⟩⟩;show ee (min x (up hs x),max x (up hs x))=ee (min (b8 (ee (x,up hs x))).1 (b8 (ee (x,up hs x))).2,max (b8 (ee (x,up hs x))).1 (b8 (ee (x,up hs x))).2);rw[gH]
   . rw[Uj.mpr (fun _ _=>rfl),yH,rM];refine⟨((List.range' 1 hs.length).map (b9 hs)).map cp,1000,rfl,by rw[Sx,Sx,T3];lia,fun p hp=>?_,fun ms h1=>?_⟩
     . obtain⟨p,Ic,rfl⟩:=SU.mp hp;have:=wb Cq hle Ic;unfold cp;simp only;lia
     . obtain⟨L,hL,rfl⟩:=kP h1;rw[S5];exact q L hL
end
noncomputable def jX(L:List (Nat × Nat))(i:Nat):List ((Nat × Nat) × (Nat × Nat)):=(L.take i).flatMap fun p=>(L.filter (dN p)).map fun q=>(p,q)
theorem vb(h:L[i]?=some p):jX L (i+1)=jX L i++(L.filter (dN p)).map fun q=>(p,q):=by
 unfold jX;rw[List.take_succ,h,VR];simp
theorem zf:jX L L.length=gv L:=by unfold jX gv;rw[Uh]
theorem o9{L:List (Nat × Nat)}{j:Nat}{p q:Nat × Nat}(h:L[j]?=some q):((L.take (j+1)).filter (dN p)).map (fun q=>(p,q))=((L.take j).filter (dN p)).map (fun q=>(p,q))++(if dN p q=true then [(p,q)] else []):=by
 rw[List.take_succ,h,U9,TV];congr 1
 by_cases c:dN p q=true
 . rw[if_pos c];simp [c]
 . rw[if_neg c];simp [c]
theorem IE{L:List (Nat × Nat)}{i:Nat}(h:(L.map ee)[i]?=some d): ∃p,L[i]?=some p/\d=ee p:=by
 rw[SX] at h;cases e:L[i]? with
 | none=>rw[e] at h;cases h
 | some p=>rw[e] at h;cases h;exact⟨p,rfl,rfl⟩
section
variable {P : Program} {w : World} {K : PySem.W.Frag} {mg : Str -> Option Value} {base : Heap}
theorem qv(F:g8 K "_law_crossed" "_law_crossed" dA f fd)(T:Txt mg):aV P w K mg base eI 1 f fd ["_law_h"] (cC jW):=by
 refine qP F cH (fun ds Qd h=>?_) (fun b5 A outer s H E hr=>⟨_,(aC (cI 1 cH.nd (lL T.BY (aa (Ov.ev (ef (N:= ["_law_word","_law_on"]) (nt:=2) (js:= []) ⟨rfl,by decide+kernel,by decide,rfl,by decide+kernel,(by show∀x∈(_:List (Str × NameKind)),x.2=NameKind.free->(ab dA).names.lookup x.1=some .cell\/(ab dA).names.lookup x.1=some .free;decide+kernel)⟩ rfl (m3 T.Kk (aa (dv 0) (aa aD aj))) (fun _ _ _ _ _=>ip rfl (bf (aJ (i:=0) (show(["_law_word","_law_on"]:List Str).Nodup by decide+kernel) rfl (by first | exact Or.inl rfl | exact Or.inr rfl)) (bf (aJ (i:=1) (show(["_law_word","_law_on"]:List Str).Nodup by decide+kernel) rfl (by first | exact Or.inl rfl | exact Or.inr rfl)) fJ))) dI cP (fun _ _ _ _ _=>gX) (fun _ _ _ _ _=>(eM (aa (yQ rfl T.min (aa (dv 0) (aa (dv 1) aj))) (aa (yR rfl T.max (aa (dv 0) (aa (dv 1) aj))) aj)))))) aj)))
 (aC (wL 2 cH.nd (xy aj))
 (aC (fU rfl (dh (dv 1)) (dj 3 cH.nd)
 (aF (fU rfl (dh (dv 1)) (dj 4 cH.nd)
 (aF (ig (GI (ky (dv 3) aD) (ky (dv 4) aD) (ky (dv 3) aD) (ky (dv 4) aD))
 (aF (ji (pE 2 (pv 2) (aa (eM (aa (dv 3) (aa (dv 4) aj))) aj))))
 dz)) Um)) Um)
 (aF (wM 2 (aS (dv 2))))))),fun ds Qd h=>?_⟩)
 . obtain⟨hs,rfl,_⟩:=h;rfl
 . obtain⟨hs,rfl,Cq,hle,q⟩:=h;have hl:(dM 1 (hs.map nD)).length=hs.length:=by rw[yH,Sx,T3]
   refine⟨_,rfl,_,rfl,by rw[hl];exact T5 (aM (by omega)),fun _=>true,fun d=>ee (min (b8 d).1 (b8 d).2,max (b8 d).1 (b8 d).2),fun d hd=>?_,?_⟩
   . rw[yH] at hd;obtain⟨x,_,rfl⟩:=SU.mp hd;refine⟨_,_,rfl,⟨_,rfl,rfl⟩,⟨_,rfl,rfl⟩,rfl,fun _=>⟨_,rfl,_,rfl,_,_,rfl,_,rfl,_,rfl,_,_,rfl,by show 2<=sizeLine;decide,?_⟩⟩;show Dt.tup [.int (min (x:Int) (up hs x:Int)), .int (max (x:Int) (up hs x:Int))]=ee (min (b8 (ee (x,up hs x))).1 (b8 (ee (x,up hs x))).2,max (b8 (ee (x,up hs x))).1 (b8 (ee (x,up hs x))).2);rw[gH,show min (x:Int) (up hs x:Int)=((min x (up hs x):Nat):Int) by omega,show max (x:Int) (up hs x:Int)=((max x (up hs x):Nat):Int) by omega];rfl
   rw[Uj.mpr (fun _ _=>rfl),yH,rM];refine⟨((List.range' 1 hs.length).map (b9 hs)).map cp,1000,rfl,by rw[Sx,Sx,T3];omega,fun p hp=>?_,fun ms h1=>?_⟩
   . obtain⟨p,Ic,rfl⟩:=SU.mp hp;have:=wb Cq hle Ic;unfold cp;simp only;omega
   obtain⟨L,hL,rfl⟩:=kP h1;rw[S5];have Ll:L.length=hs.length:=hL.length_eq.trans kQ;show _;refine⟨⟨_,rfl,rfl⟩,by show 0<=sizeLine;decide,⟨_,rfl,rfl⟩,?_⟩;have lc: ∀(l:List ((Nat × Nat) × (Nat × Nat))),l.length<=144->l.length < sizeLine:=fun l h=>aM (by omega);refine⟨_,rfl,_,rfl,fun i δ=> ∃s3 s4,δ= [.im (aB hs), .im (.lst (L.map ee)), .ow ((jX L i).map F9),s3,s4]/\s3.cO=false/\s4.cO=false,⟨_,_,rfl,rfl,rfl⟩,fun i d δ hi hP=>?_,fun δ hP=>?_⟩
   . obtain⟨s3,s4,rfl,b3,b4⟩:=hP;obtain⟨p,hp,rfl⟩:=IE hi;refine⟨⟨_,rfl,b3⟩,?_⟩;refine⟨_,rfl,_,rfl,fun j δ=> ∃s4,δ= [.im (aB hs), .im (.lst (L.map ee)), .ow ((jX L i++((L.take j).filter (dN p)).map fun q=>(p,q)).map F9), .im (ee p),s4]/\s4.cO=false,⟨_,by simp,b4⟩,fun j d δ hj hP=>?_,fun δ hP=>?_⟩
     . obtain⟨s4,rfl,b4⟩:=hP;obtain⟨r,lr,rfl⟩:=IE hj;refine⟨⟨_,rfl,b4⟩,?_⟩;have RP:(jX L i++((L.take j).filter (dN p)).map fun q=>(p,q)).length<=200:=by
        rw[SV,Sx];have h1:=dJ (F:=fun p=>(L.filter (dN p)).map fun q=>(p,q)) (k:=12) (L:=L.take i) fun p _=>by rw[Sx];exact S4 (UD _ _) (by rw[Ll];exact Cq)
        have h2:(L.take i).length<=12:=by rw[US,Ll];omega
        have h3:((L.take j).filter (dN p)).length<=12:=S4 (UD _ _) (by rw[US,Ll];omega);unfold jX;omega
       have no:dN p r=false-> ∃s4:Sl,([.im (aB hs), .im (.lst (L.map ee)), .ow ((jX L i++((L.take j).filter (dN p)).map fun q=>(p,q)).map F9), .im (ee p), .im (ee r)]:List Sl)= [.im (aB hs), .im (.lst (L.map ee)), .ow ((jX L i++((L.take (j+1)).filter (dN p)).map fun q=>(p,q)).map F9), .im (ee p),s4]/\s4.cO=false:=fun c=>⟨.im (ee r),by rw[o9 lr,if_neg (by rw[c];exact SG),TX],rfl⟩
       refine⟨_,rfl,_,_,_, .inr rfl,rfl,rfl,_,rfl,_,_,_, .inr rfl,rfl,rfl,_,_,rfl,rfl,?_⟩;by_cases h1:p.1 < r.1
       . rw[if_pos (by omega)];refine⟨_,rfl,_,_,_, .inr rfl,rfl,rfl,_,rfl,?_⟩;by_cases h2:r.1 < p.2
         . rw[if_pos (by omega)];refine⟨_,rfl,_,_,_, .inr rfl,rfl,rfl,_,rfl,?_⟩;by_cases h3:p.2 < r.2
           . refine⟨true,by rw[TK (by omega)],dE ?_⟩;refine⟨⟨_,rfl⟩,_,rfl,_,rfl,by show 2<=sizeLine;decide,_,_,rfl,rfl,by rw[Sx];exact aM (by omega),?_⟩;refine⟨.im (ee r),?_,rfl⟩;rw[o9 lr,if_pos (jc.mpr ⟨h1,h2,h3⟩),<-Tz,TV (l₂:= [(p,r)])];rfl
           . exact⟨false,by rw[S9 (by omega)],bJ (no (by rw[Vi];exact fun z=>h3 (jc.mp z).2.2))⟩
         . rw[if_neg (by omega)];exact⟨false,rfl,bJ (no (by rw[Vi];exact fun z=>h2 (jc.mp z).2.1))⟩
       . rw[if_neg (by omega)];exact⟨false,rfl,bJ (no (by rw[Vi];exact fun z=>h1 (jc.mp z).1))⟩
     . obtain⟨s4,rfl,b4⟩:=hP;refine⟨.im (ee p),s4,?_,rfl,b4⟩;rw[Sx,Uh,vb hp]
   . obtain⟨s3,s4,rfl,b3,b4⟩:=hP;rw[Sx,zf];exact⟨_,rfl,_,rfl,q L hL⟩
end
end cG
namespace cG
open PySem L2 LB LD MH bC PyProof.Rows
def mZ:DN:=fun ds Q=> ∃hs:List Nat,ds= [aB hs]/\1<=hs.length/\hs.length<=12/\(∀x∈hs,x<=hs.length)/\ ∀b,(b=true↔Hg hs)->Q (.bl b)
noncomputable def cz(L:List Nat):List Int:=L.map Int.ofNat
theorem ny:(cz L).length=L.length:=Sx ..
theorem qZ:cz (L++M)=cz L++cz M:=TV ..
theorem CH{L:List Nat}(h:L.Nodup):(cz L).Nodup:=List.Pairwise.map _ (fun a b (n:a≠b) (z:Int.ofNat a=Int.ofNat b)=>n (Int.ofNat.inj z)) h
theorem qe{x:Nat}: ∀{L:List Nat},(iP (uC (cz L)) (zT (cz L)) (.inl (x:Int))).isSome=decide (x∈L)
 | []=>by simp [cz,uC,zT,iP]
 | y::L=>by
  show(iP (.inl (y:Int)::uC (cz L)) (.bl true::zT (cz L)) (.inl (x:Int))).isSome=_;rw[iP];by_cases c:y=x
  . subst c;rw[if_pos rfl];simp
  . rw[if_neg (fun z=>c (by have:=Sum.inl.inj z;omega)),qe];have:x≠y:=fun z=>c z.symm;simp [this]
noncomputable def D6(f:Nat->Nat->Bool):Dt->Bool
 | .tup [.int a, .int b]=>f a.toNat b.toNat
 | _=>false
theorem mS:D6 f (.tup [nD x,nD y])=f x y:=by
 show f ((x:Int)).toNat ((y:Int)).toNat=_;rw[Tp,Tp]
noncomputable def Bj:Dt->Dt
 | .tup [a,_]=>a
 | d=>d
section
variable {P : Program} {w : World} {K : PySem.W.Frag} {mg : Str -> Option Value} {base : Heap}
theorem ur(F:g8 K "_law_is_hung" "_law_is_hung" bU f fd)(T:Txt mg):aV P w K mg base eI 1 f fd ["_law_h"] (cC mZ):=by
 refine qP F fI (fun ds Qd h=>?_) (fun b5 A outer s H E hr=>⟨_,(aC (Am 1 fI.nd hr.hd T.MZ (aa (Ov.ev (ef (N:= ["_law_word","_law_on"]) (nt:=2) (js:= []) ⟨rfl,by decide+kernel,by decide,rfl,by decide+kernel,(by show∀x∈(_:List (Str × NameKind)),x.2=NameKind.free->(ab bU).names.lookup x.1=some .cell\/(ab bU).names.lookup x.1=some .free;decide+kernel)⟩ rfl (m3 T.Kk (aa (dv 0) (aa aD aj))) (fun _ _ _ _ _=>ip rfl (bf (aJ (i:=0) (show(["_law_word","_law_on"]:List Str).Nodup by decide+kernel) rfl (by first | exact Or.inl rfl | exact Or.inr rfl)) (bf (aJ (i:=1) (show(["_law_word","_law_on"]:List Str).Nodup by decide+kernel) rfl (by first | exact Or.inl rfl | exact Or.inr rfl)) fJ))) dI cP (fun _ _ _ _ _=>lJ (Dc (dv 1) aD)) (fun _ _ _ _ _=>eM (aa (dv 0) (aa pD aj))))) aj))
 (aC (ig (wd (qW 1 T.len (pv 1)) aD) (aF (aS pD)) dz)
 (aC (fU rfl (HV (dv 0)) (dj 2 fI.nd)
 (aC (An 3 1 fI.nd (N:= ["_law_word","_law_on","_law_placed"]) (nt:=2) (js:= [1]) ⟨rfl,by decide+kernel,by decide,rfl,by decide+kernel,(by show∀x∈(_:List (Str × NameKind)),x.2=NameKind.free->(ab bU).names.lookup x.1=some .cell\/(ab bU).names.lookup x.1=some .free;decide+kernel)⟩ rfl (m3 T.Kk (aa (dv 0) (aa aD aj))) (fun _ _ _ _ _=>ip rfl (bf (aJ (i:=0) (show(["_law_word","_law_on","_law_placed"]:List Str).Nodup by decide+kernel) rfl (by first | exact Or.inl rfl | exact Or.inr rfl)) (bf (aJ (i:=1) (show(["_law_word","_law_on","_law_placed"]:List Str).Nodup by decide+kernel) rfl (by first | exact Or.inl rfl | exact Or.inr rfl)) fJ))) dI cP (fun _ _ _ _ _=>lJ (PW.pt (w_and (GL (sP hr) (dv 1) (dv 2)) (v3 (we (sP hr) (dv 0) (dv 2)))))) (fun _ _ _ _ _=>dv 0))
 (aC (ji (Fm 1 hr.hd (pv 1) (aa (Ov.ev (ef (N:= ["_law_word"]) (nt:=1) (js:= []) ⟨rfl,by decide+kernel,by decide,rfl,by decide+kernel,(by show∀x∈(_:List (Str × NameKind)),x.2=NameKind.free->(ab bU).names.lookup x.1=some .cell\/(ab bU).names.lookup x.1=some .free;decide+kernel)⟩ rfl (dh (dv 3)) (fun _ _ _ _ _=>aJ (i:=0) (show(["_law_word"]:List Str).Nodup by decide+kernel) rfl (by first | exact Or.inl rfl | exact Or.inr rfl)) bO aR (fun _ _ _ _ _=>gX) (fun _ _ _ _ _=>eM (aa (dv 0) (aa pD aj))))) aj)))
 (aF (ig (oi hr.qf (dv 3)) (aF (aS (u7 (qW 1 T.len (pv 1)) (fF T.len (aa (dv 0) aj))))) dz)))) Um)
 (aF (aS (u7 (qW 1 T.len (pv 1)) (fF T.len (aa (dv 0) aj)))))))),fun ds Qd h=>?_⟩)
 . obtain⟨hs,rfl,_⟩:=h;rfl
 . obtain⟨hs,rfl,h1,Cq,hle,q⟩:=h;have hl:(dM 1 (hs.map nD)).length=hs.length:=by rw[yH,Sx,T3]
   have dl:(hs.map nD).length=hs.length:=Sx ..;refine⟨_,rfl,_,rfl,by rw[hl];exact T5 (aM (by omega)),D6 fun _ y=>decide (y=0),fun d=> .tup [Bj d, .bl true],fun d hd=>?_,?_⟩
   . rw[yH] at hd;obtain⟨x,_,rfl⟩:=SU.mp hd;refine⟨_,_,rfl,⟨_,rfl,rfl⟩,⟨_,rfl,rfl⟩,_,rfl,_,pd (y:=0),_,rfl,?_,fun _=>⟨_,rfl,by show 2<=sizeLine;decide,rfl⟩⟩;rw[mS]
   have e0:List.map (fun d=>Dt.tup [Bj d, .bl true]) (List.filter (D6 fun _ y=>decide (y=0)) (dM 1 (hs.map nD)))=(cz (eQ hs)).map F8:=by
    rw[yH,Vs,S5];have:(D6 (fun _ y=>decide (y=0)) ∘ fun x=>Dt.tup [nD x,nD (up hs x)])=fun x=>decide (up hs x=0):=by funext x;exact mS
    rw[this];unfold cz eQ;rw[S5];rfl
   rw[e0];have tl:(eQ hs).length<=12:=S4 (UD _ _) (by rw[T3];exact Cq);refine⟨cz (eQ hs),rfl,CH rK,by rw[ny];omega,⟨_,rfl,rfl⟩,?_⟩;have kl: ∀L:List Nat,(uC (cz L)).length=L.length:=fun L=>by unfold uC;rw[Sx,ny]
   refine⟨_,_,rfl,decide ((eQ hs).length=1),by rw[kl];exact pd (x:=(eQ hs).length) (y:=1),_,rfl,?_⟩;by_cases c1:(eQ hs).length=1
   . obtain ⟨t, ht⟩ : ∃ t, eQ hs = [t] := by
       match h:eQ hs,c1 with
       | [t],_=>exact⟨t,rfl⟩
     rw[TK c1];refine bJ ?_;rw[ht];refine⟨_,rfl,_,rfl,fun i δ=> ∃L rk s2 s3,δ= [.im (aB hs), .dk (uC (cz L)) (zT (cz L)),s2,s3]/\(s2= .no\/ ∃d,s2= .im d)/\(s3= .no\/ ∃d,s3= .im d)/\vA hs t (i+1) L rk,⟨[t],_, .no, .no,rfl, .inl rfl, .inl rfl,vA.start ht⟩,fun i d δ hi hP=>?_,fun δ hP=>?_⟩
     . obtain⟨L,rk,s2,s3,rfl,o2,o3,g⟩:=hP;have gl:=g.le;have b2:s2.cO=false:=by rcases o2 with rfl | ⟨_,rfl⟩ <;> rfl
       have b3:s3.cO=false:=by rcases o3 with rfl | ⟨_,rfl⟩ <;> rfl
       refine⟨⟨_,rfl,b2⟩,?_⟩;refine⟨_,_,rfl,?_,_,rfl,_,rfl,by rw[hl];exact T5 (aM (by omega)),D6 fun x y=>decide (y∈L) && !decide (x∈L),Bj,fun e he=>?_,?_⟩
       . intro j s nj hj;match j,nj,hj with
         | 0,_,hj=>cases hj;exact .inr (.inl ⟨_,rfl⟩)
         | 1,nj,_=>exact absurd rfl nj
         | 2,_,hj=>cases hj;exact .inr (.inl ⟨_,rfl⟩)
         | 3,_,hj=>
          cases hj;rcases o3 with rfl | ⟨d3,rfl⟩
          . exact .inl rfl
          . exact .inr (.inl ⟨_,rfl⟩)
         | n+4,_,hj=>cases hj
       . rw[yH] at he;obtain⟨x,_,rfl⟩:=SU.mp he;refine⟨_,_,rfl,⟨_,rfl,rfl⟩,⟨_,rfl,rfl⟩,_,rfl,_,rfl,_,_,_,rfl,rfl,_,rfl,?_⟩;rw[mS];rw[if_neg SG,qe];by_cases cy:up hs x∈L
         . rw[TK cy];refine dE ⟨_,rfl,_,rfl,_,_,_,rfl,rfl,_,rfl,?_,fun _=>⟨_,rfl,rfl⟩⟩;rw[if_pos rfl,qe,Bool.true_and]
         . rw[S9 cy];exact bJ ⟨by rw[Bool.false_and],fun z=>by cases z⟩
       . have e1 : List.map Bj (List.filter (D6 fun x y => decide (y ∈ L) && !decide (x ∈ L)) (dM 1 (hs.map nD))) = (cz (bN hs L)).map .int := by
           rw[yH,Vs,S5];have:(D6 (fun x y=>decide (y∈L) && !decide (x∈L)) ∘ fun x=>Dt.tup [nD x,nD (up hs x)])=fun x=>decide (up hs x∈L) && !decide (x∈L):=by funext x;exact mS
           rw[this];unfold cz bN;rw[S5];rfl
         rw[e1];have ml:(bN hs L).length<=12:=S4 (UD _ _) (by rw[T3];exact Cq);refine⟨rfl,⟨_,rfl⟩,⟨_,rfl,b3⟩,?_⟩;refine⟨⟨_,_,rfl⟩,_,rfl,_,rfl,by rw[Sx,ny];exact T5 (aM (by omega)),fun _=>true,fun d=> .tup [d, .bl true],fun e he=>⟨⟨_,rfl,rfl⟩,rfl,fun _=>⟨_,rfl,by show 2<=sizeLine;decide,rfl⟩⟩,?_⟩;rw[Uj.mpr (fun _ _=>rfl)];have e2:((cz (bN hs L)).map Dt.int).map (fun d=>Dt.tup [d, .bl true])=(cz (bN hs L)).map F8:=by rw[S5];rfl
         rw[e2];refine⟨cz L,cz (bN hs L),rfl,rfl,by rw[<-qZ];exact CH g.zq,by rw[<-qZ,ny,SV];omega,?_⟩;rw[<-qZ];refine⟨_,rfl,_,rfl,_,rfl,?_⟩;by_cases ce:bN hs L= []
         . rw[ce,TX];refine dE ?_;refine⟨_,_,rfl,_,rfl,_, .inr rfl,decide (L.length=hs.length),?_,?_⟩
           . rw[kl,dl];exact pd
           . refine q _ ?_;rw[Uv];exact g.iff ht hle ce
         . have ne : ((cz (bN hs L)).map Dt.int).isEmpty = false := by
             cases hm:bN hs L with
             | nil=>exact absurd hm ce
             | cons a l=>rfl
           rw[show(if false=true then !((cz (bN hs L)).map Dt.int).isEmpty else((cz (bN hs L)).map Dt.int).isEmpty)=false by rw[if_neg SG];exact ne];refine bJ ?_;exact⟨L++bN hs L,_,_,_,rfl, .inr ⟨_,rfl⟩, .inr ⟨_,rfl⟩,g.step ce⟩
     . obtain⟨L,rk,s2,s3,rfl,o2,o3,g⟩:=hP;exfalso;have a:=g.len;have b:=g.le;rw[dl] at a;omega
   . rw[S9 c1];refine dE ?_;refine q false ⟨fun z=>(by cases z),fun hg=>?_⟩;obtain⟨t,ht⟩:=wa hg;rw[ht] at c1;exact absurd rfl c1
end
end cG
namespace cG
open PySem PySem.Spec L2 LB LD MH bC PyProof.Rows
def yo:DN:=fun ds Q=> ∃(s:List Nat) (on:Nat),ds= [aB s,nD on]/\Ac s/\s.length<=12/\ ∀b,(b=true↔Fits s on)->Q (.bl b)
def Ef:DN:=fun ds Q=> ∃(s:List Nat) (on:Nat),ds= [aB s,nD on]/\nN s/\s.length<=12/\(∀x∈s,x<=12)/\on<=12/\Q (.bl (jA s on))
noncomputable def Ob(s:List Nat)(rk:Nat->Nat)(a:Nat):Nat:=if 1<=a/\a<=s.length then rk a+1 else 0
inductive Rz(s:List Nat)(on:Nat)(rk:Nat->Nat)(m:Nat)(δ:List Sl):Prop
 | mk (a:Nat) (e:δ= [.im (aB s), .im (nD on), .im (nD (s.length+1)), .im (nD a)]) (h:Ob s rk a=m) (r:Rc s on (s.length+1)↔Rc s a (s.length+1))
noncomputable def Jl(n:Nat × Nat)(d:Dt):Dt:= .bl (dN n (b8 d) || dN (b8 d) n)
theorem AS{L:List (Nat × Nat)}(hL:L.Perm (fT s)):(L.any fun q=>dN (eW (s.length+1) on) q || dN q (eW (s.length+1) on))=false↔NH s on:=by
 rw[List.any_eq_false];constructor
 . intro h x h1 h2;have:=h (b9 s x) (hL.mem_iff.mpr (by unfold fT;exact VQ (TY.mpr ⟨h1,by lia⟩)));rw[Bool.not_eq_true,Bool.or_eq_false_iff] at this;exact this
 . intro h q hq;have hq:=hL.mem_iff.mp hq;unfold fT at hq;obtain⟨x,hx,rfl⟩:=SU.mp hq;have hx:=TY.mp hx;rw[Bool.not_eq_true,Bool.or_eq_false_iff];exact h x hx.1 (by lia)
section
variable {P : Program} {w : World} {K : PySem.W.Frag} {mg : Str -> Option Value} {base : Heap}
theorem sr(F:g8 K "fits" "fits" rU f fd)(T:Txt mg):aV P w K mg base eI 1 f fd ["start","on"] (cC yo):=by
 refine qP F mJ (fun ds Qd h=>?_) (fun b5 A outer s H E hr=>⟨_,(aC (cI 2 mJ.nd (lN (fF T.len (aa (dv 0) aj)) aD))
 (aC (ig (Dc (dv 1) aD)
 (aF (aS (Bs aD (dv 0))))
 dz)
 (aC (cI 3 mJ.nd (dv 1))
 (aC (Al (GJ aD (dv 3) (dv 2))
 (aF (cI 3 mJ.nd (ky (dv 0) (yO (dv 3) aD)))) Um)
 (aF (aS (M5 (dv 3) (dv 2)))))))),fun ds Qd h=>?_⟩)
 . obtain⟨s,on,rfl,_⟩:=h;rfl
 . obtain⟨s,on,rfl,ac,LV,q⟩:=h;obtain⟨rk,kc⟩:=ac;refine⟨_,rfl,_, .inr rfl,_,_,rfl,rfl,⟨_,rfl,rfl⟩,?_⟩;rw[show(((s.map nD).length:Nat):Int)+1=((s.length+1:Nat):Int) by rw[Sx];rfl];refine⟨_,rfl,_,pd (y:=0),_,rfl,?_⟩;by_cases e:on=0
   . rw[TK e];refine dE ⟨_,rfl,_, .inr rfl,rfl,Cs s,q _ ?_⟩;unfold Fits;rw[if_pos e];show(!inD (nD 0) (s.map nD))=true↔_;rw[Qg];simp
   . rw[S9 e];refine bJ ⟨_,rfl,⟨_,rfl,rfl⟩,?_⟩;have fin: ∀a:Nat,(Rc s on (s.length+1)↔Rc s a (s.length+1))->(a=0\/s.length < a)->((!decide (a=s.length+1))=true↔Fits s on):=fun a lr ha=>by
      unfold Fits;rw[if_neg e,lr,Vh,Vp];exact⟨fun h r=>h (r.stop ha),fun h z=>h (z▸Rc.refl)⟩
     refine tV (Rz s on rk) ⟨_,on,rfl,rfl,Iff.rfl⟩ fun m δ hI Δ2 Mg _=>?_;obtain⟨a,rfl,hm,lr⟩:=hI;refine⟨_,rfl,_,_,rfl,rfl,_,rfl,?_⟩;by_cases a0:0 < a
     . rw[TK (show(0:Int) < (a:Int) by lia)];refine dE ⟨_,rfl,_,_,rfl,rfl,_,rfl,?_⟩;by_cases a1:a < s.length+1
       . rw[TK (show(a:Int) < ((s.length+1:Nat):Int) by lia)];refine dE ⟨_,rfl,_,rfl,_,_,rfl,rfl,_,_,_, .inr rfl,rfl,Rk (by lia) (by lia),⟨_,rfl,rfl⟩,Mg _ _ ?_ ⟨up s a,rfl,rfl,lr.trans (Rc.cm (by lia) (by lia) (by lia))⟩⟩;rw[<-hm];unfold Ob;rw[if_pos (show 1<=a/\a<=s.length by lia)];by_cases c:1<=up s a/\up s a<=s.length
         . rw[if_pos c];have:=kc a (by lia) (by lia) c.1 c.2;lia
         . rw[if_neg c];lia
       . rw[S9 (show¬(a:Int) < ((s.length+1:Nat):Int) by lia)];exact bJ ⟨_,rfl,_,rfl,_,pd,q _ (fin a lr (.inr (by lia)))⟩
     . rw[S9 (show¬(0:Int) < (a:Int) by lia)];exact bJ ⟨_,rfl,bJ ⟨_,rfl,_,rfl,_,pd,q _ (fin a lr (.inl (by lia)))⟩⟩
theorem mT(F:g8 K "fits_plain" "fits_plain" cJ f fd)(T:Txt mg)(zC:gB P w K mg base "fits" 1 ["start","on"] (cC yo))(vC:gB P w K mg base "tie" 1 ["word","on"] (cC C8))(nO:gB P w K mg base "cross" 1 ["first","second"] (cC ze))(zw:gB P w K mg base "ties" 2 ["h"] (cC BX)):aV P w K mg base eI 3 f fd ["start","on"] (cC Ef):=by
 refine qP F iG (fun ds Qd h=>?_) (fun b5 A outer s H E hr=>⟨_,(aC (ig (rO (fY (bR zC (hr.mono (by decide)) (aa (dv 0) (aa (dv 1) aj)))))
 (aF (aS pD))
 dz)
 (aC (cI 2 iG.nd (bR vC (hr.mono (by decide)) (aa (lN (fF T.len (aa (dv 0) aj)) aD) (aa (dv 1) aj))))
 (aF (aS (CA (IV rfl T.any (aa (Ov.ev (ef (N:= ["old","new"]) (nt:=1) (js:= [2]) ⟨rfl,by decide+kernel,by decide,rfl,by decide+kernel,(by show∀x∈(_:List (Str × NameKind)),x.2=NameKind.free->(ab cJ).names.lookup x.1=some .cell\/(ab cJ).names.lookup x.1=some .free;decide+kernel)⟩ rfl (dh (bR zw (hr.mono (by decide)) (aa (dv 0) aj))) (fun _ _ _ _ _=>aJ (i:=0) (show(["old","new"]:List Str).Nodup by decide+kernel) rfl (by first | exact Or.inl rfl | exact Or.inr rfl)) bO aR (fun _ _ _ _ _=>gX) (fun _ _ _ _ _=>(IS (bR nO (hr.mono (by decide)) (aa (dv 1) (aa (dv 0) aj))) (jU (bR nO (hr.mono (by decide)) (aa (dv 0) (aa (dv 1) aj)))))))) aj))))))),fun ds Qd h=>?_⟩)
 . obtain⟨s,on,rfl,_⟩:=h;rfl
 . obtain⟨s,on,rfl,ok,LV,hle,RO,q⟩:=h;have bl: ∀b:Bool,(b=true↔Gs s on)->Qd (.bl b):=fun b hb=>by
    have:b=jA s on:=by rw[T4,hb,gP]
    rw[this];exact q
   refine⟨_,rfl,_,rfl,s,on,rfl,ok.ac,LV,fun b hb=>⟨_,rfl,?_⟩⟩;cases b with
   | false=>exact dE (bl false ⟨fun z=>(nomatch z),fun z=>hb.mpr z.1⟩)
   | true=>
    have hf:=hb.mp rfl;refine bJ ⟨_,rfl,_, .inr rfl,_,_,rfl,rfl,_,rfl,s.length+1,on,?_,⟨_,rfl,rfl⟩,?_⟩
    . rw[Sx];rfl
    refine⟨_,rfl,s,rfl,LV,hle,fun L hL=>?_⟩;have Ll:L.length=s.length:=hL.length_eq.trans kQ;refine⟨_,rfl,by rw[Sx];exact T5 (aM (by lia)),fun _=>true,Jl (eW (s.length+1) on),fun d hd=>?_,?_⟩
    . obtain⟨p,_,rfl⟩:=SU.mp hd;refine⟨⟨_,rfl,rfl⟩,rfl,fun _=>?_⟩;refine⟨_,rfl,_,rfl,eW (s.length+1) on,p,rfl,?_⟩;unfold Jl;rw[gH];cases c:dN (eW (s.length+1) on) p with
      | true=>exact⟨_,rfl,dE rfl⟩
      | false=>exact⟨_,rfl,bJ ⟨_,rfl,_,rfl,p,eW (s.length+1) on,rfl,rfl⟩⟩
    . refine⟨L.map fun q=>dN (eW (s.length+1) on) q || dN q (eW (s.length+1) on),?_,?_⟩
      . rw[Uj.mpr fun _ _=>rfl,S5,S5];congr 2
      . refine⟨_,rfl,bl _ ?_⟩;rw[List.any_map];show(!(L.any fun q=>dN (eW (s.length+1) on) q || dN q (eW (s.length+1) on)))=true↔_;rw[Vh,AS hL];exact⟨fun z=>⟨hf,z⟩,fun z=>z.2⟩
end
noncomputable def x6(fm:Addr):DS:=fun ss Q=> ∃n:Nat,ss= [.im (nD n), .fn fm]/\1<=n/\n<=6/\Q (.lst ((grow n n).map aB))
noncomputable def FP:DN:=fun ds Q=> ∃n:Nat,ds= [nD n]/\1<=n/\n<=6/\Q (.lst ((grow n n).map aB))
inductive RC(n:Nat)(fm:Addr)(i:Nat)(δ:List Sl):Prop
 | mk (s3:Sl) (e:δ= [.im (nD n), .fn fm, .im (.lst ((grow n i).map aB)),s3]) (b:s3.cO=false)
theorem jK: ∀k:Nat,(grow n k).length<=(n+1)^k
 | 0=>SD _
 | k+1=>by
  show((grow n k).flatMap _).length<=_;refine S4 (dJ (k:=n+1) fun s _=>?_) ?_
  . rw[Sx];exact S4 (UD _ _) (by rw[Tf];exact SD _)
  . rw[U7];exact Vj _ (jK k)
theorem qL(hn:n<=6)(hk:k<=6):(grow n k).length < sizeLine:=by
 have h1:(n+1)^k<=7^k:=UM (by lia) k;have h2:7^k<=7^6:=UH (by lia) hk;have:=jK (n:=n) k;rw[TZ];lia
noncomputable def kg:Dt->List Nat
 | .tup ds=>ds.map fun d=>match d with | .int i=>i.toNat | _=>0
 | _=> []
theorem cB:kg (aB s)=s:=by
 show(s.map nD).map _=s;rw[S5];refine(Ui fun x _=>?_).trans (List.map_id s);show((x:Int)).toNat=x;exact Tp x
noncomputable def o4(n:Nat)(d:Dt):List Dt:=(((List.range (n+1)).filter (jA (kg d))).map fun o=>kg d++ [o]).map aB
theorem lz:((grow n k).map aB).flatMap (o4 n)=(grow n (k+1)).map aB:=by
 show _=((grow n k).flatMap _).map aB;rw[List.map_flatMap,List.flatMap_map];congr 1
 funext s
 show o4 n (aB s)=_;unfold o4;rw[cB]
theorem kW:((List.range (((n:Nat):Int)+1).toNat).map fun k=>Dt.int (0+((k:Nat):Int)))=(List.range (n+1)).map nD:=by
 rw[show(((n:Nat):Int)+1).toNat=n+1 by lia];refine Ui fun k _=>?_;rw[Int.zero_add];rfl
section
variable {P : Program} {w : World} {K : PySem.W.Frag} {mg : Str -> Option Value} {base : Heap}
theorem xr(hM:vD P w K mg base fm 3 ["start","on"] (cC Ef))(F:g8 K "grown" "grown" fe f fd)(T:Txt mg):aV P w K mg base eI 4 f fd ["n","may_follow"] (spS (x6 fm)):=by
 refine OH F cW (fun ss Qd h=>?_) (fun b5 A outer s H E hr=>⟨_,(aC (cI 2 cW.nd (lM (aa (eM aj) aj)))
 (aC (fU rfl (fu T.uf (aa (dv 0) aj)) (dj 3 cW.nd)
 (aF (oz 2 1 (N:= ["start","on","n","may_follow"]) (nt:=2) (js:= [0,1]) cW.nd ⟨rfl,by decide+kernel,by decide,rfl,by decide+kernel,(by show∀x∈(_:List (Str × NameKind)),x.2=NameKind.free->(ab fe).names.lookup x.1=some .cell\/(ab fe).names.lookup x.1=some .free;decide+kernel)⟩ rfl
 (dh (dv 2)) (fun _ _ _ _ _=>aJ (i:=0) (show(["start","on","n","may_follow"]:List Str).Nodup by decide+kernel) rfl (by first | exact Or.inl rfl | exact Or.inr rfl)) bO aR (fun _ _ _ _ _=>gX) (fun _ _ _ _ _=>(fu T.uf (aa (lN (dv 2) aD) aj))) (fun _ _ _ _ _=>aJ (i:=1) (show(["start","on","n","may_follow"]:List Str).Nodup by decide+kernel) rfl (by first | exact Or.inl rfl | exact Or.inr rfl)) lC aR (fun _ _ _ _ _=>lJ (fY (CD 3 hM (hr.mono (by decide)) (pv 3) (aa (dv 0) (aa (dv 1) aj))))) (fun _ _ _ _ _=>(qX (dv 0) (eM (aa (dv 1) aj)))))) Um)
 (aF (aS (dv 2))))),fun ss Qd h=>?_⟩)
 . obtain⟨n,rfl,_⟩:=h;rfl
 . obtain⟨n,rfl,n1,n6,q⟩:=h;refine⟨by show 0<=sizeLine;decide,by show 1<=sizeLine;decide,⟨_,rfl,rfl⟩,?_⟩;refine⟨_,rfl,n,rfl,by lia,by lia,?_⟩;refine ez (RC n fm) ⟨.no,rfl,rfl⟩ (fun i d δ hi hP Δ' uI _=>?_) (fun δ hP=>?_)
   . obtain⟨s3,rfl,b3⟩:=hP;have il:i < n:=by have:=(SM.mp hi).1;simp at this;exact this
     refine⟨⟨_,rfl,b3⟩,?_⟩;refine⟨_,rfl,_,rfl,o4 n,?_,fun d hd=>?_,?_⟩
     . rw[lz,Sx];exact qL n6 (by lia)
     . obtain⟨s,hs,rfl⟩:=SU.mp hd;obtain⟨ok,sl,sle⟩:=gO.mp hs;refine⟨⟨_,rfl,rfl⟩,?_⟩;simp only [yW,VP];refine⟨_,rfl,_,_,rfl,rfl,((n:Nat):Int)+1,rfl,by lia,by lia,Ci (jA s),D7 fun o=>aB (s++ [o]),fun e he=>?_,?_⟩
       . rw[kW] at he;obtain⟨o,ho,rfl⟩:=SU.mp he;have:=Td.mp ho;refine⟨⟨_,rfl,rfl⟩,rfl,_,rfl,_,rfl,s,o,rfl,ok,by lia,fun x hx=>by have:=sle x hx;lia,by lia,_,rfl,by rw[mY],fun _=>?_⟩;exact⟨_,rfl,_,rfl,by show 1<=sizeLine;decide,_,_,rfl,rfl,by rw[Sx];exact T5 (aM (by show s.length+1<=1000;lia)),by rw[ir];unfold aB;rw[TV];rfl⟩
       . rw[kW];unfold o4;rw[cB,S5,Vs,S5];have e1:(Ci (jA s) ∘ nD)=jA s:=by funext o;exact mY
         rw[e1];refine Ui fun o _=>?_;show aB (s++ [o])=D7 (fun o=>aB (s++ [o])) (nD o);rw[ir]
     . rw[lz];exact⟨⟨_,rfl,rfl⟩,uI _ ⟨_,rfl,rfl⟩⟩
   . obtain⟨s3,rfl,b3⟩:=hP;rw[Sx,Tf,Tp];exact⟨_,rfl,q⟩
theorem oJ(gF:mg "fits_plain"=some (.ref fm))(F:g8 K "all_plain" "all_plain" ik f fd)(T:Txt mg)(kb:gB P w K mg base "grown" 4 ["n","may_follow"] (spS (x6 fm))):aV P w K mg base eI 5 f fd ["n"] (cC FP):=by
 refine qP F qm (fun ds Qd h=>?_) (fun b5 A outer s H E hr=>⟨_,(aF (aS (CC kb (hr.mono (by decide)) (GD (dv 0) (GF (by rfl) gF BU))))),fun ds Qd h=>?_⟩)
 . obtain⟨n,rfl,_⟩:=h;rfl
 . obtain⟨n,rfl,n1,n6,q⟩:=h;exact⟨_,rfl,n,rfl,n1,n6,q⟩
end
end cG
namespace MH
noncomputable def aL(p:List Nat->Nat->Bool)(n:Nat):Nat->List (List Nat)
 | 0=> [[]]
 | k+1=>(aL p n k).flatMap fun s=>((List.range (n+1)).filter (p s)).map fun o=>s++ [o]
theorem gU: ∀{k:Nat} {s:List Nat},s∈aL p n k->s.length=k/\ ∀x∈s,x<=n
 | 0,s,h=>by rw[SS.mp h];exact⟨rfl,fun x hx=>absurd hx SH⟩
 | k+1,s,h=>by
  obtain⟨t,ht,h⟩:=U5.mp h;obtain⟨o,ho,rfl⟩:=SU.mp h;obtain⟨b,c⟩:=gU ht;have o1:=Td.mp (TN.mp ho).1;refine⟨by rw[SV,b];rfl,fun x hx=>?_⟩;rcases Ts.mp hx with y | y
  . exact c x y
  . rw[SS.mp y];lia
theorem fL(hn:n<=12): ∀(k:Nat),(aL p n k).Pairwise fun a b=>va 100 0 a < va 100 0 b
 | 0=>List.pairwise_singleton ..
 | k+1=>by
  refine iq (fL hn k) (fun s hs=>?_) (fun s hs t ht c x hx y hy=>?_)
  . rw[We];refine VN _ (List.Pairwise.imp ?_ List.pairwise_lt_range);intro a b h;rw[cA,cA];lia
  . obtain⟨o,ho,rfl⟩:=SU.mp hx;obtain⟨q,hq,rfl⟩:=SU.mp hy;have:=Td.mp (TN.mp ho).1;rw[cA,cA];lia
theorem fC: ∀(k:Nat),(∀j,j < k-> ∀s∈aL q n j,∀o,o<=n->p s o=q s o)->aL p n k=aL q n k
 | 0,_=>rfl
 | k+1,h=>by
  show(aL p n k).flatMap _=(aL q n k).flatMap _;rw[fC k fun j hj=>h j (by lia)];have: ∀(l:List (List Nat)),(∀s∈l,s∈aL q n k)->l.flatMap (fun s=>((List.range (n+1)).filter (p s)).map fun o=>s++ [o])=l.flatMap (fun s=>((List.range (n+1)).filter (q s)).map fun o=>s++ [o]):=fun l=>by
   induction l with
   | nil=>intro _;rfl
   | cons s l ih=>
    intro hl;rw[Wf,Wf,ih fun x hx=>hl x (Tn _ hx)];congr 2
    exact List.filter_congr fun o ho=>h k (by lia) s (hl s TM) o (UJ (Td.mp ho))
  exact this _ fun s hs=>hs
theorem FN{s:List Nat}(l:s.length=k)(le: ∀x∈s,x<=n):s∈aL (fun _ _=>true) n k:=by
 induction k generalizing s with
 | zero=>rw[Uq.mp l];exact SS.mpr rfl
 | succ k ih=>
  rcases List.eq_nil_or_concat s with e | ⟨t,o,e⟩
  . rw[e] at l;cases l
  . rw[List.concat_eq_append] at e;subst e;refine U5.mpr ⟨t,ih (by simpa using l) fun x hx=>le x (by simp [hx]),SU.mpr ⟨o,TN.mpr ⟨Td.mpr (by have:=le o (by simp);lia),rfl⟩,rfl⟩⟩
theorem x9(n:Nat): ∀k,grow n k=aL jA n k
 | 0=>rfl
 | k+1=>by
  show(grow n k).flatMap _=(aL jA n k).flatMap _;rw[x9 n k]
inductive pZ:List Nat->Prop
 | nil:pZ []
 | snoc {s:List Nat} {o:Nat}:pZ s->Fits s o->pZ (s++ [o])
theorem pZ.last(h:pZ (s++ [o])):pZ s/\Fits s o:=by
 generalize e:s++ [o]=t at h;cases h with
 | nil=>simp at e
 | snoc h m=>obtain⟨rfl,rfl⟩:=ou e;exact⟨h,m⟩
theorem pZ.ac(h:pZ s):Ac s:=by
 induction h with
 | nil=>exact⟨fun _=>0,fun w h1 h2=>by simp at h2;lia⟩
 | @snoc s o _ m ih=>
  classical
  obtain⟨rk,kc⟩:=ih;obtain⟨M,hM⟩:=Dr s rk s.length;refine⟨fun x=>if x=s.length+1 then M+1 else if Rc s x (s.length+1) then M+2+rk x else rk x,fun w h1 h2 h3 h4=>?_⟩;simp only [SV,VE] at h2 h4;by_cases e:w=s.length+1
  . subst e;rw[gg] at h3 h4 ⊢;have hf:=m;unfold Fits at hf;rw[if_neg (by lia)] at hf;have ne:o≠s.length+1:=fun z=>hf (z▸Rc.refl);dsimp only;rw[if_neg ne,if_neg hf,if_pos rfl];have:=hM o (by lia);lia
  . have w2:w<=s.length:=by lia
    rw[gf h1 w2] at h3 h4 ⊢;dsimp only;rw[if_neg e];by_cases e2:up s w=s.length+1
    . rw[if_pos e2,if_pos ((Rc.cm h1 w2 (by lia)).mpr (e2▸Rc.refl))];lia
    . have:=kc w h1 w2 h3 (by lia);rw[if_neg e2];by_cases r:Rc s w (s.length+1)
      . rw[if_pos r,if_pos ((Rc.cm h1 w2 (by lia)).mp r)];lia
      . rw[if_neg r,if_neg fun z=>r ((Rc.cm h1 w2 (by lia)).mpr z)];exact this
theorem pZ.zero(h:pZ s): ∀i j:Nat,s[i]?=some 0->s[j]?=some 0->i=j:=by
 induction h with
 | nil=>intro i j h;simp at h
 | @snoc s o _ m ih=>
  intro i j hi hj;have hf:=m;unfold Fits at hf;have key: ∀i:Nat,(s++ [o])[i]?=some 0->(i < s.length/\s[i]?=some 0)\/(i=s.length/\o=0):=fun i hi=>by
   by_cases c:i < s.length
   . rw[SY c] at hi;exact .inl ⟨c,hi⟩
   . rw[Tc (by lia)] at hi;cases k:i - s.length with
     | zero=>rw[k] at hi;simp at hi;exact .inr ⟨by lia,hi⟩
     | succ k'=>rw[k] at hi;simp at hi
  rcases key i hi with ⟨a,b⟩ | ⟨a,b⟩ <;> rcases key j hj with ⟨c,d⟩ | ⟨c,d⟩
  . exact ih i j b d
  . rw[if_pos d] at hf;exact absurd (SW b) hf
  . rw[if_pos b] at hf;exact absurd (SW d) hf
  . lia
theorem pZ.hg(h:pZ s)(h0:0 < s.length)(hle: ∀x∈s,x<=s.length):Hg s:=by
 obtain⟨rk,kc⟩:=h.ac;have ul: ∀w,1<=w->w<=s.length->up s w<=s.length:=fun w h1 h2=>hle _ (SW (bh h1 h2));refine⟨h0,hle,⟨rk,fun w h1 h2 h3=>kc w h1 h2 (by lia) (ul w h1 h2)⟩,?_⟩;have: ∀(m w:Nat),rk w<=m->1<=w->w<=s.length-> ∃t:Nat,s[t]?=some 0:=fun m=>by
  induction m with
  | zero=>
   intro w hm h1 h2;by_cases e:up s w=0
   . exact⟨w - 1,by rw[bh h1 h2,e]⟩
   . have:=kc w h1 h2 (by lia) (ul w h1 h2);lia
  | succ m ih=>
   intro w hm h1 h2;by_cases e:up s w=0
   . exact⟨w - 1,by rw[bh h1 h2,e]⟩
   . have:=kc w h1 h2 (by lia) (ul w h1 h2);exact ih (up s w) (by lia) (by lia) (ul w h1 h2)
 obtain⟨t,ht⟩:=this (rk 1) 1 (SD _) (SD _) h0;exact⟨t,ht,fun j hj=>h.zero j t hj ht⟩
theorem sk(g:Hg h): ∀k,k<=h.length->pZ (h.take k)
 | 0,_=>by simp;exact .nil
 | k+1,hk=>by
  have ih:=sk g k (by lia);have hl:(h.take k).length=k:=List.length_take_of_le (by lia);have e:h.take (k+1)=h.take k++ [up h (k+1)]:=by
   rw[List.take_succ_eq_append_getElem (by lia)];congr 2
   have:=bh (hs:=h) (w:=k+1) (by lia) hk;rw[Ug,Sy (by lia)] at this;exact Option.some.inj this
  rw[e];refine .snoc ih ?_
  . unfold Fits;by_cases z:up h (k+1)=0
    . rw[if_pos z];intro hm;obtain⟨i,hi⟩:=VD.mp hm;obtain⟨t,_,hu⟩:=g.one;have Mn:i < k:=by
       by_cases c:i < k
       . exact c
       . rw[Ub (by lia)] at hi;cases hi
      rw[UZ Mn] at hi;have a:=hu i hi;have b:=hu k (by have:=bh (hs:=h) (w:=k+1) (by lia) hk;rw[Ug,z] at this;exact this);lia
    . rw[if_neg z,hl];obtain⟨rk,kc⟩:=g.rk;have key: ∀{a b:Nat},Rc (h.take k) a b->b=k+1->rk b<=rk a:=fun{a b} r=>by
       induction r with
       | refl=>intro _;exact SD _
       | @step a b h1 h2 r ih=>
        intro eb;have i:=ih eb;rw[hl] at h2;rw[mC h1 h2] at i r;have nz:up h a≠0:=fun e0=>by
         have:=r.stop (.inl e0);lia
        have:=kc a h1 (by lia) nz;lia
      intro r;have:=key r rfl;have:=kc (k+1) (by lia) hk z;lia
theorem Hg.P1(g:Hg h):pZ h:=by
 have:=sk g h.length (SD _);rwa [Uh] at this
open Classical in
noncomputable def gr(s:List Nat)(o:Nat):Bool:=decide (Fits s o)
theorem gV:gr s o=true↔Fits s o:= @decide_eq_true_iff _ (_)
theorem i6: ∀{k:Nat} {s:List Nat},s∈aL gr n k↔pZ s/\s.length=k/\ ∀x∈s,x<=n
 | 0,s=>by
  unfold aL;rw[SS];constructor
  . rintro rfl;exact⟨.nil,rfl,fun x hx=>by simp at hx⟩
  . rintro⟨_,h,_⟩;exact Uq.mp h
 | k+1,s=>by
  show s∈(aL gr n k).flatMap _↔_;rw[U5];constructor
  . rintro⟨t,ht,h⟩
    obtain⟨o,ho,rfl⟩:=SU.mp h;obtain⟨o1,o2⟩:=TN.mp ho;obtain⟨a,b,c⟩:=i6.mp ht;refine⟨.snoc a (gV.mp o2),by simp [b],fun x hx=>?_⟩;rcases Ts.mp hx with y | y
    . exact c x y
    . rw[SS.mp y];have:=Td.mp o1;lia
  . rintro⟨a,b,c⟩
    rcases List.eq_nil_or_concat s with e | ⟨t,o,e⟩
    . rw[e] at b;simp at b
    . rw[List.concat_eq_append] at e;subst e;have l:=a.last;refine⟨t,i6.mpr ⟨l.1,by simpa using b,fun x hx=>c x (by simp [hx])⟩,SU.mpr ⟨o,TN.mpr ⟨Td.mpr (by have:=c o (by simp);lia),gV.mpr l.2⟩,rfl⟩⟩
theorem ni(n1:1<=n):s∈aL gr n n↔Hg s/\s.length=n:=by
 rw[i6];constructor
 . rintro⟨a,b,c⟩;exact⟨a.hg (by lia) (by rw[b];exact c),b⟩
 . rintro⟨a,b⟩;exact⟨a.P1,b,by rw[<-b];exact a.le⟩
theorem wz{l m:List (List Nat)}(hl:l.Pairwise fun a b=>va 100 0 a < va 100 0 b)(hm:m.Pairwise fun a b=>va 100 0 a < va 100 0 b)(h: ∀x,x∈l↔x∈m):l=m:=by
 have nd: ∀{l:List (List Nat)},l.Pairwise (fun a b=>va 100 0 a < va 100 0 b)->l.Nodup:=fun h=>h.imp fun z e=>by rw[e] at z;exact Tu _ z
 exact((List.perm_ext_iff_of_nodup (nd hl) (nd hm)).mpr h).eq_of_pairwise (fun a b _ _ h1 h2=>absurd h1 (Nat.lt_asymm h2)) hl hm
theorem FO(n1:1<=n)(zO:n<=12)(hq: ∀s,s.length=n->(∀x∈s,x<=n)->(q s=true↔Hg s)):(aL (fun _ _=>true) n n).filter q=aL gr n n:=by
 refine wz ((fL zO n).filter _) (fL zO n) fun s=>?_;rw[TN,ni n1];constructor
 . rintro⟨h1,h2⟩
   obtain⟨a,b⟩:=gU h1;exact⟨(hq s a b).mp h2,a⟩
 . rintro⟨h1,h2⟩
   have le: ∀x∈s,x<=n:=by rw[<-h2];exact h1.le
   exact⟨FN h2 le,(hq s h2 le).mpr h1⟩
theorem uR(n1:1<=n)(zO:n<=12)(hq: ∀s,Hg s->s.length=n->(q s=true↔CP s)):(aL gr n n).filter q=grow n n:=by
 refine wz ((fL zO n).filter _) (gS zO n) fun s=>?_;rw[TN,ni n1,eh];constructor
 . rintro⟨⟨h1,h2⟩,h3⟩
   have:=Pl.of h1 ((hq s h1 h2).mp h3);rwa [h2] at this
 . intro p;exact⟨⟨p.hg (by lia),p.len⟩,(hq s (p.hg (by lia)) p.len).mpr p.ok.xA⟩
noncomputable def EV(s:List Nat):Nat->Nat->Nat
 | 0,a=>a
 | f+1,a=>if 1<=a/\a<=s.length then EV s f (up s a) else a
noncomputable def qQ(s:List Nat)(o:Nat):Bool:=if o=0 then !s.contains 0 else decide (EV s (s.length+1) o≠s.length+1)
noncomputable def Bn(s:List Nat)(o:Nat):Bool:=decide (EV s (s.length+1) o=0\/s.length < EV s (s.length+1) o)
noncomputable def ix(s:List Nat)(o:Nat):Bool:=qQ s o && (List.range' 1 s.length).all fun x=>!dN (eW (s.length+1) o) (b9 s x) && !dN (b9 s x) (eW (s.length+1) o)
theorem yd{s:List Nat}(hb:s.length < b): ∀(f a:Nat),Rc s a b↔Rc s (EV s f a) b
 | 0,a=>Iff.rfl
 | f+1,a=>by
  unfold EV;by_cases c:1<=a/\a<=s.length
  . rw[if_pos c,<-yd hb f,<-Rc.cm c.1 c.2 hb]
  . rw[if_neg c]
theorem Ct(h:Bn s o=true):Fits s o↔qQ s o=true:=by
 have h:=T6 h;unfold Fits qQ;by_cases c:o=0
 . rw[if_pos c,if_pos c,Vh,<-Bool.not_eq_true,List.contains_iff_mem]
 . rw[if_neg c,if_neg c,decide_eq_true_iff,yd (Nat.lt_succ_self _) (s.length+1) o];constructor
   . intro n e;refine n ?_;have e:EV s (s.length+1) o=s.length+1:=e;rw[e];exact Rc.refl
   . intro n r;exact n (r.stop (by lia))
theorem HJ(h:Bn s o=true):jA s o=ix s o:=by
 rw[T4,gP];unfold Gs ix NH;rw[T9,Ct h,TH];refine and_congr Iff.rfl ⟨fun n x hx=>?_,fun n x x1 x2=>?_⟩
 . have:=TY.mp hx;obtain⟨a,b⟩:=n x this.1 (by lia);rw[a,b];rfl
 . have:=n x (TY.mpr ⟨x1,by lia⟩);rw[T9,Vh,Vh] at this;exact this
noncomputable def Gr(p:List Nat->Nat->Bool)(n:Nat):Bool:=(List.range n).all fun k=>(aL p n k).all fun s=>(List.range (n+1)).all (Bn s)
theorem zh(h:Gr p n=true): ∀j,j < n-> ∀s∈aL p n j,∀o,o<=n->Bn s o=true:=fun j hj s hs o ho=>
 TH.mp (TH.mp (TH.mp h j (Td.mpr hj)) s hs) o (Td.mpr (Nat.lt_succ_of_le ho))
theorem ya(h:Gr ix n=true):grow n n=aL ix n n:=by
 rw[x9];exact fC n fun j hj s hs o ho=>HJ (zh h j hj s hs o ho)
theorem E8(h:Gr qQ n=true):aL gr n n=aL qQ n n:=
 fC n fun j hj s hs o ho=>by rw[T4,gV];exact Ct (zh h j hj s hs o ho)
theorem counts: ∀n:Fin 5,(aL gr (n.val+1) (n.val+1)).length=(n.val+1)^n.val/\(grow (n.val+1) (n.val+1)).length= [1,2,7,30,143][n.val]!:=by
 have h: ∀n:Fin 5,Gr qQ (n.val+1)=true/\Gr ix (n.val+1)=true/\(aL qQ (n.val+1) (n.val+1)).length=(n.val+1)^n.val/\(aL ix (n.val+1) (n.val+1)).length= [1,2,7,30,143][n.val]!:=by decide+kernel
 intro n;obtain⟨a,b,c,d⟩:=h n;exact⟨by rw[E8 a];exact c,by rw[ya b];exact d⟩
theorem six:Gr ix 6=true/\(aL ix 6 6).length=728:=by decide+kernel
end MH
namespace cG
open PySem MH bZ
noncomputable def zI(g:List Nat):List Int:=g.map Int.ofNat
noncomputable def hL:List Nat:= [39079,24577,26488,37425,11986,4509,14391,6946,36062,24857,31323,4547,16347,22813,48910,46518,35313,41779,39387,37258,16948,28790,35256,14288,15144,44657,15067,44580,43569,22601,11138,47117,27402,31476,6037,45313,49387,7346,43325,27325,1886,12823,45236,49707,50365,30734,23257,20865,27331,2791,38770,2833,27875,37757,43749,19365,789,29247,30280,4841,36746,34354,9970,49246,23807,5231,2839,31309,16807,13263,45168,49242,4753,36658,11219,40732,9195,13666,38708,15981,13589,38631,37620,19044,16652,33873,13563,23955,34892,9453,21295,3377,40543,26041,32033,12402,16476,49944,31368,10400,35442,27965,8334,32039,48236,33734,16679,21150,2177,35658,11274,35581,17005,9874,35971,41224,26722,23178,4602,8676,19110,23581,27069,12567,35592,17016,21090,32579,12948,28601,10025,20091,1515,47538,28962,45894,43502,5869,30911,5792,37697,33239,8855,17399,2897,13289,18418,49268,32255,36329,28884,14382,5850,12316,41829,47821,3806,35711,10272,16306,22772,3141,37570,17260,37217,16249,22715,3000,25650,74,6540,2007,30465,14866,364,25322,12157,10820,2288,33796,36092,14727,467,1682,29129,19544,5042,6966,13870,49849,9844,46001,15499,33410,26887,37343,43074,20040,3,35982,10459,20341,46438,37906,48843,33448,12083,20870,49519,26485,44533,30031,3453,36016,39432,31955,12982,8415,44394,23271,10175,28086,23768,9266,11190,1712,37691,39615,19005,49176,47372,28239,12682,15661,30973,9608,18395,28920,14418,16342,31798,17296,19220,47664,21957,43596,3290,40302,8745,49703,40465,20133,36397,36320,14341,5884,33331,1816,36258,32190,37921,14887,20639,16571,37932,33864,39422,22431,49878,23473,33929,27838,1282,15484,48047,34450,40916,45387,44864,23896,40181,22263,8624,7287,13753,18202,43244,17805,49710,36113,11729,36771,1185,5259,43156,17717,24183,47598,23214,4140,30237,14554,40651,6435,16317,36168,42634,18250,13134,20655,14128,2018,43508,50,5505,37648,42777,16547,18534,22608,20480,34882,43405,11890,6361,14531,48988,40520,46718,25750,38208,13824,44674,6693,31735,30769,37235,18178,35134,45548,49382,23943,17867,17645,20948,26679,4700,211,36962,11696,3774,1663,42579,20600,12093,22549,16061,7593,4908,2516,32355,20803,16609,12804,41306,25403,29874,16935,22521,6505,26802,3768,12996,49747,31885,18155,49178,8014,2892,12209,11640,48391,45573,13945,37226,44257,8146,50159,4078,34135,25625,5293,30067,38068,6511,42481,41475,19496,20114,3094,22060,41484,37416,17457,36423,31602,27534,35535,13379,10477,1967,29414,12063,22519,38149,15115,2832,9298,21756,26227,788,40722,45193,14317,20783,30581,30504,49470,1768,27865,12182,7001,16318,10227,43688,23015,26318,48011,10369,36944,6442,33889,9278,36767,36690,5175,39185,18217,30675,12099,9707,7641,33738,1118,7584,11574,46031,24052,22017,48114,43656,7313,3119,29974,36660,25025,20831,36510,32316,6712,36861,14882,38079,17760,33390,820,4706,29748,22617,22395,26753,43312,10742,41517,39125,19538,38635,22619,29642,40056,17499,42541,36465,36243,49082,13176,32142,14385,40482,33351,50162,45968,2510,21476,4300,30397,23266,37696,44727,41977,18943,7504,5112,29143,6366,19205,9592,38094,44380,25804,21346,44091,11408,11331,30297,28466,35497,9352,27150,42829,33676,24311,31342,34146,37449,8362,48635,39729,2087,15283,24600,21390,17196,41468,44771,49644,12002,39503,23487,43993,33991,39771,35577,29630,25436,41460,4024,28152,14422,11604,29402,47930,10288,38690,48007,2572,11889,5136,17975,19499,15305,35710,4082,872,37623,44458,1008,31641,34944,17342,20645,13428,16731,15377,28216,37051,47507,24473,48536,17021,7456,26422,41641,18607,29063,43638,21659,35086,25168,49942,13030,45465,49865,27886,15972,7462,48378,34909,3394,48157,39647,16642,35579,13747,32713,7970,17371,45873,32667,24157,43123,20089,34552,21083,50463,7005,34452,45607,37097,33029,37260,39975,35907,31415,22905,27305,20782,31238,36969,5454,9386,22309,13841,12264,39711,26242,27120,39490,12934,26912,11943,2420,14251,23652,1673,10526,16036,12,23937,12460,40827,36164,23586,21423,31001,35401,515,9916,3428,22394,12867,23323,42289,24557,11979,11902,40404,30849,26739,45705,539,15395,15318,34284,16750,4172,3538,37713,6416,41646,11509,46739,30206,45062,34398,21820,1210,39113,26282,3248,22214,3171,45142,22137,49584,20464,2418,39443,17611,36577,29698,6664,47622,37391,33323,21027,39993,48446,49337,843,39759,33987,25477,43388,36865,24274,40833,8263]
theorem wC:((aL ix 6 6).map fun g=>(gL (zI g) % 50481).toNat)=hL:=by decide+kernel
theorem IB:hL.Nodup:=by decide+kernel
end cG
namespace cG
open PySem PySem.Spec L2 LB LD MH bC PyProof.Rows
theorem Df:((aL ix 6 6).map fun g=>bZ.gL (zI g)).Nodup:=by
 have h:((aL ix 6 6).map fun g=>(bZ.gL (zI g) % 50481).toNat).Nodup:=by rw[wC];exact IB
 rw[show((aL ix 6 6).map fun g=>(bZ.gL (zI g) % 50481).toNat)=((aL ix 6 6).map fun g=>bZ.gL (zI g)).map fun h:Int=>(h % 50481).toNat by rw[S5];rfl] at h;exact List.Pairwise.of_map (fun h:Int=>(h % 50481).toNat) (fun a b (h:(a % 50481).toNat≠(b % 50481).toNat) e=>h (by rw[e])) h
noncomputable abbrev bG (n k:Nat):List (List Nat):=aL gr n k
def AX:DN:=fun ds Q=> ∃(s:List Nat) (on:Nat),ds= [aB s,nD on]/\pZ s/\s.length<=12/\(∀x∈s,x<=12)/\on<=12/\Q (.bl (gr s on))
theorem AW(h:AX ds Q):yo ds Q:=by
 obtain⟨s,on,rfl,a,b,c,d,q⟩:=h;exact⟨s,on,rfl,a.ac,b,fun x hx=>by
  have:x=gr s on:=by rw[T4,hx,gV]
  rw[this];exact q⟩
noncomputable def x8(fm:Addr):DS:=fun ss Q=> ∃n:Nat,ss= [.im (nD n), .fn fm]/\1<=n/\n<=6/\Q (.lst ((bG n n).map aB))
noncomputable def Jr:DN:=fun ds Q=> ∃n:Nat,ds= [nD n]/\1<=n/\n<=6/\Q (.lst ((bG n n).map aB))
inductive RD(n:Nat)(fm:Addr)(i:Nat)(δ:List Sl):Prop
 | mk (s3:Sl) (e:δ= [.im (nD n), .fn fm, .im (.lst ((bG n i).map aB)),s3]) (b:s3.cO=false)
theorem iz: ∀k:Nat,(bG n k).length<=(n+1)^k
 | 0=>SD _
 | k+1=>by
  show((bG n k).flatMap _).length<=_;refine S4 (dJ (k:=n+1) fun s _=>?_) ?_
  . rw[Sx];exact S4 (UD _ _) (by rw[Tf];exact SD _)
  . rw[U7];exact Vj _ (iz k)
theorem o8(hn:n<=6)(hk:k<=6):(bG n k).length < sizeLine:=by
 have h1:(n+1)^k<=7^k:=UM (by lia) k;have h2:7^k<=7^6:=UH (by lia) hk;have:=iz (n:=n) k;rw[TZ];lia
noncomputable def jM(n:Nat)(d:Dt):List Dt:=(((List.range (n+1)).filter (gr (kg d))).map fun o=>kg d++ [o]).map aB
theorem jL:((bG n k).map aB).flatMap (jM n)=(bG n (k+1)).map aB:=by
 show _=((bG n k).flatMap _).map aB;rw[List.map_flatMap,List.flatMap_map];congr 1
 funext s
 show jM n (aB s)=_;unfold jM;rw[cB]
section
variable {P : Program} {w : World} {K : PySem.W.Frag} {mg : Str -> Option Value} {base : Heap}
theorem uu(hM:vD P w K mg base fm 3 ["start","on"] (cC AX))(F:g8 K "grown" "grown" fe f fd)(T:Txt mg):aV P w K mg base eI 4 f fd ["n","may_follow"] (spS (x8 fm)):=by
 refine OH F cW (fun ss Qd h=>?_) (fun b5 A outer s H E hr=>⟨_,(aC (cI 2 cW.nd (lM (aa (eM aj) aj)))
 (aC (fU rfl (fu T.uf (aa (dv 0) aj)) (dj 3 cW.nd)
 (aF (oz 2 1 (N:= ["start","on","n","may_follow"]) (nt:=2) (js:= [0,1]) cW.nd ⟨rfl,by decide+kernel,by decide,rfl,by decide+kernel,(by show∀x∈(_:List (Str × NameKind)),x.2=NameKind.free->(ab fe).names.lookup x.1=some .cell\/(ab fe).names.lookup x.1=some .free;decide+kernel)⟩ rfl
 (dh (dv 2)) (fun _ _ _ _ _=>aJ (i:=0) (show(["start","on","n","may_follow"]:List Str).Nodup by decide+kernel) rfl (by first | exact Or.inl rfl | exact Or.inr rfl)) bO aR (fun _ _ _ _ _=>gX) (fun _ _ _ _ _=>(fu T.uf (aa (lN (dv 2) aD) aj))) (fun _ _ _ _ _=>aJ (i:=1) (show(["start","on","n","may_follow"]:List Str).Nodup by decide+kernel) rfl (by first | exact Or.inl rfl | exact Or.inr rfl)) lC aR (fun _ _ _ _ _=>lJ (fY (CD 3 hM (hr.mono (by decide)) (pv 3) (aa (dv 0) (aa (dv 1) aj))))) (fun _ _ _ _ _=>(qX (dv 0) (eM (aa (dv 1) aj)))))) Um)
 (aF (aS (dv 2))))),fun ss Qd h=>?_⟩)
 . obtain⟨n,rfl,_⟩:=h;rfl
 . obtain⟨n,rfl,n1,n6,q⟩:=h;refine⟨by show 0<=sizeLine;decide,by show 1<=sizeLine;decide,⟨_,rfl,rfl⟩,?_⟩;refine⟨_,rfl,n,rfl,by lia,by lia,?_⟩;refine ez (RD n fm) ⟨.no,rfl,rfl⟩ (fun i d δ hi hP Δ' uI _=>?_) (fun δ hP=>?_)
   . obtain⟨s3,rfl,b3⟩:=hP;have il:i < n:=by have:=(SM.mp hi).1;simp at this;exact this
     refine⟨⟨_,rfl,b3⟩,?_⟩;refine⟨_,rfl,_,rfl,jM n,?_,fun d hd=>?_,?_⟩
     . rw[jL,Sx];exact o8 n6 (by lia)
     . obtain⟨s,hs,rfl⟩:=SU.mp hd;obtain⟨ok,sl,sle⟩:=i6.mp hs;refine⟨⟨_,rfl,rfl⟩,?_⟩;simp only [yW,VP];refine⟨_,rfl,_,_,rfl,rfl,((n:Nat):Int)+1,rfl,by lia,by lia,Ci (gr s),D7 fun o=>aB (s++ [o]),fun e he=>?_,?_⟩
       . rw[kW] at he;obtain⟨o,ho,rfl⟩:=SU.mp he;have:=Td.mp ho;refine⟨⟨_,rfl,rfl⟩,rfl,_,rfl,_,rfl,s,o,rfl,ok,by lia,fun x hx=>by have:=sle x hx;lia,by lia,_,rfl,by rw[mY],fun _=>?_⟩;exact⟨_,rfl,_,rfl,by show 1<=sizeLine;decide,_,_,rfl,rfl,by rw[Sx];exact T5 (aM (by show s.length+1<=1000;lia)),by rw[ir];unfold aB;rw[TV];rfl⟩
       . rw[kW];unfold jM;rw[cB,S5,Vs,S5];have e1:(Ci (gr s) ∘ nD)=gr s:=by funext o;exact mY
         rw[e1];refine Ui fun o _=>?_;show aB (s++ [o])=D7 (fun o=>aB (s++ [o])) (nD o);rw[ir]
     . rw[jL];exact⟨⟨_,rfl,rfl⟩,uI _ ⟨_,rfl,rfl⟩⟩
   . obtain⟨s3,rfl,b3⟩:=hP;rw[Sx,Tf,Tp];exact⟨_,rfl,q⟩
theorem qw(gT:mg "fits"=some (.ref fm))(F:g8 K "all_hangings" "all_hangings" dY f fd)(T:Txt mg)(kb:gB P w K mg base "grown" 4 ["n","may_follow"] (spS (x8 fm))):aV P w K mg base eI 5 f fd ["n"] (cC Jr):=by
 refine qP F kj (fun ds Qd h=>?_) (fun b5 A outer s H E hr=>⟨_,(aF (aS (CC kb (hr.mono (by decide)) (GD (dv 0) (GF (by rfl) gT BU))))),fun ds Qd h=>?_⟩)
 . obtain⟨n,rfl,_⟩:=h;rfl
 . obtain⟨n,rfl,n1,n6,q⟩:=h;exact⟨_,rfl,n,rfl,n1,n6,q⟩
end
end cG
namespace LD
open PySem PySem.Spec L2 LB PyProof.Rows
section
variable {X : Cx} {e : Expr} {t : bj}
theorem av.FL(E:av W M α H σ δ)(hi:δ[i]?=some (.ow ds))(hs: ∀j s,j≠i->δ[j]?=some s->s= .no\/(∃d,s= .im d)\/(∃t,s= .bx t)\/ ∃ds,s= .ow ds/\ ∀d∈ds,nR d)(ha:α[i]?=some [a])(E1:av W (fun b=>M b/\b≠a) (α.set i []) H' σ (δ.set i (.im (.lst ds))))(c1:b7 (α.set i []) H H'):av W M α H' σ δ/\b7 α H H':=by
 obtain⟨a',vs,h1,h2,h3,r⟩:=E.ow hi;rw[ha] at h2;cases h2;have E':=E.yi hi ha;have sub: ∀b,b∈(α.set i []).flatten->b∈α.flatten/\b≠a:=fun b hb=>⟨(aY hb).elim id fun z=>absurd z SH,(E'.mu b hb).2⟩
 have na:a∉(α.set i []).flatten:=fun z=>(sub a z).2 rfl;have oZ:H' a=some (.lst vs):=c1 _ _ h3 na;have cg:b7 α H H':=fun b o e n=>c1 b o e fun z=>n (sub b z).1;have keep: ∀b o,H b=some o-> ¬M b->H' b=some o/\ ¬M b:=fun b o e n=>⟨cg b o e fun z=>n (E.mu b z),n⟩
 have O1:hC M H':=fun b hb=>by
  by_cases z:b=a
  . subst z;exact⟨_,oZ,fun xs z=>by cases z⟩
  . exact E1.al b ⟨hb,z⟩
 refine⟨⟨E.ls,E.la,fun j s hj=>?_,E.nd,E.mu,O1,fun Wd hW=>?_⟩,cg⟩
 . by_cases bb:j=i
   . subst bb;rw[hi] at hj;cases hj;exact⟨_,_,h1,ha,a,vs,rfl,rfl,oZ,r.mono keep⟩
   . obtain⟨o,as,g1,g2,g3⟩:=E.sl j s hj;rcases hs j s bb hj with rfl | ⟨d,rfl⟩ | ⟨t,rfl⟩ | ⟨Gq,rfl,fd⟩
     . exact⟨o,as,g1,g2,g3⟩
     . exact⟨o,as,g1,g2,g3.1,let ⟨u,e,ru⟩:=g3.2;⟨u,e,ru.mono keep⟩⟩
     . obtain⟨o2,pM,f1,f2,f3⟩:=E1.sl j (.bx t) (by rw[SJ (Ne.symm bb)];exact hj);rw[SJ (Ne.symm bb)] at f2;exact⟨o2,pM,f1,f2,f3⟩
     . obtain⟨o2,pM,f1,f2,a2,K9,f3,f4,f5,f6⟩:=E1.sl j (.ow Gq) (by rw[SJ (Ne.symm bb)];exact hj);rw[SJ (Ne.symm bb)] at f2;exact⟨o2,pM,f1,f2,a2,K9,f3,f4,f5,f6.uQ fd O1⟩
 . have k0:=E.w Wd hW;have k1:=E1.w Wd hW;exact⟨k1.bs,k1.ex,k0.fr,k0.m0,k0.m1,k0.bx,k0.fz⟩
def Ft(i:Nat)(t:bj):bj:=fun δ Q=> ∃ds,δ[i]?=some (.ow ds)/\(∀j s,j≠i->δ[j]?=some s->s= .no\/(∃d,s= .im d)\/(∃t,s= .bx t)\/ ∃ds,s= .ow ds/\ ∀d∈ds,nR d)/\t (δ.set i (.im (.lst ds))) fun d δ'=>δ'=δ.set i (.im (.lst ds))/\nR d/\Q d δ
theorem tm(i:Nat)(h:Ev X e t):Ev X e (Ft i t):=PE.imp h fun σ H Q gD=>(by obtain⟨W,M,α,δ,Qd,E,⟨ds,hi,hs,q⟩,k⟩:=gD;exact(by
 obtain⟨a,xs,h1,h2,h3,r⟩:=E.ow hi;refine⟨W,_,α.set i [],_,_,E.yi hi h2,q,fun d δ' H' v mi E1 c1 r1=>?_⟩;obtain⟨eδ,fl,q1⟩:=mi;subst eδ;obtain⟨E2,c2⟩:=E.FL hi hs h2 E1 c1;exact k _ _ _ _ q1 E2 c2 (r1.uQ fl E2.al)))
end
end LD
namespace L2
open PySem PySem.Spec PyProof.Rows
section
variable {X : Cx}
def tO(i j:Int):Prop:=i.natAbs < 2^17000/\j.natAbs < 2^17000
theorem tO.ok(h:tO i j):IntMulOk i j:=by
 have h1:=jG h.1;have h2:=jG h.2;have:Builtin.Int.intTooBig (Builtin.Int.intBits i+Builtin.Int.intBits j)=false:=by
  unfold Builtin.Int.intTooBig;refine S9 ?_;have hb:(34000:Int)<=bitsLine:=by decide
  lia
 unfold IntMulOk;rw[this];simp
def Qf(C:Int->Int->Prop)(f:Int->Int->Int):NG:=fun x y H Q=> ∃i j,x= .int i/\y= .int j/\C i j/\Q (.int (f i j)) H
theorem A6:O3 X .Mult (Qf tO fun i j=>i*j):=by
 intro pins s σ H x y v u Q I r1 r2 h;obtain⟨i,j,e1,e2,c,q⟩:=h;subst e1;subst e2;obtain⟨t,rfl⟩:=r1;obtain⟨t',rfl⟩:=r2;exact imul_int ⟨.int _,H,I.tok _,⟨_,rfl⟩,q⟩ c.ok
end
end L2
namespace LD
open PySem PySem.Spec L2 LB PyProof.Rows LW
section
variable {X : Cx} {a b e b1 b2 : Expr} {ta tb tv t t1 t2 : bj} {x : Str} {xp pos pos' : Pos}
inductive BD(i:Nat)(C:Int->Int->Prop)(g:Int->Int->Int)(Δ:eO)(d:Dt)(δ':List Sl):Prop
 | mk (x y:_) (h1:δ'[i]?=some (.im (.int x))) (h2:d= .int y) (c:C x y) (h3:Δ.nx (δ'.set i (.im (.int (g x y)))))
def Jj(i:Nat)(C:Int->Int->Prop)(g:Int->Int->Int)(t:bj):iY:=fun Δ δ=>(∃x,δ[i]?=some (.im (.int x)))/\t δ fun d δ'=>BD i C g Δ d δ'
theorem wN(i:Nat)(hN:X.N.Nodup)(he:Ev X e t)(hi:X.N[i]?=some x:=by rfl)(hx:Loc X.env.scope x:=by first | exact Or.inl rfl | exact Or.inr rfl)(hf:X.fn x=true\/X.env.scope.names.lookup x=some .local:=by first | exact .inl rfl | exact .inr rfl | assumption):
  Ex X (.AugAssign (.Name x pos') .Mult e pos) (Jj i tO (· * ·) t):=PS.imp (DF hN hi hx he A6 hf) fun D σ H hU=>(by
 obtain⟨Ws,M,α,δ,Δ,E,L,⟨x0,h0⟩,q⟩:=hU;obtain⟨v,h1,r⟩:=E.im h0;cases r.ofInt;refine⟨_,h1,Ws,M,α,δ,_,E,q,fun d δ' H' y qb E1 c1 r1=>?_⟩;obtain⟨x,z,qH,e,c,q1⟩:=qb;subst e;obtain⟨v,sQ,r'⟩:=E1.im qH;cases r'.ofInt;rw[h1] at sQ;cases sQ;exact⟨_,_,rfl,r1.ofInt,c,L.nx _ _ _ _ _ (E1.oy (.int _) ⟨_,qH,rfl⟩) q1⟩)
end
end LD
namespace cG
open PySem PySem.Spec L2 LB LD MH bC PyProof.Rows
theorem lQ{L:List (Nat × Nat)}(hL:L.Perm (fT hs)):gv L= []↔CP hs:=by
 have mt: ∀p,p∈L↔ ∃x,1<=x/\x<=hs.length/\b9 hs x=p:=fun p=>by
  rw[hL.mem_iff];unfold fT;rw[SU];exact⟨fun⟨x,hx,e⟩=>⟨x,(TY.mp hx).1,by have:=(TY.mp hx).2;lia,e⟩,fun⟨x,h1,h2,e⟩=>⟨x,TY.mpr ⟨h1,by lia⟩,e⟩⟩
 constructor
 . rintro e x y ⟨x1,x2,y1,y2,hc⟩
   have:(b9 hs x,b9 hs y)∈gv L:=U5.mpr ⟨_,(mt _).mpr ⟨x,x1,x2,rfl⟩,SU.mpr ⟨_,TN.mpr ⟨(mt _).mpr ⟨y,y1,y2,rfl⟩,hc⟩,rfl⟩⟩;rw[e] at this;exact SH this
 . intro h;refine UA.mpr fun pq hm=>?_;unfold gv at hm;obtain⟨p,hp,hm⟩:=U5.mp hm;obtain⟨q,hq,_⟩:=SU.mp hm;obtain⟨Oh,hc⟩:=TN.mp hq;obtain⟨x,x1,x2,rfl⟩:=(mt _).mp hp;obtain⟨y,y1,y2,rfl⟩:=(mt _).mp Oh;exact h x y ⟨x1,x2,y1,y2,hc⟩
theorem yx:sU (k+1) (aB a) (aB b)=decide (a=b):=by
 unfold aB;unfold sU;rw[T4,Uv,T9,TH,SO,Sx,Sx];constructor
 . rintro⟨h,l⟩
   refine VI l fun i h1 h2=>?_;have:=h i (Td.mpr (by lia));rw[show(a.map nD).getD i .aI=nD a[i] by simp [List.getD,h1],show(b.map nD).getD i .aI=nD b[i] by simp [List.getD,h2],jR rfl rfl,Kj,Uv] at this;exact this
 . rintro rfl
   refine⟨fun i hi=>?_,rfl⟩;have h1:i < a.length:=by have:=Td.mp hi;lia
   rw[show(a.map nD).getD i .aI=nD a[i] by simp [List.getD,h1],jR rfl rfl,Kj];simp
theorem wH:BK (k+1) (aB a) (aB b):= .tup fun j d e h1 h2=>by
 rw[SX] at h1 h2;obtain⟨x,_,rfl⟩:=T1.mp h1;obtain⟨y,_,rfl⟩:=T1.mp h2;exact .flat rfl rfl
theorem yw{G:List (List Nat)}:sU (k+2) (.lst (G.map aB)) (.lst (G.map aB))=true:=by
 unfold sU;rw[T9,TH];refine⟨fun j hj=>?_,UR _⟩;have hj:=Td.mp hj;rw[VX,Sx] at hj;rw[show(G.map aB).getD j .aI=aB G[j] by simp [List.getD,hj],yx];simp
theorem wG{G G':List (List Nat)}:BK (k+2) (.lst (G.map aB)) (.lst (G'.map aB)):= .lst fun j d e h1 h2=>by
 rw[SX] at h1 h2;obtain⟨x,_,rfl⟩:=T1.mp h1;obtain⟨y,_,rfl⟩:=T1.mp h2;exact wH
def Ou:DN:=fun ds Q=> ∃n:Nat,ds= [nD n]/\1<=n/\n<=6/\Q (.int (((n:Int))^(n - 1)))
noncomputable def JZ(n:Nat):Int:= [0,1,2,7,30,143,728].getD n 0
def LF:DN:=fun ds Q=> ∃n:Nat,ds= [nD n]/\1<=n/\n<=6/\Q (.int (JZ n))
noncomputable def zN(n:Int):Nat->Int
 | 0=>1
 | t+1=>zN n t*(2*n - 1+((t:Int)+1)) / ((t:Int)+1)
theorem Ho: ∀n:Fin 7,1<=n.val->zN (n.val:Int) (n.val - 1) / (n.val:Int)=JZ n.val/\(∀t:Fin 6,t.val<=n.val->0<=zN (n.val:Int) t.val/\zN (n.val:Int) t.val < 1000000):=by decide+kernel
inductive RB(n:Nat)(i:Nat)(δ:List Sl):Prop
 | mk (s2:Sl) (e:δ= [.im (nD n), .im (.int ((n:Int)^i)),s2]) (b2:s2.cO=false)
inductive Ro(n:Nat)(i:Nat)(δ:List Sl):Prop
 | mk (s2:Sl) (e:δ= [.im (nD n), .im (.int (zN n i)),s2]) (b2:s2.cO=false)
noncomputable abbrev iD (n k:Nat):List (List Nat):=aL (fun _ _=>true) n k
theorem ma:iD n (k+1)=(iD n k).flatMap fun s=>(List.range (n+1)).map fun o=>s++ [o]:=by
 show(iD n k).flatMap _=_;congr 1
 funext s
 rw[Uj.mpr fun _ _=>rfl]
theorem j7: ∀k:Nat,(iD n k).length<=(n+1)^k
 | 0=>SD _
 | k+1=>by
  rw[ma];refine S4 (dJ (k:=n+1) fun s _=>by rw[Sx,Tf];exact SD _) ?_;rw[U7];exact Vj _ (j7 k)
inductive Rx(n k i:Nat)(δ:List Sl):Prop
 | mk (s3:Sl) (e:δ= [.im (.lst ((iD n k).map aB)), .im (nD n), .ow ((((iD n k).take i).flatMap fun s=>(List.range (n+1)).map fun o=>s++ [o]).map aB),s3]) (b3:s3.cO=false)
def Oc:DN:=fun ds Q=> ∃n k:Nat,ds= [.lst ((iD n k).map aB),nD n]/\n<=5/\k < 5/\Q (.lst ((iD n (k+1)).map aB))
noncomputable def Ce:DN:=fun ds Q=> ∃n:Nat,ds= [nD n]/\1<=n/\n<=5/\Q (.lst ((bG n n).map aB))
section
variable {P : Program} {w : World} {K : PySem.W.Frag} {mg : Str -> Option Value} {base : Heap}
theorem HB(F:g8 K "hangings_many" "hangings_many" de f fd)(T:Txt mg):aV P w K mg base eI 1 f fd ["n"] (cC Ou):=by
 refine qP F bT (fun ds Qd h=>?_) (fun b5 A outer s H E hr=>⟨_,(aC (cI 1 bT.nd aD)
 (aC (fU rfl (fu T.uf (aa (yO (dv 0) aD) aj)) (dj 2 bT.nd)
 (aF (wN 1 bT.nd (dv 0))) Um)
 (aF (aS (dv 1))))),fun ds Qd h=>?_⟩)
 . obtain⟨n,rfl,_⟩:=h;rfl
 . obtain⟨n,rfl,n1,n6,q⟩:=h;refine⟨⟨_,rfl,rfl⟩,_,rfl,_,_,rfl,rfl,((n - 1:Nat):Int),by rw[show(n:Int) - 1=((n - 1:Nat):Int) by lia],by lia,by lia,ez (RB n) ⟨.no,by rw[Int.pow_zero];rfl,rfl⟩ (fun i d δ hi hP Δ' uI _=>?_) (fun δ hP=>?_)⟩
   . obtain⟨s2,rfl,b2⟩:=hP;have il:i < n - 1:=by have:=(SM.mp hi).1;simpa using this
     have pb:((n:Int)^i).natAbs < 2^17000:=by
      have h1:n^i<=6^i:=UM n6 i;have h2:6^i<=6^5:=UH (by decide) (by lia);rw[Int.natAbs_pow,Int.natAbs_natCast];exact UU (S4 h1 h2) (by decide+kernel)
     refine⟨⟨_,rfl,b2⟩,⟨_,rfl⟩,_,rfl,_,_,rfl,rfl,⟨pb,?_⟩,uI _ ⟨.im d,?_,rfl⟩⟩
     . rw[Int.natAbs_natCast];exact UU n6 (by decide+kernel)
     . rw[Int.pow_succ];rfl
   . obtain⟨s2,rfl,b2⟩:=hP;rw[Sx,Tf,Tp];exact⟨_,rfl,q⟩
theorem HA(F:g8 K "plain_many" "plain_many" gk f fd)(T:Txt mg):aV P w K mg base eI 1 f fd ["n"] (cC LF):=by
 refine qP F cV (fun ds Qd h=>?_) (fun b5 A outer s H E hr=>⟨_,(aC (cI 1 cV.nd aD)
 (aC (fU rfl (EA T.uf (aa aD (aa (dv 0) aj))) (dj 2 cV.nd)
 (aF (cI 1 cV.nd (yS (CB (dv 1) (lN (yO (CB aD (dv 0)) aD) (dv 2))) (dv 2)))) Um)
 (aF (aS (yS (dv 1) (dv 0)))))),fun ds Qd h=>?_⟩)
 . obtain⟨n,rfl,_⟩:=h;rfl
 . obtain⟨n,rfl,n1,n6,q⟩:=h;obtain⟨pe,pb⟩:=Ho ⟨n,by lia⟩ n1;refine⟨⟨_,rfl,rfl⟩,?_⟩;refine⟨_,rfl,1,((n:Nat):Int),rfl,⟨by lia,by lia,by lia,by lia⟩,ez (Ro n) ⟨.no,rfl,rfl⟩ (fun i d δ hi hP Δ' uI _=>?_) (fun δ hP=>?_)⟩
   . obtain⟨s2,rfl,b2⟩:=hP;have il:i < n - 1:=by have:=(SM.mp hi).1;simpa using this
     have ed:d= .int (1+(i:Int)):=by
      rw[SX,List.getElem?_range (by lia)] at hi;exact(Option.some.inj hi).symm
     subst ed;obtain⟨p0,p1⟩:=pb ⟨i,by lia⟩ (by show i<=n;lia);have p0:0<=zN n i:=p0;have p1:zN n i < 1000000:=p1;refine⟨⟨_,rfl,b2⟩,?_⟩;refine⟨_,rfl,_,rfl,_,_,rfl,rfl, .inl ⟨by decide,by decide⟩,_,_,rfl,rfl,_,rfl,_,_,rfl,rfl,_,_,rfl,rfl, .inl ⟨by lia,by lia⟩,_,rfl,_,_,rfl,rfl,⟨by lia,by lia⟩,⟨_,rfl,rfl⟩,uI _ ⟨.im (.int (1+(i:Int))),?_,rfl⟩⟩;show [_,Sl.im (.int (zN n i*(2*(n:Int) - 1+(1+(i:Int))) / (1+(i:Int)))),_]= [_,Sl.im (.int (zN n i*(2*(n:Int) - 1+((i:Int)+1)) / ((i:Int)+1))),_]
     rw[Int.add_comm 1 (i:Int)]
   . obtain⟨s2,rfl,b2⟩:=hP;rw[Sx,Tf,show((n:Int) - 1).toNat=n - 1 by lia];refine⟨_,rfl,_,rfl,_,_,rfl,rfl,⟨by lia,by lia⟩,?_⟩;rw[show zN (n:Int) (n - 1) / (n:Int)=JZ n from pe];exact q
theorem uq(F:g8 K "_law_longer" "_law_longer" fc f fd)(T:Txt mg):aV P w K mg base eI 1 f fd ["_law_found","_law_n"] (cC Oc):=by
 refine qP F ie (fun ds Qd h=>?_) (fun b5 A outer s H E hr=>⟨_,(aC (wL 2 ie.nd (xy aj))
 (aC (fU rfl (dh (dv 0)) (dj 3 ie.nd)
 (aF (ji (yT 2 (pv 2) (aa (Ov.ev (ef (N:= ["_law_on","_law_one"]) (nt:=1) (js:= [3]) ⟨rfl,by decide+kernel,by decide,rfl,by decide+kernel,(by show∀x∈(_:List (Str × NameKind)),x.2=NameKind.free->(ab fc).names.lookup x.1=some .cell\/(ab fc).names.lookup x.1=some .free;decide+kernel)⟩ rfl (fu T.uf (aa (lN (dv 1) aD) aj)) (fun _ _ _ _ _=>aJ (i:=0) (show(["_law_on","_law_one"]:List Str).Nodup by decide+kernel) rfl (by first | exact Or.inl rfl | exact Or.inr rfl)) bO aR (fun _ _ _ _ _=>gX) (fun _ _ _ _ _=>(qX (dv 1) (eM (aa (dv 0) aj)))))) aj)))) Um)
 (aF (wM 2 (aS (dv 2)))))),fun ds Qd h=>?_⟩)
 . obtain⟨n,k,rfl,_⟩:=h;rfl
 . obtain⟨n,k,rfl,n5,k5,q⟩:=h;refine⟨by show 0<=sizeLine;decide,⟨_,rfl,rfl⟩,_,rfl,_,rfl,ez (Rx n k) ⟨.no,rfl,rfl⟩ (fun i d δ hi hP Δ' uI _=>?_) (fun δ hP=>?_)⟩
   . obtain⟨s3,rfl,b3⟩:=hP;rw[SX] at hi;obtain⟨g,hg,rfl⟩:=T1.mp hi;refine⟨⟨_,rfl,b3⟩,?_⟩;have lg:=(gU (SW hg)).1;have l1:=j7 (n:=n) k;have l2:(n+1)^k<=6^k:=UM (by lia) k;have l3:6^k<=6^4:=UH (by decide) (by lia);refine⟨⟨_,rfl⟩,_,rfl,_,_,rfl,rfl,((n:Nat):Int)+1,rfl,by lia,by lia,by rw[Sx,Tf];exact T5 (aM (by lia)),fun _=>true,D7 fun o=>aB (g++ [o]),fun e he=>?_,?_⟩
     . rw[kW] at he;obtain⟨o,ho,rfl⟩:=SU.mp he;refine⟨⟨_,rfl,rfl⟩,rfl,fun _=>⟨_,rfl,_,rfl,by show 1<=sizeLine;decide,_,_,rfl,rfl,by rw[Sx,lg];exact T5 (aM (by show k+1<=1000;lia)),?_⟩⟩;rw[ir];unfold aB;rw[TV];rfl
     . rw[kW,Uj.mpr fun _ _=>rfl];have em:((List.range (n+1)).map nD).map (D7 fun o=>aB (g++ [o]))=((List.range (n+1)).map fun o=>g++ [o]).map aB:=by
        rw[S5,S5];exact Ui fun o _=>ir
       rw[em];have fl:(((iD n k).take i).flatMap fun s=>(List.range (n+1)).map fun o=>s++ [o]).length<=1296*6:=by
        refine S4 (dJ (k:=n+1) fun s _=>by rw[Sx,Tf];exact SD _) ?_;exact Nat.mul_le_mul (S4 (by rw[US];exact Nat.min_le_right _ _) (S4 l1 (S4 l2 l3))) (by lia)
       refine⟨_,_,rfl,rfl,by rw[Sx,Sx,Sx,Tf,TZ];lia,uI _ ⟨.im (aB g),?_,rfl⟩⟩;have et:(iD n k).take (i+1)=(iD n k).take i++ [g]:=by rw[Wb,hg];rfl
       rw[et,VR,List.flatMap_singleton,TV];rfl
   . obtain⟨s3,rfl,b3⟩:=hP;rw[Sx,Uh];rw[ma] at q;exact⟨_,rfl,_,rfl,q⟩
end
end cG
namespace cG
open PySem PySem.Spec L2 LB LD MH bC PyProof.Rows bZ
theorem yF: ∀(g:List Nat) (p:Nat),((va 100 p g:Nat):Int)=(p:Int)*100^g.length+bS 100 (zI g)
 | [],p=>by show(p:Int)=(p:Int)*100^0+0;lia
 | x::g,p=>by
  show((va 100 (p*100+x) g:Nat):Int)=(p:Int)*100^(g.length+1)+((x:Int)*100^(zI g).length+bS 100 (zI g));rw[yF g,show(zI g).length=g.length from Sx ..,Int.pow_succ];grind
theorem ja(g:List Nat):bS 100 (zI g)=((va 100 0 g:Nat):Int):=by rw[yF g 0];lia
theorem DI(zO:n<=12)(p:Pl n g):(zI g).length=n/\zV 100 (zI g):=⟨by rw[show(zI g).length=g.length from Sx ..,p.len],fun x hx=>by
 obtain⟨y,hy,rfl⟩:=SU.mp hx;have:=p.le y hy;show(0:Int)<=(y:Int)/\(y:Int) < 100;lia⟩
theorem wy(zO:n<=12){G:List (List Nat)}(nd:G.Nodup)(m: ∀g,g∈G↔Pl n g){ms:List (List Int)}(hp:ms.Perm (G.map zI))(hs:ms.Pairwise fun q r=>bS 100 q<=bS 100 r):ms=(MH.grow n n).map zI:=by
 have sg:=MH.gS zO n;have pm:G.Perm (MH.grow n n):=(List.perm_ext_iff_of_nodup nd (sg.imp fun{a b} h z=>by rw[z] at h;exact Tu _ h)).mpr fun g=>by rw[m,eh]
 refine List.Perm.eq_of_pairwise (le:=fun q r=>bS 100 q<=bS 100 r) (fun a b ha hb h1 h2=>?_) hs (List.Pairwise.map _ (fun a b (h:va 100 0 a < va 100 0 b)=>?_) sg) (hp.trans (pm.map _))
 . obtain⟨x,hx,rfl⟩:=SU.mp (hp.mem_iff.mp ha);obtain⟨y,hy,rfl⟩:=SU.mp hb;have px:=(m x).mp hx;have py:=eh.mp hy;rw[ja,ja] at h1 h2;rw[C4 (by rw[px.len,py.len]) (MH.small zO px.le) (MH.small zO py.le) (show va 100 0 x=va 100 0 y by lia)]
 . rw[ja,ja];lia
open Classical in
noncomputable def hB(s:List Nat):Bool:=decide (Hg s)
theorem x5:hB s=true↔Hg s:= @decide_eq_true_iff _ (_)
theorem uH(hr:bB k A):A.in1.in1.in1.units < cLine:=by have:=hr.un;show A.units+1+1+1 < cLine;lia
inductive Ry(n i:Nat)(δ:List Sl):Prop
 | mk (s2:Sl) (e:δ= [.im (nD n), .im (.lst ((iD n i).map aB)),s2]) (b2:s2.cO=false)
def G3:DN:=fun ds Q=>ds= []/\Q (.bl true)
theorem vV(G:List (List Nat)):(G.map zI).map Gb=G.map aB:=by
 rw[S5];refine Ui fun g _=>?_;show Dt.tup ((g.map Int.ofNat).map .int)=Dt.tup (g.map nD);rw[S5];rfl
theorem FF{g:List Nat}:(g.map nD).countP (fun e=>yB e (.int 0))=g.count 0:=by
 rw[List.countP_map,List.count];refine List.countP_congr fun x _=>?_;show(((x:Int))==0)=true↔(x==0)=true;rw[SO,SO];lia
theorem xZ(h:Hg s):s.count 0=1:=by
 obtain⟨t,ht,u⟩:=h.one;obtain⟨Qp,ht⟩:=SM.mp ht;have e:=UB t s;have ed:s.drop t=0::s.drop (t+1):=by rw[<-ht];exact Vl Qp
 rw[<-e,ed,List.count_append,List.count_cons_self,List.count_eq_zero.mpr fun z=>?_,List.count_eq_zero.mpr fun z=>?_]
 . obtain⟨j,hj⟩:=VD.mp z;rw[V1] at hj;have:=u _ hj;lia
 . obtain⟨j,hj⟩:=VD.mp z;rw[List.getElem?_take] at hj;split at hj
   . have:=u _ hj;lia
   . cases hj
section
variable {P : Program} {w : World} {K : PySem.W.Frag} {mg : Str -> Option Value} {base : Heap}
theorem AQ(F:g8 K "_law_all" "_law_all" oC f fd)(T:Txt mg)(zA:gB P w K mg base "_law_longer" 1 ["_law_found","_law_n"] (cC Oc))(ka:gB P w K mg base "_law_is_hung" 1 ["_law_h"] (cC mZ)):aV P w K mg base eI 2 f fd ["_law_n"] (cC Ce):=by
 refine qP F mI (fun ds Qd h=>?_) (fun b5 A outer s H E hr=>⟨_,(aC (cI 1 mI.nd (lM (aa (eM aj) aj)))
 (aC (fU rfl (fu T.uf (aa (dv 0) aj)) (dj 2 mI.nd)
 (aF (cI 1 mI.nd (bR zA (hr.mono (by decide)) (aa (dv 1) (aa (dv 0) aj))))) Um)
 (aF (aS (Ov.ev (ef (N:= ["_law_one"]) (nt:=1) (js:= []) ⟨rfl,by decide+kernel,by decide,rfl,by decide+kernel,(by show∀x∈(_:List (Str × NameKind)),x.2=NameKind.free->(ab oC).names.lookup x.1=some .cell\/(ab oC).names.lookup x.1=some .free;decide+kernel)⟩ rfl (dh (dv 1)) (fun _ _ _ _ _=>aJ (i:=0) (show(["_law_one"]:List Str).Nodup by decide+kernel) rfl (by first | exact Or.inl rfl | exact Or.inr rfl)) bO aR (fun _ _ _ _ _=>lJ (PW.pt (w_and (Dc (Bu (dv 0) (aa aD aj)) aD) (v3 (fY (bR ka (hr.mono (by decide)) (aa (dv 0) aj))))))) (fun _ _ _ _ _=>(dv 0)))))))),fun ds Qd h=>?_⟩)
 . obtain⟨n,rfl,_⟩:=h;rfl
 . obtain⟨n,rfl,n1,n5,q⟩:=h;refine⟨by show 0<=sizeLine;decide,by show 1<=sizeLine;decide,⟨_,rfl,rfl⟩,?_⟩;refine⟨_,rfl,n,rfl,by lia,by lia,ez (Ry n) ⟨.no,rfl,rfl⟩ (fun i d δ hi hP Δ' uI _=>?_) (fun δ hP=>?_)⟩
   . obtain⟨s2,rfl,b2⟩:=hP;have il:i < n:=by have:=(SM.mp hi).1;simpa using this
     exact⟨⟨_,rfl,b2⟩,_,rfl,_,rfl,n,i,rfl,n5,by lia,⟨_,rfl,rfl⟩,uI _ ⟨.im d,rfl,rfl⟩⟩
   . obtain⟨s2,rfl,b2⟩:=hP;rw[Sx,Tf,Tp];have l1:=j7 (n:=n) n;have l2:(n+1)^n<=6^n:=UM (by lia) n;have l3:6^n<=6^5:=UH (by decide) n5;refine⟨_,rfl,_,rfl,by rw[Sx,TZ];lia,fun d=>decide ((kg d).count 0=1) && hB (kg d),id,fun d hd=>?_,?_⟩
     . obtain⟨x,hx,rfl⟩:=SU.mp hd;obtain⟨lx,rx⟩:=gU hx;refine⟨⟨_,rfl,rfl⟩,_,rfl,⟨_,rfl⟩,⟨_,_,rfl,rfl,rfl,Cs x,?_⟩⟩;rw[FF];refine⟨_,rfl,_,rfl,?_⟩;have eB:decide ((kg (aB x)).count 0=1)=decide (((x.count 0:Nat):Int)=1):=by rw[cB];exact decide_eq_decide.mpr ⟨fun h=>by lia,fun h=>by lia⟩
       have eH:hB (kg (aB x))=hB x:=by rw[cB]
       by_cases c:((x.count 0:Nat):Int)=1
       . rw[if_pos (TK c)];refine⟨_,rfl,x,rfl,by lia,by lia,fun y hy=>by have:=rx y hy;lia,fun b hb=>⟨b,rfl,?_,fun _=>⟨_,rfl,rfl⟩⟩⟩;show _=(decide ((kg (aB x)).count 0=1) && hB (kg (aB x)))
         rw[eB,eH,TK c,Bool.true_and,T4,hb,x5]
       . rw[if_neg (fun z=>c (T6 z))];refine⟨?_,fun z=>nomatch z⟩;show _=(decide ((kg (aB x)).count 0=1) && hB (kg (aB x)))
         rw[eB,S9 c];rfl
     . rw[List.map_id,Vs];have:(iD n n).filter ((fun d=>decide ((kg d).count 0=1) && hB (kg d)) ∘ aB)=bG n n:=by
        refine FO n1 (by lia) fun s l le=>?_;show(decide ((kg (aB s)).count 0=1) && hB (kg (aB s)))=true↔_;rw[cB,T9,x5,decide_eq_true_iff];exact⟨fun h=>h.2,fun h=>⟨xZ h,h⟩⟩
       rw[this];exact q
theorem D9(F:g8 K "_law_six" "_law_six" oB f fd)(T:Txt mg)(iF:gB P w K mg base "all_plain" 5 ["n"] (cC FP))(gA:gB P w K mg base "plain_many" 1 ["n"] (cC LF))(ka:gB P w K mg base "_law_is_hung" 1 ["_law_h"] (cC mZ))(iE:gB P w K mg base "_law_crossed" 1 ["_law_h"] (cC jW)):aV P w K mg base eI 6 f fd [] (cC G3):=by
 refine qP F wI (fun ds Qd h=>?_) (fun b5 A outer s H E hr=>⟨_,(aC (cI 0 wI.nd (bR iF (hr.mono (by decide)) (aa aD aj)))
 (aC (ig (PW.pt (w_or (wd (fF T.len (aa (dv 0) aj)) aD) (w_or (GH 2 (ux hr) (dv 0) (Br hr.hd (uH hr) T.BY T.set (aa (dv 0) aj))) (vZ (wd (bR gA (hr.mono (by decide)) (aa aD aj)) aD)))))
 (aF (aS pD))
 dz)
 (aF (aS (CG rfl T.all (aa (Ov.ev (ef (N:= ["_law_one"]) (nt:=1) (js:= []) ⟨rfl,by decide+kernel,by decide,rfl,by decide+kernel,(by show∀x∈(_:List (Str × NameKind)),x.2=NameKind.free->(ab oB).names.lookup x.1=some .cell\/(ab oB).names.lookup x.1=some .free;decide+kernel)⟩ rfl (dh (dv 0)) (fun _ _ _ _ _=>aJ (i:=0) (show(["_law_one"]:List Str).Nodup by decide+kernel) rfl (by first | exact Or.inl rfl | exact Or.inr rfl)) bO aR (fun _ _ _ _ _=>gX) (fun _ _ _ _ _=>(jV (fG (T:="tuple") (by decide) T.vL (az (dv 0) (az (bV (v:= .ty "tuple") (by rfl) T.tup da rfl) aN))) (jV (bR ka (hr.mono (by decide)) (aa (dv 0) aj)) (jU (yU hr.qf (bR iE (hr.mono (by decide)) (aa (dv 0) aj))))))))) aj)))))),fun ds Qd h=>?_⟩)
 . obtain⟨rfl,_⟩:=h;rfl
 . obtain⟨rfl,q⟩:=h;have g6:=ya (n:=6) six.1;have l6:(grow 6 6).length=728:=by rw[g6];exact six.2
   have P6:(grow 6 6).Nodup:=(MH.gS (by decide) 6).imp fun{a b} h z=>by rw[z] at h;exact Tu _ h
   refine⟨6,rfl,by decide,by decide,⟨_,rfl,rfl⟩,?_⟩;refine⟨_,rfl,⟨_, .inl rfl,_,rfl,_,rfl,?_⟩⟩;rw[Sx,l6];rw[if_neg (by decide)];refine⟨_,rfl,_,rfl,⟨(grow 6 6).map zI,100,6,by rw[vV],by rw[Sx,l6];decide,by rw[S5,g6];exact Df,by decide,by decide,fun g hg=>?_,fun ms hp hs=>?_⟩⟩
   . obtain⟨y,hy,rfl⟩:=SU.mp hg;exact DI (by decide) (eh.mp hy)
   rw[wy (by decide) P6 (fun g=>eh) hp hs,vV];refine⟨rfl,wG,_,rfl,?_⟩;rw[yw,if_pos rfl];rw[if_neg (by decide)];refine⟨6,rfl,by decide,by decide,_,rfl,_,rfl,?_⟩;rw[if_neg (by decide)];refine⟨_,rfl,⟨_,rfl,by rw[Sx,l6,TZ];decide,fun _=>true,fun _=> .bl true,fun d hd=>?_,?_⟩⟩
   . obtain⟨x,hx,rfl⟩:=SU.mp hd;have px:=eh.mp hx;refine⟨⟨_,rfl,rfl⟩,rfl,fun _=>?_⟩;refine⟨_,rfl,⟨true,rfl,⟨true,rfl,?_⟩⟩⟩;rw[if_pos rfl];refine⟨_,rfl,x,rfl,by rw[px.len];decide,by rw[px.len];decide,fun y hy=>by rw[px.len];exact px.le y hy,fun b hb=>⟨b,rfl,?_⟩⟩;rw[if_pos (hb.mpr (px.hg (by decide)))];refine⟨_,rfl,x,rfl,by rw[px.len];decide,fun y hy=>by have:=px.le y hy;lia,fun L hL=>?_⟩;refine⟨_,rfl,?_⟩;rw[(lQ hL).mpr px.ok.xA];rfl
   . refine⟨(List.replicate 728 true),?_,?_⟩
     . rw[Uj.mpr fun _ _=>rfl,S5,show List.map ((fun _=>Dt.bl true) ∘ aB) (grow 6 6)=List.replicate (grow 6 6).length (Dt.bl true) from List.map_const' ..,l6,List.map_replicate]
     . rw[show(List.replicate 728 true).all id=true from TH.mpr fun b hb=>(List.mem_replicate.mp hb).2];exact q
end
end cG
namespace cG
open PySem PySem.Spec L2 LB LD MH bC PyProof.Rows
def P0(d:Dt):Prop:=d= .aI\/ ∃i:Int,d= .int i
def Kn(p:Dt->Prop)(d:Dt):Prop:=P0 d\/ ∃es:List Dt,(d= .lst es\/d= .tup es)/\es.length<=46656/\ ∀e∈es,p e
def JW(p:Dt->Prop):DN:=fun ds Q=> ∃d,ds= [d,d]/\p d/\Q (.bl true)
section
variable {P : Program} {w : World} {K : PySem.W.Frag} {mg : Str -> Option Value} {base : Heap}
theorem xo:aV P w K mg base eI 0 f fd ["_law_found","_law_due"] (cC (JW fun _=>False)):=
 ⟨fun vs H Q E h=>by obtain⟨M,ds,Qd,al,r,⟨d,rfl,z,_⟩,k⟩:=h;exact z.elim,fun A o s H args us vs Q E _ _ _ _ h=>by obtain⟨M,ds,Qd,al,r,⟨d,rfl,z,_⟩,k⟩:=h;exact z.elim⟩
theorem jr(F:g8 K "_law_same" "_law_same" jj f fd)(T:Txt mg)(FW:gB P w K mg base "_law_same" k ["_law_found","_law_due"] (cC (JW p))):aV P w K mg base eI (k+1) f fd ["_law_found","_law_due"] (cC (JW (Kn p))):=by
 refine qP F Aj (fun ds Qd h=>?_) (fun b5 A outer s H E hr=>⟨_,(aC (ig (GK (dv 1))
 (aF (aS (IU (dv 0))))
 dz)
 (aC (ig (fY (fG (T:="bool") (by decide) T.vL (az (dv 1) (az (bV (v:= .ty "bool") (by rfl) T.bool gy rfl) aN))))
 (aF (aS (jV (fG (T:="bool") (by decide) T.vL (az (dv 0) (az (bV (v:= .ty "bool") (by rfl) T.bool gy rfl) aN))) (jU (u7 (dv 0) (dv 1))))))
 dz)
 (aC (ig (fY (Fn (dv 1) T.vL T.lst T.tup))
 (aC (ig (PW.pt (w_or (wd (fG (T:="list") (by decide) T.vL (az (dv 0) (az (bV (v:= .ty "list") (by rfl) T.lst eE rfl) aN))) (fG (T:="list") (by decide) T.vL (az (dv 1) (az (bV (v:= .ty "list") (by rfl) T.lst eE rfl) aN)))) (vZ (wd (fG (T:="tuple") (by decide) T.vL (az (dv 0) (az (bV (v:= .ty "tuple") (by rfl) T.tup da rfl) aN))) (fG (T:="tuple") (by decide) T.vL (az (dv 1) (az (bV (v:= .ty "tuple") (by rfl) T.tup da rfl) aN)))))))
 (aF (aS pD))
 dz)
 (aF (aS (jV (u7 (fF T.len (aa (dv 0) aj)) (fF T.len (aa (dv 1) aj))) (jU (CG rfl T.all (aa (Ov.ev (ef (N:= ["_law_one","_law_other"]) (nt:=2) (js:= []) ⟨rfl,by decide+kernel,by decide,rfl,by decide+kernel,(by show∀x∈(_:List (Str × NameKind)),x.2=NameKind.free->(ab jj).names.lookup x.1=some .cell\/(ab jj).names.lookup x.1=some .free;decide+kernel)⟩ rfl (HU (aa (dv 0) (aa (dv 1) aj)) fun z=>DK (by rfl) T.zip z) (fun _ _ _ _ _=>ip rfl (bf (aJ (i:=0) (show(["_law_one","_law_other"]:List Str).Nodup by decide+kernel) rfl (by first | exact Or.inl rfl | exact Or.inr rfl)) (bf (aJ (i:=1) (show(["_law_one","_law_other"]:List Str).Nodup by decide+kernel) rfl (by first | exact Or.inl rfl | exact Or.inr rfl)) fJ))) dI cP (fun _ _ _ _ _=>gX) (fun _ _ _ _ _=>(bR FW (hr.mono (SD _)) (aa (dv 0) (aa (dv 1) aj)))))) aj)))))))
 dz)
 (aC (ig (fY (fG (T:="str") (by decide) T.vL (az (dv 1) (az (bV (v:= .ty "str") (by rfl) T.str lX rfl) aN))))
 (aF (aS (jV (fG (T:="str") (by decide) T.vL (az (dv 0) (az (bV (v:= .ty "str") (by rfl) T.str lX rfl) aN))) (jU (u7 (dv 0) (dv 1))))))
 dz)
 (aF (aS (jV (fG (T:="int") (by decide) T.vL (az (dv 0) (az (bV (v:= .ty "int") (by rfl) T.int lY rfl) aN))) (jV (CA (fG (T:="bool") (by decide) T.vL (az (dv 0) (az (bV (v:= .ty "bool") (by rfl) T.bool gy rfl) aN)))) (jU (u7 (dv 0) (dv 1))))))))))),fun ds Qd h=>?_⟩)
 . obtain⟨d,rfl,_⟩:=h;rfl
 . obtain⟨d,rfl,(rfl | ⟨i,rfl⟩) | ⟨es,hd,el,pe⟩,q⟩:=h
   . exact⟨_,rfl,_,rfl,dE ⟨_,rfl,q⟩⟩
   . refine⟨_,rfl,_,rfl,bJ ⟨_,rfl,_,rfl,_,rfl,bJ ⟨_,rfl,_,rfl,_,rfl,bJ ⟨_,rfl,_,rfl,_,rfl,bJ ?_⟩⟩⟩⟩;exact⟨_,rfl,_,rfl,_,rfl,dE ⟨_,rfl,_,rfl,_,rfl,_,rfl,dE ⟨_,rfl,_,rfl,true,(show some (decide _)=some true from UI some (TK rfl)),q⟩⟩⟩
   rcases hd with rfl | rfl
   . refine⟨_,rfl,_,rfl,bJ ⟨_,rfl,_,rfl,_,rfl,bJ ⟨_,rfl,_,rfl,_,rfl,dE ?_⟩⟩⟩;refine⟨_,rfl,_,rfl,_,rfl,_,rfl,true,rfl,_,rfl,bJ ⟨_,rfl,_,rfl,_,rfl,_,rfl,true,rfl,_,rfl,bJ ?_⟩⟩;refine⟨_,rfl,_, .inl rfl,_,rfl,_, .inl rfl,true,pd.trans (by simp),_,rfl,dE ?_⟩;refine⟨_,rfl,_,rfl,false,false,_,_,rfl,?_,fun _=>true,fun _=> .bl true,fun e he=>?_,?_⟩
     . unfold hV;rw[List.length_zipWith,VX];exact S4 el (by decide)
     . obtain⟨i,hi,ei⟩:=Ua he;unfold hV at hi ei;rw[List.getElem_zipWith] at ei;subst ei;exact⟨_,_,rfl,⟨_,rfl,rfl⟩,⟨_,rfl,rfl⟩,rfl,fun _=>⟨_,rfl,_,rfl,_,rfl,pe _ (Ur _),rfl⟩⟩
     . refine⟨List.replicate (hV es es).length true,?_,?_⟩
       . rw[Uj.mpr (fun _ _=>rfl),List.map_replicate];congr 2
         exact List.eq_replicate_iff.mpr ⟨by rw[Sx],fun b hb=>by obtain⟨_,_,rfl⟩:=SU.mp hb;rfl⟩
       rw[show(List.replicate (hV es es).length true).all id=true from TH.mpr fun b hb=>(List.eq_of_mem_replicate hb)];exact q
   . refine⟨_,rfl,_,rfl,bJ ⟨_,rfl,_,rfl,_,rfl,bJ ⟨_,rfl,_,rfl,_,rfl,dE ?_⟩⟩⟩;refine⟨_,rfl,_,rfl,_,rfl,_,rfl,true,rfl,_,rfl,bJ ⟨_,rfl,_,rfl,_,rfl,_,rfl,true,rfl,_,rfl,bJ ?_⟩⟩;refine⟨_,rfl,_, .inr rfl,_,rfl,_, .inr rfl,true,pd.trans (by simp),_,rfl,dE ?_⟩;refine⟨_,rfl,_,rfl,true,true,_,_,rfl,?_,fun _=>true,fun _=> .bl true,fun e he=>?_,?_⟩
     . unfold hV;rw[List.length_zipWith,VX];exact S4 el (by decide)
     . obtain⟨i,hi,ei⟩:=Ua he;unfold hV at hi ei;rw[List.getElem_zipWith] at ei;subst ei;exact⟨_,_,rfl,⟨_,rfl,rfl⟩,⟨_,rfl,rfl⟩,rfl,fun _=>⟨_,rfl,_,rfl,_,rfl,pe _ (Ur _),rfl⟩⟩
     . refine⟨List.replicate (hV es es).length true,?_,?_⟩
       . rw[Uj.mpr (fun _ _=>rfl),List.map_replicate];congr 2
         exact List.eq_replicate_iff.mpr ⟨by rw[Sx],fun b hb=>by obtain⟨_,_,rfl⟩:=SU.mp hb;rfl⟩
       rw[show(List.replicate (hV es es).length true).all id=true from TH.mpr fun b hb=>(List.eq_of_mem_replicate hb)];exact q
end
end cG
namespace LD
open PySem PySem.Spec L2 LB PyProof.Rows LW
theorem Rep.MP(f:nR d)(t: ∀b ys,H b=some (.tup ys)->H' b=some (.tup ys))(al:hC M' H'): ∀{v:V},Rep M H v d->Rep M' H' v d:=by
 induction f with
 | aI=>intro v r;cases r;exact .aI
 | bl b=>intro v r;cases r;exact .bl b
 | int i=>intro v r;cases r;exact .int i
 | str x=>intro v r;cases r;exact .str x
 | @tup ds _ ih=>
  intro v r;obtain⟨a,xs,rfl,ha,_,rr⟩:=r.bM;exact Rep.kO (t _ _ ha) (al.tup (t _ _ ha)) ⟨rr.1,fun i x d h1 h2=>ih d (SW h2) (rr.2 i x d h1 h2)⟩
section
variable {X : Cx} {x : Str} {k : Nat} {ps : List Str} {e : Expr} {es : List Expr} {p pos : Pos}
def Nq(S:DN)(t:eG):p6:=fun δ Q=>t δ fun ds δ'=>(∀d∈ds,nR d)/\S ds fun r=> ∃es,r= .lst es/\(∀d∈es,nR d)/\Q es δ'
theorem Cb(h:gB X.prog X.w X.K X.mg X.base x k ps (cC S))(hr:bB k X.A)(ha:Av X (e::es) t)(hg:Gl X x:=by rfl)(jI:(x==("__debug__":Str))=false:=by decide)(he:starEach (e::es) X.env=(false,eval e X.env)::starEach es X.env:=by rfl)(cv:(backTo pos (starEach es X.env)).any (·.1)=false:=by rfl):
  Ov X (.Call (.Name x p) (e::es) [] pos) (Nq S t):=PE.imp (jq h hr hg ha jI he cv) fun σ H Q cu=>(by
 obtain⟨W,M,α,δ,Qd,E,q,k⟩:=cu;refine⟨W,M,α,δ,_,E,q,fun ds δ' H' vs fQ E1 c1 r1=>?_⟩;obtain⟨fl,q1⟩:=fQ;show cC S (vs++ []) H' Q E0;rw[TX];have al:hC (fun a=>M a\/ ∃o,H' a=some o/\ ∀xs,o≠ .tup xs) H':=fun a z=>z.elim (E1.al a) id;refine⟨_,ds,_,al,r1.uQ fl al,q1,fun r H2 v2 mj s r2=>?_⟩;obtain⟨es,er,at',q2⟩:=mj;subst er;obtain⟨a,xs,rfl,h2,n,rr⟩:=r2.b6;have fr:H' a=none:=by
  cases e:H' a with
  | none=>rfl
  | some o=>
   have:=s _ _ e;rw[h2] at this;cases this;exact absurd (.inr ⟨_,e,fun xs z=>by cases z⟩) n
 have e2:H2=upd (fun b=>if b=a then none else H2 b) a (.lst xs):=by
  funext b
  by_cases c:b=a
  . subst c;rw[ae];exact h2
  . rw[ag c,if_neg c]
 have s2:ay H' (fun b=>if b=a then none else H2 b):=fun b o e=>by
  have:b≠a:=fun z=>by subst z;rw[fr] at e;cases e
  show(if b=a then none else H2 b)=some o;rw[if_neg this];exact s _ _ e
 have E2:=E1.same s2;have pV:ax M (fun b=>if b=a then none else H2 b) xs es:=⟨rr.1,fun i x d g1 g2=>Rep.MP (at' d (SW g2)) (fun b ys hb=>by
  have:b≠a:=fun z=>by subst z;rw[h2] at hb;cases hb
  show(if b=a then none else H2 b)=_;rw[if_neg this];exact hb) E2.al (rr.2 i x d g1 g2)⟩
 rw[e2];exact k _ _ _ _ _ q2 E2 (c1.tr (b7.of s2)) pV (if_pos rfl))
end
theorem gM{Δ:eO}(Q:List Sl->Prop)(h: ∀Δ':eO,(∀δ',Q δ'->Δ'.nx δ')->(∀d δ',Δ.rt d δ'->Δ'.rt d δ')->T Δ' δ)(fin: ∀δ',Q δ'->R Δ δ'):IY T R Δ δ:=h _ fin fun _ _ z=>z
end LD
namespace cG
open PySem PySem.Spec L2 LB LD MH bC PyProof.Rows
theorem Fo{X:Cx}(h:gB X.prog X.w X.K X.mg X.base x k ps (cC S))(hr:bB k X.A)(hg:Gl X x:=by rfl)(jI:(x==("__debug__":Str))=false:=by decide):Ev X (.Call (.Name x p) [] [] pos) (zc S BA):=by
 obtain⟨f,fd,h1,h2,h3,h4⟩:=h;exact PE.imp (xi h4 hr hg h1 h2 h3 .nil xk jI) fun σ H Q cu=>(by
  obtain⟨W,M,α,δ,Qd,E,q,k⟩:=cu;show cC S [] H Q E0;exact⟨M,[],_,E.al, .nil,q,fun r H2 v2 q2 s r2=>k _ _ _ _ q2 (E.same s) (b7.of s) r2⟩)
abbrev B3:Dt->Prop:=Kn (Kn (Kn fun _=>False))
theorem kT{G:List (List Nat)}{k:Nat}(hk: ∀s∈G,s.length<=46656)(hG:G.length<=46656):B3 (.lst (G.map aB)):= .inr ⟨_, .inl rfl,by rw[Sx];exact hG,fun d hd=>by
 obtain⟨s,hs,rfl⟩:=SU.mp hd;exact .inr ⟨_, .inr rfl,by rw[Sx];exact hk s hs,fun e he=>by
  obtain⟨x,_,rfl⟩:=SU.mp he;exact .inl (.inr ⟨_,rfl⟩)⟩⟩
theorem Bl:nR (aB s):= .tup fun d hd=>by
 obtain⟨x,_,rfl⟩:=SU.mp hd;exact .int _
def uv(s:Sl):Prop:=s= .no\/(∃d,s= .im d)\/ ∃ds,s= .ow ds/\ ∀d∈ds,nR d
inductive O6(n:Nat)(t:Int)(i:Nat)(δ:List Sl):Prop
 | mk (s5 s6 s7:Sl) (e:δ= [.no, .bx t, .im (nD n), .im (.lst ((bG n n).map aB)), .im (.lst ((MH.grow n n).map aB)),s5,s6,s7]) (h5:uv s5) (h6:uv s6) (h7:uv s7)
theorem uv.bx(h:uv s):s.cO=false:=by
 rcases h with rfl | ⟨d,rfl⟩ | ⟨ds,rfl,_⟩ <;> rfl
open Classical in
noncomputable def xB(s:List Nat):Bool:=decide (CP s)
theorem vW:xB s=true↔CP s:= @decide_eq_true_iff _ (_)
theorem IJ{L:List (Nat × Nat)}(hL:L.Perm (fT hs)):((gv L).map F9).isEmpty=xB hs:=by rw[T4,List.isEmpty_iff,List.map_eq_nil_iff,lQ hL,vW]
def N2(s:Sl):Prop:=s= .no\/(∃d,s= .im d)\/(∃t,s= .bx t)\/ ∃ds,s= .ow ds/\ ∀d∈ds,nR d
theorem uv.v(h:uv s):N2 s:=h.elim .inl fun h=> .inr (h.elim .inl fun h=> .inr (.inr h))
theorem sI{i:Nat}(h5:uv s5)(h6:uv s6)(h7:uv s7): ∀j s,j≠i->([.no, .bx t, .im a, .im b, .im c,s5,s6,s7]:List Sl)[j]?=some s->N2 s:=fun j s _ e=>by
 have m:=SW e;simp only [Tg,SH,or_false] at m;rcases m with rfl | rfl | rfl | rfl | rfl | rfl | rfl | rfl
 . exact .inl rfl
 . exact .inr (.inr (.inl ⟨_,rfl⟩))
 . exact .inr (.inl ⟨_,rfl⟩)
 . exact .inr (.inl ⟨_,rfl⟩)
 . exact .inr (.inl ⟨_,rfl⟩)
 . exact h5.v
 . exact h6.v
 . exact h7.v
theorem IH: ∀d∈ [nD n],nR d:=fun d hd=>by rw[SS.mp hd];exact .int _
theorem Gn{G:List (List Nat)}: ∀d∈G.map aB,nR d:=fun d hd=>by
 obtain⟨x,_,rfl⟩:=SU.mp hd;exact Bl
theorem FG(n1:1<=n)(n5:n<=5):((bG n n).length:Int)=(n:Int)^(n - 1)/\((MH.grow n n).length:Int)=JZ n:=by
 obtain⟨m,rfl⟩: ∃m,n=m+1:=⟨n - 1,by lia⟩
 obtain⟨a,b⟩:=counts ⟨m,by lia⟩;refine⟨by rw[show(bG (m+1) (m+1)).length=(m+1)^m from a,Ug,Int.natCast_pow],?_⟩;rw[show(MH.grow (m+1) (m+1)).length= [1,2,7,30,143][m]! from b];have:m=0\/m=1\/m=2\/m=3\/m=4:=by lia
 rcases this with rfl | rfl | rfl | rfl | rfl <;> rfl
theorem HE(hk:k < 7): ∃m:Nat,([.int 1, .int 2, .int 3, .int 4, .int 4, .int 5, .int 5]:List Dt)[k]?=some (nD m)/\1<=m/\m<=5:=by
 have:k=0\/k=1\/k=2\/k=3\/k=4\/k=5\/k=6:=by lia
 rcases this with rfl | rfl | rfl | rfl | rfl | rfl | rfl
 . exact⟨1,rfl,by decide,by decide⟩
 . exact⟨2,rfl,by decide,by decide⟩
 . exact⟨3,rfl,by decide,by decide⟩
 . exact⟨4,rfl,by decide,by decide⟩
 . exact⟨4,rfl,by decide,by decide⟩
 . exact⟨5,rfl,by decide,by decide⟩
 . exact⟨5,rfl,by decide,by decide⟩
theorem xt{P:Program}{w:World}{K:PySem.W.Frag}(F:g8 K "fits" "fits" rU f fd)(T:Txt mg):aV P w K mg base eI 3 f fd ["start","on"] (cC AX):=
 ((sr F T).imp fun _ _ _ _ z=>by obtain⟨M,ds,Qd,al,r,q,k⟩:=z;exact⟨M,ds,Qd,al,r,AW q,k⟩).mono (by decide)
section
variable {P : Program} {w : World} {K : PySem.W.Frag} {mg : Str -> Option Value} {base : Heap}
theorem Ec(F:g8 K "law" "law" wO f fd)(T:Txt mg)(NB:gB P w K mg base "_law_begin" 1 ["_law_script"] (mG K))(zy:gB P w K mg base "_law_take" 1 ["_law_box","_law_many"] (G2 wc))(nP:gB P w K mg base "all_hangings" 5 ["n"] (cC Jr))(iF:gB P w K mg base "all_plain" 5 ["n"] (cC FP))(kI:gB P w K mg base "hangings_many" 1 ["n"] (cC Ou))(gA:gB P w K mg base "plain_many" 1 ["n"] (cC LF))(zx:gB P w K mg base "_law_same" 3 ["_law_found","_law_due"] (cC (JW B3)))(zB:gB P w K mg base "_law_all" 2 ["_law_n"] (cC Ce))(JB:gB P w K mg base "_law_six" 6 [] (cC G3))(iE:gB P w K mg base "_law_crossed" 1 ["_law_h"] (cC jW)):
  aV P w K mg base eI 7 f fd ["_law_script"] (om K):=by
 refine HN F jh (by decide) (fun b5 A outer s H E hr=>⟨_,_,_,rfl,dZ (i:=1) jh.nd rfl (Or.inl rfl) (jq NB (hr.mono (by decide)) rfl (az (pv 0) aN)),(aC (cI 2 jh.nd (ky (lM (aa aD (aa aD (aa aD (aa aD (aa aD (aa aD (aa aD aj)))))))) (CF 1 zy (hr.mono (by decide)) (pv 1) (aa aD aj))))
 (aC (cI 3 jh.nd (bR zB (hr.mono (by decide)) (aa (dv 2) aj)))
 (aC (Dj 4 jh.nd (N:= ["_law_h"]) (nt:=1) (js:= []) ⟨rfl,by decide+kernel,by decide,rfl,by decide+kernel,(by show∀x∈(_:List (Str × NameKind)),x.2=NameKind.free->(ab wO).names.lookup x.1=some .cell\/(ab wO).names.lookup x.1=some .free;decide+kernel)⟩ rfl (dh (dv 3)) (fun _ _ _ _ _=>aJ (i:=0) (show(["_law_h"]:List Str).Nodup by decide+kernel) rfl (by first | exact Or.inl rfl | exact Or.inr rfl)) bO aR (fun _ _ _ _ _=>lJ (oi hr.qf (bR iE (hr.mono (by decide)) (aa (dv 0) aj)))) (fun _ _ _ _ _=>(dv 0)))
 (aC (wM 4 (fU rfl (fu T.uf (aa aD aj)) (dj 5 jh.nd)
 (aC (Di 6 7 rfl jh.nd (Iy (Cb nP (hr.mono (by decide)) (aa (dv 2) aj)) (Iy (Cb iF (hr.mono (by decide)) (aa (dv 2) aj)) Iz)))
 (aC (ig (PW.pt (w_or (rO (fY (tm 6 (bR zx (hr.mono (by decide)) (aa (dv 6) (aa (dv 3) aj)))))) (vZ (rO (fY (tm 7 (bR zx (hr.mono (by decide)) (aa (dv 7) (aa (dv 4) aj)))))))))
 (aF (aS pD))
 dz)
 (aC (ji (pE 6 (pv 6) (aa (eM aj) aj)))
 (aF (ji (u5 7 (pv 7))))))) Um))
 (aC (ig (rO (fY (bR zx (hr.mono (by decide)) (aa (lM (aa (bR kI (hr.mono (by decide)) (aa (dv 2) aj)) (aa (bR gA (hr.mono (by decide)) (aa (dv 2) aj)) aj))) (aa (lM (aa (fF T.len (aa (dv 3) aj)) (aa (fF T.len (aa (dv 4) aj)) aj))) aj)))))
 (aF (aS pD))
 dz)
 (aF (aS (IS (M7 (CF 1 zy (hr.mono (by decide)) (pv 1) (aa aD aj)) aD) (jU (Fo JB (hr.mono (by decide)))))))))))),?_⟩)
 refine gM (fun δ'=> ∃(n:Nat) (t:Int),t<=1/\1<=n/\n<=5/\δ'= [.no, .bx t, .im (nD n), .no, .no, .no, .no, .no]) (fun Δ0 vM _=>?_) ?_
 . refine⟨by show 7<=sizeLine;decide,⟨_,rfl⟩,_,rfl,_,rfl,by decide,by decide,by decide,fun r r1 r2=>?_⟩;obtain⟨k,rfl⟩:=Int.eq_ofNat_of_zero_le r1;obtain⟨m,hm,m1,m5⟩:=HE (k:=k) (by lia);exact⟨_,_,_, .inl rfl,rfl,tH (j:=k) hm,⟨_,rfl,rfl⟩,vM _ ⟨m,0+1,by decide,m1,m5,rfl⟩⟩
 rintro _ ⟨n,t,ht,n1,n5,rfl⟩
 try dsimp only [lP]
 have gl:(bG n n).length<=6^5:=S4 (iz (n:=n) n) (S4 (UM (by lia) n) (UH (by decide) n5));have pl:(MH.grow n n).length<=6^5:=S4 (jK (n:=n) n) (S4 (UM (by lia) n) (UH (by decide) n5));have pk: ∀s∈MH.grow n n,s.length<=46656:=fun s hs=>by rw[(eh.mp hs).len];lia
 have ak: ∀s∈bG n n,s.length<=46656:=fun s hs=>by rw[((ni n1).mp hs).2];lia
 refine gM (fun δ'=>δ'= [.no, .bx t, .im (nD n), .im (.lst ((bG n n).map aB)), .no, .no, .no, .no]) (fun Δ0 vM _=>?_) ?_
 . exact⟨_,rfl,n,rfl,n1,n5,⟨_,rfl,rfl⟩,vM _ rfl⟩
 rintro _ rfl
 try dsimp only [lP]
 refine gM (fun δ'=>δ'= [.no, .bx t, .im (nD n), .im (.lst ((bG n n).map aB)), .ow ((MH.grow n n).map aB), .no, .no, .no]) (fun Δ0 vM _=>?_) ?_
 . refine⟨_,rfl,⟨_,rfl,by rw[Sx,TZ];exact S4 gl (by decide),fun d=>xB (kg d),id,fun d hd=>?_,?_⟩⟩
   . obtain⟨x,hx,rfl⟩:=SU.mp hd;obtain⟨hg,hl⟩:=(ni n1).mp hx;have eX:xB (kg (aB x))=xB x:=by rw[cB]
     refine⟨⟨_,rfl,rfl⟩,_,rfl,x,rfl,by rw[hl];lia,fun y hy=>by have:=hg.le y hy;lia,fun L hL=>⟨_,rfl,_,rfl,(IJ hL).trans eX.symm,fun _=>⟨_,rfl,rfl⟩⟩⟩
   . rw[List.map_id,Vs];have:(bG n n).filter ((fun d=>xB (kg d)) ∘ aB)=MH.grow n n:=by
      refine uR n1 (by lia) fun s hs l=>?_;show xB (kg (aB s))=true↔_;rw[cB];exact vW
     rw[this];exact⟨⟨_,rfl,rfl⟩,vM _ rfl⟩
 rintro _ rfl
 try dsimp only [lP]
 refine gM (fun δ'=>O6 n t 2 δ') (fun Δ0 vM Qv=>?_) ?_
 . refine⟨_,rfl,2,rfl,by decide,by decide,ez (O6 n t) ⟨.no, .no, .no,rfl, .inl rfl, .inl rfl, .inl rfl⟩ (fun i d δ hi hP Δ' uI Qu=>?_) (fun δ hP=>?_)⟩
   . obtain⟨s5,s6,s7,rfl,h5,h6,h7⟩:=hP;refine⟨⟨_,rfl,h5.bx⟩,_,rfl,IH,n,rfl,n1,by lia,_,rfl,Gn,_,rfl,IH,n,rfl,n1,by lia,_,rfl,Gn,⟨_,_,rfl,⟨_,rfl,h6.bx⟩,⟨_,rfl,h7.bx⟩,?_⟩⟩;have o5:uv (.im d):= .inr (.inl ⟨_,rfl⟩);have o6:uv (.ow ((bG n n).map aB)):= .inr (.inr ⟨_,rfl,Gn⟩);have o7:uv (.ow ((MH.grow n n).map aB)):= .inr (.inr ⟨_,rfl,Gn⟩);refine⟨_,rfl,sI o5 o6 o7,_,rfl,_,rfl,_,rfl,kT (k:=0) ak (S4 gl (by decide)),rfl, .bl _,_,rfl,bJ ?_⟩;refine⟨_,rfl,sI o5 o6 o7,_,rfl,_,rfl,_,rfl,kT (k:=0) pk (S4 pl (by decide)),rfl, .bl _,_,rfl,bJ ?_⟩;refine⟨⟨_,rfl⟩,by show 0<=sizeLine;decide,⟨_,_,rfl,rfl,by rw[Sx,TZ];exact UU gl (by decide),?_⟩⟩;refine⟨_,rfl,uI _ ⟨_,_,_,rfl,o5, .inr (.inr ⟨_,rfl,fun d hd=>?_⟩), .inr (.inr ⟨_,rfl,fun d hd=>Gn d (List.mem_reverse.mp hd)⟩)⟩⟩;rcases Ts.mp hd with z | z
     . exact Gn d z
     . rw[SS.mp z];exact .tup fun d hd=>absurd hd SH
   . exact vM _ hP
 rintro _ ⟨s5,s6,s7,rfl,h5,h6,h7⟩
 try dsimp only [lP]
 obtain⟨c1,c2⟩:=FG n1 n5;refine gM (fun δ'=>δ'= [.no, .bx t, .im (nD n), .im (.lst ((bG n n).map aB)), .im (.lst ((MH.grow n n).map aB)),s5,s6,s7]) (fun Δ0 vM Qv=>?_) ?_
 . refine⟨_,rfl,n,rfl,n1,by lia,_,rfl,n,rfl,n1,by lia,by show 2<=sizeLine;decide,_,rfl,⟨_, .inl rfl,_,rfl,⟨_, .inl rfl,by show 2<=sizeLine;decide,?_⟩⟩⟩;rw[Sx,Sx,c1,c2];refine⟨_,rfl, .inr ⟨_, .inl rfl,by show 2<=46656;decide,fun e he=>?_⟩,_,rfl,bJ (vM _ rfl)⟩;simp only [Tg,SH,or_false] at he;rcases he with rfl | rfl
   . exact .inl (.inr ⟨_,rfl⟩)
   . exact .inl (.inr ⟨_,rfl⟩)
 rintro _ rfl
 try dsimp only [lP]
 refine⟨⟨_,rfl⟩,_,rfl,_,rfl,by lia,by decide,by decide,fun r r1 r2=>⟨_,_,rfl,rfl,⟨_,rfl,?_⟩⟩⟩;by_cases c:r > 0
 . rw[TK c];exact dE rfl
 . rw[S9 c];exact bJ ⟨rfl,rfl⟩
end
end cG
section
namespace cG
open PySem L2 LB LD PyProof.Rows
structure bD(K:PySem.W.Frag)(x:Str)(st:Stmt)(ps:List Str)(f:Addr)(fd:FuncData):Prop where
 a:PySem.W.nsIn K mainGlobals x=some (some (.ref f))
 F:g8 K x x st f fd
 b:Binds K fd ps []
theorem a9{K:PySem.W.Frag}{x:Str}{st:Stmt}{ps:List Str}{f:Addr}{oc:Value}{od an:Option Addr}{sl:Array (Option Value)}{kV dc pm cd ct:Value}(a:PySem.W.nsIn K mainGlobals x=some (some (.ref f)))(l:K.lookup f=some ⟨oc,od, .func (PySem.W.fnOf x x (fM st) (cj st) (ab st) .none kV dc pm an cd ct),sl⟩)(c:PySem.W.codeIn K cd x=true)(k:PySem.W.keepIn K (.ref f)=true)
  (h: ∀us:List Value,us.length=ps.length->bindArgs (PySem.W.fnOf x x (fM st) (cj st) (ab st) .none kV dc pm an cd ct) ⟨us,[]⟩=pure (ps.zip us)):bD K x st ps f (PySem.W.fnOf x x (fM st) (cj st) (ab st) .none kV dc pm an cd ct):=⟨a,EW l c k, .all h⟩
section
variable {P : Program} {w : World} {K : PySem.W.Frag} {mg : Str -> Option Value} {base h : Heap} {x : Str} {st : Stmt} {ps : List Str} {f : Addr} {fd : FuncData}
theorem bD.has(D:bD K x st ps f fd)(X:K.In h)(G:h.Ns mainGlobals mg)(o:aV P w K mg base eI k f fd ps sp):gB P w K mg base x k ps sp:=⟨f,fd,PySem.W.mg_of X G D.a,D.F.kp,D.b,o⟩
end
theorem all_mk{l:PySem.W.OpenLaw}{K:PySem.W.Frag}(X:K.In h)(G:h.Ns mainGlobals mg)(QK:mg "law"=some (.ref fa))(d1:bD K "tie" Dl ["word","on"] f1 e1)(d2:bD K "cross" qo ["first","second"] f2 e2)(d3:bD K "ties" oA ["h"] f3 e3)(d4:bD K "all_hangings" dY ["n"] f4 e4)(d5:bD K "all_plain" ik ["n"] f5 e5)(d6:bD K "grown" fe ["n","may_follow"] f6 e6)(d7:bD K "fits" rU ["start","on"] f7 e7)(d8:bD K "fits_plain" cJ ["start","on"] f8 e8)(d9:bD K "hangings_many" de ["n"] f9 e9)(OV:bD K "plain_many" gk ["n"] Sf Sr)(OU:bD K "_law_begin" mL ["_law_script"] Se OJ)(OT:bD K "_law_take" mK ["_law_box","_law_many"] Sd Sq)(OS:bD K "_law_is_hung" bU ["_law_h"] Sb Sn)(OR:bD K "_law_crossed" dA ["_law_h"] Sa Sm)(FE:bD K "_law_same" jj ["_law_found","_law_due"] R9 Sk)(OQ:bD K "_law_all" oC ["_law_n"] R8 Sj)(OP:bD K "_law_longer" fc ["_law_found","_law_n"] R7 Si)(OO:bD K "_law_six" oB [] R6 Sh)(Nw:bD K "law" wO ["_law_script"] R5 Q3)(z1:PySem.W.nsIn K mainGlobals "isinstance"=some none)(z2:PySem.W.nsIn K mainGlobals "len"=some none)(z3:PySem.W.nsIn K mainGlobals "enumerate"=some none)(z4:PySem.W.nsIn K mainGlobals "tuple"=some none)(z5:PySem.W.nsIn K mainGlobals "int"=some none)(z6:PySem.W.nsIn K mainGlobals "bool"=some none)(z7:PySem.W.nsIn K mainGlobals "range"=some none)(z8:PySem.W.nsIn K mainGlobals "list"=some none)(z9:PySem.W.nsIn K mainGlobals "divmod"=some none)(Pq:PySem.W.nsIn K mainGlobals "all"=some none)(Pp:PySem.W.nsIn K mainGlobals "str"=some none)(Po:PySem.W.nsIn K mainGlobals "zip"=some none)(Pn:PySem.W.nsIn K mainGlobals "sorted"=some none)(Pk:PySem.W.nsIn K mainGlobals "max"=some none)(Pj:PySem.W.nsIn K mainGlobals "min"=some none)(Ph:PySem.W.nsIn K mainGlobals "dict"=some none)(Pg:PySem.W.nsIn K mainGlobals "set"=some none)(Pf:PySem.W.nsIn K mainGlobals "any"=some none):
  ∃fd:FuncData,(∀(s:Shared) (v:Value),BindsTo s fd ⟨[v],[]⟩ [("_law_script",v)])/\ ∀base:Heap,K.In base->base.Ns mainGlobals mg->aV l.prog w K mg base eI 7 fa fd ["_law_script"] (om K):=by
 have e:=QK.symm.trans (PySem.W.mg_of X G Nw.a);cases e;have T:Txt mg:=⟨Tr X G z1,Tr X G z2,Tr X G z3,Tr X G z4,Tr X G z5,Tr X G z6,Tr X G z7,Tr X G z8,Tr X G z9,Tr X G Pq,Tr X G Pp,Tr X G Po,Tr X G Pn,Tr X G Pk,Tr X G Pj,Tr X G Ph,Tr X G Pg,Tr X G Pf⟩
 refine⟨Q3,?_,fun base XB GB=>?_⟩
 . obtain⟨oc,od,kV,doc,pm,an,b5,ct,DY,rfl,lk,uN⟩:=Nw.F.ex;exact fun s v=> .of_eq rfl
 have vC:=d1.has X G (P:=l.prog) (w:=w) (base:=base) (D8 d1.F T);have nO:=d2.has X G (P:=l.prog) (w:=w) (base:=base) (xu d2.F T);have zw:=d3.has X G (P:=l.prog) (w:=w) (base:=base) (AN d3.F T vC);have zC:=d7.has X G (P:=l.prog) (w:=w) (base:=base) (sr d7.F T);have hM:vD l.prog w K mg base f8 3 ["start","on"] (cC Ef):=⟨_,d8.F.kp,d8.b,mT d8.F T zC vC nO zw⟩
 have hA:vD l.prog w K mg base f7 3 ["start","on"] (cC AX):=⟨_,d7.F.kp,d7.b,xt d7.F T⟩
 have kb:=d6.has X G (P:=l.prog) (w:=w) (base:=base) (xr hM d6.F T);have BL:=d6.has X G (P:=l.prog) (w:=w) (base:=base) (uu hA d6.F T);have JD:=d5.has X G (P:=l.prog) (w:=w) (base:=base) (oJ (PySem.W.mg_of X G d8.a) d5.F T kb);have JC:=d4.has X G (P:=l.prog) (w:=w) (base:=base) (qw (PySem.W.mg_of X G d7.a) d4.F T BL);have Rw:=d9.has X G (P:=l.prog) (w:=w) (base:=base) (HB d9.F T);have O4:=OV.has X G (P:=l.prog) (w:=w) (base:=base) (HA OV.F T);have NB:=OU.has X G (P:=l.prog) (w:=w) (base:=base) (xv OU.F T);have JA:=OT.has X G (P:=l.prog) (w:=w) (base:=base) (xn OT.F T);have CQ:=OS.has X G (P:=l.prog) (w:=w) (base:=base) (ur OS.F T);have O5:=OR.has X G (P:=l.prog) (w:=w) (base:=base) (qv OR.F T);have Rq:=FE.has X G (P:=l.prog) (w:=w) (base:=base) (xo);have Ru:=FE.has X G (P:=l.prog) (w:=w) (base:=base) (jr FE.F T Rq);have Rt:=FE.has X G (P:=l.prog) (w:=w) (base:=base) (jr FE.F T Ru);have Rr:=FE.has X G (P:=l.prog) (w:=w) (base:=base) (jr FE.F T Rt);have Rv:=OP.has X G (P:=l.prog) (w:=w) (base:=base) (uq OP.F T);have zB:=OQ.has X G (P:=l.prog) (w:=w) (base:=base) (AQ OQ.F T Rv CQ);have NI:=OO.has X G (P:=l.prog) (w:=w) (base:=base) (D9 OO.F T JD O4 CQ O5);exact Ec Nw.F T NB JA JC JD Rw O4 Rr zB NI O5
theorem walk{l:PySem.W.OpenLaw}{q:Program}{loose:List Str}{XP:(Str->Option Value)->Heap->Prop}{YP:World->Heap->Prop}{d:DefRec}{K:Params->PySem.W.Frag}(hn:l.most=some 63)(Ip:d.params.defaults= [])
  (hY: ∀(w:World) (h:Heap),YP w h->(K w.params).In h)
  (F: ∀(w:World) (mg:Str->Option Value) (fa:Addr) (h:Heap),(K w.params).In h->h.Ns mainGlobals mg->mg d.name=some (.ref fa)->
   ∃fd:FuncData,(∀(s:Shared) (u:Value),BindsTo s fd ⟨[u],[]⟩ [("_law_script",u)])/\ ∀base:Heap,(K w.params).In base->base.Ns mainGlobals mg->aV l.prog w (K w.params) mg base eI 7 fa fd ["_law_script"] (om (K w.params))):
  PySem.W.WalkO q loose XP YP l.row.toRowW d [] (fun f vs=>PySem.call f vs):=
 L2.zZ (n:=63) (k:=7) (x:="_law_script") (CX:=fun _=>eI) (sp:=fun w=>om (K w.params)) hn (by decide) Ip ⟨rfl,by decide,by decide,rfl⟩ hY F (fun _ _ a ns hl _ hS=>⟨a,ns,rfl,hS,hl,fun _=>rfl⟩) fun _ _ _ _ _ z=>z
end cG
def K06.q'v:PySem.Program:={PySem.Challenge.rw_hungwords_k06_all_of_few_words.row.prog with main:={PySem.Challenge.rw_hungwords_k06_all_of_few_words.row.prog.main with body:=([1,2,3,5,6,7,8,9,10,11,13,14,15,16,17,18,19,20,21]:List Nat).filterMap fun i=>PySem.Challenge.rw_hungwords_k06_all_of_few_words.row.prog.main.body[i]?}}
open PySem PySem.W PyProof.Rows
local macro_rules
|`(tactic|o_law)=>`(tactic|refine holds_law (by kernel_rfl) fun said=>?_)
local macro_rules
|`(tactic|o_head $H)=>`(tactic|refine holds_open (q:=K06.q'v) (loose:=[]) (Xt:=fun s=>xlAt K06.q'v [] s && recOk (RowW.records (OpenRow.toRowW (OpenLaw.row PySem.Challenge.rw_hungwords_k06_all_of_few_words))) s) (XP:=XL K06.q'v []) (Yf:=Hook.obs $H) (Ya:=Hook.val $H) (YP:=Hook.says $H) (N:=1252) (by intro w;kernel_rfl) (Hook.of $H) (Hook.keeps $H) (fun s e=>xl_of s (Bool.and_eq_true_iff.mp e).1) XL.keeps (by rfl) (by rfl) (by rfl) (fun s e=>recFacts_of (Bool.and_eq_true_iff.mp e).2) (by rfl) (by first | assumption | decide+kernel) (by decide+kernel) ⟨rfl,rfl,rfl,rfl,rfl,by decide+kernel⟩ ?hw ?hc)
set_option maxRecDepth 100000 in
set_option maxHeartbeats 0 in
theorem PySem.Challenge.cw_hungwords_k06_all_of_few_words_holds : PySem.Challenge.rw_hungwords_k06_all_of_few_words.Holds := by
 w_on;o_law;k_head;(case hw=>w_witness2)
 k_fill
 refine cG.walk (l:=PySem.Challenge.rw_hungwords_k06_all_of_few_words) rfl rfl (fun w h Y=>PySem.W.kIn_of Y) ?F
 case F=>
  intro w mg fa h KX G Ig;refine' cG.all_mk KX G Ig (cG.a9 ?_ ?_ ?_ ?_ ?_) (cG.a9 ?_ ?_ ?_ ?_ ?_) (cG.a9 ?_ ?_ ?_ ?_ ?_) (cG.a9 ?_ ?_ ?_ ?_ ?_) (cG.a9 ?_ ?_ ?_ ?_ ?_) (cG.a9 ?_ ?_ ?_ ?_ ?_) (cG.a9 ?_ ?_ ?_ ?_ ?_) (cG.a9 ?_ ?_ ?_ ?_ ?_) (cG.a9 ?_ ?_ ?_ ?_ ?_) (cG.a9 ?_ ?_ ?_ ?_ ?_) (cG.a9 ?_ ?_ ?_ ?_ ?_) (cG.a9 ?_ ?_ ?_ ?_ ?_) (cG.a9 ?_ ?_ ?_ ?_ ?_) (cG.a9 ?_ ?_ ?_ ?_ ?_) (cG.a9 ?_ ?_ ?_ ?_ ?_) (cG.a9 ?_ ?_ ?_ ?_ ?_) (cG.a9 ?_ ?_ ?_ ?_ ?_) (cG.a9 ?_ ?_ ?_ ?_ ?_) (cG.a9 ?_ ?_ ?_ ?_ ?_) ?_ ?_ ?_ ?_ ?_ ?_ ?_ ?_ ?_ ?_ ?_ ?_ ?_ ?_ ?_ ?_ ?_ ?_;all_goals try (first | k_is | exact rfl | kernel_rfl | (intro us hl;first | (obtain⟨a,rfl⟩:=List.length_eq_one_iff.mp hl;rfl) | (obtain rfl:=Uq.mp hl;rfl) | (match us,hl with | [_,_],_=>rfl) | (match us,hl with | [_,_,_],_=>rfl) | (match us,hl with | [_,_,_,_],_=>rfl)))
end
